import PyProof.Rows.All
import Wide.All
import OpenK.AllK
import Wide.FinOn
import HandS.ForExc
import HandS.ForMost
import HandS.Star
import HandS.MakeKw
import HandS.MakeKwOnly
import HandS.IsInst
import HandS.Walk
import HandS.Zip
import HandS.Style
import HandS.Codes
import HandS.Conv
import HandS.FStr
import HandS.Property
import HandS.ClsMeth
import HandS.Text
import HandS.Strs
import HandS.SortKw
import HandS.RaiseMore
import HandS.ExcIs
import HandS.TryMany
import HandS.Lambda
import HandS.EndTab
import HandS.EndBits
import HandS.TupAny
import PySem.Challenge.RW_levelwalks_k01_form_texts
import HandS.EndOwn
set_option Elab.async false
set_option linter.all false
set_option maxRecDepth 100000
set_option maxHeartbeats 8000000
namespace PySem.W
open PySem PySem.Calls PyProof.Rows
section
variable {M : Model} {A : Around} {E : Value → Shared → Prop} {s : Shared} {K : Frag} {env : Env} {pos p : Pos} {f : Value} {first : List Value} {Q : Value → Shared → Prop} {h₀ : Heap} {e : Expr} {rest : List Expr}
/-- f(*x, k = v): the starred one is read last -/
theorem lone_kw {x : Sem Value} {kw : List (Option Str × Sem Value)} {R : Args → Shared → Prop} (hall : kw.all (·.1.isSome) = true)
    (h : wpAny M A x (fun v s1 => wpAny M A (evalAll (kw.map (·.2))) (fun ks s2 => StarOf M A E v (fun vs s3 => R ⟨vs, (kw.filterMap (·.1)).zip ks⟩ s3) s2) E s1) E s) :
    wpAny M A (evalArgs f true [(true, (do let v ← x; standAt pos; pure v))] kw) R E s := by
  unfold evalArgs
  first
    | refine wpAny_bind (wpAny_bind (wpAny_mono h (fun v s1 h1 => wpAny_bind (wpAny_standAt (wpAny_pure ?_))) fun _ _ x => x))
    | refine wpAny_bind (wpAny_bind (wpAny_bind (wpAny_mono h (fun v s1 h1 => wpAny_bind (wpAny_standAt (wpAny_pure (wpAny_pure ?_)))) fun _ _ x => x)))
  refine wpAny_holding ?_
  simp only [hall, if_true]
  refine wpAny_bind (wpAny_mono h1 (fun ks s2 h2 => ?_) fun _ _ x => x)
  unfold StarOf at h2
  refine wpAny_bind (wpAny_bind (wpAny_mono h2 (fun b s3 h3 => ?_) fun _ _ x => x))
  obtain ⟨rfl, h3⟩ := h3
  have z := wpAny_holding (vs := ((kw.filterMap (·.1)).zip ks).map (·.2)) (wpAny_mono h3 (fun vs s4 h4 => (wpAny_pure h4 : wpAny M A (pure (⟨vs, (kw.filterMap (·.1)).zip ks⟩ : Args)) R E s4)) fun _ _ x => x)
  try simp only [Bool.false_eq_true, if_false]
  first
    | exact z
    | exact wpAny_bind (wpAny_pure z)
    | exact wpAny_bind z
theorem call_star_kw {P : Heap → Prop} {args : List (Bool × Sem Value)} {kw : List (Option Str × Sem Value)} (hst : args.any (·.1) = true)
    (hk : ∀ h, P h → ∃ k, (k = Keeper.frame ∨ k = Keeper.machine ∨ k = Keeper.boundFrame) ∧ Looks M h (keeperOf f) k)
    (h : wpAny M A (evalArgs f true args kw) (fun a s1 => P s1.heap ∧ wpAny M A (call f (first ++ a.pos) a.kw) Q E s1) E s) : wpAny M A (callWith pos f first args kw) Q E s := by
  unfold callWith
  refine wpAny_bind (wpAny_holding (wpAny_mono h (fun a s1 h1 => wpAny_bind (wpAny_standAt ?_)) fun _ _ x => x))
  obtain ⟨k, hk', L⟩ := hk _ h1.1
  simp only [hst, Bool.true_or]
  refine wpAny_bind (L.here ?_)
  have fin : ∀ {t : Sem Value}, wpAny M A t Q E s1 → wpAny M A (t >>= fun r => holding [r] point >>= fun _ => pure r) Q E s1 :=
    fun ht => wpAny_bind (wpAny_mono ht (fun r s2 hr => wpAny_bind (wpAny_holding (wpAny_point (wpAny_pure hr)))) fun _ _ x => x)
  have mrk (mk : Value) : wpAny M A (callMarked mk f (first ++ a.pos) a.kw) Q E s1 := by unfold callMarked; exact Calls.wpAny_keep h1.2
  rcases hk' with rfl | rfl | rfl <;> dsimp only <;> first | exact fin (mrk _) | exact fin h1.2 | exact fin (wpAny_operating h1.2)
end
end PySem.W
namespace L2
open PySem PySem.Spec PyProof.Rows
/-- raise C(): an own class without an __init__ of its own -/
theorem pmk_own0 {X : Cx} {C : Addr} {bmB : List Value} {B newId initId : String} {x : Str} {p pos : Pos} (F : ExcBaseFacts B newId initId bmB) (q : PySem.W.excIn X.K C bmB newId = true) (gC : X.mg x = some (.ref C))
    (kC : PySem.W.keepIn X.K (.ref C) = true) (r : Raises X (.ref C)) (hg : Gl X x) (hdb : (x == ("__debug__" : Str)) = false := by decide) : PMk X (.Call (.Name x p) [] [] pos) (fun _ H Q => Q (.ref C) none H) := by
  intro pins s σ H Q I h
  refine wpAny_Call_Name_kw (ld_glob I hg gC ?_ hdb)
  refine PySem.W.callWith_KW0 (h₀ := X.base) (kws := []) I.ok.mod.kin kC rfl ?_ rfl
  refine wpAny_evalAll_nil ⟨I.kIn, ?_⟩
  show wpAny _ _ (call (.ref C) []) _ _ _
  obtain ⟨bm, N, nm, qn, bs, hdct, sn, sub, ab, col, dd, k0, k1, k2, k3, k5, mN, hC, hN, hni, T⟩ := exc_obj I.kIn q
  refine wpAny_call_exc_subT F T hC hN hni (fun h' e hm => ?_) (by show 0 ≤ sizeLine; decide)
  exact mk_of I hm r h (I.hok.gone hm.new)
/-! a class whose __init__ is (self, *v, k=d): what it promises, by the items of v and the value of k -/
/-- self, the positional items, the keyword's value -/
abbrev SpF := V → List V → V → Hp → VK → XK → Prop
/-- how such a call is written: the keyword there (its value), or not -/
def KwOf (kn : Str) : Option Value → List (Str × Value)
  | some u => [(kn, u)]
  | none => []
def FnF (P : Program) (w : World) (K : PySem.W.Frag) (mg : Str → Option Value) (base : Heap) (CX : CXT) (k : Nat) (f : Addr) (kn : Str) (d : V) (sp : SpF) : Prop :=
  ∀ (A : Around) (outer : List Env) (s : Shared) (H : Hp) (x : V) (xu : Value) (us : List Value) (vs : List V) (ku : Option Value) (kv : V) (Q : VK) (E : XK), Room k A → Env0 P w K mg base A outer s H → RelV x xu → Vals vs us → vs.length ≤ sizeLine →
    (∀ u, ku = some u → RelV kv u) → (ku = none → kv = d) → sp x vs kv H Q E → codeAny (model P w) A (.call (.ref f) ⟨xu :: us, KwOf kn ku⟩) (CR CX outer P w H s Q E) s
section
variable {CX : CXT} {P : Program} {w : World} {K : PySem.W.Frag} {mg : Str → Option Value} {base : Heap} {k : Nat} {f D : Addr} {name qual : Str} {params : Arguments} {body : List Stmt} {scope : Scope} {doc pm cdv ct oc : Value} {an od : Option Addr}
  {osl : Array (Option Value)} {N : List Str}
theorem fn_F {p1 kn pv : Str} {d : V} {du : Value} {sp : SpF} (lk : K.lookup f = some ⟨oc, od, .func (PySem.W.fnOf name qual params body scope .none (.ref D) doc pm an cdv ct), osl⟩) (hcd : PySem.W.codeIn K cdv qual = true) (S : FnScope N [p1, kn, pv] scope) (hCX : StX.CXUp CX)
    (hd : PySem.W.nsIn K D kn = some (some du)) (rd : RelV d du)
    (hb1 : ∀ (x u : Value) (us : List Value), bindArgs (PySem.W.fnOf name qual params body scope .none (.ref D) doc pm an cdv ct) ⟨x :: us, [(kn, u)]⟩ = (newTuple us >>= fun t => pure [(p1, x), (kn, u), (pv, t)]))
    (hb0 : ∀ (x : Value) (us : List Value), ∃ (β γ : Type) (k1 : Option Value → Sem β) (k2 : β → Sem γ) (k3 : γ → Sem (List (Str × Value))) (a : β), bindArgs (PySem.W.fnOf name qual params body scope .none (.ref D) doc pm an cdv ct) ⟨x :: us, []⟩ = ((nsGet D kn >>= k1) >>= k2) >>= k3 ∧
      k1 (some du) = pure a ∧ (k2 a >>= k3) = (newTuple us >>= fun t => pure [(p1, x), (kn, du), (pv, t)]))
    (hbody : ∀ (A : Around) (outer : List Env) (s : Shared) (H : Hp) (x : V) (vs : List V) (kv : V) (p : Addr) (H0 : Hp) (Q : VK) (E : XK), Room k (A.deeper (envOfC qual scope s.heap.objs.size f cdv)) → H0 p = none → H = upd H0 p (.tup vs) → sp x vs kv H0 Q E →
      ∃ t, PSs (cxOf CX P w K mg base N qual scope f cdv A outer s H E) body t ∧ t { nx := fun _ H' => Q .non H', rt := Q } (start N [x, kv, .ref p]) H) :
    FnF P w K mg base CX (k + 1) f kn d sp := by
  intro A outer s H x xu us vs ku kv Q E hr e0 rx rv hz hk1 hk0 hsp
  have hn : H s.heap.objs.size = Option.none := e0.hok.fresh (Nat.le_refl _)
  have hl2 : us.length ≤ sizeLine := by rw [← rv.length]; exact hz
  have KX : K.In s.heap := e0.mod.kin.keeps fun b o e => (e0.bs b o e).1
  refine StX.run_bnd lk hcd S hr e0 (G := fun xs H2 => ∃ p, H p = Option.none ∧ xs = [x, kv, V.ref p] ∧ H2 = upd H p (.tup vs)) (fun A' Ex Q' h => ?_) fun s2 H2 xs ⟨p, hp, ex, eH⟩ hr' => ?_
  · have fin : ∀ ku', RelV kv ku' → wpAny (model P w) A' (newTuple us >>= fun t => pure [(p1, xu), (kn, ku'), (pv, t)]) Q' Ex s := fun ku' rk => by
      refine wpAny_bind (wpAny_newTuple (wpAny_pure ?_) hl2)
      have new : ObjOk P w (upd H s.heap.objs.size (.tup vs)) (s.heap.push ({ cls := .type "tuple", data := .seq us.toArray } : Obj)) s.heap.objs.size (.tup vs) := ⟨hz, us, rv, ⟨_, Heap.get?_push_size _ rfl, rfl, _, rfl⟩⟩
      have un := StX.un_laid (fs := frs outer) (s := s) (o := ({ cls := .type "tuple", data := .seq us.toArray } : Obj)) (u := .tup vs) hn
      exact h _ _ [x, kv, V.ref s.heap.objs.size] [xu, ku', Value.ref s.heap.objs.size] (StX.env0_laid e0 new) un rfl (fun e s' => hCX outer s H _ _ E e s' un (fun b o q => Heap.get?_push_of_some _ q) rfl) (.cons rx (.cons rk (.cons rfl .nil))) rfl ⟨_, hn, rfl, rfl⟩
    cases ku with
    | some u =>
      show wpAny _ _ (bindArgs _ ⟨xu :: us, [(kn, u)]⟩) _ _ _
      rw [hb1]
      exact fin u (hk1 u rfl)
    | none =>
      obtain ⟨β, γ, k1, k2, k3, a, e1, e2, e3⟩ := hb0 xu us
      show wpAny _ _ (bindArgs _ ⟨xu :: us, []⟩) _ _ _
      rw [e1, bind_assoc]
      refine wpAny_bind (((PySem.W.looks_nsIn KX hd).andThen (PySem.W.Looks.of_pure e2)).here ?_)
      rw [e3]
      exact fin du (by rw [hk0 rfl]; exact rd)
  · subst ex
    exact hbody A outer s2 H2 x vs kv p H Q E hr' hp eH hsp
end
/-- C(..): a new instance and its dict, then the promise of its __init__ -/
def mkF (C : Addr) (sp : SpF) (E : XK) (vs : List V) (kv : V) (H : Hp) (Q : VK) : Prop := ∀ x dx, H x = none → H dx = none → dx ≠ x → sp (.ref x) vs kv (upd (upd H dx (.own x)) x (.ins C dx [])) (fun v H2 => v = .non ∧ Q (.ref x) H2) E
section
variable {X : Cx} {CX : CXT} {k : Nat} {f C : Addr} {kn x : Str} {d : V} {sp : SpF} {E : XK} {e : Expr} {es : List Expr} {te tk : TE} {t : TA} {p pos kpos sp_ : Pos}
theorem run_makeF {pins : List (Addr × Obj)} {σ : St} {H : Hp} {s : Shared} {Q : VK} {us : List Value} {vs : List V} {ku : Option Value} {kv : V} (M : Mk X.K C f) (F : FnF X.prog X.w X.K X.mg X.base CX k f kn d sp) (hr : Room (k + 1) X.A) (hx : Passes CX X E)
    (I : Inv X pins σ H s) (r : Vals vs us) (hz : vs.length ≤ sizeLine) (hk1 : ∀ u, ku = some u → RelV kv u) (hk0 : ku = none → kv = d) (h : mkF C sp E vs kv H Q) :
    wpAny (model X.prog X.w) X.A (call (.ref C) us (KwOf kn ku)) (EP X pins σ Q) X.xe s := by
  have hq := h (s.heap.objs.size + 1) s.heap.objs.size (I.hok.fresh (Nat.le_succ _)) (I.hok.fresh (Nat.le_refl _)) (Nat.ne_of_lt (Nat.lt_succ_self _))
  have I2 := Inv.made (C := C) I
  refine wpAny_call (make_map (f := f) I.kIn M.makes M.init (beq_iff_eq.mp M.fn) (codeAny_mono (F _ X.stack _ _ (.ref (s.heap.objs.size + 1)) (.ref (s.heap.objs.size + 1)) us vs ku kv _ E (hr.make C us (KwOf kn ku)) (I2.env0.make C us (KwOf kn ku)) rfl r hz hk1 hk0 hq) fun r s' hq' => ?_))
  cases r with
  | error e => exact hx pins σ _ _ e s' I2 hq'
  | ok fl =>
    cases fl with
    | ret u =>
      obtain ⟨v, H', I3, rv, ev, q3⟩ := I2.after hq'
      subst ev
      exact ⟨rv, ⟨V.ref (s.heap.objs.size + 1), H', I3, rfl, q3⟩⟩
    | next => exact False.elim hq'
    | brk => exact False.elim hq'
    | cont => exact False.elim hq'
/-- C() -/
theorem pe_F0 (M : Mk X.K C f) (F : FnF X.prog X.w X.K X.mg X.base CX k f kn d sp) (hr : Room (k + 1) X.A) (hg : Gl X x) (hm : X.mg x = some (.ref C)) (hx : Passes CX X E) (hdb : (x == ("__debug__" : Str)) = false := by decide) :
    PE X (.Call (.Name x p) [] [] pos) (fun _ H Q => mkF C sp E [] d H Q) := by
  refine ⟨fun pins s σ H Q I h => ?_⟩
  refine wpAny_Call_Name_kw (ld_glob I hg hm ?_ hdb)
  refine PySem.W.callWith_KW0 (h₀ := X.base) (kws := []) I.ok.mod.kin M.kp rfl ?_ rfl
  refine wpAny_evalAll_nil ⟨I.kIn, ?_⟩
  exact run_makeF (us := []) (ku := none) M F hr hx I .nil (Nat.zero_le _) (fun u z => nomatch z) (fun _ => rfl) h
/-- C(kn = e) -/
theorem pe_Fk (M : Mk X.K C f) (F : FnF X.prog X.w X.K X.mg X.base CX k f kn d sp) (hr : Room (k + 1) X.A) (hg : Gl X x) (hm : X.mg x = some (.ref C)) (hx : Passes CX X E) (hk : PE X e tk) (hdb : (x == ("__debug__" : Str)) = false := by decide) :
    PE X (.Call (.Name x p) [] [⟨some kn, e, kpos⟩] pos) (fun σ H Q => tk σ H fun kv H1 => mkF C sp E [] kv H1 Q) := by
  refine ⟨fun pins s σ H Q I h => ?_⟩
  refine wpAny_Call_Name_kw (ld_glob I hg hm ?_ hdb)
  refine PySem.W.callWith_KW0 (h₀ := X.base) I.ok.mod.kin M.kp rfl ?_ rfl
  refine kwAll_cons (thn (hk.run pins s σ H _ I h) fun u s1 ⟨kv, H1, I1, rk, q1⟩ => ?_)
  refine wpAny_evalAll_nil ⟨I1.kIn, ?_⟩
  exact run_makeF (us := []) (ku := some u) M F hr hx I1 .nil (Nat.zero_le _) (fun u' z => by cases z; exact rk) (fun z => nomatch z) q1
/-- C(e, .., kn = e) -/
theorem pe_Fpk (M : Mk X.K C f) (F : FnF X.prog X.w X.K X.mg X.base CX k f kn d sp) (hr : Room (k + 1) X.A) (hg : Gl X x) (hm : X.mg x = some (.ref C)) (hx : Passes CX X E) {a : Expr} {as : List Expr} (ha : PA X (a :: as) t) (hk : PE X e tk) (hdb : (x == ("__debug__" : Str)) = false := by decide)
    (he : starEach (a :: as) X.env = (false, eval a X.env) :: starEach as X.env := by rfl) (hpl : ((backTo pos (starEach (a :: as) X.env)).any (·.1) || (backToKw pos (keywordEach [⟨some kn, e, kpos⟩] X.env)).any (·.1.isNone)) = false := by rfl) :
    PE X (.Call (.Name x p) (a :: as) [⟨some kn, e, kpos⟩] pos) (fun σ H Q => t σ H fun vs H1 => tk σ H1 fun kv H2 => vs.length ≤ sizeLine ∧ mkF C sp E vs kv H2 Q) := by
  refine ⟨fun pins s σ H Q I h => ?_⟩
  refine wpAny_Call_Name_kw (ld_glob I hg hm ?_ hdb)
  refine PySem.W.callWith_KW (h₀ := X.base) I.ok.mod.kin M.kp rfl (thn (ha.run pos pins s σ H _ I h) fun us s1 ⟨vs, H1, I1, r, q⟩ => ?_) hpl he
  refine kwAll_cons (thn (hk.run pins s1 σ H1 _ I1 q) fun u s2 ⟨kv, H2, I2, rk, hz, q2⟩ => ?_)
  refine wpAny_evalAll_nil ⟨I2.kIn, ?_⟩
  exact run_makeF (ku := some u) M F hr hx I2 r hz (fun u' z => by cases z; exact rk) (fun z => nomatch z) q2
/-- C(*e, kn = e) -/
theorem pe_Fsk (M : Mk X.K C f) (F : FnF X.prog X.w X.K X.mg X.base CX k f kn d sp) (hr : Room (k + 1) X.A) (hg : Gl X x) (hm : X.mg x = some (.ref C)) (hx : Passes CX X E) {a : Expr} (ha : PE X a te) (hk : PE X e tk) (hdb : (x == ("__debug__" : Str)) = false := by decide)
    (he : starEach [.Starred a sp_] X.env = [(true, eval a X.env)] := by rfl) :
    PE X (.Call (.Name x p) [.Starred a sp_] [⟨some kn, e, kpos⟩] pos) (fun σ H Q => te σ H fun y H1 => tk σ H1 fun kv H2 => ∃ q xs, y = .ref q ∧ (SqT X.K H2 q xs ∨ SqL X.K H2 q xs) ∧ xs.length ≤ sizeLine ∧ mkF C sp E xs kv H2 Q) := by
  refine ⟨fun pins s σ H Q I h => ?_⟩
  refine wpAny_Call_Name_kw (ld_glob I hg hm ?_ hdb)
  rw [he]
  refine PySem.W.call_star_kw rfl (PySem.W.keeps_K M.kp) ?_
  refine PySem.W.lone_kw rfl (thn (ha.run pins s σ H _ I h) fun yv s1 ⟨y, H1, I1, ry, q⟩ => ?_)
  refine kwAll_cons (thn (hk.run pins s1 σ H1 _ I1 q) fun u s2 ⟨kv, H2, I2, rk, q0, xs, ey, hs, hz, q2⟩ => ?_)
  subst ey
  obtain rfl : yv = Value.ref q0 := ry
  refine wpAny_evalAll_nil (StX.star_any I2 hs fun us s3 I3 rv => ⟨I3.kIn, ?_⟩)
  exact run_makeF (ku := some u) M F hr hx I3 rv hz (fun u' z => by cases z; exact rk) (fun z => nomatch z) q2
end
end L2
namespace Lw
open PySem L2
def topS (i : Nat) : Stmt := PySem.Challenge.pw_levelwalks_k01_form_texts.main.body.getD i (.Pass ⟨0, 0, 0, 0⟩)
theorem seqT {K : PySem.W.Frag} {H H' : Hp} (g : Same H H') {a : Addr} {xs : List V} (h : SqT K H a xs) : SqT K H' a xs := by
  rcases h with (h | ⟨o, h⟩) | h
  · exact .inl (.inl (g _ _ h))
  · exact .inl (.inr ⟨o, g _ _ h⟩)
  · exact .inr h
theorem tyT {K : PySem.W.Frag} {H : Hp} {a : Addr} {xs : List V} (h : SqT K H a xs) : TyX K H (.ref a) (.type "tuple") := by
  rcases h with (h | ⟨o, h⟩) | ⟨o, its, n, h, c, _⟩
  · exact .base (.tup h)
  · exact .fTuple h
  · exact .kTuple h c
theorem tyL {K : PySem.W.Frag} {H : Hp} {a : Addr} {xs : List V} (h : SqL K H a xs) : TyX K H (.ref a) (.type "list") := by
  rcases h with (h | ⟨o, h⟩) | ⟨o, its, n, h, c, _⟩
  · exact .base (.lst h)
  · exact .base (.frz h)
  · exact .kList h c
/-! two values that show the same data: ints, texts, tuples of such; at most n deep -/
def Al (K : PySem.W.Frag) (H : Hp) : Nat → V → V → Prop
  | 0, _, _ => False
  | n + 1, v, w => (∃ i : Int, v = .int i ∧ w = .int i) ∨ (∃ s : Str, v = .str s ∧ w = .str s) ∨
    ∃ (a b : Addr) (xs ys : List V), v = .ref a ∧ w = .ref b ∧ SqT K H a xs ∧ SqT K H b ys ∧ xs.length = ys.length ∧ xs.length ≤ 1000 ∧ ∀ (i : Nat) (x y : V), xs[i]? = some x → ys[i]? = some y → Al K H n x y
def TK (K : PySem.W.Frag) (H H' : Hp) : Prop := ∀ (b : Addr) (xs : List V), SqT K H b xs → SqT K H' b xs
theorem TK.of {K : PySem.W.Frag} {H H' : Hp} (g : Same H H') : TK K H H' := fun b xs h => seqT g h
theorem TK.trans {K : PySem.W.Frag} {H H1 H2 : Hp} (g : TK K H H1) (g' : TK K H1 H2) : TK K H H2 := fun b xs h => g' b xs (g b xs h)
theorem TK.but {K : PySem.W.Frag} {H H' : Hp} (h : ∀ (b : Addr) (o : HO), (∀ xs, o ≠ .lst xs) → H b = some o → H' b = some o) : TK K H H' := fun b xs q => by
  rcases q with (q | ⟨o, q⟩) | q
  · exact .inl (.inl (h _ _ (by intro z e; cases e) q))
  · exact .inl (.inr ⟨o, h _ _ (by intro z e; cases e) q⟩)
  · exact .inr q
theorem TK.lst {K : PySem.W.Frag} {H : Hp} {D : Addr} {xs ys : List V} (h : H D = some (.lst xs)) : TK K H (upd H D (.lst ys)) := .but fun b o no q => by
  rw [upd_ne (fun e => by rw [e, h] at q; exact no _ (Option.some.inj q).symm)]
  exact q
theorem Al.mono {K : PySem.W.Frag} {H H' : Hp} (g : TK K H H') : ∀ {n : Nat} {v w : V}, Al K H n v w → Al K H' n v w
  | 0, _, _, h => h
  | n + 1, v, w, h => by
    rcases h with h | h | ⟨a, b, xs, ys, e1, e2, h1, h2, h3, h4, h5⟩
    · exact .inl h
    · exact .inr (.inl h)
    · exact .inr (.inr ⟨a, b, xs, ys, e1, e2, g _ _ h1, g _ _ h2, h3, h4, fun i x y p q => Al.mono g (h5 i x y p q)⟩)
theorem same_new {H : Hp} {p : Addr} (h : H p = none) (o : HO) : Same H (upd H p o) := fun b u q => by rw [upd_ne (ne_of_none q h)]; exact q
theorem same_over {H H' : Hp} {p : Addr} (g : Same H H') (h : H p = none) (o : HO) : Same H (upd H' p o) := fun b u q => by rw [upd_ne (ne_of_none q h)]; exact g _ _ q
/-- a comprehension's turn without a test -/
theorem kept {te : TE} {σ : St} {H : Hp} {R : V → Hp → Prop} {S : Hp → Prop} (h : te σ H R) : tYes σ H fun b H3 => if b = true then te σ H3 R else S H3 := iteT (A := te σ H R) (B := S H) h
/-- the built-in names that the program's text does not make its own -/
structure Bt (mg : Str → Option Value) : Prop where
  isi : mg "isinstance" = none
  lst : mg "list" = none
  tup : mg "tuple" = none
  len : mg "len" = none
  all : mg "all" = none
  zip : mg "zip" = none
  dict : mg "dict" = none
  int : mg "int" = none
  bool : mg "bool" = none
  range : mg "range" = none
section
variable {P : Program} {w : World} {K : PySem.W.Frag} {mg : Str → Option Value} {base : Heap} {f : Addr} {fd : FuncData}
theorem none_left {sp : Sp} {ps : List Str} {CX : CXT} (no : ∀ vs H Q E, ¬ sp vs H Q E) : FnOk P w K mg base CX 0 f fd ps sp :=
  ⟨fun vs H Q E h => absurd h (no vs H Q E), fun A outer s H args us vs Q E _ _ _ _ h => absurd h (no vs H Q E)⟩
theorem is_seq {K : PySem.W.Frag} {t : String} {b : Bool} (h1 : kitB t "list" = some false) (h2 : kitB t "tuple" = some b) : PySem.W.kitAny K (.type t) [.type "list", .type "tuple"] = some b :=
  kitAny_cons (kit_ty h1) (fun _ => kitAny_cons (kit_ty h2) (fun e => by rw [e]; exact kitAny_nil) (fun e => e)) (fun e => by cases e)
abbrev sSame : Stmt := topS 16
/-! zip of two tuples, as a walk -/
theorem walk_zipT {K : PySem.W.Frag} {a b : Addr} {xs ys : List V} (e : xs.length = ys.length) : Walk (RZ.ItzT K a b) xs.length (fun H => SqT K H a xs ∧ SqT K H b ys) (YPair (fun i => xs[i]?) (fun i => ys[i]?)) :=
  ⟨fun i _ hi q => ⟨xs, ys, xs[i], ys[i]'(by omega), q.1, q.2, List.getElem?_eq_getElem hi, List.getElem?_eq_getElem (by omega)⟩, fun _ q => ⟨xs, ys, q.1, q.2, .inl (Nat.le_refl _)⟩,
    fun i H v H' _ q ⟨T, x, y, h1, h2, h3, h4, h5⟩ => ⟨T, x, y, h1, h2, h3, h4 xs q.1, h5 ys q.2⟩⟩
/-! as Al, and two lists of such -/
def Bl (K : PySem.W.Frag) (H : Hp) : Nat → V → V → Prop
  | 0, _, _ => False
  | n + 1, v, w => Al K H (n + 1) v w ∨ ∃ (a b : Addr) (xs ys : List V), v = .ref a ∧ w = .ref b ∧ H a = some (.lst xs) ∧ H b = some (.lst ys) ∧ xs.length = ys.length ∧ xs.length ≤ 1000 ∧ ∀ (i : Nat) (x y : V), xs[i]? = some x → ys[i]? = some y → Al K H n x y
theorem Al.bl {K : PySem.W.Frag} {H : Hp} : ∀ {n : Nat} {v w : V}, Al K H n v w → Bl K H n v w
  | 0, _, _, h => h
  | _ + 1, _, _, h => .inl h
def spSame (K : PySem.W.Frag) (n : Nat) : Sp := fun vs H Q _ => ∃ v u : V, vs = [v, u] ∧ Bl K H n v u ∧ ∀ H' : Hp, Same H H' → Q (.bl true) H'
abbrev namesS : List Str := ["_law_found", "_law_due", "_law_one", "_law_other"]
theorem scS : FnScope namesS ["_law_found", "_law_due"] (defScope sSame) := ⟨rfl, rfl, rfl, by decide +kernel, rfl, by decide +kernel, by decide +kernel⟩
theorem is_four {K : PySem.W.Frag} {t : String} (h1 : kitB t "int" = some false) (h2 : kitB t "list" = some false) (h3 : kitB t "tuple" = some false) (h4 : kitB t "dict" = some false) :
    PySem.W.kitAny K (.type t) [.type "int", .type "list", .type "tuple", .type "dict"] = some false :=
  kitAny_cons (kit_ty h1) (fun _ => kitAny_cons (kit_ty h2) (fun _ => kitAny_cons (kit_ty h3) (fun _ => kitAny_cons (kit_ty h4) (fun _ => kitAny_nil) (fun e => by cases e)) (fun e => by cases e)) (fun e => by cases e)) (fun e => by cases e)
theorem is_seqL {K : PySem.W.Frag} : PySem.W.kitAny K (.type "list") [.type "list", .type "tuple"] = some true :=
  kitAny_cons (kit_ty (r := true) (by decide +kernel)) (fun e => by cases e) (fun _ => rfl)
theorem iteC {c : Bool} {A B : Prop} (hc : c = true) (h : A) : if c = true then A else B := by
  rw [if_pos hc]
  exact h
theorem iteN {c : Bool} {A B : Prop} (hc : c = false) (h : B) : if c = true then A else B := by
  rw [if_neg (by rw [hc]; decide)]
  exact h
theorem all_true {n : Nat} : (List.replicate n true).all id = true := by
  rw [List.all_eq_true]
  intro x hx
  rw [(List.mem_replicate.mp hx).2]
  rfl
/-- the list of answers so far -/
def InvS (H0 : Hp) (D : Addr) (i : Nat) (H : Hp) : Prop := H D = some (.lst (List.replicate i (.bl true))) ∧ Same H0 H
theorem ok_same {n : Nat} (F : Fun K "_law_same" "_law_same" sSame f fd) (G : FnOk P w K mg base CX0 n f fd ["_law_found", "_law_due"] (spSame K n)) (bF : Binds K fd ["_law_found", "_law_due"] []) (kF : PySem.W.keepIn K (.ref f) = true) (mF : mg "_law_same" = some (.ref f)) (B : Bt mg) :
    FnOk P w K mg base CX0 (n + 1) f fd ["_law_found", "_law_due"] (spSame K (n + 1)) := by
  refine F.ok scS (fun vs H Q E h => ?_) (fun cdv A outer s H vs Q E hr h => ?_)
  · obtain ⟨v, u, rfl, _⟩ := h
    rfl
  obtain ⟨v, u, rfl, hA, q⟩ := h
  refine ⟨_, pss_cons (ps_if (pt_val (pe_callB call_isiT (by rfl) B.isi (by decide +kernel) (pa_cons (pv 1) (pa_cons (pe_tup (pa_cons (pe_bltn (v := .ty "list") (by rfl) B.lst (by decide +kernel) rfl) (pa_cons (pe_bltn (v := .ty "tuple") (by rfl) B.tup (by decide +kernel) rfl) pa_nil))) pa_nil))))
      (pss_cons (ps_if (PW.pt (pw_or (pt_cmpR op_ne (pe_callB call_isi (by rfl) B.isi (by decide +kernel) (pa_cons (pv 0) (pa_cons (pe_bltn (v := .ty "list") (by rfl) B.lst (by decide +kernel) rfl) pa_nil))) (pe_callB call_isi (by rfl) B.isi (by decide +kernel) (pa_cons (pv 1) (pa_cons (pe_bltn (v := .ty "list") (by rfl) B.lst (by decide +kernel) rfl) pa_nil))) (nomark _)) (pw_or1 (pt_cmpR op_ne (pe_callB call_isi (by rfl) B.isi (by decide +kernel) (pa_cons (pv 0) (pa_cons (pe_bltn (v := .ty "tuple") (by rfl) B.tup (by decide +kernel) rfl) pa_nil))) (pe_callB call_isi (by rfl) B.isi (by decide +kernel) (pa_cons (pv 1) (pa_cons (pe_bltn (v := .ty "tuple") (by rfl) B.tup (by decide +kernel) rfl) pa_nil))) (nomark _))))) (pss_one (ps_ret pe_bl)) pss_nil)
        (pss_one (ps_ret (pe_and (pe_cmpR op_eq (pe_callB call_len_seq (by rfl) B.len PySem.boot_len (pa_cons (pv 0) pa_nil)) (pe_callB call_len_seq (by rfl) B.len PySem.boot_len (pa_cons (pv 1) pa_nil)) (nomark _)) (pe_one (pe_callB (cr_all rfl) (by rfl) B.all (by decide +kernel) (pa_cons
          (pe_lc (own := [("_law_one", 2), ("_law_other", 3)]) (g := gTup K 2 (gCons (gName 2) (gCons (gName 3) gNil))) (tt := tYes) rfl scS.nd (RZ.pi_zipA (by rfl) B.zip (pa_cons (pv 0) (pa_cons (pv 1) pa_nil))) (blkOk_by (N := namesS) (sc := defScope sSame) (by decide +kernel))
            (fun _ _ _ _ _ => pg_tup rfl (pgs_cons (pg_name (i := 2) scS.nd rfl (Or.inl rfl)) (pgs_cons (pg_name (i := 3) scS.nd rfl (Or.inl rfl)) pgs_nil))) (fun _ _ _ _ _ => pts_nil)
            (fun _ _ _ _ _ => pe_call G hr rfl mF kF bF .nil pass0 (pa_cons (pv 2) (pa_cons (pv 3) pa_nil)))) pa_nil))))))) pss_nil)
    (pss_cons (ps_if (pt_val (pe_callB call_isi (by rfl) B.isi (by decide +kernel) (pa_cons (pv 1) (pa_cons (pe_bltn (v := .ty "dict") (by rfl) B.dict (by decide +kernel) rfl) pa_nil)))) (pss_cons ps_never (pss_one ps_never)) pss_nil)
    (pss_cons (ps_if (pt_val (pe_callB call_isi (by rfl) B.isi (by decide +kernel) (pa_cons (pv 1) (pa_cons (pe_bltn (v := .ty "int") (by rfl) B.int (by decide +kernel) rfl) pa_nil)))) (pss_one (ps_ret (pe_and (pe_callB call_isi (by rfl) B.isi (by decide +kernel) (pa_cons (pv 0) (pa_cons (pe_bltn (v := .ty "int") (by rfl) B.int (by decide +kernel) rfl) pa_nil))) (pe_and (pe_cmpR op_eq (pe_callB call_isi (by rfl) B.isi (by decide +kernel) (pa_cons (pv 0) (pa_cons (pe_bltn (v := .ty "bool") (by rfl) B.bool (by decide +kernel) rfl) pa_nil))) (pe_callB call_isi (by rfl) B.isi (by decide +kernel) (pa_cons (pv 1) (pa_cons (pe_bltn (v := .ty "bool") (by rfl) B.bool (by decide +kernel) rfl) pa_nil))) (nomark _)) (pe_one (pe_cmpR op_eq (pv 0) (pv 1) (nomark _))))))) pss_nil)
    (pss_one (ps_ret (pe_and (pe_cmpR op_eq (pv 0) (pv 1) (nomark _)) (pe_one (pe_cmpR op_isBl (pe_callB call_isiT (by rfl) B.isi (by decide +kernel) (pa_cons (pv 0) (pa_cons (pe_tup (pa_cons (pe_bltn (v := .ty "int") (by rfl) B.int (by decide +kernel) rfl) (pa_cons (pe_bltn (v := .ty "list") (by rfl) B.lst (by decide +kernel) rfl) (pa_cons (pe_bltn (v := .ty "tuple") (by rfl) B.tup (by decide +kernel) rfl) (pa_cons (pe_bltn (v := .ty "dict") (by rfl) B.dict (by decide +kernel) rfl) pa_nil))))) pa_nil))) pe_bl (nomark _)))))))), ?_⟩
  refine ⟨_, rfl, (by show 2 ≤ sizeLine; decide), fun t ht => ?_⟩
  have g1 : Same H (upd H t (.tup [.ty "list", .ty "tuple"])) := same_new ht _
  rcases hA with (⟨i, rfl, rfl⟩ | ⟨z, rfl, rfl⟩ | ⟨a, b, xs, ys, rfl, rfl, h1, h2, h3, h4, h5⟩) | ⟨a, b, xs, ys, rfl, rfl, h1, h2, h3, h4, h5⟩
  · refine ⟨_, t, _, .type "int", [.type "list", .type "tuple"], false, rfl, upd_same, .cons (.ty _) (.cons (.ty _) .nil), .base (.int i), is_seq (by decide +kernel) (by decide +kernel), _, rfl, ?_⟩
    refine iteF ?_
    refine ⟨_, rfl, _, _, .type "int", .type "dict", false, rfl, .ty _, .base (.int i), kit_ty (by decide +kernel), _, rfl, ?_⟩
    refine iteF ?_
    refine ⟨_, rfl, _, _, .type "int", .type "int", true, rfl, .ty _, .base (.int i), kit_ty (by decide +kernel), _, rfl, ?_⟩
    refine iteT ?_
    refine ⟨_, rfl, _, _, .type "int", .type "int", true, rfl, .ty _, .base (.int i), kit_ty (by decide +kernel), _, rfl, ?_⟩
    refine iteT ?_
    refine ⟨_, rfl, _, _, .type "int", .type "bool", false, rfl, .ty _, .base (.int i), kit_ty (by decide +kernel), ?_⟩
    refine ⟨_, rfl, _, _, .type "int", .type "bool", false, rfl, .ty _, .base (.int i), kit_ty (by decide +kernel), ?_⟩
    refine ⟨rfl, _, rfl, iteC (decide_eq_true rfl) ?_⟩
    refine ⟨_, rfl, _, rfl, rfl, ?_⟩
    show Q (.bl (decide (V.int i = V.int i))) _
    rw [decide_eq_true rfl]
    exact q _ g1
  · refine ⟨_, t, _, .type "str", [.type "list", .type "tuple"], false, rfl, upd_same, .cons (.ty _) (.cons (.ty _) .nil), .base (.str z), is_seq (by decide +kernel) (by decide +kernel), _, rfl, ?_⟩
    refine iteF ?_
    refine ⟨_, rfl, _, _, .type "str", .type "dict", false, rfl, .ty _, .base (.str z), kit_ty (by decide +kernel), _, rfl, ?_⟩
    refine iteF ?_
    refine ⟨_, rfl, _, _, .type "str", .type "int", false, rfl, .ty _, .base (.str z), kit_ty (by decide +kernel), _, rfl, ?_⟩
    refine iteF ?_
    refine ⟨_, rfl, _, rfl, rfl, _, rfl, iteC (decide_eq_true rfl) ?_⟩
    refine ⟨_, rfl, (by show 4 ≤ sizeLine; decide), fun t2 ht2 => ?_⟩
    refine ⟨_, t2, _, .type "str", [.type "int", .type "list", .type "tuple", .type "dict"], false, rfl, upd_same, .cons (.ty _) (.cons (.ty _) (.cons (.ty _) (.cons (.ty _) .nil))), .base (.str z), is_four (by decide +kernel) (by decide +kernel) (by decide +kernel) (by decide +kernel), _, _, rfl, rfl, ?_⟩
    exact q _ (g1.trans (same_new ht2 _))
  · refine ⟨_, t, _, .type "tuple", [.type "list", .type "tuple"], true, rfl, upd_same, .cons (.ty _) (.cons (.ty _) .nil), tyT (seqT g1 h2), is_seq (by decide +kernel) (by decide +kernel), _, rfl, ?_⟩
    refine iteT ?_
    have ka := seqT g1 h1
    have kb := seqT g1 h2
    refine ⟨_, rfl, _, _, .type "tuple", .type "list", false, rfl, .ty _, tyT ka, kit_ty (by decide +kernel), _, rfl, _, _, .type "tuple", .type "list", false, rfl, .ty _, tyT kb, kit_ty (by decide +kernel), rfl, _, rfl, ?_⟩
    refine iteN rfl ?_
    refine ⟨_, rfl, _, _, .type "tuple", .type "tuple", true, rfl, .ty _, tyT ka, kit_ty (by decide +kernel), _, rfl, _, _, .type "tuple", .type "tuple", true, rfl, .ty _, tyT kb, kit_ty (by decide +kernel), rfl, _, rfl, ?_⟩
    refine iteN rfl ?_
    refine ⟨_, rfl, a, xs, rfl, .inr (ka), _, rfl, b, ys, rfl, .inr (kb), rfl, _, rfl, iteC (decide_eq_true (by rw [h3])) ?_⟩
    refine ⟨_, rfl, _, rfl, a, b, xs, ys, rfl, .inr ⟨ka, kb, fun D hD => ?_⟩⟩
    have hD0 : H D = none := g1.free hD
    refine lc_it (walk_zipT (K := K) (a := a) (b := b) h3) (InvS H D) ⟨upd_same, same_over g1 hD0 _⟩ (fun i H' _ ⟨_, g⟩ => ⟨seqT g h1, seqT g h2⟩) ?_ ?_
    · rintro i v H' H'' hi ⟨hd, g⟩ ⟨T, x, y, rfl, hT, rfl, ex, ey⟩
      have gT : Same H' (upd H' T (.tup [x, y])) := same_new hT _
      have hi1 : i < 1001 := by omega
      refine ⟨T, [x, y], rfl, SqT.of upd_same, rfl, x, [y], rfl, y, [], rfl, rfl, ?_⟩
      refine ⟨rfl, kept ?_⟩
      refine ⟨_, rfl, _, rfl, x, y, rfl, ((h5 i x y ex ey).mono (.of (g.trans gT))).bl, fun H2 g2 => ?_⟩
      refine ⟨_, g2 _ _ (gT _ _ hd), by rw [List.length_replicate]; exact small1000 (by omega), by rw [upd_same, List.replicate_succ'], same_over ((g.trans gT).trans g2) hD0 _⟩
    · rintro H' ⟨hd, g⟩
      exact ⟨D, List.replicate xs.length true, rfl, SqL.of (by rw [hd, List.map_replicate]), by rw [all_true]; exact q _ g⟩
  · refine ⟨_, t, _, .type "list", [.type "list", .type "tuple"], true, rfl, upd_same, .cons (.ty _) (.cons (.ty _) .nil), .base (.lst (g1 _ _ h2)), is_seqL, _, rfl, ?_⟩
    refine iteT ?_
    have ka := g1 _ _ h1
    have kb := g1 _ _ h2
    refine ⟨_, rfl, _, _, .type "list", .type "list", true, rfl, .ty _, .base (.lst ka), kit_ty (by decide +kernel), _, rfl, _, _, .type "list", .type "list", true, rfl, .ty _, .base (.lst kb), kit_ty (by decide +kernel), rfl, _, rfl, ?_⟩
    refine iteN rfl ?_
    refine ⟨_, rfl, _, _, .type "list", .type "tuple", false, rfl, .ty _, .base (.lst ka), kit_ty (by decide +kernel), _, rfl, _, _, .type "list", .type "tuple", false, rfl, .ty _, .base (.lst kb), kit_ty (by decide +kernel), rfl, _, rfl, ?_⟩
    refine iteN rfl ?_
    refine ⟨_, rfl, a, xs, rfl, .inl (SqL.of ka), _, rfl, b, ys, rfl, .inl (SqL.of kb), rfl, _, rfl, iteC (decide_eq_true (by rw [h3])) ?_⟩
    refine ⟨_, rfl, _, rfl, a, b, xs, ys, rfl, .inl ⟨SqL.of ka, SqL.of kb, fun D hD => ?_⟩⟩
    have hD0 : H D = none := g1.free hD
    refine lc_it (walk_zip (K := K) (a := a) (b := b) (n := xs.length) (by omega)) (InvS H D) ⟨upd_same, same_over g1 hD0 _⟩ (fun i H' _ ⟨_, g⟩ => ⟨SqL.of (g _ _ h1), SqL.of (g _ _ h2)⟩) ?_ ?_
    · rintro i v H' H'' hi ⟨hd, g⟩ ⟨T, x, y, rfl, hT, rfl, ex, ey⟩
      have gT : Same H' (upd H' T (.tup [x, y])) := same_new hT _
      have hi1 : i < 1001 := by omega
      refine ⟨T, [x, y], rfl, SqT.of upd_same, rfl, x, [y], rfl, y, [], rfl, rfl, ?_⟩
      refine ⟨rfl, kept ?_⟩
      refine ⟨_, rfl, _, rfl, x, y, rfl, ((h5 i x y ex ey).mono (.of (g.trans gT))).bl, fun H2 g2 => ?_⟩
      refine ⟨_, g2 _ _ (gT _ _ hd), by rw [List.length_replicate]; exact small1000 (by omega), by rw [upd_same, List.replicate_succ'], same_over ((g.trans gT).trans g2) hD0 _⟩
    · rintro H' ⟨hd, g⟩
      exact ⟨D, List.replicate xs.length true, rfl, SqL.of (by rw [hd, List.map_replicate]), by rw [all_true]; exact q _ g⟩
abbrev sDraw : Stmt := topS 12
/-! the spring of numbers: a list of four, its first one a list of ints -/
def Spr (H : Hp) (st q : Addr) (b : Int) : Prop := ∃ (ns : List Int) (a c : Int), H st = some (.lst [.ref q, .int a, .int b, .int c]) ∧ H q = some (.lst (ns.map V.int)) ∧ 0 ≤ a ∧ 0 ≤ c ∧ c < 2147483647 ∧ ns.length ≤ 63
/-! all else is as it was -/
def SX (st q : Addr) (H H' : Hp) : Prop := ∀ (x : Addr) (o : HO), x ≠ st → x ≠ q → H x = some o → H' x = some o
theorem SX.refl {st q : Addr} {H : Hp} : SX st q H H := fun _ _ _ _ h => h
theorem SX.trans {st q : Addr} {H H1 H2 : Hp} (g : SX st q H H1) (g' : SX st q H1 H2) : SX st q H H2 := fun x o h1 h2 h => g' x o h1 h2 (g x o h1 h2 h)
theorem SX.of {st q : Addr} {H H' : Hp} (g : Same H H') : SX st q H H' := fun x o _ _ h => g x o h
theorem SX.st {st q : Addr} {H : Hp} {o : HO} : SX st q H (upd H st o) := fun x u h1 _ h => by rw [upd_ne h1]; exact h
theorem SX.q {st q : Addr} {H : Hp} {o : HO} : SX st q H (upd H q o) := fun x u _ h2 h => by rw [upd_ne h2]; exact h
theorem Spr.ne {H : Hp} {st q : Addr} {a b c : Int} {ns : List Int} (h1 : H st = some (.lst [.ref q, .int a, .int b, .int c])) (h2 : H q = some (.lst (ns.map V.int))) : q ≠ st := fun e => by
  rw [e, h1] at h2
  cases ns with
  | nil => cases h2
  | cons n r => cases h2
def spDraw : Sp := fun vs H Q _ => ∃ (st q : Addr) (b m : Int), vs = [.ref st, .int m] ∧ Spr H st q b ∧ 0 ≤ b ∧ b ≤ 1000 ∧ 0 < m ∧ m < 1073741824 ∧
  ∀ (r : Int) (H' : Hp), 0 ≤ r → r < m → Spr H' st q (b + 1) → SX st q H H' → Q (.int r) H'
theorem scD : FnScope ["_law_stream", "_law_many", "_law_digit", "_law_mixed_here"] ["_law_stream", "_law_many"] (defScope sDraw) := ⟨rfl, rfl, rfl, by decide +kernel, rfl, by decide +kernel, by decide +kernel⟩
theorem dp_ints {H : Hp} : ∀ ns : List Int, DpAll K H (ns.map V.int) (ns.map PyData.int)
  | [] => .nil
  | n :: r => .cons (.int n) (dp_ints r)
theorem first_ix {n : Nat} (h : 0 < n) : seqIndex? 0 n = some 0 := (ixN_seq (n := n) (i := 0) (j := 0) (by unfold ixN; rw [if_pos (by decide), if_pos (by omega)]; rfl)).1
theorem ok_draw (F : Fun K "_law_draw" "_law_draw" sDraw f fd) (B : Bt mg) : FnOk P w K mg base CX0 1 f fd ["_law_stream", "_law_many"] spDraw := by
  refine F.ok scD (fun vs H Q E h => ?_) (fun cdv A outer s H vs Q E hr h => ?_)
  · obtain ⟨st, q, b, m, rfl, _⟩ := h
    rfl
  obtain ⟨st, q, b, m, rfl, ⟨ns, a, c, h1, h2, ha, hc, hc2, hns⟩, hb0, hb1, hm0, hm1, k⟩ := h
  refine ⟨_, pss_cons (ps_asg (pe_op op_add (pe_ix ix_list (pv 0) pe_int (fun _ _ => rfl)) pe_int) (pg_sub (pv 0) pe_int set_list))
    (C8.pss_cut (ps_if (PW.pt (pw_and (pt_cmpR op_eq (pe_ix ix_list (pv 0) pe_int (fun _ _ => rfl)) pe_int (nomark _)) (pw_and1 (pt_cmpR (op_neD hr.units) (pe_ix ix_list (pv 0) pe_int (fun _ _ => rfl)) (pe_lst pa_nil) (nomark _))))) (pss_cons (ps_asg (pe_bm PySem.F.plainAttrs_list PySem.F.slot_list_pop PySem.F.type_list_pop mt_popAt (pe_ix ix_list (pv 0) pe_int (fun _ _ => rfl)) (pa_cons pe_int pa_nil)) (pg_sub (pv 0) pe_int set_list)) (pss_one (ps_if (pt_cmpR op_lt (pe_ix ix_list (pv 0) pe_int (fun _ _ => rfl)) (pe_op op_pow pe_int pe_int) (nomark _)) (pss_cons (ps_asg (pe_op op_mod (pe_callTy call_int1 (by rfl) B.int (by decide +kernel) (pa_cons (pe_op op_add (pe_op op_add (pe_op op_mul (pe_ix ix_list (pv 0) pe_int (fun _ _ => rfl)) pe_int) (pe_ix ix_list (pv 0) pe_int (fun _ _ => rfl))) pe_int) pa_nil)) pe_int) (pg_sub (pv 0) pe_int set_list)) (pss_one (ps_asg pe_int (pg_sub (pv 0) pe_int set_list)))) pss_nil))) pss_nil)
    (pss_cons (ps_if (pt_cmpR op_gt (pe_ix ix_list (pv 0) pe_int (fun _ _ => rfl)) pe_int (nomark _)) (pss_cons (ps_set (i := 2) scD.nd rfl (Or.inl rfl) (pe_op op_mod (pe_callTy call_int1 (by rfl) B.int (by decide +kernel) (pa_cons (pe_ix ix_list (pv 0) pe_int (fun _ _ => rfl)) pa_nil)) (pv 1))) (pss_cons (ps_asg (pe_op op_fdiv (pe_ix ix_list (pv 0) pe_int (fun _ _ => rfl)) (pv 1)) (pg_sub (pv 0) pe_int set_list)) (pss_one (ps_ret (pv 2))))) pss_nil)
    (pss_cons (ps_set (i := 3) scD.nd rfl (Or.inl rfl) (pe_op op_mod (pe_op op_pow (pe_op op_add (pe_op op_add (pe_ix ix_list (pv 0) pe_int (fun _ _ => rfl)) (pe_op op_mul pe_int (pe_ix ix_list (pv 0) pe_int (fun _ _ => rfl)))) pe_int) pe_int) pe_int))
    (pss_one (ps_ret (pe_op op_mod (pe_op op_mod (pe_op op_pow (pe_op op_add (pe_op op_add (pe_op op_mul (pv 3) pe_int) (pe_op op_mul (pe_op op_mul pe_int (pe_ix ix_list (pv 0) pe_int (fun _ _ => rfl))) (pe_ix ix_list (pv 0) pe_int (fun _ _ => rfl)))) pe_int) pe_int) pe_int) (pv 1))))))), ?_⟩
  have nqs : q ≠ st := Spr.ne h1 h2
  refine ⟨_, rfl, st, _, _, _, rfl, rfl, SqL.of h1, rfl, _, _, rfl, rfl, _, rfl, st, _, _, _, rfl, rfl, h1, rfl, ?_⟩
  have e1 : upd H st (.lst [.ref q, .int a, .int (b + 1), .int c]) st = some (.lst [.ref q, .int a, .int (b + 1), .int c]) := upd_same
  have e2 : upd H st (.lst [.ref q, .int a, .int (b + 1), .int c]) q = some (.lst (ns.map V.int)) := by rw [upd_ne nqs]; exact h2
  have gx : SX st q H (upd H st (.lst [.ref q, .int a, .int (b + 1), .int c])) := SX.st
  refine ⟨fun σ' H' => σ' = [some (.ref st), some (.int m), none, none] ∧ Spr H' st q (b + 1) ∧ SX st q H H', ?_, ?_⟩
  · refine ⟨_, rfl, st, _, _, _, rfl, rfl, SqL.of e1, rfl, rfl, _, rfl, ?_⟩
    refine ite2 (fun ca => ?_) (fun _ => ⟨rfl, ⟨ns, a, c, e1, e2, ha, hc, hc2, hns⟩, gx⟩)
    have ca0 : a = 0 := by
      have z := of_decide_eq_true ca
      cases z
      rfl
    refine ⟨_, rfl, st, _, _, _, rfl, rfl, SqL.of e1, rfl, Nat.zero_le _, fun l hl => ?_⟩
    have g2 := same_new hl (.lst [])
    have f1 := g2 _ _ e1
    have f2 := g2 _ _ e2
    have gx2 := gx.trans (.of g2)
    cases ns with
    | nil =>
      refine ⟨.list [], .list [], .lst (SqL.of f2) .nil, .lst (SqL.of upd_same) .nil, by decide +kernel, by decide +kernel, _, rfl, ?_⟩
      refine iteN (by decide +kernel) ⟨rfl, ⟨[], a, c, f1, f2, ha, hc, hc2, hns⟩, gx2⟩
    | cons n r =>
      refine ⟨.list ((n :: r).map PyData.int), .list [], .lst (SqL.of f2) (dp_ints _), .lst (SqL.of upd_same) .nil, PySem.W.ke_shaped_ints _, by decide +kernel, _, rfl, ?_⟩
      refine iteC rfl ?_
      refine ⟨_, rfl, st, _, _, _, rfl, rfl, SqL.of f1, rfl, .inl ⟨rfl, _, SqL.of f2⟩, q, _, 0, 0, _, rfl, rfl, f2, by decide, by decide, first_ix (by simp), rfl, ?_⟩
      have p1 := (upd_ne (o := .lst (r.map V.int)) nqs.symm).trans f1
      have gx3 := gx2.trans (SX.q (o := .lst (r.map V.int)))
      refine ⟨_, rfl, st, _, _, _, rfl, rfl, p1, rfl, ?_⟩
      have gx4 := gx3.trans (SX.st (o := .lst [.ref q, .int n, .int (b + 1), .int c]))
      refine ⟨_, rfl, st, _, _, _, rfl, rfl, SqL.of upd_same, rfl, _, _, rfl, rfl, ⟨by decide, by decide, by decide⟩, _, _, rfl, rfl, _, rfl, ?_⟩
      refine ite2 (fun cn => ?_) (fun cn => ?_)
      · refine ⟨_, rfl, st, _, _, _, rfl, rfl, SqL.of upd_same, rfl, _, _, rfl, rfl, .inr ⟨by decide, by decide⟩, _, rfl, st, _, _, _, rfl, rfl, SqL.of upd_same, rfl, _, _, rfl, rfl, _, _, rfl, rfl, .inl ⟨_, rfl, ?_⟩⟩
        refine ⟨_, _, rfl, rfl, (by show (0 : Int) < 2147483647; decide), _, rfl, st, _, _, _, rfl, rfl, upd_same, rfl, _, rfl, st, _, _, _, rfl, rfl, upd_same, rfl, ?_⟩
        refine ⟨rfl, ⟨r, 0, (c * 31 + n + 7) % 2147483647, upd_same, ?_, by decide, Int.emod_nonneg _ (by decide), Int.emod_lt_of_pos _ (by decide), by simp at hns; omega⟩, (gx4.trans SX.st).trans SX.st⟩
        rw [upd_ne nqs, upd_ne nqs, upd_ne nqs, upd_same]
        rfl
      · have cn1 : ¬ n < (10 : Int) ^ 18 := of_decide_eq_false (Bool.eq_false_iff.mpr cn)
        refine ⟨rfl, ⟨r, n, c, upd_same, ?_, by omega, hc, hc2, by simp at hns; omega⟩, gx4⟩
        rw [upd_ne nqs, upd_same]
        rfl
  · rintro σ' H' ⟨rfl, ⟨ns', a', c', d1, d2, ha', hc', hc2', hns'⟩, g'⟩
    refine ⟨_, rfl, st, _, _, _, rfl, rfl, SqL.of d1, rfl, _, _, rfl, rfl, _, rfl, ?_⟩
    refine ite2 (fun cp => ?_) (fun cp => ?_)
    · have cp1 : a' > 0 := of_decide_eq_true cp
      refine ⟨_, rfl, st, _, _, _, rfl, rfl, SqL.of d1, rfl, .inl ⟨_, rfl, ?_⟩⟩
      refine ⟨_, rfl, _, _, rfl, rfl, hm0, _, rfl, st, _, _, _, rfl, rfl, SqL.of d1, rfl, _, rfl, _, _, rfl, rfl, ⟨hm0, hm1⟩, _, rfl, st, _, _, _, rfl, rfl, d1, rfl, _, rfl, ?_⟩
      exact k _ _ (Int.emod_nonneg _ (by omega)) (Int.emod_lt_of_pos _ hm0) ⟨ns', a' / m, c', upd_same, by rw [upd_ne nqs]; exact d2, Int.ediv_nonneg ha' (by omega), hc', hc2', hns'⟩ (g'.trans SX.st)
    · refine ⟨_, rfl, st, _, _, _, rfl, rfl, SqL.of d1, rfl, _, rfl, st, _, _, _, rfl, rfl, SqL.of d1, rfl, _, _, rfl, rfl, .inl ⟨by decide, by decide⟩, _, _, rfl, rfl, _, _, rfl, rfl, _, _, rfl, rfl, ⟨by decide, by decide, ?_⟩, _, _, rfl, rfl, (by show (0 : Int) < 2147483629; decide), ?_⟩
      · show (c' + 104729 * (b + 1) + 17).natAbs < 18446744073709551616
        omega
      have x0 : 0 ≤ (c' + 104729 * (b + 1) + 17) ^ (5 : Int).toNat % 2147483629 := Int.emod_nonneg _ (by decide)
      have x1 : (c' + 104729 * (b + 1) + 17) ^ (5 : Int).toNat % 2147483629 < 2147483629 := Int.emod_lt_of_pos _ (by decide)
      refine ⟨_, rfl, _, _, rfl, rfl, .inr ⟨by decide, by decide⟩, _, rfl, st, _, _, _, rfl, rfl, SqL.of d1, rfl, _, _, rfl, rfl, .inl ⟨by decide, by decide⟩, _, rfl, st, _, _, _, rfl, rfl, SqL.of d1, rfl, _, _, rfl, rfl, .inr ⟨?_, ?_⟩, _, _, rfl, rfl, _, _, rfl, rfl, _, _, rfl, rfl, ⟨by decide, by decide, ?_⟩, _, _, rfl, rfl, (by show (0 : Int) < 1000000007; decide), _, rfl, _, _, rfl, rfl, hm0, ?_⟩
      · show -(18446744073709551616 : Int) < b + 1
        omega
      · show b + 1 < (18446744073709551616 : Int)
        omega
      · show ((c' + 104729 * (b + 1) + 17) ^ (5 : Int).toNat % 2147483629 * 48271 + 40503 * (b + 1) * (b + 1) + 13).natAbs < 18446744073709551616
        have y0 : 0 ≤ 40503 * (b + 1) * (b + 1) := Int.mul_nonneg (by omega) (by omega)
        have y1 : 40503 * (b + 1) * (b + 1) ≤ 40543503 * 1001 := Int.mul_le_mul (by omega) (by omega) (by omega) (by omega)
        revert x0 x1 y0 y1
        generalize (c' + 104729 * (b + 1) + 17) ^ (5 : Int).toNat % 2147483629 = x
        generalize 40503 * (b + 1) * (b + 1) = y
        intro x0 x1 y0 y1
        omega
      · exact k _ _ (Int.emod_nonneg _ (by omega)) (Int.emod_lt_of_pos _ hm0) ⟨ns', a', c', d1, d2, ha', hc', hc2', hns'⟩ g'
theorem Spr.same {H H' : Hp} {st q : Addr} {b : Int} (g : Same H H') : Spr H st q b → Spr H' st q b
  | ⟨ns, a, c, h1, h2, r⟩ => ⟨ns, a, c, g _ _ h1, g _ _ h2, r⟩
theorem TK.sx {H H' : Hp} {st q : Addr} {b : Int} (s : Spr H st q b) (g : SX st q H H') : TK K H H' := by
  obtain ⟨ns, a, c, h1, h2, _⟩ := s
  exact .but fun t o no h => g _ _ (fun e => by rw [e, h1] at h; exact no _ (Option.some.inj h).symm) (fun e => by rw [e, h2] at h; exact no _ (Option.some.inj h).symm) h
abbrev sStart : Stmt := topS 13
abbrev sPick : Stmt := topS 14
def spStart (K : PySem.W.Frag) : Sp := fun vs H Q _ => ∃ (a : Addr) (ns : List Int), vs = [.ref a] ∧ SqL K H a (ns.map V.int) ∧ ns.length ≤ 63 ∧
  ∀ (st q : Addr) (H' : Hp), Same H H' → Spr H' st q 0 → Q (.ref st) H'
theorem scT : FnScope ["_law_script"] ["_law_script"] (defScope sStart) := ⟨rfl, rfl, rfl, by decide +kernel, rfl, by decide +kernel, by decide +kernel⟩
theorem ok_start (F : Fun K "_law_start" "_law_start" sStart f fd) (B : Bt mg) : FnOk P w K mg base CX0 1 f fd ["_law_script"] (spStart K) := by
  refine F.ok scT (fun vs H Q E h => ?_) (fun cdv A outer s H vs Q E hr h => ?_)
  · obtain ⟨a, ns, rfl, _⟩ := h
    rfl
  obtain ⟨a, ns, rfl, hS, hn, k⟩ := h
  refine ⟨_, pss_one (ps_ret (pe_lst (pa_cons (pe_callTy call_list_of (by rfl) B.lst (by decide +kernel) (pa_cons (pv 0) pa_nil)) (pa_cons pe_int (pa_cons pe_int (pa_cons pe_int pa_nil)))))), ?_⟩
  refine ⟨_, rfl, a, _, rfl, .inl hS, fun l hl => ?_⟩
  have g1 := same_new hl (.lst (ns.map V.int))
  refine ⟨(by show 4 ≤ sizeLine; decide), fun t ht => ?_⟩
  have g2 := same_new ht (.lst [.ref l, .int 0, .int 0, .int 0])
  exact k t l _ (g1.trans g2) ⟨ns, 0, 0, upd_same, g2 _ _ upd_same, by decide, by decide, by decide, hn⟩
def spPick (K : PySem.W.Frag) : Sp := fun vs H Q _ => ∃ (st q p : Addr) (b : Int) (xs : List V), vs = [.ref st, .ref p] ∧ Spr H st q b ∧ 0 ≤ b ∧ b ≤ 1000 ∧ H p = some (.lst xs) ∧ p ≠ st ∧ p ≠ q ∧ 0 < xs.length ∧ xs.length ≤ 1000 ∧
  ∀ (v : V) (H' : Hp), v ∈ xs → Spr H' st q (b + 1) → SX st q H H' → Q v H'
theorem scP : FnScope ["_law_stream", "_law_some"] ["_law_stream", "_law_some"] (defScope sPick) := ⟨rfl, rfl, rfl, by decide +kernel, rfl, by decide +kernel, by decide +kernel⟩
theorem at_int {xs : List V} {r : Int} (h0 : 0 ≤ r) (h1 : r < (xs.length : Int)) : ∃ v, v ∈ xs ∧ atI xs r = some v := by
  have hk : r.toNat < xs.length := by omega
  refine ⟨xs[r.toNat], List.getElem_mem hk, ?_⟩
  have q := atI_nat (xs := xs) (j := r.toNat) (v := xs[r.toNat]) (List.getElem?_eq_getElem hk)
  rwa [show ((r.toNat : Nat) : Int) = r by omega] at q
theorem ok_pick (F : Fun K "_law_pick" "_law_pick" sPick f fd) {g : Addr} {gd : FuncData} (G : FnOk P w K mg base CX0 1 g gd ["_law_stream", "_law_many"] spDraw) (bG : Binds K gd ["_law_stream", "_law_many"] []) (kG : PySem.W.keepIn K (.ref g) = true) (mG : mg "_law_draw" = some (.ref g)) (B : Bt mg) :
    FnOk P w K mg base CX0 2 f fd ["_law_stream", "_law_some"] (spPick K) := by
  refine F.ok scP (fun vs H Q E h => ?_) (fun cdv A outer s H vs Q E hr h => ?_)
  · obtain ⟨st, q, p, b, xs, rfl, _⟩ := h
    rfl
  obtain ⟨st, q, p, b, xs, rfl, hs, hb0, hb1, hp, n1, n2, hx0, hx1, k⟩ := h
  refine ⟨_, pss_one (ps_ret (pe_ix ix_list (pv 1) (pe_call G hr rfl mG kG bG .nil pass0 (pa_cons (pv 0) (pa_cons (pe_callB call_len_seq (by rfl) B.len PySem.boot_len (pa_cons (pv 1) pa_nil)) pa_nil))) (fun _ _ => rfl))), ?_⟩
  refine ⟨_, rfl, _, rfl, _, rfl, p, xs, rfl, .inl (SqL.of hp), st, q, b, _, rfl, hs, hb0, hb1, by omega, by omega, fun r H' r0 r1 hs' gx => ?_⟩
  obtain ⟨v, hv, ev⟩ := at_int r0 r1
  exact ⟨p, xs, r, v, rfl, rfl, SqL.of (gx _ _ n1 n2 hp), ev, k v H' hv hs' gx⟩
theorem Al.int {H : Hp} {n : Nat} (i : Int) : Al K H (n + 1) (.int i) (.int i) := .inl ⟨i, rfl, rfl⟩
theorem Al.str {H : Hp} {n : Nat} (z : Str) : Al K H (n + 1) (.str z) (.str z) := .inr (.inl ⟨z, rfl, rfl⟩)
theorem Al.tup {H : Hp} {n : Nat} {a : Addr} {xs : List V} (h : SqT K H a xs) (hl : xs.length ≤ 1000) (hx : ∀ x ∈ xs, Al K H n x x) : Al K H (n + 1) (.ref a) (.ref a) :=
  .inr (.inr ⟨a, a, xs, xs, rfl, rfl, h, h, rfl, hl, fun i x y e1 e2 => by rw [e1] at e2; cases e2; exact hx x (List.mem_of_getElem? e1)⟩)
theorem all_nil {p : V → Prop} : ∀ x ∈ ([] : List V), p x := fun x h => by cases h
theorem all_cons {p : V → Prop} {a : V} {l : List V} (h : p a) (t : ∀ x ∈ l, p x) : ∀ x ∈ a :: l, p x := fun x q => by
  cases q with
  | head => exact h
  | tail _ q => exact t x q
end
end Lw
namespace Lw
open PySem L2
abbrev sWhole : Stmt := topS 1
abbrev sFrozen : Stmt := topS 2
abbrev sAxes : Stmt := topS 9
/-! the mathematics of forms -/
def axesOk (is : List Int) (n : Nat) : Bool := decide (is.length = n) && (List.range n).all fun j => decide ((j : Int) ∈ is)
theorem inV_int (k : Int) : ∀ is : List Int, inV (.int k) (is.map V.int) = decide (k ∈ is)
  | [] => by simp [inV]
  | i :: r => by
    have q := inV_int k r
    unfold inV at q ⊢
    rw [List.map_cons, List.any_cons, q]
    show ((i == k) || decide (k ∈ r)) = decide (k ∈ i :: r)
    by_cases h : i = k
    · subst h
      simp
    · have h2 : ¬ k = i := fun e => h e.symm
      simp [h, h2]
theorem flat_ints (is : List Int) : (is.map V.int).all flatV = true := by
  rw [List.all_eq_true]
  intro x hx
  obtain ⟨i, _, rfl⟩ := List.mem_map.mp hx
  rfl
theorem flat_strs (ss : List Str) : (ss.map V.str).all flatV = true := by
  rw [List.all_eq_true]
  intro x hx
  obtain ⟨i, _, rfl⟩ := List.mem_map.mp hx
  rfl
theorem inV_str (k : Str) : ∀ ss : List Str, inV (.str k) (ss.map V.str) = decide (k ∈ ss)
  | [] => by simp [inV]
  | i :: r => by
    have q := inV_str k r
    unfold inV at q ⊢
    rw [List.map_cons, List.any_cons, q]
    show ((i == k) || decide (k ∈ r)) = decide (k ∈ i :: r)
    by_cases h : i = k
    · subst h
      simp
    · have h2 : ¬ k = i := fun e => h e.symm
      simp [h, h2]
/-- the list of answers so far -/
def InvB (H0 : Hp) (D : Addr) (f : Nat → Bool) (i : Nat) (H : Hp) : Prop := H D = some (.lst (((List.range i).map f).map V.bl)) ∧ Same H0 H
theorem InvB.next {H0 H : Hp} {D : Addr} {f : Nat → Bool} {i : Nat} (hd0 : H0 D = none) (h : InvB H0 D f i H) : InvB H0 D f (i + 1) (upd H D (.lst (((List.range i).map f).map V.bl ++ [.bl (f i)]))) :=
  ⟨by rw [upd_same, List.range_succ, List.map_append, List.map_append] <;> rfl, same_over h.2 hd0 _⟩
theorem len_b {f : Nat → Bool} {i : Nat} (h : i ≤ 1000) : (((List.range i).map f).map V.bl).length < sizeLine := by
  rw [List.length_map, List.length_map, List.length_range]
  exact small1000 h
section
variable {P : Program} {w : World} {K : PySem.W.Frag} {mg : Str → Option Value} {base : Heap} {f : Addr} {fd : FuncData}
def spWhole : Sp := fun vs H Q _ => ∃ i : Int, vs = [.int i] ∧ Q (.bl true) H
theorem scW : FnScope ["n"] ["n"] (defScope sWhole) := ⟨rfl, rfl, rfl, by decide +kernel, rfl, by decide +kernel, by decide +kernel⟩
theorem ok_whole (F : Fun K "is_whole" "is_whole" sWhole f fd) (B : Bt mg) : FnOk P w K mg base CX0 1 f fd ["n"] spWhole := by
  refine F.ok scW (fun vs H Q E h => ?_) (fun cdv A outer s H vs Q E hr h => ?_)
  · obtain ⟨i, rfl, _⟩ := h
    rfl
  obtain ⟨i, rfl, q⟩ := h
  refine ⟨_, pss_one (ps_ret (pe_and (pe_callB call_isi (by rfl) B.isi (by decide +kernel) (pa_cons (pv 0) (pa_cons (pe_bltn (v := .ty "int") (by rfl) B.int (by decide +kernel) rfl) pa_nil)))
    (pe_one (pe_not (pe_callB call_isi (by rfl) B.isi (by decide +kernel) (pa_cons (pv 0) (pa_cons (pe_bltn (v := .ty "bool") (by rfl) B.bool (by decide +kernel) rfl) pa_nil))))))), ?_⟩
  refine ⟨_, rfl, _, _, .type "int", .type "int", true, rfl, .ty _, .base (.int i), kit_ty (by decide +kernel), _, rfl, ?_⟩
  refine iteT ?_
  exact ⟨_, rfl, _, _, .type "int", .type "bool", false, rfl, .ty _, .base (.int i), kit_ty (by decide +kernel), _, rfl, q⟩
def spFrI : Sp := fun vs H Q _ => ∃ i : Int, vs = [.int i] ∧ ∀ H' : Hp, Same H H' → Q (.int i) H'
def spFrz (K : PySem.W.Frag) : Sp := fun vs H Q _ => ∃ (a : Addr) (is : List Int), vs = [.ref a] ∧ (SqL K H a (is.map V.int) ∨ SqT K H a (is.map V.int)) ∧ is.length ≤ 1000 ∧
  ∀ (p : Addr) (H' : Hp), Same H H' → H p = none → H' p = some (.tup (is.map V.int)) → Q (.ref p) H'
theorem scF : FnScope ["worth", "part"] ["worth"] (defScope sFrozen) := ⟨rfl, rfl, rfl, by decide +kernel, rfl, by decide +kernel, by decide +kernel⟩
theorem ok_frI (F : Fun K "frozen" "frozen" sFrozen f fd) (B : Bt mg) : FnOk P w K mg base CX0 1 f fd ["worth"] spFrI := by
  refine F.ok scF (fun vs H Q E h => ?_) (fun cdv A outer s H vs Q E hr h => ?_)
  · obtain ⟨i, rfl, _⟩ := h
    rfl
  obtain ⟨i, rfl, q⟩ := h
  refine ⟨_, pss_cons (ps_if (pt_val (pe_callB call_isiT (by rfl) B.isi (by decide +kernel) (pa_cons (pv 0) (pa_cons (pe_tup (pa_cons (pe_bltn (v := .ty "list") (by rfl) B.lst (by decide +kernel) rfl) (pa_cons (pe_bltn (v := .ty "tuple") (by rfl) B.tup (by decide +kernel) rfl) pa_nil))) pa_nil)))) (pss_one ps_never) pss_nil)
    (pss_one (ps_ret (pv 0))), ?_⟩
  refine ⟨_, rfl, (by show 2 ≤ sizeLine; decide), fun t ht => ?_⟩
  refine ⟨_, t, _, .type "int", [.type "list", .type "tuple"], false, rfl, upd_same, .cons (.ty _) (.cons (.ty _) .nil), .base (.int i), is_seq (by decide +kernel) (by decide +kernel), _, rfl, ?_⟩
  exact iteF ⟨_, rfl, q _ (same_new ht _)⟩
/-- the ints so far -/
def InvI (H0 : Hp) (D : Addr) (is : List Int) (i : Nat) (H : Hp) : Prop := H D = some (.lst ((is.take i).map V.int)) ∧ Same H0 H
theorem take_map_succ {is : List Int} {i : Nat} {x : V} (h : (is.map V.int)[i]? = some x) : ∃ n, x = .int n ∧ (is.take (i + 1)).map V.int = (is.take i).map V.int ++ [.int n] := by
  rw [List.getElem?_map] at h
  cases e : is[i]? with
  | none => rw [e] at h; cases h
  | some n =>
    rw [e] at h
    refine ⟨n, (Option.some.inj h).symm, ?_⟩
    rw [List.take_succ, e, List.map_append] <;> rfl
theorem ok_frz (F : Fun K "frozen" "frozen" sFrozen f fd) (bF : Binds K fd ["worth"] []) (mF : mg "frozen" = some (.ref f)) (B : Bt mg) : FnOk P w K mg base CX0 2 f fd ["worth"] (spFrz K) := by
  have G : FnOk P w K mg base CX0 1 f fd ["worth"] spFrI := ok_frI F B
  refine F.ok scF (fun vs H Q E h => ?_) (fun cdv A outer s H vs Q E hr h => ?_)
  · obtain ⟨a, is, rfl, _⟩ := h
    rfl
  obtain ⟨a, is, rfl, hS, hl, q⟩ := h
  have turn : ∀ {te : TE} {D : Addr}, H D = none → ∀ i x H', (is.map V.int)[i]? = some x → InvI H D is i H' → tCall spFrI [] E0 (tCons (tVar 1) tNil) [some (.ref a), some x] H' fun y H4 => ∃ acc, H4 D = some (.lst acc) ∧ acc.length < sizeLine ∧ InvI H D is (i + 1) (upd H4 D (.lst (acc ++ [y]))) := by
    rintro te D hD i x H' hx ⟨hd, g⟩
    obtain ⟨n, rfl, en⟩ := take_map_succ hx
    refine ⟨_, rfl, n, rfl, fun H2 g2 => ⟨_, g2 _ _ hd, ?_, by rw [upd_same, en], same_over (g.trans g2) hD _⟩⟩
    rw [List.length_map]
    exact small1000 (by rw [List.length_take]; omega)
  rcases hS with hS | hS
  · refine ⟨_, pss_cons (ps_if (pt_val (pe_callB call_isiT (by rfl) B.isi (by decide +kernel) (pa_cons (pv 0) (pa_cons (pe_tup (pa_cons (pe_bltn (v := .ty "list") (by rfl) B.lst (by decide +kernel) rfl) (pa_cons (pe_bltn (v := .ty "tuple") (by rfl) B.tup (by decide +kernel) rfl) pa_nil))) pa_nil))))
        (pss_one (ps_ret (pe_callTy call_tuple_of (by rfl) B.tup (by decide +kernel) (pa_cons (pe_lc (own := [("part", 1)]) (g := gName 1) (tt := tYes) rfl scF.nd (pi_list (pv 0)) (blkOk_by (N := ["worth", "part"]) (sc := defScope sFrozen) (by decide +kernel))
          (fun _ _ _ _ _ => pg_name (i := 1) scF.nd rfl (Or.inl rfl)) (fun _ _ _ _ _ => pts_nil) (fun _ _ _ _ _ => pe_call G hr rfl mF F.kp bF .nil pass0 (pa_cons (pv 1) pa_nil))) pa_nil)))) pss_nil)
      (pss_one (ps_ret (pv 0))), ?_⟩
    refine ⟨_, rfl, (by show 2 ≤ sizeLine; decide), fun t ht => ?_⟩
    have g1 : Same H (upd H t (.tup [.ty "list", .ty "tuple"])) := same_new ht _
    refine ⟨_, t, _, .type "list", [.type "list", .type "tuple"], true, rfl, upd_same, .cons (.ty _) (.cons (.ty _) .nil), tyL (g1.seq hS), is_seqL, _, rfl, ?_⟩
    refine iteT ?_
    refine ⟨_, rfl, a, rfl, ⟨_, g1.seq hS⟩, fun D hD => ?_⟩
    have hD0 : H D = none := g1.free hD
    refine lc_list (K := K) (a := a) (xs := is.map V.int) (InvI H D is) ⟨upd_same, same_over g1 hD0 _⟩ (fun i H' _ ⟨_, g⟩ => g.seq hS) (fun i x H' hx hi => ⟨rfl, kept (turn (te := fun _ _ _ => True) hD0 i x H' hx hi)⟩) ?_
    rintro H' ⟨hd, g⟩
    rw [List.length_map, List.take_length] at hd
    refine ⟨D, _, rfl, .inl ⟨SqL.of hd, fun l hl0 => ?_⟩⟩
    exact q l _ (g.trans (same_new hl0 _)) (g.free hl0) upd_same
  · refine ⟨_, pss_cons (ps_if (pt_val (pe_callB call_isiT (by rfl) B.isi (by decide +kernel) (pa_cons (pv 0) (pa_cons (pe_tup (pa_cons (pe_bltn (v := .ty "list") (by rfl) B.lst (by decide +kernel) rfl) (pa_cons (pe_bltn (v := .ty "tuple") (by rfl) B.tup (by decide +kernel) rfl) pa_nil))) pa_nil))))
        (pss_one (ps_ret (pe_callTy call_tuple_of (by rfl) B.tup (by decide +kernel) (pa_cons (pe_lc (own := [("part", 1)]) (g := gName 1) (tt := tYes) rfl scF.nd (pi_tup (pv 0)) (blkOk_by (N := ["worth", "part"]) (sc := defScope sFrozen) (by decide +kernel))
          (fun _ _ _ _ _ => pg_name (i := 1) scF.nd rfl (Or.inl rfl)) (fun _ _ _ _ _ => pts_nil) (fun _ _ _ _ _ => pe_call G hr rfl mF F.kp bF .nil pass0 (pa_cons (pv 1) pa_nil))) pa_nil)))) pss_nil)
      (pss_one (ps_ret (pv 0))), ?_⟩
    refine ⟨_, rfl, (by show 2 ≤ sizeLine; decide), fun t ht => ?_⟩
    have g1 : Same H (upd H t (.tup [.ty "list", .ty "tuple"])) := same_new ht _
    refine ⟨_, t, _, .type "tuple", [.type "list", .type "tuple"], true, rfl, upd_same, .cons (.ty _) (.cons (.ty _) .nil), tyT (seqT g1 hS), is_seq (by decide +kernel) (by decide +kernel), _, rfl, ?_⟩
    refine iteT ?_
    refine ⟨_, rfl, a, rfl, ⟨_, seqT g1 hS⟩, fun D hD => ?_⟩
    have hD0 : H D = none := g1.free hD
    refine lc_tup (K := K) (a := a) (xs := is.map V.int) (InvI H D is) ⟨upd_same, same_over g1 hD0 _⟩ (fun i H' _ ⟨_, g⟩ => seqT g hS) (fun i x H' hx hi => ⟨rfl, kept (turn (te := fun _ _ _ => True) hD0 i x H' hx hi)⟩) ?_
    rintro H' ⟨hd, g⟩
    rw [List.length_map, List.take_length] at hd
    refine ⟨D, _, rfl, .inl ⟨SqL.of hd, fun l hl0 => ?_⟩⟩
    exact q l _ (g.trans (same_new hl0 _)) (g.free hl0) upd_same
def spAxes (K : PySem.W.Frag) : Sp := fun vs H Q _ => ∃ (a : Addr) (is : List Int) (n : Nat), vs = [.ref a, .int n] ∧ SqT K H a (is.map V.int) ∧ is.length ≤ 1000 ∧ n ≤ 1000 ∧ ∀ H' : Hp, Same H H' → Q (.bl (axesOk is n)) H'
theorem scA : FnScope ["axes", "many", "axis"] ["axes", "many"] (defScope sAxes) := ⟨rfl, rfl, rfl, by decide +kernel, rfl, by decide +kernel, by decide +kernel⟩
theorem ok_axes {g : Addr} {gd : FuncData} (F : Fun K "are_axes" "are_axes" sAxes f fd) (G : FnOk P w K mg base CX0 1 g gd ["n"] spWhole) (bG : Binds K gd ["n"] []) (kG : PySem.W.keepIn K (.ref g) = true) (mG : mg "is_whole" = some (.ref g)) (B : Bt mg) :
    FnOk P w K mg base CX0 2 f fd ["axes", "many"] (spAxes K) := by
  refine F.ok scA (fun vs H Q E h => ?_) (fun cdv A outer s H vs Q E hr h => ?_)
  · obtain ⟨a, is, n, rfl, _⟩ := h
    rfl
  obtain ⟨a, is, n, rfl, hS, hl, hn, q⟩ := h
  refine ⟨_, pss_cons (ps_if (PW.pt (pw_or (pt_not (pt_val (pe_callB call_isi (by rfl) B.isi (by decide +kernel) (pa_cons (pv 0) (pa_cons (pe_bltn (v := .ty "tuple") (by rfl) B.tup (by decide +kernel) rfl) pa_nil)))))
        (pw_or1 (pt_cmpR op_ne (pe_callB call_len_seq (by rfl) B.len PySem.boot_len (pa_cons (pv 0) pa_nil)) (pv 1) (nomark _))))) (pss_one (ps_ret pe_bl)) pss_nil)
    (pss_cons (ps_if (pt_not (pt_val (pe_callB (cr_all rfl) (by rfl) B.all (by decide +kernel) (pa_cons (pe_lc (own := [("axis", 2)]) (g := gName 2) (tt := tYes) rfl scA.nd (pi_tup (pv 0)) (blkOk_by (N := ["axes", "many", "axis"]) (sc := defScope sAxes) (by decide +kernel))
        (fun _ _ _ _ _ => pg_name (i := 2) scA.nd rfl (Or.inl rfl)) (fun _ _ _ _ _ => pts_nil) (fun _ _ _ _ _ => pe_call G hr rfl mG kG bG .nil pass0 (pa_cons (pv 2) pa_nil))) pa_nil)))) (pss_one (ps_ret pe_bl)) pss_nil)
    (pss_one (ps_ret (pe_callB (cr_all rfl) (by rfl) B.all (by decide +kernel) (pa_cons (pe_lc (own := [("axis", 2)]) (g := gName 2) (tt := tYes) rfl scA.nd (pi_range1 (by rfl) B.range (pa_cons (pv 1) pa_nil)) (blkOk_by (N := ["axes", "many", "axis"]) (sc := defScope sAxes) (by decide +kernel))
        (fun _ _ _ _ _ => pg_name (i := 2) scA.nd rfl (Or.inl rfl)) (fun _ _ _ _ _ => pts_nil) (fun _ _ _ _ _ => pe_cmpR (r := rIn K false) op_in_seq (pv 2) (pv 0) (by rfl))) pa_nil))))), ?_⟩
  refine ⟨_, rfl, _, _, .type "tuple", .type "tuple", true, rfl, .ty _, tyT hS, kit_ty (by decide +kernel), _, rfl, ?_⟩
  refine iteF ?_
  refine ⟨_, rfl, a, _, rfl, .inr hS, _, rfl, rfl, _, rfl, ?_⟩
  refine ite2 (fun c => ?_) (fun c => ?_)
  · have e : axesOk is n = false := by
      rw [List.length_map] at c
      have c2 : ¬ is.length = n := fun e => by
        rw [e, decide_eq_true rfl] at c
        cases c
      unfold axesOk
      rw [decide_eq_false c2]
      rfl
    have z := q H (Same.refl H)
    rw [e] at z
    exact z
  · have e : is.length = n := by
      rw [List.length_map] at c
      by_cases z : is.length = n
      · exact z
      · exact absurd (by rw [decide_eq_false (fun y => z (by cases y; rfl))]; rfl) c
    refine ⟨_, rfl, a, rfl, ⟨_, hS⟩, fun D hD => ?_⟩
    refine lc_tup (K := K) (a := a) (xs := is.map V.int) (InvB H D fun _ => true) ⟨upd_same, same_new hD _⟩ (fun i H' _ ⟨_, g⟩ => seqT g hS) (fun i x H' hx hi => ⟨rfl, kept ?_⟩) ?_
    · obtain ⟨m, rfl, _⟩ := take_map_succ hx
      have hi2 : i < is.length := by
        have z := (List.getElem?_eq_some_iff.mp hx).1
        rwa [List.length_map] at z
      exact ⟨_, rfl, m, rfl, _, hi.1, len_b (by omega), hi.next hD⟩
    rintro H' ⟨hd, g⟩
    refine ⟨D, _, rfl, SqL.of hd, _, rfl, ?_⟩
    have ea : (((List.range (is.map V.int).length).map fun _ => true)).all id = true := by simp
    rw [ea]
    refine iteF ?_
    refine ⟨_, rfl, n, rfl, by omega, by omega, fun D2 hD2 => ?_⟩
    have hD20 : H D2 = none := g.free hD2
    refine lc_range (lo := 0) (n := n) (InvB H D2 fun j => decide ((j : Int) ∈ is)) ⟨upd_same, same_over g hD20 _⟩ (fun i H2 hi hv => ⟨rfl, kept ?_⟩) ?_
    · refine ⟨_, rfl, _, rfl, a, _, rfl, .inr (seqT hv.2 hS), rfl, flat_ints is, _, hv.1, len_b (by omega), ?_⟩
      have z := hv.next hD20
      rw [show inV (.int (0 + (i : Int))) (is.map V.int) = decide ((i : Int) ∈ is) by rw [Int.zero_add, inV_int]]
      exact z
    rintro H2 ⟨hd2, g2⟩
    refine ⟨D2, _, rfl, SqL.of hd2, ?_⟩
    have ez : axesOk is n = ((List.range n).map fun j : Nat => decide ((j : Int) ∈ is)).all id := by
      unfold axesOk
      rw [decide_eq_true e, Bool.true_and, List.all_map] <;> rfl
    rw [← ez]
    exact q _ g2
end
end Lw
namespace Lw
open PySem L2
abbrev sInit : Stmt := inClass (topS 10) 1
abbrev sText : Stmt := inClass (topS 10) 2
abbrev sRead : Stmt := inClass (topS 10) 3
def KINDS : List Str := ["dense", "packed", "bits", "hashed"]
def AWORDS : List Str := ["0", "1", "2"]
def valid (ks : List Str) (is : List Int) : Bool := decide (ks.length ≤ 3) && (ks.all (fun k => decide (k ∈ KINDS)) && axesOk is ks.length)
def iota (n : Nat) : List Int := (List.range n).map fun i : Nat => (i : Int)
theorem rg_iota (n : Nat) : rgV 0 (n : Int) = (iota n).map V.int := by
  unfold rgV iota
  rw [List.map_map, show ((n : Int) - 0).toNat = n by omega]
  refine List.map_congr_left fun i _ => ?_
  show V.int (0 + (i : Int)) = V.int (i : Int)
  rw [Int.zero_add]
theorem iota_len (n : Nat) : (iota n).length = n := by unfold iota; rw [List.length_map, List.length_range]
/-- the chain of a class over ValueError, behind its own ones -/
abbrev veB : List Value := [.type "ValueError", .type "Exception", .type "BaseException", .type "object"]
structure Fm (K : PySem.W.Frag) (mg : Str → Option Value) (C fI BF AW KD : Addr) (MC : Value) : Prop where
  cl : Cls K C
  nK : NoAttr K C "kinds"
  nA : NoAttr K C "axes"
  mkC : Mk K C fI
  mC : mg "Form" = some (.ref C)
  mB : mg "BadForm" = some (.ref BF)
  xB : PySem.W.excIn K BF veB "ValueError.__new__" = true
  kB : PySem.W.keepIn K (.ref BF) = true
  rB : PySem.W.subIn K (.ref BF) (.type "BaseException") = some true
  tB : PySem.W.typeIn K (.ref BF) = some (.type "type")
  most : ∃ t, mg "MOST_LEVELS" = some (.int 3 t)
  cr : ClX.CRead K C MC
  kd : ClX.CVal K C MC "KINDS" (.ref KD) (.ref KD)
  kdT : ∀ H : Hp, SqT K H KD (KINDS.map V.str)
  mAW : mg "AXIS_WORDS" = some (.ref AW)
  awT : ∀ H : Hp, SqT K H AW (AWORDS.map V.str)
theorem ka_ : ¬ (("kinds" : Str) = "axes") := by decide +kernel
theorem ak_ : ¬ (("axes" : Str) = "kinds") := by decide +kernel
def flds (tk ta : Addr) : List (Str × V) := putF "axes" (.ref ta) (putF "kinds" (.ref tk) [])
theorem flds_k (tk ta : Addr) : (flds tk ta).lookup ("kinds" : Str) = some (.ref tk) := by
  unfold flds
  rw [lookup_putF, if_neg ka_, lookup_putF, if_pos rfl]
theorem flds_a (tk ta : Addr) : (flds tk ta).lookup ("axes" : Str) = some (.ref ta) := by
  unfold flds
  rw [lookup_putF, if_pos rfl]
theorem fld1_k (tk : Addr) : (putF "kinds" (V.ref tk) []).lookup ("kinds" : Str) = some (.ref tk) := by
  rw [lookup_putF, if_pos rfl]
/-- what a comprehension without a test has made so far -/
def InvM {α : Type} (H0 : Hp) (D : Addr) (f : α → V) (l : List α) (i : Nat) (H : Hp) : Prop := H D = some (.lst ((l.take i).map f)) ∧ Same H0 H
theorem InvM.next {α : Type} {H0 H : Hp} {D : Addr} {f : α → V} {l : List α} {i : Nat} {a : α} (hd0 : H0 D = none) (hH : Same H0 H) (e : l[i]? = some a) (acc : List V) (ea : acc = (l.take i).map f) : InvM H0 D f l (i + 1) (upd H D (.lst (acc ++ [f a]))) :=
  ⟨by rw [upd_same, ea, List.take_succ, e, List.map_append] <;> rfl, same_over hH hd0 _⟩
theorem at_map {α : Type} {g : α → V} {l : List α} {i : Nat} {x : V} (h : (l.map g)[i]? = some x) : ∃ a, l[i]? = some a ∧ x = g a := by
  rw [List.getElem?_map] at h
  cases e : l[i]? with
  | none => rw [e] at h; cases h
  | some a =>
    rw [e] at h
    exact ⟨a, rfl, (Option.some.inj h).symm⟩
theorem len_m {α : Type} {f : α → V} {l : List α} {i : Nat} (h : l.length ≤ 1000) : ((l.take i).map f).length < sizeLine := by
  rw [List.length_map, List.length_take]
  exact small1000 (by omega)
def Kp (p : Addr) (H H' : Hp) : Prop := ∀ b o, b ≠ p → H b = some o → H' b = some o
theorem Kp.same {p : Addr} {H H1 H2 : Hp} (k : Kp p H H1) (g : Same H1 H2) : Kp p H H2 := fun b o n e => g _ _ (k b o n e)
theorem Kp.seq {K : PySem.W.Frag} {p a : Addr} {H H' : Hp} {xs : List V} {C dx : Addr} {fs : List (Str × V)} (k : Kp p H H') (hp : H p = some (.ins C dx fs)) (h : SqT K H a xs) : SqT K H' a xs := by
  rcases h with (h | ⟨o, h⟩) | h
  · exact .inl (.inl (k _ _ (fun e => by rw [e, hp] at h; cases h) h))
  · exact .inl (.inr ⟨o, k _ _ (fun e => by rw [e, hp] at h; cases h) h⟩)
  · exact .inr h
theorem Kp.seqL {K : PySem.W.Frag} {p a : Addr} {H H' : Hp} {xs : List V} {C dx : Addr} {fs : List (Str × V)} (k : Kp p H H') (hp : H p = some (.ins C dx fs)) (h : SqL K H a xs) : SqL K H' a xs := by
  rcases h with (h | ⟨o, h⟩) | h
  · exact .inl (.inl (k _ _ (fun e => by rw [e, hp] at h; cases h) h))
  · exact .inl (.inr ⟨o, k _ _ (fun e => by rw [e, hp] at h; cases h) h⟩)
  · exact .inr h
/-- the promise of Form.__init__ -/
def spInit (K : PySem.W.Frag) (C BF : Addr) : SpF := fun x vs kv H Q E => ∃ (p dx : Addr) (ks : List Str) (is : List Int), x = .ref p ∧ vs = ks.map V.str ∧ H p = some (.ins C dx []) ∧ ks.length ≤ 1000 ∧ is.length ≤ 1000 ∧
  ((kv = .non ∧ is = iota ks.length) ∨ ∃ a, kv = .ref a ∧ (SqL K H a (is.map V.int) ∨ SqT K H a (is.map V.int))) ∧
  (∀ (H' : Hp) (tk ta : Addr), valid ks is = true → Kp p H H' → H' p = some (.ins C dx (flds tk ta)) → SqT K H' tk (ks.map V.str) → SqT K H' ta (is.map V.int) → Q .non H') ∧
  (∀ H' : Hp, valid ks is = false → Kp p H H' → E (.ref BF) none H')
section
variable {P : Program} {w : World} {K : PySem.W.Frag} {mg : Str → Option Value} {base : Heap} {C fI BF AW KD gF gA : Addr} {MC : Value} {dF dA : FuncData}
theorem pe_kinds {X : Cx} {p pos : PySem.Pos} (hg : Gl X "Form") (hm : X.mg "Form" = some (.ref C)) : PE X (.Attribute (.Name "Form" p) "KINDS" pos) (ClX.tCVal X.K (tC (.ref C)) "KINDS") := ClX.pe_cval (pe_glob hg hm rfl)
abbrev namesI : List Str := ["self", "axes", "kinds", "kind"]
theorem scI : FnScope namesI ["self", "axes", "kinds"] (defScope sInit) := ⟨rfl, rfl, rfl, by decide +kernel, rfl, by decide +kernel, by decide +kernel⟩
theorem ok_init {oc cdv ct dc pm du : Value} {od an : Option Addr} {osl : Array (Option Value)} {D : Addr} (lk : K.lookup fI = some ⟨oc, od, .func (PySem.W.fnOf "__init__" "Form.__init__" (defArgs sInit) (defBody sInit) (defScope sInit) .none (.ref D) dc pm an cdv ct), osl⟩) (hcd : PySem.W.codeIn K cdv "Form.__init__" = true)
    (hD : PySem.W.nsIn K D "axes" = some (some .none)) (T : Fm K mg C fI BF AW KD MC) (B : Bt mg)
    (GF : FnOk P w K mg base CX0 2 gF dF ["worth"] (spFrz K)) (bF : Binds K dF ["worth"] []) (kF : PySem.W.keepIn K (.ref gF) = true) (mF : mg "frozen" = some (.ref gF))
    (GA : FnOk P w K mg base CX0 2 gA dA ["axes", "many"] (spAxes K)) (bA : Binds K dA ["axes", "many"] []) (kA : PySem.W.keepIn K (.ref gA) = true) (mA : mg "are_axes" = some (.ref gA)) :
    FnF P w K mg base (L2.CX P w) 3 fI "axes" .non (spInit K C BF) := by
  obtain ⟨tm, hmost⟩ := T.most
  refine fn_F (N := namesI) (p1 := "self") (kn := "axes") (pv := "kinds") lk hcd scI StX.cxUp hD rfl (fun x u us => ?_) (fun x us => ?_) (fun A outer s H x vs kv tk H0 Q E hr htk eH h => ?_)
  · cases us <;> rfl
  · cases us <;> exact ⟨_, _, _, _, _, _, rfl, rfl, rfl⟩
  obtain ⟨p, dx, ks, is, rfl, rfl, hp, hk, hi, hkv, q, qe⟩ := h
  subst eH
  refine ⟨_, C8.pss_cut (ps_if (pt_cmpR op_isN (pv 1) pe_non (nomark _)) (pss_one (ps_set (i := 1) scI.nd rfl (Or.inl rfl) (pe_listRg rfl (by rfl) B.lst (prg_1 (by rfl) B.range (pe_callB call_len_seq (by rfl) B.len PySem.boot_len (pa_cons (pv 2) pa_nil)))))) pss_nil)
    (pss_cons (ps_fld (pv 0) (pe_callTy call_tuple_of (by rfl) B.tup (by decide +kernel) (pa_cons (pv 2) pa_nil)) rfl)
    (pss_cons (ps_fld (pv 0) (pe_call GF hr rfl mF kF bF .nil pass0 (pa_cons (pv 1) pa_nil)) rfl)
    (pss_cons (ps_if (pt_cmpR op_gt (pe_callB call_len_seq (by rfl) B.len PySem.boot_len (pa_cons (pe_fld (pv 0) rfl) pa_nil)) (pe_glob (v := .int 3) (by rfl) hmost ⟨_, rfl⟩) (nomark _))
      (pss_one (ps_raise rfl (takes_of rfl rfl rfl rfl) (pmk_own0 PySem.F.excBase_ValueError T.xB T.mB T.kB (raises_own T.rB T.tB) (by rfl)))) pss_nil)
    (pss_cons (ps_if (pt_not (pt_val (pe_callB (cr_all rfl) (by rfl) B.all (by decide +kernel) (pa_cons (pe_lc (own := [("kind", 3)]) (g := gName 3) (tt := tYes) rfl scI.nd (pi_tup (pe_fld (pv 0) rfl)) (blkOk_by (N := namesI) (sc := defScope sInit) (by decide +kernel))
        (fun _ _ _ _ _ => pg_name (i := 3) scI.nd rfl (Or.inl rfl)) (fun _ _ _ _ _ => pts_nil) (fun _ _ _ _ _ => pe_cmpR (r := rIn K false) (tb := ClX.tCVal K (tC (.ref C)) "KINDS") op_in_seq (pv 3) (pe_kinds (by rfl) T.mC) (by rfl))) pa_nil))))
      (pss_one (ps_raise rfl (takes_of rfl rfl rfl rfl) (pmk_own0 PySem.F.excBase_ValueError T.xB T.mB T.kB (raises_own T.rB T.tB) (by rfl)))) pss_nil)
    (pss_one (ps_if (pt_not (pt_val (pe_call GA hr rfl mA kA bA .nil pass0 (pa_cons (pe_fld (pv 0) rfl) (pa_cons (pe_callB call_len_seq (by rfl) B.len PySem.boot_len (pa_cons (pe_fld (pv 0) rfl) pa_nil)) pa_nil)))))
      (pss_one (ps_raise rfl (takes_of rfl rfl rfl rfl) (pmk_own0 PySem.F.excBase_ValueError T.xB T.mB T.kB (raises_own T.rB T.tB) (by rfl)))) pss_nil)))))), ?_⟩
  have h0 : (upd H0 tk (.tup (ks.map V.str))) p = some (.ins C dx []) := by rw [upd_ne (ne_of_none hp htk)]; exact hp
  have ht : SqT K (upd H0 tk (.tup (ks.map V.str))) tk (ks.map V.str) := SqT.of upd_same
  have g0 : Same H0 (upd H0 tk (.tup (ks.map V.str))) := same_new htk _
  revert h0 ht g0
  generalize upd H0 tk (.tup (ks.map V.str)) = H1
  intro h0 ht g0
  refine ⟨fun σ' H' => ∃ a, σ' = [some (.ref p), some (.ref a), some (.ref tk), none] ∧ (SqL K H' a (is.map V.int) ∨ SqT K H' a (is.map V.int)) ∧ Same H1 H', ?_, ?_⟩
  · rcases hkv with ⟨rfl, rfl⟩ | ⟨a, rfl, hS⟩
    · refine ⟨_, rfl, rfl, _, rfl, iteC (decide_eq_true rfl) ?_⟩
      refine ⟨_, rfl, tk, _, rfl, .inr ht, _, rfl, RgOk.of_le (by decide) (by rw [List.length_map]; omega) (by decide) (by omega), fun q' hq' => ?_⟩
      refine ⟨q', rfl, .inl (SqL.of ?_), same_new hq' _⟩
      rw [upd_same, List.length_map, rg_iota]
    · refine ⟨_, rfl, rfl, _, rfl, iteN (decide_eq_false (by intro z; cases z)) ?_⟩
      exact ⟨a, rfl, hS.imp (fun z => g0.seq z) (fun z => seqT g0 z), Same.refl _⟩
  · rintro σ' H' ⟨a, rfl, hS, g1⟩
    have kp0 : Kp p H0 H' := fun b o _ e => g1 _ _ (g0 _ _ e)
    have hp1 := g1 _ _ h0
    have ht1 := seqT g1 ht
    refine ⟨_, rfl, tk, _, rfl, .inr ⟨ht1, _, rfl, p, C, dx, _, rfl, hp1, T.cl, T.nK, (by show 0 < 1000; decide), ?_⟩⟩
    have k1 : Kp p H' (upd H' p (.ins C dx (putF "kinds" (.ref tk) []))) := fun b o n e => by rw [upd_ne n]; exact e
    have hS1 := hS.imp (fun z => k1.seqL hp1 z) (fun z => k1.seq hp1 z)
    have ht2 := k1.seq hp1 ht1
    refine ⟨_, rfl, a, is, rfl, hS1, hi, fun ta H3 g3 n3 h3 => ?_⟩
    have hp3 := g3 _ _ (upd_same (H := H') (a := p) (o := .ins C dx (putF "kinds" (.ref tk) [])))
    have ht3 := seqT g3 ht2
    refine ⟨_, rfl, p, C, dx, _, rfl, hp3, T.cl, T.nA, (by show 1 < 1000; decide), ?_⟩
    have k3 : Kp p H3 (upd H3 p (.ins C dx (flds tk ta))) := fun b o n e => by rw [upd_ne n]; exact e
    have ht4 := k3.seq hp3 ht3
    have ha4 := k3.seq (K := K) hp3 (SqT.of h3)
    have hp4 : upd H3 p (.ins C dx (flds tk ta)) p = some (.ins C dx (flds tk ta)) := upd_same
    have kp4 : Kp p H0 (upd H3 p (.ins C dx (flds tk ta))) := fun b o n e => k3 b o n (g3 _ _ (k1 b o n (kp0 b o n e)))
    revert ht4 ha4 hp4 kp4
    show SqT K (upd H3 p (.ins C dx (flds tk ta))) tk (ks.map V.str) → SqT K (upd H3 p (.ins C dx (flds tk ta))) ta (is.map V.int) → upd H3 p (.ins C dx (flds tk ta)) p = some (.ins C dx (flds tk ta)) → Kp p H0 (upd H3 p (.ins C dx (flds tk ta))) → _
    intro ht4 ha4 hp4 kp4
    refine ⟨_, rfl, p, C, dx, _, _, rfl, hp4, T.cl, T.nK, flds_k _ _, tk, _, rfl, .inr ht4, _, _, rfl, rfl, _, rfl, ?_⟩
    refine ite2 (fun c => ?_) (fun c => ?_)
    · refine qe _ ?_ kp4
      have c2 : (3 : Int) < (((ks.map V.str).length : Nat) : Int) := of_decide_eq_true c
      rw [List.length_map] at c2
      unfold valid
      rw [decide_eq_false (by omega), Bool.false_and]
    have c2 : ¬ (3 : Int) < (((ks.map V.str).length : Nat) : Int) := of_decide_eq_false (Bool.eq_false_iff.mpr c)
    rw [List.length_map] at c2
    have e3 : decide (ks.length ≤ 3) = true := decide_eq_true (by omega)
    refine ⟨_, rfl, p, C, dx, _, _, rfl, hp4, T.cl, T.nK, flds_k _ _, tk, rfl, ⟨_, ht4⟩, fun D hD => ?_⟩
    refine lc_tup (K := K) (a := tk) (xs := ks.map V.str) (InvM _ D (fun k : Str => V.bl (decide (k ∈ KINDS))) ks) ⟨upd_same, same_new hD _⟩ (fun i H5 _ ⟨_, g⟩ => seqT g ht4) (fun i x H5 hx hv => ?_) ?_
    · obtain ⟨k, ek, rfl⟩ := at_map hx
      refine ⟨rfl, kept ?_⟩
      refine ⟨_, rfl, C, MC, _, _, rfl, T.cr, T.kd, KD, _, rfl, .inr (T.kdT _), rfl, flat_strs _, _, hv.1, len_m (by omega), ?_⟩
      have z := InvM.next (f := fun k : Str => V.bl (decide (k ∈ KINDS))) hD hv.2 ek _ rfl
      rw [show inV (.str k) (KINDS.map V.str) = decide (k ∈ KINDS) from inV_str k KINDS]
      exact z
    rintro H5 ⟨hd5, g5⟩
    rw [List.length_map, List.take_length] at hd5
    have kp5 := kp4.same g5
    have hp5 := g5 _ _ hp4
    refine ⟨D, ks.map (fun k : Str => decide (k ∈ KINDS)), rfl, SqL.of (by rw [hd5, List.map_map] <;> rfl), _, rfl, ?_⟩
    have eall : (ks.map (fun k : Str => decide (k ∈ KINDS))).all id = ks.all fun k => decide (k ∈ KINDS) := by rw [List.all_map] <;> rfl
    rw [eall]
    refine ite2 (fun c5 => ?_) (fun c5 => ?_)
    · refine qe _ ?_ kp5
      unfold valid
      rw [show (ks.all fun k => decide (k ∈ KINDS)) = false by simpa using c5, Bool.false_and, Bool.and_false]
    have e5 : (ks.all fun k => decide (k ∈ KINDS)) = true := by
      cases z : (ks.all fun k => decide (k ∈ KINDS)) with
      | true => rfl
      | false => exact absurd (by rw [z]; rfl) c5
    refine ⟨_, rfl, p, C, dx, _, _, rfl, hp5, T.cl, T.nA, flds_a _ _, _, rfl, p, C, dx, _, _, rfl, hp5, T.cl, T.nK, flds_k _ _, tk, _, rfl, .inr (seqT g5 ht4), ta, is, (ks.map V.str).length, rfl, seqT g5 ha4, hi, by rw [List.length_map]; exact hk, fun H6 g6 => ⟨_, rfl, ?_⟩⟩
    have kp6 := kp5.same g6
    have hp6 := g6 _ _ hp5
    rw [List.length_map]
    refine ite2 (fun c6 => ?_) (fun c6 => ?_)
    · refine qe _ ?_ kp6
      unfold valid
      rw [show axesOk is ks.length = false by simpa using c6, Bool.and_false, Bool.and_false]
    have e6 : axesOk is ks.length = true := by
      cases z : axesOk is ks.length with
      | true => rfl
      | false => exact absurd (by rw [z]; rfl) c6
    exact q _ tk ta (by unfold valid; rw [e3, e5, e6]; rfl) kp6 hp6 (seqT g6 (seqT g5 ht4)) (seqT g6 (seqT g5 ha4))
end
end Lw
namespace Lw
open PySem L2 TL
/-! cutting a text at a separator, and joining the parts -/
theorem spl_lens (S : List Nat) : ∀ (l : List Nat) (k : Nat) (acc : List Nat), (∀ p ∈ spl S k acc l, p.length ≤ acc.length + l.length) ∧ (spl S k acc l).length ≤ l.length + 1
  | [], k, acc => by
    rw [spl_nil]
    exact ⟨fun p hp => by rw [List.mem_singleton.mp hp]; exact Nat.le_add_right _ _, Nat.le_refl _⟩
  | c :: r, 0, acc => by
    cases h : pre S (c :: r) with
    | true =>
      rw [spl_hit h]
      obtain ⟨i1, i2⟩ := spl_lens S r (S.length - 1) []
      refine ⟨fun p hp => ?_, by rw [List.length_cons, List.length_cons]; omega⟩
      rcases List.mem_cons.mp hp with e | hp
      · rw [e]; exact Nat.le_add_right _ _
      · have z := i1 p hp
        rw [List.length_nil] at z
        rw [List.length_cons]
        omega
    | false =>
      rw [spl_miss h]
      obtain ⟨i1, i2⟩ := spl_lens S r 0 (acc ++ [c])
      refine ⟨fun p hp => ?_, by rw [List.length_cons]; omega⟩
      have z := i1 p hp
      rw [List.length_append, List.length_singleton] at z
      rw [List.length_cons]
      omega
  | c :: r, k + 1, acc => by
    obtain ⟨i1, i2⟩ := spl_lens S r k acc
    refine ⟨fun p hp => ?_, by rw [List.length_cons]; show (spl S k acc r).length ≤ _; omega⟩
    have z := i1 p hp
    rw [List.length_cons]
    omega
theorem spl_ne (S : List Nat) : ∀ (l : List Nat) (k : Nat) (acc : List Nat), spl S k acc l ≠ []
  | [], k, acc => by rw [spl_nil]; simp
  | c :: r, 0, acc => by
    cases h : pre S (c :: r) with
    | true => rw [spl_hit h]; simp
    | false => rw [spl_miss h]; exact spl_ne S r 0 _
  | c :: r, k + 1, acc => spl_ne S r k acc
theorem joinL_cons {S p : List Nat} : ∀ {l : List (List Nat)}, l ≠ [] → joinL S (p :: l) = p ++ (S ++ joinL S l)
  | [], h => absurd rfl h
  | q :: r, _ => rfl
theorem spl_back {S : List Nat} (hS : S ≠ []) : ∀ (n : Nat) (l : List Nat), l.length ≤ n → ∀ acc, joinL S (spl S 0 acc l) = acc ++ l
  | _, [], _, acc => by
    rw [spl_nil, List.append_nil] <;> rfl
  | 0, c :: r, h, acc => by simp at h
  | n + 1, c :: r, h, acc => by
    rw [List.length_cons] at h
    cases hp : pre S (c :: r) with
    | true =>
      rw [spl_hit hp, joinL_cons (spl_ne S r _ _), spl_pass, spl_back hS n _ (by rw [List.length_drop]; omega) [], List.nil_append]
      have e1 : (c :: r).take S.length = S := by
        unfold pre at hp
        exact eq_of_beq hp
      have e2 : (c :: r).drop S.length = r.drop (S.length - 1) := by
        cases S with
        | nil => exact absurd rfl hS
        | cons a S' => rfl
      rw [← e2]
      have e3 := List.take_append_drop S.length (c :: r)
      rw [e1] at e3
      rw [e3]
    | false =>
      rw [spl_miss hp, spl_back hS n r (by omega), List.append_assoc] <;> rfl
theorem split_back (z y : Str) (hy : tl y ≠ []) (hk : y.cps.all (· < 256) = true) : Txt.join y (Txt.split z y) = z := by
  refine ext_tl ?_
  rw [join_eq, tl_join, split_spl z y hy (kind_ok hk), spl_back hy _ _ (Nat.le_refl _), List.nil_append]
theorem split_lens (z y : Str) (hy : tl y ≠ []) (hk : y.cps.all (· < 256) = true) : (∀ p ∈ Txt.split z y, p.length ≤ z.length) ∧ (Txt.split z y).length ≤ z.length + 1 := by
  have e := split_spl z y hy (kind_ok hk)
  obtain ⟨i1, i2⟩ := spl_lens (tl y) (tl z) 0 []
  rw [← e] at i1 i2
  refine ⟨fun p hp => ?_, ?_⟩
  · have q := i1 (tl p) (List.mem_map_of_mem hp)
    rw [List.length_nil, Nat.zero_add] at q
    rw [len_tl, len_tl]
    exact q
  · rw [List.length_map] at i2
    rw [len_tl]
    exact i2
/-! forms as texts -/
def aval (a : Str) : Int := if a = "0" then 0 else if a = "1" then 1 else 2
/-- one level of a text -/
def lvl (p : Str) : Option (Str × Int) := match Txt.split p " " with
  | [k, a] => if a ∈ AWORDS then some (k, aval a) else none
  | _ => none
def lks (ps : List Str) : List Str := (ps.filterMap lvl).map (·.1)
def lis (ps : List Str) : List Int := (ps.filterMap lvl).map (·.2)
/-- what Form.read makes of a text -/
def rd (z : Str) : Option (List Str × List Int) :=
  if z = "-" then some ([], []) else if ((Txt.split z ", ").all fun p => (lvl p).isSome) = true ∧ valid (lks (Txt.split z ", ")) (lis (Txt.split z ", ")) = true then some (lks (Txt.split z ", "), lis (Txt.split z ", ")) else none
def itm (k : Str) (i : Int) : Str := Str.empty ++ k ++ " " ++ ((toString i : String) : Str)
def ftext (ks : List Str) (is : List Int) : Str := if ks.length = 0 then "-" else Txt.join ", " ((ks.zip is).map fun p => itm p.1 p.2)
theorem small_itm : ∀ k ∈ KINDS, ∀ i ∈ ([0, 1, 2] : List Int), (Str.empty ++ k).length ≤ 20 ∧ (Str.empty ++ k ++ " ").length ≤ 20 ∧ (itm k i).length ≤ 20 ∧ k.length ≤ 20 ∧ i.natAbs.log2 < 1920 := by decide +kernel
theorem axes_small {is : List Int} {n : Nat} (h : axesOk is n = true) (hn : n ≤ 3) : is.length = n ∧ ∀ i ∈ is, i ∈ ([0, 1, 2] : List Int) := by
  unfold axesOk at h
  rw [Bool.and_eq_true] at h
  obtain ⟨h1, h2⟩ := h
  have e1 : is.length = n := of_decide_eq_true h1
  refine ⟨e1, ?_⟩
  rw [List.all_eq_true] at h2
  have m : ∀ j, j < n → ((j : Nat) : Int) ∈ is := fun j hj => of_decide_eq_true (h2 j (List.mem_range.mpr hj))
  match n, is, e1, hn, m with
  | 0, [], _, _, _ => intro i hi; cases hi
  | 1, [a], _, _, m =>
    have m0 := m 0 (by omega)
    simp at m0
    intro i hi
    simp at hi
    simp [hi, ← m0]
  | 2, [a, b], _, _, m =>
    have m0 := m 0 (by omega)
    have m1 := m 1 (by omega)
    simp at m0 m1
    intro i hi
    simp at hi ⊢
    omega
  | 3, [a, b, c], _, _, m =>
    have m0 := m 0 (by omega)
    have m1 := m 1 (by omega)
    have m2 := m 2 (by omega)
    simp at m0 m1 m2
    intro i hi
    simp at hi ⊢
    omega
  | n + 4, _, _, hn, _ => omega
theorem valid_parts {ks : List Str} {is : List Int} (h : valid ks is = true) : ks.length ≤ 3 ∧ (∀ k ∈ ks, k ∈ KINDS) ∧ is.length = ks.length ∧ ∀ i ∈ is, i ∈ ([0, 1, 2] : List Int) := by
  unfold valid at h
  rw [Bool.and_eq_true, Bool.and_eq_true] at h
  obtain ⟨h1, h2, h3⟩ := h
  have e1 : ks.length ≤ 3 := of_decide_eq_true h1
  rw [List.all_eq_true] at h2
  obtain ⟨h4, h5⟩ := axes_small h3 e1
  exact ⟨e1, fun k hk => of_decide_eq_true (h2 k hk), h4, h5⟩
theorem sum_le : ∀ {ys : List Str}, (∀ y ∈ ys, y.length ≤ 20) → (ys.map (·.length)).sum ≤ 20 * ys.length
  | [], _ => by simp
  | y :: r, h => by
    have q := sum_le (ys := r) fun y hy => h y (List.mem_cons_of_mem _ hy)
    have z := h y (List.mem_cons_self ..)
    rw [List.map_cons, List.sum_cons, List.length_cons]
    omega
end Lw
namespace Lw
open PySem L2
/-- a form stands at p -/
def FormAt (K : PySem.W.Frag) (C p : Addr) (ks : List Str) (is : List Int) (H : Hp) : Prop := ∃ dx tk ta : Addr, H p = some (.ins C dx (flds tk ta)) ∧ SqT K H tk (ks.map V.str) ∧ SqT K H ta (is.map V.int)
theorem FormAt.same {K : PySem.W.Frag} {C p : Addr} {ks : List Str} {is : List Int} {H H' : Hp} (g : Same H H') : FormAt K C p ks is H → FormAt K C p ks is H'
  | ⟨dx, tk, ta, h1, h2, h3⟩ => ⟨dx, tk, ta, g _ _ h1, seqT g h2, seqT g h3⟩
def spText (K : PySem.W.Frag) (C : Addr) : Sp := fun vs H Q _ => ∃ (p : Addr) (ks : List Str) (is : List Int), vs = [.ref p] ∧ FormAt K C p ks is H ∧ valid ks is = true ∧ ∀ H' : Hp, Same H H' → Q (.str (ftext ks is)) H'
def spRead (K : PySem.W.Frag) (C BF : Addr) : Sp := fun vs H Q E => ∃ z : Str, vs = [.ref C, .str z] ∧ z.length ≤ 900 ∧ (∀ (ks : List Str) (is : List Int), rd z = some (ks, is) → ∀ (p : Addr) (H' : Hp), Same H H' → FormAt K C p ks is H' → Q (.ref p) H') ∧ (rd z = none → ∀ H' : Hp, Same H H' → E (.ref BF) none H')
section
variable {P : Program} {w : World} {K : PySem.W.Frag} {mg : Str → Option Value} {base : Heap} {C fI BF AW KD f : Addr} {MC : Value} {fd : FuncData}
theorem scX : FnScope ["self", "kind", "axis"] ["self"] (defScope sText) := ⟨rfl, rfl, rfl, by decide +kernel, rfl, by decide +kernel, by decide +kernel⟩
theorem ok_text (F : Fun K "text" "Form.text" sText f fd) (T : Fm K mg C fI BF AW KD MC) (B : Bt mg) : FnOk P w K mg base CX0 1 f fd ["self"] (spText K C) := by
  refine F.ok scX (fun vs H Q E h => ?_) (fun cdv A outer s H vs Q E hr h => ?_)
  · obtain ⟨p, ks, is, rfl, _⟩ := h
    rfl
  obtain ⟨p, ks, is, rfl, ⟨dx, tk, ta, hp, ht, ha⟩, hv, q⟩ := h
  obtain ⟨v1, v2, v3, v4⟩ := valid_parts hv
  refine ⟨_, pss_cons (ps_if (pt_cmpR op_eq (pe_callB call_len_seq (by rfl) B.len PySem.boot_len (pa_cons (pe_fld (pv 0) rfl) pa_nil)) pe_int (nomark _)) (pss_one (ps_ret pe_str)) pss_nil)
    (pss_one (ps_ret (pe_join pe_str (pe_lc (own := [("kind", 1), ("axis", 2)]) (g := gTup K 2 (gCons (gName 1) (gCons (gName 2) gNil))) (tt := tYes) rfl scX.nd (RZ.pi_zipA (by rfl) B.zip (pa_cons (pe_fld (pv 0) rfl) (pa_cons (pe_fld (pv 0) rfl) pa_nil))) (blkOk_by (N := ["self", "kind", "axis"]) (sc := defScope sText) (by decide +kernel))
      (fun _ _ _ _ _ => pg_tup rfl (pgs_cons (pg_name (i := 1) scX.nd rfl (Or.inl rfl)) (pgs_cons (pg_name (i := 2) scX.nd rfl (Or.inl rfl)) pgs_nil))) (fun _ _ _ _ _ => pts_nil)
      (fun _ _ _ _ _ => pe_joined (.cons (pe_fmt (pv 1)) (.cons pe_str (.cons (pe_fmt (pv 2)) .nil)))))))), ?_⟩
  refine ⟨_, rfl, p, C, dx, _, _, rfl, hp, T.cl, T.nK, flds_k _ _, tk, _, rfl, .inr ht, rfl, _, rfl, ?_⟩
  refine ite2 (fun c => ?_) (fun c => ?_)
  · have e : ks.length = 0 := by
      have z := of_decide_eq_true c
      rw [List.length_map] at z
      simpa using z
    have z := q H (Same.refl H)
    unfold ftext at z
    rw [if_pos e] at z
    exact z
  · have e : ¬ ks.length = 0 := fun e => c (by rw [List.length_map, e]; rfl)
    refine ⟨⟨_, rfl⟩, _, rfl, p, C, dx, _, _, rfl, hp, T.cl, T.nK, flds_k _ _, _, rfl, p, C, dx, _, _, rfl, hp, T.cl, T.nA, flds_a _ _, tk, ta, _, _, rfl, .inr ⟨ht, ha, fun D hD => ?_⟩⟩
    have elen : (ks.map V.str).length = (is.map V.int).length := by rw [List.length_map, List.length_map, v3]
    refine lc_it (te := fun σ H Q => tJs [tFmt (tVar 1), tC (.str " "), tFmt (tVar 2)] Str.empty σ H fun out H1 => Q (.str out) H1) (walk_zipT (K := K) (a := tk) (b := ta) elen) (InvM H D (fun p : Str × Int => V.str (itm p.1 p.2)) (ks.zip is)) ⟨upd_same, same_new hD _⟩ (fun i H' _ ⟨_, g⟩ => ⟨seqT g ht, seqT g ha⟩) ?_ ?_
    · rintro i v H' H'' hi ⟨hd, g⟩ ⟨U, x, y, rfl, hU, rfl, ex, ey⟩
      obtain ⟨k, ek, rfl⟩ := at_map ex
      obtain ⟨j, ej, rfl⟩ := at_map ey
      obtain ⟨l1, l2, l3, l4, l5⟩ := small_itm k (v2 k (List.mem_of_getElem? ek)) j (v4 j (List.mem_of_getElem? ej))
      have gU : Same H' (upd H' U (.tup [.str k, .int j])) := same_new hU _
      have sz : ∀ {n : Nat}, n ≤ 20 → n ≤ sizeLine := fun h => Nat.le_of_lt (small1000 (by omega))
      refine ⟨U, [.str k, .int j], rfl, SqT.of upd_same, rfl, _, _, rfl, _, _, rfl, rfl, ?_⟩
      refine ⟨rfl, kept ?_⟩
      refine ⟨_, rfl, .inl ⟨k, rfl, sz l4, k, rfl, sz l1, " ", rfl, sz l2, _, rfl, .inr ⟨j, rfl, l5, _, rfl, sz l3, ?_⟩⟩⟩
      have ez : (ks.zip is)[i]? = some (k, j) := List.getElem?_zip_eq_some.mpr ⟨ek, ej⟩
      exact ⟨_, gU _ _ hd, len_m (by rw [List.length_zip]; omega), InvM.next (f := fun p : Str × Int => V.str (itm p.1 p.2)) hD (g.trans gU) ez _ rfl⟩
    · rintro H' ⟨hd, g⟩
      have el : ((ks.zip is).take (ks.map V.str).length) = ks.zip is := List.take_of_length_le (by rw [List.length_zip, List.length_map]; omega)
      rw [el] at hd
      refine ⟨_, D, (ks.zip is).map (fun p => itm p.1 p.2), rfl, rfl, .inl (SqL.of (by rw [hd, List.map_map] <;> rfl)), ?_, ?_⟩
      · have z := sum_le (ys := (ks.zip is).map (fun p => itm p.1 p.2)) fun y hy => by
          obtain ⟨⟨k, j⟩, hm, rfl⟩ := List.mem_map.mp hy
          obtain ⟨m1, m2⟩ := List.of_mem_zip hm
          exact (small_itm k (v2 k m1) j (v4 j m2)).2.2.1
        have z2 : ((ks.zip is).map (fun p => itm p.1 p.2)).length ≤ 3 := by rw [List.length_map, List.length_zip]; omega
        have z3 : ((ks.zip is).map (fun p => itm p.1 p.2)).length * Str.length ", " ≤ 3 * 2 := Nat.mul_le_mul z2 (by decide)
        omega
      · have z := q H' g
        unfold ftext at z
        rw [if_neg e] at z
        exact z
end
end Lw
namespace Lw
open PySem L2
theorem fnR_of {P : Program} {w : World} {K : PySem.W.Frag} {mg : Str → Option Value} {base : Heap} {CX : CXT} {k : Nat} {f : Addr} {fd : FuncData} {ps : List Str} {sp : Sp} (F : FnOk P w K mg base CX k f fd ps sp) (hb : Binds K fd ps []) : FnR P w K mg base CX k f sp := by
  intro A outer s H us vs Q E hr e0 r hsp
  have KX : K.In s.heap := e0.mod.kin.keeps fun b o e => (e0.bs b o e).1
  have hl : us.length = ps.length := by rw [← r.length]; exact F.len _ _ _ _ hsp
  have hb2 := hb s us KX (by rw [List.append_nil]; exact hl)
  rw [List.append_nil] at hb2
  exact F.run A outer s H ⟨us, []⟩ us vs Q E hr e0 hb2 r hsp
theorem lvl_two {p k a : Str} (h : Txt.split p " " = [k, a]) : lvl p = if a ∈ AWORDS then some (k, aval a) else none := by
  unfold lvl
  rw [h]
theorem lvl_not {p : Str} (h : (Txt.split p " ").length ≠ 2) : lvl p = none := by
  unfold lvl
  split
  · rename_i k a e
    rw [e] at h
    exact absurd rfl h
  · rfl
theorem int_word {a : Str} (h : a ∈ AWORDS) : PySem.intText? a = some (aval a) ∧ a.length ≤ 640 := by
  have z : ∀ a ∈ AWORDS, PySem.intText? a = some (aval a) ∧ a.length ≤ 640 := by decide +kernel
  exact z a h
theorem rd_none {z p : Str} (hz : z ≠ "-") (hp : p ∈ Txt.split z ", ") (h : lvl p = none) : rd z = none := by
  unfold rd
  rw [if_neg hz, if_neg]
  rintro ⟨h1, _⟩
  rw [List.all_eq_true] at h1
  have q := h1 p hp
  rw [h] at q
  cases q
section
variable {P : Program} {w : World} {K : PySem.W.Frag} {mg : Str → Option Value} {base : Heap} {C fI BF AW KD f : Addr} {MC : Value} {fd : FuncData}
abbrev namesR : List Str := ["cls", "text", "kinds", "axes", "level", "words"]
theorem scR : FnScope namesR ["cls", "text"] (defScope sRead) := ⟨rfl, rfl, rfl, by decide +kernel, rfl, by decide +kernel, by decide +kernel⟩
/-- between the turns -/
def InvR (K : PySem.W.Frag) (H0 : Hp) (C L k a : Addr) (z : Str) (i : Nat) (σ : St) (H : Hp) : Prop := ∃ u4 u5 : Option V, σ = [some (.ref C), some (.str z), some (.ref k), some (.ref a), u4, u5] ∧ Same H0 H ∧ H L = some (.lst ((Txt.split z ", ").map V.str)) ∧
  H k = some (.lst ((lks ((Txt.split z ", ").take i)).map V.str)) ∧ H a = some (.lst ((lis ((Txt.split z ", ").take i)).map V.int)) ∧ (∀ p ∈ (Txt.split z ", ").take i, (lvl p).isSome = true) ∧ (lks ((Txt.split z ", ").take i)).length ≤ i ∧ (lis ((Txt.split z ", ").take i)).length ≤ i
/-- Form(..): from the promise of its __init__ to the new form -/
theorem mk_form {H : Hp} {Q : VK} {E : XK} {ks : List Str} {is : List Int} {kv : V} (hk : ks.length ≤ 1000) (hi : is.length ≤ 1000) (hkv : (kv = .non ∧ is = iota ks.length) ∨ ∃ a, kv = .ref a ∧ (SqL K H a (is.map V.int) ∨ SqT K H a (is.map V.int)))
    (h1 : valid ks is = true → ∀ (p : Addr) (H' : Hp), Same H H' → FormAt K C p ks is H' → Q (.ref p) H') (h2 : valid ks is = false → ∀ H' : Hp, Same H H' → E (.ref BF) none H') : mkF C (spInit K C BF) E (ks.map V.str) kv H Q := by
  intro x dx nx ndx ne
  have g : Same H (upd (upd H dx (.own x)) x (.ins C dx [])) := fun b o e => by rw [upd_ne (ne_of_none e nx), upd_ne (ne_of_none e ndx)]; exact e
  have sm : ∀ {H' : Hp}, Kp x (upd (upd H dx (.own x)) x (.ins C dx [])) H' → Same H H' := fun kp b o e => kp b o (ne_of_none e nx) (g _ _ e)
  refine ⟨x, dx, ks, is, rfl, rfl, upd_same, hk, hi, ?_, fun H' tk ta hv kp hp ht ha => ⟨rfl, h1 hv x H' (sm kp) ⟨dx, tk, ta, hp, ht, ha⟩⟩, fun H' hv kp => h2 hv H' (sm kp)⟩
  rcases hkv with z | ⟨a, e, z⟩
  · exact .inl z
  · exact .inr ⟨a, e, z.imp (fun q => g.seq q) (fun q => seqT g q)⟩
theorem ok_read (F : Fun K "read" "Form.read" sRead f fd) (T : Fm K mg C fI BF AW KD MC) (B : Bt mg) (FI : FnF P w K mg base (L2.CX P w) 3 fI "axes" .non (spInit K C BF)) : FnOk P w K mg base (L2.CX P w) 5 f fd ["cls", "text"] (spRead K C BF) := by
  refine F.okX scR (fun vs H Q E h => ?_) (fun cdv A outer s H vs Q E hr h => ?_)
  · obtain ⟨z, rfl, _⟩ := h
    rfl
  obtain ⟨z, rfl, hz, q, qe⟩ := h
  obtain ⟨pl, pn⟩ := split_lens z ", " (by decide +kernel) (by decide +kernel)
  refine ⟨_, pss_cons (ps_if (pt_cmpR op_eq (pv 1) pe_str (nomark _)) (pss_one (ps_ret (pe_F0 T.mkC FI hr (by rfl) T.mC (passes_call (takes_of rfl rfl rfl rfl) (fun _ _ _ _ h => h))))) pss_nil)
    (pss_cons (ps_set (i := 2) scR.nd rfl (Or.inl rfl) (pe_lst pa_nil))
    (pss_cons (ps_set (i := 3) scR.nd rfl (Or.inl rfl) (pe_lst pa_nil))
    (pss_cons (ps_for (passes_of rfl) rfl (pi_list (pe_split (pv 1) pe_str)) (pg_name (i := 4) scR.nd rfl (Or.inl rfl))
      (pss_cons (ps_set (i := 5) scR.nd rfl (Or.inl rfl) (pe_split (pv 4) pe_str))
      (pss_cons (ps_if (PW.pt (pw_or (pt_cmpR op_ne (pe_callB call_len_seq (by rfl) B.len PySem.boot_len (pa_cons (pv 5) pa_nil)) pe_int (nomark _)) (pw_or1 (pt_cmpR op_notIn_seq (pe_ix ix_list (pv 5) pe_int (fun _ _ => rfl)) (pe_glob (v := .ref AW) (by rfl) T.mAW rfl) (by rfl)))))
        (pss_one (ps_raise rfl (takes_of rfl rfl rfl rfl) (pmk_own0 PySem.F.excBase_ValueError T.xB T.mB T.kB (raises_own T.rB T.tB) (by rfl)))) pss_nil)
      (pss_cons (ps_expr (pe_bm PySem.F.plainAttrs_list PySem.F.slot_list_append PySem.F.type_list_append mt_append (pv 2) (pa_cons (pe_ix ix_list (pv 5) pe_int (fun _ _ => rfl)) pa_nil)))
      (pss_one (ps_expr (pe_bm PySem.F.plainAttrs_list PySem.F.slot_list_append PySem.F.type_list_append mt_append (pv 3) (pa_cons (pe_callTy call_int_str (by rfl) B.int (by decide +kernel) (pa_cons (pe_ix ix_list (pv 5) pe_int (fun _ _ => rfl)) pa_nil)) pa_nil))))))))
    (pss_one (ps_ret (pe_Fsk T.mkC FI hr (by rfl) T.mC (passes_call (takes_of rfl rfl rfl rfl) (fun _ _ _ _ h => h)) (pv 2) (pv 3))))))), ?_⟩
  refine ⟨_, rfl, rfl, _, rfl, ?_⟩
  refine ite2 (fun c => ?_) (fun c => ?_)
  · have ez : z = "-" := by
      have y := of_decide_eq_true c
      cases y
      rfl
    have er : rd z = some ([], []) := by
      unfold rd
      rw [if_pos ez]
    exact mk_form (ks := []) (is := []) (Nat.zero_le _) (Nat.zero_le _) (.inl ⟨rfl, rfl⟩) (fun _ p H' g h => q _ _ er p H' g h) (fun hv => by cases hv)
  · have nz : z ≠ "-" := fun e => c (by rw [e]; exact decide_eq_true rfl)
    refine ⟨Nat.zero_le _, fun k hk0 => ⟨Nat.zero_le _, fun a ha0 => ?_⟩⟩
    have gk := same_new hk0 (.lst [])
    have ga := same_new ha0 (.lst [])
    have hkH : H k = none := hk0
    have haH : H a = none := gk.free ha0
    have sz : ∀ {n : Nat}, n ≤ 1010 → n ≤ sizeLine := fun h => Nat.le_trans h (by decide)
    refine ⟨_, rfl, ⟨_, rfl⟩, _, _, rfl, rfl, rfl, sz (by omega), fun L hL => ?_⟩
    have gL := same_new hL (.lst ((Txt.split z ", ").map V.str))
    have hLH : H L = none := gk.free (ga.free hL)
    have k0 := gL _ _ (ga _ _ (upd_same (H := H) (a := k) (o := .lst [])))
    have a0 := gL _ _ (upd_same (H := upd H k (.lst [])) (a := a) (o := .lst []))
    have nak : a ≠ k := (ne_of_none (upd_same (H := H) (a := k) (o := .lst [])) ha0).symm
    have nLk : L ≠ k := (ne_of_none (ga _ _ (upd_same (H := H) (a := k) (o := .lst []))) hL).symm
    have nLa : L ≠ a := (ne_of_none (upd_same (H := upd H k (.lst [])) (a := a) (o := .lst [])) hL).symm
    refine ⟨L, rfl, ⟨_, SqL.of upd_same⟩, for_list (K := K) (a := L) (xs := (Txt.split z ", ").map V.str) (InvR K H C L k a z)
      ⟨none, none, rfl, gk.trans (ga.trans gL), upd_same, k0, a0, fun p hp => by simp at hp, Nat.le_refl _, Nat.le_refl _⟩ (fun i σ H' _ ⟨_, _, _, _, hl, _⟩ => SqL.of hl) ?_ ?_⟩
    · rintro i y σ H' hi ⟨u4, u5, rfl, g, hl, hk, ha, hp, n1, n2⟩
      obtain ⟨p, ep, rfl⟩ := at_map hi
      have hi2 : i < (Txt.split z ", ").length := (List.getElem?_eq_some_iff.mp ep).1
      have hpm : p ∈ Txt.split z ", " := List.mem_of_getElem? ep
      have plen := pl p hpm
      have gW : ∀ {W : Addr}, H' W = none → Same H' (upd H' W (.lst ((Txt.split p " ").map V.str))) := fun h => same_new h _
      refine ⟨_, rfl, ⟨_, rfl⟩, _, _, rfl, rfl, rfl, sz (by omega), fun W hW => ?_⟩
      refine ⟨_, rfl, W, _, rfl, .inl (SqL.of upd_same), rfl, _, rfl, ?_⟩
      by_cases hl2 : (Txt.split p " ").length = 2
      · refine iteN (by rw [List.length_map, hl2]; rfl) ?_
        obtain ⟨kw, aw, ew⟩ : ∃ kw aw, Txt.split p " " = [kw, aw] := by
          match hh : Txt.split p " ", hl2 with
          | [x, y], _ => exact ⟨x, y, rfl⟩
        have eW : upd H' W (.lst ((Txt.split p " ").map V.str)) W = some (.lst [.str kw, .str aw]) := by rw [upd_same, ew] <;> rfl
        refine ⟨_, rfl, W, _, _, _, rfl, rfl, SqL.of eW, rfl, AW, _, rfl, .inr (T.awT _), rfl, flat_strs _, _, rfl, ?_⟩
        rw [show inV (.str aw) (AWORDS.map V.str) = decide (aw ∈ AWORDS) from inV_str aw AWORDS]
        by_cases haw : aw ∈ AWORDS
        · have ev : lvl p = some (kw, aval aw) := by rw [lvl_two ew, if_pos haw]
          obtain ⟨w1, w2⟩ := int_word haw
          refine iteN (by rw [decide_eq_true haw]; rfl) ?_
          have et : (Txt.split z ", ").take (i + 1) = (Txt.split z ", ").take i ++ [p] := by rw [List.take_succ, ep]; rfl
          have ek : lks ((Txt.split z ", ").take (i + 1)) = lks ((Txt.split z ", ").take i) ++ [kw] := by
            unfold lks
            rw [et, List.filterMap_append, List.map_append]
            show _ ++ (List.filterMap lvl [p]).map _ = _
            rw [List.filterMap_cons_some ev] <;> rfl
          have ei : lis ((Txt.split z ", ").take (i + 1)) = lis ((Txt.split z ", ").take i) ++ [aval aw] := by
            unfold lis
            rw [et, List.filterMap_append, List.map_append]
            show _ ++ (List.filterMap lvl [p]).map _ = _
            rw [List.filterMap_cons_some ev] <;> rfl
          have nWk : W ≠ k := (ne_of_none hk hW).symm
          have nWa : W ≠ a := (ne_of_none ha hW).symm
          have hk2 := gW hW _ _ hk
          have ha2 := gW hW _ _ ha
          refine ⟨_, rfl, .inl ⟨rfl, _, SqL.of hk2⟩, _, rfl, W, _, _, _, rfl, rfl, SqL.of eW, rfl, k, _, _, rfl, rfl, hk2, by rw [List.length_map]; exact small1000 (by omega), ?_⟩
          have ha3 := (upd_ne (o := .lst ((lks ((Txt.split z ", ").take i)).map V.str ++ [.str kw])) nak).trans ha2
          have eW3 := (upd_ne (o := .lst ((lks ((Txt.split z ", ").take i)).map V.str ++ [.str kw])) nWk).trans eW
          refine ⟨_, rfl, .inl ⟨rfl, _, SqL.of ha3⟩, _, rfl, W, _, _, _, rfl, rfl, SqL.of eW3, rfl, aw, _, rfl, w1, w2, a, _, _, rfl, rfl, ha3, by rw [List.length_map]; exact small1000 (by omega), ?_⟩
          refine ⟨_, _, rfl, same_over (same_over (g.trans (gW hW)) hkH _) haH _, ?_, ?_, ?_, fun q' hq' => ?_, by rw [ek, List.length_append, List.length_singleton]; omega, by rw [ei, List.length_append, List.length_singleton]; omega⟩
          · rw [upd_ne nLa, upd_ne nLk]
            exact gW hW _ _ hl
          · rw [upd_ne nak.symm, upd_same, ek, List.map_append] <;> rfl
          · rw [upd_same, ei, List.map_append] <;> rfl
          · rw [et] at hq'
            rcases List.mem_append.mp hq' with h | h
            · exact hp q' h
            · rw [List.mem_singleton.mp h, ev] <;> rfl
        · refine iteC (by rw [decide_eq_false haw]; rfl) ?_
          exact qe (rd_none nz hpm (by rw [lvl_two ew, if_neg haw])) _ (g.trans (gW hW))
      · refine iteC (by rw [List.length_map]; exact by rw [decide_eq_false (fun e => hl2 (by injection e with e; omega))]; rfl) ?_
        refine iteC rfl ?_
        exact qe (rd_none nz hpm (lvl_not hl2)) _ (g.trans (gW hW))
    · rintro σ H' ⟨u4, u5, rfl, g, hl, hk, ha, hp, n1, n2⟩
      rw [List.length_map] at hk ha hp n1 n2
      rw [List.take_length] at hk ha hp n1 n2
      have hall : ((Txt.split z ", ").all fun p => (lvl p).isSome) = true := by
        rw [List.all_eq_true]
        exact hp
      refine ⟨_, rfl, _, rfl, k, _, rfl, .inr (SqL.of hk), sz (by rw [List.length_map]; omega), ?_⟩
      refine mk_form (ks := lks (Txt.split z ", ")) (is := lis (Txt.split z ", ")) ?_ ?_ (.inr ⟨a, rfl, .inl (SqL.of ha)⟩) (fun hv p H2 g2 h2 => q _ _ ?_ p H2 (g.trans g2) h2) (fun hv H2 g2 => qe ?_ H2 (g.trans g2))
      · omega
      · omega
      · unfold rd
        rw [if_neg nz, if_pos ⟨hall, hv⟩]
      · unfold rd
        rw [if_neg nz, if_neg (fun z => by rw [z.2] at hv; cases hv)]
end
end Lw
namespace Lw
open PySem L2
abbrev sMixed : Stmt := topS 15
abbrev sForm : Stmt := topS 17
abbrev sFtext : Stmt := topS 18
theorem SX.upd_out {st q D : Addr} {H H' : Hp} {o : HO} (g : SX st q H H') (n : H D = none) : SX st q H (upd H' D o) := fun b u h1 h2 e => by rw [upd_ne (ne_of_none e n)]; exact g b u h1 h2 e
theorem Spr.upd {st q D : Addr} {H : Hp} {b : Int} {o : HO} (s : Spr H st q b) (n1 : D ≠ st) (n2 : D ≠ q) : Spr (upd H D o) st q b := by
  obtain ⟨ns, a, c, h1, h2, r⟩ := s
  exact ⟨ns, a, c, by rw [upd_ne n1.symm]; exact h1, by rw [upd_ne n2.symm]; exact h2, r⟩
theorem Spr.out {st q D : Addr} {H : Hp} {b : Int} (s : Spr H st q b) (n : H D = none) : D ≠ st ∧ D ≠ q := by
  obtain ⟨ns, a, c, h1, h2, _⟩ := s
  exact ⟨(ne_of_none h1 n).symm, (ne_of_none h2 n).symm⟩
section
variable {P : Program} {w : World} {K : PySem.W.Frag} {mg : Str → Option Value} {base : Heap} {f g : Addr} {fd gd : FuncData}
def spMixed : Sp := fun vs H Q _ => ∃ (st q p : Addr) (b : Int) (is : List Int), vs = [.ref st, .ref p] ∧ Spr H st q b ∧ 0 ≤ b ∧ b ≤ 900 ∧ H p = some (.lst (is.map V.int)) ∧ is.length ≤ 10 ∧
  ∀ (r : Addr) (os : List Int) (H' : Hp), os.Perm is → Spr H' st q (b + is.length) → SX st q H H' → H' r = some (.lst (os.map V.int)) → H r = none → Q (.ref r) H'
abbrev namesM : List Str := ["_law_stream", "_law_some", "_law_left", "_law_k"]
theorem scM : FnScope namesM ["_law_stream", "_law_some"] (defScope sMixed) := ⟨rfl, rfl, rfl, by decide +kernel, rfl, by decide +kernel, by decide +kernel⟩
def InvMx (H0 : Hp) (st q L D : Addr) (b : Int) (is : List Int) (i : Nat) (H : Hp) : Prop := ∃ acc ls : List Int, H D = some (.lst (acc.map V.int)) ∧ H L = some (.lst (ls.map V.int)) ∧ acc.length = i ∧ ls.length + i = is.length ∧ (acc ++ ls).Perm is ∧ Spr H st q (b + i) ∧ SX st q H0 H
theorem er_perm {α : Type} : ∀ (l : List α) (k : Nat) (h : k < l.length), (l[k] :: l.eraseIdx k).Perm l
  | a :: r, 0, _ => List.Perm.refl _
  | a :: r, k + 1, h => (List.Perm.swap _ _ _).trans (List.Perm.cons a (er_perm r k (Nat.lt_of_succ_lt_succ h)))
theorem er_map {α β : Type} (f : α → β) : ∀ (l : List α) (k : Nat), (l.map f).eraseIdx k = (l.eraseIdx k).map f
  | [], _ => rfl
  | a :: r, 0 => rfl
  | a :: r, k + 1 => congrArg (f a :: ·) (er_map f r k)
theorem pop_at {ls : List Int} {r : Int} (h0 : 0 ≤ r) (h1 : r < (ls.length : Int)) : ∃ (k : Nat) (n : Int), seqIndex? r (ls.map V.int).length = some k ∧ (ls.map V.int)[k]? = some (.int n) ∧ (ls.map V.int).eraseIdx k = (ls.eraseIdx k).map V.int ∧ (n :: ls.eraseIdx k).Perm ls ∧ (ls.eraseIdx k).length + 1 = ls.length := by
  have hk : r.toNat < ls.length := by omega
  refine ⟨r.toNat, ls[r.toNat], ?_, by rw [List.getElem?_map, List.getElem?_eq_getElem hk] <;> rfl, ?_, er_perm ls _ hk, by rw [List.length_eraseIdx_of_lt hk]; omega⟩
  · refine (ixN_seq (n := (ls.map V.int).length) (i := r) (j := r.toNat) ?_).1
    unfold ixN
    rw [if_pos h0, if_pos (by rw [List.length_map]; exact h1)]
  · rw [er_map]
theorem ok_mixed (F : Fun K "_law_mixed" "_law_mixed" sMixed f fd) (G : FnOk P w K mg base CX0 1 g gd ["_law_stream", "_law_many"] spDraw) (bG : Binds K gd ["_law_stream", "_law_many"] []) (kG : PySem.W.keepIn K (.ref g) = true) (mG : mg "_law_draw" = some (.ref g)) (B : Bt mg) :
    FnOk P w K mg base CX0 2 f fd ["_law_stream", "_law_some"] spMixed := by
  refine F.ok scM (fun vs H Q E h => ?_) (fun cdv A outer s H vs Q E hr h => ?_)
  · obtain ⟨st, q, p, b, is, rfl, _⟩ := h
    rfl
  obtain ⟨st, q, p, b, is, rfl, hs, hb0, hb1, hp, hl, k⟩ := h
  refine ⟨_, pss_cons (ps_set (i := 2) scM.nd rfl (Or.inr rfl) (pe_callTy call_list_of (by rfl) B.lst (by decide +kernel) (pa_cons (pv 1) pa_nil)))
    (pss_one (ps_ret (pe_lc (own := [("_law_k", 3)]) (g := gName 3) (tt := tYes) (te := tBM K "list" rPopAt (tVar 2) (tCons (tCall spDraw [] E0 (tCons (tVar 0) (tCons (tCB (fun xs H Q => ∃ p ys, xs = [.ref p] ∧ (SqL K H p ys ∨ SqT K H p ys) ∧ Q (.int ys.length) H) (tCons (tVar 2) tNil)) tNil))) tNil)) rfl scM.nd (pi_range1 (by rfl) B.range (pa_cons (pe_callB call_len_seq (by rfl) B.len PySem.boot_len (pa_cons (pv 2) pa_nil)) pa_nil)) (blkOk_by (N := namesM) (sc := defScope sMixed) (by decide +kernel))
      (fun _ _ _ _ _ => pg_name (i := 3) scM.nd rfl (Or.inl rfl)) (fun _ _ _ _ _ => pts_nil)
      (fun _ _ _ _ _ => pe_bm PySem.F.plainAttrs_list PySem.F.slot_list_pop PySem.F.type_list_pop mt_popAt (pv 2) (pa_cons (pe_call G hr rfl mG kG bG .nil pass0 (pa_cons (pv 0) (pa_cons (pe_callB call_len_seq (by rfl) B.len PySem.boot_len (pa_cons (pv 2) pa_nil)) pa_nil))) pa_nil))))), ?_⟩
  refine ⟨_, rfl, p, _, rfl, .inl (SqL.of hp), fun L hL => ?_⟩
  have gL := same_new hL (.lst (is.map V.int))
  obtain ⟨nL1, nL2⟩ := hs.out hL
  have hsL := hs.same gL
  refine ⟨_, rfl, L, _, rfl, .inl (SqL.of upd_same), _, rfl, by rw [List.length_map]; omega, by rw [List.length_map]; omega, fun D hD => ?_⟩
  obtain ⟨nD1, nD2⟩ := hsL.out hD
  have nDL : D ≠ L := (ne_of_none (upd_same (H := H) (a := L) (o := .lst (is.map V.int))) hD).symm
  have hD0 : H D = none := gL.free hD
  have gD := same_new hD (.lst [])
  have elm : (is.map V.int).length = is.length := List.length_map _
  refine lc_range (lo := 0) (n := (is.map V.int).length) (InvMx H st q L D b is) ⟨[], is, upd_same, gD _ _ upd_same, rfl, rfl, List.Perm.refl _, ?_, .of (gL.trans gD)⟩ ?_ ?_
  · rw [show b + ((0 : Nat) : Int) = b from Int.add_zero b]
    exact hsL.same gD
  · rintro i H2 hi ⟨acc, ls, hd, hl2, ha, hn, hp2, hs2, gx⟩
    have hlen : (((ls.map V.int).length : Nat) : Int) = (ls.length : Int) := by rw [List.length_map]
    refine ⟨rfl, kept ?_⟩
    refine ⟨_, rfl, .inl ⟨rfl, _, SqL.of hl2⟩, _, rfl, _, rfl, L, _, rfl, .inl (SqL.of hl2), st, q, b + i, _, rfl, hs2, by omega, by omega, by rw [hlen]; omega, by rw [hlen]; omega, fun r H3 r0 r1 hs3 g3 => ?_⟩
    have hd3 := g3 _ _ nD1 nD2 hd
    have hl3 := g3 _ _ nL1 nL2 hl2
    obtain ⟨j, n, e1, e2, e3, e4, e5⟩ := pop_at r0 (by rw [hlen] at r1; exact r1)
    refine ⟨L, _, r, j, _, rfl, rfl, hl3, by omega, by rw [hlen] at r1; omega, e1, e2, ?_⟩
    have hd4 := (upd_ne (o := .lst ((ls.map V.int).eraseIdx j)) nDL).trans hd3
    refine ⟨_, hd4, by rw [List.length_map]; exact small1000 (by omega), acc ++ [n], ls.eraseIdx j, by rw [upd_same, List.map_append] <;> rfl, by rw [upd_ne nDL.symm, upd_same, e3], by rw [List.length_append, ha] <;> rfl, by omega, ?_, ?_, ?_⟩
    · rw [List.append_assoc]
      exact (List.Perm.append_left acc e4).trans hp2
    · have e6 : b + (i : Int) + 1 = b + ((i + 1 : Nat) : Int) := by omega
      rw [← e6]
      exact (hs3.upd nL1 nL2).upd nD1 nD2
    · exact ((gx.trans g3).upd_out hL).upd_out hD0
  · rintro H2 ⟨acc, ls, hd, hl2, ha, hn, hp2, hs2, gx⟩
    rw [elm] at hs2
    have els : ls = [] := List.length_eq_zero_iff.mp (by omega)
    subst els
    rw [List.append_nil] at hp2
    exact k D acc H2 hp2 hs2 gx hd hD0
end
end Lw
namespace Lw
open PySem L2 TL
/-- a form's levels as pairs -/
def Tups (K : PySem.W.Frag) (H : Hp) (vs : List V) (l : List (Str × Int)) : Prop := vs.length = l.length ∧ ∀ (i : Nat) (v : V) (p : Str × Int), vs[i]? = some v → l[i]? = some p → ∃ a, v = .ref a ∧ SqT K H a [.str p.1, .int p.2]
theorem Tups.mono {K : PySem.W.Frag} {H H' : Hp} {vs : List V} {l : List (Str × Int)} (g : TK K H H') (h : Tups K H vs l) : Tups K H' vs l :=
  ⟨h.1, fun i v p e1 e2 => by obtain ⟨a, r, z⟩ := h.2 i v p e1 e2; exact ⟨a, r, g _ _ z⟩⟩
def Good (l : List (Str × Int)) (n : Nat) : Prop := l.length = n ∧ (∀ p ∈ l, p.1 ∈ KINDS) ∧ (l.map (·.2)).Perm (iota n)
def K5 : List Str := ["dense", "packed", "bits", "hashed", "packed"]
theorem k5_kinds : ∀ k ∈ K5, k ∈ KINDS := by decide +kernel
section
variable {P : Program} {w : World} {K : PySem.W.Frag} {mg : Str → Option Value} {base : Heap} {f g g2 : Addr} {fd gd gd2 : FuncData}
def spForm (K : PySem.W.Frag) : Sp := fun vs H Q _ => ∃ (st q : Addr) (b : Int) (n : Nat), vs = [.ref st, .int (n : Int)] ∧ Spr H st q b ∧ 0 ≤ b ∧ b ≤ 800 ∧ n ≤ 3 ∧
  ∀ (t : Addr) (us : List V) (l : List (Str × Int)) (b' : Int) (H' : Hp), Good l n → SqT K H' t us → Tups K H' us l → b ≤ b' → b' ≤ b + 6 → Spr H' st q b' → SX st q H H' → Q (.ref t) H'
abbrev namesFo : List Str := ["_law_stream", "_law_rank", "_law_sides", "_law_axis"]
theorem scFo : FnScope namesFo ["_law_stream", "_law_rank"] (defScope sForm) := ⟨rfl, rfl, rfl, by decide +kernel, rfl, by decide +kernel, by decide +kernel⟩
def InvFo (K : PySem.W.Frag) (H0 : Hp) (st q r D : Addr) (b : Int) (os : List Int) (i : Nat) (H : Hp) : Prop := ∃ (acc : List V) (l : List (Str × Int)), H D = some (.lst acc) ∧ H r = some (.lst (os.map V.int)) ∧ acc.length = i ∧ l.map (·.2) = os.take i ∧ (∀ p ∈ l, p.1 ∈ KINDS) ∧ Tups K H acc l ∧ Spr H st q (b + i) ∧ SX st q H0 H
theorem ok_form (F : Fun K "_law_form" "_law_form" sForm f fd) (GM : FnOk P w K mg base CX0 2 g gd ["_law_stream", "_law_some"] spMixed) (bM : Binds K gd ["_law_stream", "_law_some"] []) (kM : PySem.W.keepIn K (.ref g) = true) (mM : mg "_law_mixed" = some (.ref g))
    (GP : FnOk P w K mg base CX0 2 g2 gd2 ["_law_stream", "_law_some"] (spPick K)) (bP : Binds K gd2 ["_law_stream", "_law_some"] []) (kP : PySem.W.keepIn K (.ref g2) = true) (mP : mg "_law_pick" = some (.ref g2)) (B : Bt mg) :
    FnOk P w K mg base CX0 3 f fd ["_law_stream", "_law_rank"] (spForm K) := by
  refine F.ok scFo (fun vs H Q E h => ?_) (fun cdv A outer s H vs Q E hr h => ?_)
  · obtain ⟨st, q, b, n, rfl, _⟩ := h
    rfl
  obtain ⟨st, q, b, n, rfl, hs, hb0, hb1, hn, k⟩ := h
  refine ⟨_, pss_cons (ps_set (i := 2) scFo.nd rfl (Or.inl rfl) (pe_call GM hr rfl mM kM bM .nil pass0 (pa_cons (pv 0) (pa_cons (pe_listRg rfl (by rfl) B.lst (prg_1 (by rfl) B.range (pv 1))) pa_nil))))
    (pss_one (ps_ret (pe_callTy call_tuple_of (by rfl) B.tup (by decide +kernel) (pa_cons (pe_lc (own := [("_law_axis", 3)]) (g := gName 3) (tt := tYes) rfl scFo.nd (pi_list (pv 2)) (blkOk_by (N := namesFo) (sc := defScope sForm) (by decide +kernel))
      (fun _ _ _ _ _ => pg_name (i := 3) scFo.nd rfl (Or.inl rfl)) (fun _ _ _ _ _ => pts_nil)
      (fun _ _ _ _ _ => pe_tup (pa_cons (pe_call GP hr rfl mP kP bP .nil pass0 (pa_cons (pv 0) (pa_cons (pe_lst (pa_cons pe_str (pa_cons pe_str (pa_cons pe_str (pa_cons pe_str (pa_cons pe_str pa_nil)))))) pa_nil))) (pa_cons (pv 3) pa_nil)))) pa_nil)))), ?_⟩
  refine ⟨_, rfl, _, rfl, n, rfl, RgOk.of_le (by decide) (by omega) (by decide) (by omega), fun p hp => ?_⟩
  rw [rg_iota]
  have gp := same_new hp (.lst ((iota n).map V.int))
  obtain ⟨np1, np2⟩ := hs.out hp
  refine ⟨st, q, p, b, iota n, rfl, hs.same gp, hb0, by omega, upd_same, by rw [iota_len]; omega, fun r os H1 hperm hs1 gx1 hr1 hr0 => ?_⟩
  have hs1' : Spr H1 st q (b + n) := by rw [iota_len] at hs1; exact hs1
  have hrH : H r = none := gp.free hr0
  have elen : os.length = n := by rw [hperm.length_eq, iota_len]
  obtain ⟨nr1, nr2⟩ := hs.out hrH
  refine ⟨_, rfl, r, rfl, ⟨_, SqL.of hr1⟩, fun D hD => ?_⟩
  obtain ⟨nD1, nD2⟩ := hs1'.out hD
  have nDr : D ≠ r := (ne_of_none hr1 hD).symm
  have gD := same_new hD (.lst [])
  have elm : (os.map V.int).length = n := by rw [List.length_map, elen]
  refine lc_list (K := K) (a := r) (xs := os.map V.int) (InvFo K H1 st q r D (b + n) os) ⟨[], [], upd_same, gD _ _ hr1, rfl, (by simp), (fun p hp => by cases hp), ⟨rfl, fun i v p e => (by simp at e)⟩, ?_, .of gD⟩ (fun i H2 _ ⟨_, _, _, h2, _⟩ => SqL.of h2) ?_ ?_
  · rw [show b + (n : Int) + ((0 : Nat) : Int) = b + n from Int.add_zero _]
    exact hs1'.same gD
  · rintro i x H2 hx ⟨acc, l, hd, hr2, ha, hm, hk, ht, hs2, gx⟩
    obtain ⟨o, eo, rfl⟩ := at_map hx
    have hi : i < n := by rw [← elen]; exact (List.getElem?_eq_some_iff.mp eo).1
    have ell : l.length = i := by rw [← ha]; exact ht.1.symm
    refine ⟨rfl, kept ?_⟩
    refine ⟨_, rfl, (by show 5 ≤ sizeLine; decide), fun m hm' => ?_⟩
    have gm := same_new hm' (.lst [.str "dense", .str "packed", .str "bits", .str "hashed", .str "packed"])
    obtain ⟨nm1, nm2⟩ := hs2.out hm'
    refine ⟨st, q, m, b + n + i, _, rfl, hs2.same gm, by omega, by omega, upd_same, nm1, nm2, (by show 0 < 5; decide), (by show 5 ≤ 1000; decide), fun v H3 hv hs3 g3 => ?_⟩
    obtain ⟨kd, hkd, rfl⟩ : ∃ kd, kd ∈ KINDS ∧ v = V.str kd := by
      have hv' : v ∈ K5.map V.str := hv
      obtain ⟨kd, hm, rfl⟩ := List.mem_map.mp hv'
      exact ⟨kd, k5_kinds kd hm, rfl⟩
    refine ⟨_, rfl, (by show 2 ≤ sizeLine; decide), fun t ht' => ?_⟩
    have gt := same_new ht' (.tup [.str kd, .int o])
    have tk3 : TK K H2 H3 := (TK.of gm).trans (TK.sx (hs2.same gm) g3)
    have hd3 := g3 _ _ nD1 nD2 (gm _ _ hd)
    have hd4 := gt _ _ hd3
    have tk4 : TK K H3 (upd (upd H3 t (.tup [.str kd, .int o])) D (.lst (acc ++ [.ref t]))) := (TK.of gt).trans (TK.lst hd4)
    refine ⟨acc, hd4, small1000 (by omega), acc ++ [.ref t], l ++ [(kd, o)], upd_same, ?_, by rw [List.length_append, ha] <;> rfl, ?_, fun p hp => ?_, ⟨by rw [List.length_append, List.length_append, ht.1] <;> rfl, fun j v p ev ep => ?_⟩, ?_, ?_⟩
    · rw [upd_ne nDr.symm]
      exact gt _ _ (g3 _ _ nr1 nr2 (gm _ _ hr2))
    · rw [List.map_append, hm, List.take_succ, eo] <;> rfl
    · rcases List.mem_append.mp hp with hp | hp
      · exact hk p hp
      · rw [List.mem_singleton.mp hp]
        exact hkd
    · by_cases hj : j < acc.length
      · rw [List.getElem?_append_left hj] at ev
        rw [List.getElem?_append_left (by omega)] at ep
        obtain ⟨a, r1, z⟩ := ht.2 j v p ev ep
        exact ⟨a, r1, tk4 _ _ (tk3 _ _ z)⟩
      · have hj2 : j = acc.length := by
          have q1 := (List.getElem?_eq_some_iff.mp ev).1
          rw [List.length_append, List.length_singleton] at q1
          omega
        subst hj2
        rw [List.getElem?_append_right (Nat.le_refl _), Nat.sub_self] at ev
        rw [List.getElem?_append_right (by omega), show acc.length - l.length = 0 by omega] at ep
        cases ev
        cases ep
        exact ⟨t, rfl, TK.lst hd4 _ _ (SqT.of upd_same)⟩
    · have e6 : b + (n : Int) + (i : Int) + 1 = b + n + ((i + 1 : Nat) : Int) := by omega
      rw [← e6]
      exact (hs3.same gt).upd nD1 nD2
    · exact ((gx.trans (.of gm)).trans (g3.trans (.of gt))).upd_out hD
  · rintro H2 ⟨acc, l, hd, hr2, ha, hm, hk, ht, hs2, gx⟩
    rw [elm] at ha hm hs2
    rw [List.take_of_length_le (by omega)] at hm
    refine ⟨D, acc, rfl, .inl ⟨SqL.of hd, fun t ht' => ?_⟩⟩
    have gt := same_new ht' (.tup acc)
    refine k t acc l (b + n + n) _ ⟨by rw [← ht.1, ha], hk, by rw [hm]; exact hperm⟩ (SqT.of upd_same) (ht.mono (.of gt)) (by omega) (by omega) (hs2.same gt) ?_
    exact (((SX.of gp).trans gx1).trans gx).trans (.of gt)
/-! the law's own text of a form -/
theorem zip_maps : ∀ l : List (Str × Int), (l.map (·.1)).zip (l.map (·.2)) = l
  | [] => rfl
  | (a, b) :: r => by
    show (a, b) :: (r.map (·.1)).zip (r.map (·.2)) = _
    rw [zip_maps r]
theorem iota_valid {l : List (Str × Int)} {n : Nat} (h : Good l n) (hn : n ≤ 3) : valid (l.map (·.1)) (l.map (·.2)) = true := by
  obtain ⟨h1, h2, h3⟩ := h
  unfold valid axesOk
  rw [List.length_map, List.length_map, h1]
  have e1 : decide (n ≤ 3) = true := decide_eq_true hn
  have e2 : ((l.map (·.1)).all fun k => decide (k ∈ KINDS)) = true := by
    rw [List.all_eq_true]
    intro k hk
    obtain ⟨p, hp, rfl⟩ := List.mem_map.mp hk
    exact decide_eq_true (h2 p hp)
  have e3 : ((List.range n).all fun j => decide ((j : Int) ∈ l.map (·.2))) = true := by
    rw [List.all_eq_true]
    intro j hj
    refine decide_eq_true (h3.symm.mem_iff.mp ?_)
    unfold iota
    exact List.mem_map.mpr ⟨j, hj, rfl⟩
  rw [e1, e2, e3, decide_eq_true rfl] <;> rfl
def litm (p : Str × Int) : Str := p.1 ++ " " ++ ((toString p.2 : String) : Str)
theorem litm_itm (p : Str × Int) : litm p = itm p.1 p.2 := by
  refine ext_tl ?_
  unfold litm itm
  rw [tl_append, tl_append, tl_append, tl_append, tl_append] <;> rfl
def spFtext (K : PySem.W.Frag) : Sp := fun vs H Q _ => ∃ (t : Addr) (us : List V) (l : List (Str × Int)) (n : Nat), vs = [.ref t] ∧ SqT K H t us ∧ Tups K H us l ∧ Good l n ∧ n ≤ 3 ∧ ∀ H' : Hp, Same H H' → Q (.str (ftext (l.map (·.1)) (l.map (·.2)))) H'
theorem dp_tups {H : Hp} : ∀ {us : List V} {l : List (Str × Int)}, Tups K H us l → DpAll K H us (l.map fun p => PyData.tuple [.str p.1, .int p.2])
  | [], [], _ => .nil
  | [], _ :: _, h => by cases h.1
  | _ :: _, [], h => by cases h.1
  | u :: us, p :: l, h => by
    obtain ⟨a, rfl, z⟩ := h.2 0 u p rfl rfl
    exact .cons (.tup z (.cons (.str _) (.cons (.int _) .nil))) (dp_tups ⟨Nat.succ.inj h.1, fun i v p e1 e2 => h.2 (i + 1) v p e1 e2⟩)
end
end Lw
namespace Lw
open PySem L2 TL
abbrev sMade : Stmt := topS 22
abbrev sSpoil : Stmt := topS 21
/-- more built-in names -/
structure Bs (mg : Str → Option Value) : Prop where
  str : mg "str" = none
  any : mg "any" = none
  sorted : mg "sorted" = none
  ve : mg "ValueError" = none
section
variable {P : Program} {w : World} {K : PySem.W.Frag} {mg : Str → Option Value} {base : Heap} {C fI BF AW KD f g g2 : Addr} {MC : Value} {fd gd gd2 : FuncData}
theorem sz20 {n : Nat} (h : n ≤ 1000) : n ≤ sizeLine := Nat.le_of_lt (small1000 h)
theorem kinds_ok : ∀ k ∈ KINDS, PyData.strOk k = true := by decide +kernel
theorem shaped_form : ∀ {l : List (Str × Int)}, l.length ≤ 3 → (∀ p ∈ l, p.1 ∈ KINDS) → SeqAt.shaped (.tuple (l.map fun p => PyData.tuple [.str p.1, .int p.2])) = true
  | [], _, _ => by decide +kernel
  | [a], _, h => by
    have h1 := kinds_ok _ (h a (by simp))
    simp [SeqAt.shaped, PyData.canLay0, PyData.canLayAll0, PyData.depth, PyData.depthAll, h1]
  | [a, b], _, h => by
    have h1 := kinds_ok _ (h a (by simp))
    have h2 := kinds_ok _ (h b (by simp))
    simp [SeqAt.shaped, PyData.canLay0, PyData.canLayAll0, PyData.depth, PyData.depthAll, h1, h2]
  | [a, b, c], _, h => by
    have h1 := kinds_ok _ (h a (by simp))
    have h2 := kinds_ok _ (h b (by simp))
    have h3 := kinds_ok _ (h c (by simp))
    simp [SeqAt.shaped, PyData.canLay0, PyData.canLayAll0, PyData.depth, PyData.depthAll, h1, h2, h3]
  | _ :: _ :: _ :: _ :: _, h, _ => by simp at h
abbrev namesFt : List Str := ["_law_form_here", "_law_kind", "_law_axis"]
theorem scFt : FnScope namesFt ["_law_form_here"] (defScope sFtext) := ⟨rfl, rfl, rfl, by decide +kernel, rfl, by decide +kernel, by decide +kernel⟩
theorem ok_ftext (F : Fun K "_law_form_text" "_law_form_text" sFtext f fd) (B : Bt mg) (S : Bs mg) : FnOk P w K mg base CX0 1 f fd ["_law_form_here"] (spFtext K) := by
  refine F.ok scFt (fun vs H Q E h => ?_) (fun cdv A outer s H vs Q E hr h => ?_)
  · obtain ⟨t, us, l, n, rfl, _⟩ := h
    rfl
  obtain ⟨t, us, l, n, rfl, hT, htu, hg, hn, q⟩ := h
  have hll : l.length ≤ 3 := by rw [hg.1]; exact hn
  have hax : ∀ p ∈ l, p.1 ∈ KINDS ∧ p.2 ∈ ([0, 1, 2] : List Int) := fun p hp => by
    obtain ⟨_, _, _, z⟩ := valid_parts (iota_valid hg hn)
    exact ⟨hg.2.1 p hp, z _ (List.mem_map_of_mem hp)⟩
  refine ⟨_, pss_one (ps_ret (pe_ifExp (pt_cmpR (op_neD hr.units) (pv 0) (pe_tup pa_nil) (nomark _)) (pe_join pe_str (pe_lc (own := [("_law_kind", 1), ("_law_axis", 2)]) (g := gTup K 2 (gCons (gName 1) (gCons (gName 2) gNil))) (tt := tYes) rfl scFt.nd (pi_tup (pv 0)) (blkOk_by (N := namesFt) (sc := defScope sFtext) (by decide +kernel))
      (fun _ _ _ _ _ => pg_tup rfl (pgs_cons (pg_name (i := 1) scFt.nd rfl (Or.inl rfl)) (pgs_cons (pg_name (i := 2) scFt.nd rfl (Or.inl rfl)) pgs_nil))) (fun _ _ _ _ _ => pts_nil)
      (fun _ _ _ _ _ => pe_op op_add_str (pe_op op_add_str (pv 1) pe_str) (pe_callTy call_str_int (by rfl) S.str (by decide +kernel) (pa_cons (pv 2) pa_nil))))) pe_str)), ?_⟩
  refine ⟨_, rfl, (by show 0 ≤ sizeLine; decide), fun e he => ?_⟩
  have ge := same_new he (.tup [])
  refine ⟨_, .tuple [], .tup (seqT ge hT) (dp_tups (htu.mono (.of ge))), .tup (SqT.of upd_same) .nil, shaped_form hll hg.2.1, by decide +kernel, _, rfl, ?_⟩
  cases l with
  | nil =>
    refine iteN (by decide +kernel) ?_
    have z := q _ ge
    exact z
  | cons p r =>
    refine iteC rfl ?_
    refine ⟨⟨_, rfl⟩, _, rfl, t, rfl, ⟨_, seqT ge hT⟩, fun D hD => ?_⟩
    have hD0 : H D = none := ge.free hD
    refine lc_tup (K := K) (a := t) (xs := us) (InvM H D (fun p : Str × Int => V.str (litm p)) (p :: r)) ⟨upd_same, same_over ge hD0 _⟩ (fun i H' _ ⟨_, g⟩ => seqT g hT) (fun i x H' hx hv => ?_) ?_
    · have hi : i < (p :: r).length := by rw [← htu.1]; exact (List.getElem?_eq_some_iff.mp hx).1
      obtain ⟨a, rfl, za⟩ := htu.2 i x _ hx (List.getElem?_eq_getElem hi)
      have hm := hax _ (List.getElem_mem hi)
      obtain ⟨l1, l2, l3, l4, l5⟩ := small_itm _ hm.1 _ hm.2
      refine ⟨a, _, rfl, seqT hv.2 za, rfl, _, _, rfl, _, _, rfl, rfl, rfl, kept ?_⟩
      refine ⟨_, rfl, _, _, rfl, rfl, sz20 (by show _ + 1 ≤ 1000; omega), _, rfl, _, rfl, l5, _, _, rfl, rfl, sz20 ?_, ?_⟩
      · rw [← litm_itm] at l3
        have e1 : (litm ((p :: r)[i])).length = ((p :: r)[i].1 ++ (" " : Str)).length + ((toString (p :: r)[i].2 : String) : Str).length := Str.length_append _ _
        rw [e1] at l3
        omega
      · exact ⟨_, hv.1, len_m (by omega), InvM.next (f := fun p : Str × Int => V.str (litm p)) hD0 hv.2 (List.getElem?_eq_getElem hi) _ rfl⟩
    · rintro H' ⟨hd, g⟩
      rw [List.take_of_length_le (by rw [htu.1]; exact Nat.le_refl _)] at hd
      have el : ((p :: r).map litm) = ((((p :: r).map (·.1)).zip ((p :: r).map (·.2))).map fun p => itm p.1 p.2) := by
        rw [zip_maps]
        exact List.map_congr_left fun p _ => litm_itm p
      refine ⟨_, D, (p :: r).map litm, rfl, rfl, .inl (SqL.of (by rw [hd, List.map_map] <;> rfl)), ?_, ?_⟩
      · have z := sum_le (ys := (p :: r).map litm) fun y hy => by
          obtain ⟨p', hp', rfl⟩ := List.mem_map.mp hy
          rw [litm_itm]
          exact (small_itm _ (hax p' hp').1 _ (hax p' hp').2).2.2.1
        have z2 : ((p :: r).map litm).length ≤ 3 := by rw [List.length_map]; exact hll
        have z3 : ((p :: r).map litm).length * Str.length ", " ≤ 3 * 2 := Nat.mul_le_mul z2 (by decide)
        omega
      · have z := q H' g
        unfold ftext at z
        rw [if_neg (by simp), ← el] at z
        exact z
/-! a form made from parts -/
def spMade (K : PySem.W.Frag) (C BF : Addr) : Sp := fun vs H Q E => ∃ (kp : Addr) (sv : V) (ks : List Str) (is : List Int), vs = [.ref kp, sv] ∧ SqL K H kp (ks.map V.str) ∧ ks.length ≤ 10 ∧ is.length ≤ 10 ∧
  ((sv = .non ∧ is = iota (ks.take 4).length) ∨ ∃ a, sv = .ref a ∧ (SqL K H a (is.map V.int) ∨ SqT K H a (is.map V.int))) ∧
  (valid (ks.take 4) is = true → ∀ (p : Addr) (H' : Hp), Same H H' → FormAt K C p (ks.take 4) is H' → Q (.ref p) H') ∧ (valid (ks.take 4) is = false → ∀ H' : Hp, Same H H' → E (.ref BF) none H')
theorem scMa : FnScope ["_law_kinds", "_law_sides"] ["_law_kinds", "_law_sides"] (defScope sMade) := ⟨rfl, rfl, rfl, by decide +kernel, rfl, by decide +kernel, by decide +kernel⟩
theorem ok_made (F : Fun K "_law_made" "_law_made" sMade f fd) (T : Fm K mg C fI BF AW KD MC) (B : Bt mg) (FI : FnF P w K mg base (L2.CX P w) 3 fI "axes" .non (spInit K C BF)) : FnOk P w K mg base (L2.CX P w) 5 f fd ["_law_kinds", "_law_sides"] (spMade K C BF) := by
  refine F.okX scMa (fun vs H Q E h => ?_) (fun cdv A outer s H vs Q E hr h => ?_)
  · obtain ⟨kp, sv, ks, is, rfl, _⟩ := h
    rfl
  obtain ⟨kp, sv, ks, is, rfl, hk, hkl, hil, hsv, q, qe⟩ := h
  refine ⟨_, pss_cons (ps_if (pt_cmpR op_eq (pe_callB call_len_seq (by rfl) B.len PySem.boot_len (pa_cons (pv 0) pa_nil)) pe_int (nomark _)) (pss_one (ps_ret (pe_Fk T.mkC FI hr (by rfl) T.mC (passes_call (takes_of rfl rfl rfl rfl) (fun _ _ _ _ h => h)) (pv 1)))) pss_nil)
    (pss_cons (ps_if (pt_cmpR op_eq (pe_callB call_len_seq (by rfl) B.len PySem.boot_len (pa_cons (pv 0) pa_nil)) pe_int (nomark _)) (pss_one (ps_ret (pe_Fpk T.mkC FI hr (by rfl) T.mC (passes_call (takes_of rfl rfl rfl rfl) (fun _ _ _ _ h => h)) (pa_cons (pe_ix ix_list (pv 0) pe_int (fun _ _ => rfl)) pa_nil) (pv 1)))) pss_nil)
    (pss_cons (ps_if (pt_cmpR op_eq (pe_callB call_len_seq (by rfl) B.len PySem.boot_len (pa_cons (pv 0) pa_nil)) pe_int (nomark _)) (pss_one (ps_ret (pe_Fpk T.mkC FI hr (by rfl) T.mC (passes_call (takes_of rfl rfl rfl rfl) (fun _ _ _ _ h => h)) (pa_cons (pe_ix ix_list (pv 0) pe_int (fun _ _ => rfl)) (pa_cons (pe_ix ix_list (pv 0) pe_int (fun _ _ => rfl)) pa_nil)) (pv 1)))) pss_nil)
    (pss_cons (ps_if (pt_cmpR op_eq (pe_callB call_len_seq (by rfl) B.len PySem.boot_len (pa_cons (pv 0) pa_nil)) pe_int (nomark _)) (pss_one (ps_ret (pe_Fpk T.mkC FI hr (by rfl) T.mC (passes_call (takes_of rfl rfl rfl rfl) (fun _ _ _ _ h => h)) (pa_cons (pe_ix ix_list (pv 0) pe_int (fun _ _ => rfl)) (pa_cons (pe_ix ix_list (pv 0) pe_int (fun _ _ => rfl)) (pa_cons (pe_ix ix_list (pv 0) pe_int (fun _ _ => rfl)) pa_nil))) (pv 1)))) pss_nil)
    (pss_one (ps_ret (pe_Fpk T.mkC FI hr (by rfl) T.mC (passes_call (takes_of rfl rfl rfl rfl) (fun _ _ _ _ h => h)) (pa_cons (pe_ix ix_list (pv 0) pe_int (fun _ _ => rfl)) (pa_cons (pe_ix ix_list (pv 0) pe_int (fun _ _ => rfl)) (pa_cons (pe_ix ix_list (pv 0) pe_int (fun _ _ => rfl)) (pa_cons (pe_ix ix_list (pv 0) pe_int (fun _ _ => rfl)) pa_nil)))) (pv 1))))))), ?_⟩
  have fin : ∀ {ks' : List Str}, ks.take 4 = ks' → mkF C (spInit K C BF) (fun cls d H' => E cls d H') (ks'.map V.str) sv H fun v H' => Q v H' := fun {ks'} e => by
    rw [e] at hsv q qe
    have hk4 : ks'.length ≤ 4 := by rw [← e, List.length_take]; omega
    exact mk_form (by omega) (by omega) hsv q qe
  have no : ∀ {m n : Nat}, m ≠ n → decide (V.int (m : Int) = V.int (n : Int)) = false := fun {m n} h => decide_eq_false (fun e => h (by injection e with e; omega))
  refine ⟨_, rfl, kp, _, rfl, .inl hk, rfl, _, rfl, ?_⟩
  rw [List.length_map]
  rcases ks with _ | ⟨a, _ | ⟨b, _ | ⟨c, _ | ⟨d, r⟩⟩⟩⟩
  · refine iteC rfl ?_
    exact ⟨_, rfl, fin rfl⟩
  · refine iteN rfl ?_
    refine ⟨_, rfl, kp, _, rfl, .inl hk, rfl, _, rfl, iteC rfl ?_⟩
    exact ⟨_, rfl, kp, _, _, _, rfl, rfl, hk, rfl, _, rfl, (by show 1 ≤ sizeLine; decide), fin rfl⟩
  · refine iteN rfl ?_
    refine ⟨_, rfl, kp, _, rfl, .inl hk, rfl, _, rfl, iteN rfl ?_⟩
    refine ⟨_, rfl, kp, _, rfl, .inl hk, rfl, _, rfl, iteC rfl ?_⟩
    exact ⟨_, rfl, kp, _, _, _, rfl, rfl, hk, rfl, _, rfl, kp, _, _, _, rfl, rfl, hk, rfl, _, rfl, (by show 2 ≤ sizeLine; decide), fin rfl⟩
  · refine iteN rfl ?_
    refine ⟨_, rfl, kp, _, rfl, .inl hk, rfl, _, rfl, iteN rfl ?_⟩
    refine ⟨_, rfl, kp, _, rfl, .inl hk, rfl, _, rfl, iteN rfl ?_⟩
    refine ⟨_, rfl, kp, _, rfl, .inl hk, rfl, _, rfl, iteC rfl ?_⟩
    exact ⟨_, rfl, kp, _, _, _, rfl, rfl, hk, rfl, _, rfl, kp, _, _, _, rfl, rfl, hk, rfl, _, rfl, kp, _, _, _, rfl, rfl, hk, rfl, _, rfl, (by show 3 ≤ sizeLine; decide), fin rfl⟩
  · have l4 : (((a :: b :: c :: d :: r).map V.str).length) = r.length + 4 := by rw [List.length_map] <;> rfl
    refine iteN (no (n := 0) (by simp)) ?_
    refine ⟨_, rfl, kp, _, rfl, .inl hk, rfl, _, rfl, iteN (no (n := 1) (by rw [l4]; omega)) ?_⟩
    refine ⟨_, rfl, kp, _, rfl, .inl hk, rfl, _, rfl, iteN (no (n := 2) (by rw [l4]; omega)) ?_⟩
    refine ⟨_, rfl, kp, _, rfl, .inl hk, rfl, _, rfl, iteN (no (n := 3) (by rw [l4]; omega)) ?_⟩
    have at_ : ∀ {i : Nat} {x : V}, ((a :: b :: c :: d :: r).map V.str)[i]? = some x → atI ((a :: b :: c :: d :: r).map V.str) (i : Int) = some x := fun h => atI_nat h
    exact ⟨_, rfl, kp, _, _, _, rfl, rfl, hk, at_ (i := 0) rfl, _, rfl, kp, _, _, _, rfl, rfl, hk, at_ (i := 1) rfl, _, rfl, kp, _, _, _, rfl, rfl, hk, at_ (i := 2) rfl, _, rfl, kp, _, _, _, rfl, rfl, hk, at_ (i := 3) rfl, _, rfl, (by show 4 ≤ sizeLine; decide), fin rfl⟩
end
end Lw
namespace Lw
open PySem L2 TL
theorem ok_list (z : Str) : PyData.strOk z = (tl z).all (· < 0x110000) := by
  unfold PyData.strOk
  rw [← Array.all_toList]
theorem ok_app {a b : Str} (h1 : PyData.strOk a = true) (h2 : PyData.strOk b = true) : PyData.strOk (a ++ b) = true := by
  rw [ok_list] at h1 h2 ⊢
  rw [tl_append, List.all_append, h1, h2] <;> rfl
theorem ok_cut {z : Str} (h : PyData.strOk z = true) (lo hi : Option Int) : PyData.strOk (cutS z lo hi) = true := by
  rw [ok_list, List.all_eq_true] at h ⊢
  intro c hc
  exact h c (List.mem_of_mem_drop (List.mem_of_mem_take hc))
theorem ok_sign {z y : Str} (h : PyData.strOk z = true) (hy : ∀ c ∈ tl y, c ∈ tl z) : PyData.strOk y = true := by
  rw [ok_list, List.all_eq_true] at h ⊢
  exact fun c hc => h c (hy c hc)
section
variable {P : Program} {w : World} {K : PySem.W.Frag} {mg : Str → Option Value} {base : Heap} {f g g1 g2 : Addr} {fd gd gd1 gd2 : FuncData}
def spPickS : Sp := fun vs H Q _ => ∃ (st q : Addr) (b : Int) (z : Str), vs = [.ref st, .str z] ∧ Spr H st q b ∧ 0 ≤ b ∧ b ≤ 1000 ∧ 0 < z.length ∧ z.length ≤ 1000 ∧
  ∀ (y : Str) (H' : Hp), y.length = 1 → (∀ c ∈ tl y, c ∈ tl z) → Spr H' st q (b + 1) → SX st q H H' → Q (.str y) H'
theorem ok_pickS (F : Fun K "_law_pick" "_law_pick" sPick f fd) (G : FnOk P w K mg base CX0 1 g gd ["_law_stream", "_law_many"] spDraw) (bG : Binds K gd ["_law_stream", "_law_many"] []) (kG : PySem.W.keepIn K (.ref g) = true) (mG : mg "_law_draw" = some (.ref g)) (B : Bt mg) :
    FnOk P w K mg base CX0 2 f fd ["_law_stream", "_law_some"] spPickS := by
  refine F.ok scP (fun vs H Q E h => ?_) (fun cdv A outer s H vs Q E hr h => ?_)
  · obtain ⟨st, q, b, z, rfl, _⟩ := h
    rfl
  obtain ⟨st, q, b, z, rfl, hs, hb0, hb1, hx0, hx1, k⟩ := h
  refine ⟨_, pss_one (ps_ret (pe_ix ix_str (pv 1) (pe_call G hr rfl mG kG bG .nil pass0 (pa_cons (pv 0) (pa_cons (pe_callB call_len_str (by rfl) B.len PySem.boot_len (pa_cons (pv 1) pa_nil)) pa_nil))) (fun _ _ => rfl))), ?_⟩
  refine ⟨_, rfl, _, rfl, _, rfl, z, rfl, sz20 hx1, st, q, b, _, rfl, hs, hb0, hb1, by omega, by omega, fun r H' r0 r1 hs' gx => ?_⟩
  have ez : z.cps.toList.length = z.length := (len_tl z).symm
  obtain ⟨c, hc, ec⟩ : ∃ c, c ∈ z.cps.toList ∧ atI z.cps.toList r = some c := by
    have hk : r.toNat < z.cps.toList.length := by omega
    refine ⟨z.cps.toList[r.toNat], List.getElem_mem hk, ?_⟩
    have q := atI_nat (xs := z.cps.toList) (j := r.toNat) (v := z.cps.toList[r.toNat]) (List.getElem?_eq_getElem hk)
    rwa [show ((r.toNat : Nat) : Int) = r by omega] at q
  exact ⟨z, r, c, rfl, rfl, sz20 hx1, ec, k _ H' rfl (fun c' hc' => by rw [List.mem_singleton.mp (show c' ∈ [c] from hc')]; exact hc) hs' gx⟩
def spSpoil : Sp := fun vs H Q _ => ∃ (st q : Addr) (b : Int) (z : Str), vs = [.ref st, .str z] ∧ Spr H st q b ∧ 0 ≤ b ∧ b ≤ 900 ∧ z.length ≤ 100 ∧ PyData.strOk z = true ∧
  ∀ (y : Str) (b' : Int) (H' : Hp), y.length ≤ 300 → PyData.strOk y = true → b ≤ b' → b' ≤ b + 3 → Spr H' st q b' → SX st q H H' → Q (.str y) H'
abbrev namesSp : List Str := ["_law_stream", "_law_text", "_law_at", "_law_way", "_law_some"]
theorem scSp : FnScope namesSp ["_law_stream", "_law_text"] (defScope sSpoil) := ⟨rfl, rfl, rfl, by decide +kernel, rfl, by decide +kernel, by decide +kernel⟩
theorem app_len (a b : Str) : (a ++ b).length = a.length + b.length := Str.length_append a b
theorem ok_spoil (F : Fun K "_law_spoiled" "_law_spoiled" sSpoil f fd) (G : FnOk P w K mg base CX0 1 g gd ["_law_stream", "_law_many"] spDraw) (bG : Binds K gd ["_law_stream", "_law_many"] []) (kG : PySem.W.keepIn K (.ref g) = true) (mG : mg "_law_draw" = some (.ref g))
    (GS : FnOk P w K mg base CX0 2 g1 gd1 ["_law_stream", "_law_some"] spPickS) (GP : FnOk P w K mg base CX0 2 g1 gd1 ["_law_stream", "_law_some"] (spPick K)) (bP : Binds K gd1 ["_law_stream", "_law_some"] []) (kP : PySem.W.keepIn K (.ref g1) = true) (mP : mg "_law_pick" = some (.ref g1)) (B : Bt mg) :
    FnOk P w K mg base CX0 3 f fd ["_law_stream", "_law_text"] spSpoil := by
  refine F.ok scSp (fun vs H Q E h => ?_) (fun cdv A outer s H vs Q E hr h => ?_)
  · obtain ⟨st, q, b, z, rfl, _⟩ := h
    rfl
  obtain ⟨st, q, b, z, rfl, hs, hb0, hb1, hz, zk, k⟩ := h
  have hr1 := hr.mono (j := 1) (by decide)
  refine ⟨_, pss_cons (ps_set (i := 2) scSp.nd rfl (Or.inl rfl) (pe_call G hr1 rfl mG kG bG .nil pass0 (pa_cons (pv 0) (pa_cons (pe_op op_add (pe_callB call_len_str (by rfl) B.len PySem.boot_len (pa_cons (pv 1) pa_nil)) pe_int) pa_nil))))
    (pss_cons (ps_set (i := 3) scSp.nd rfl (Or.inl rfl) (pe_call G hr1 rfl mG kG bG .nil pass0 (pa_cons (pv 0) (pa_cons pe_int pa_nil))))
    (pss_cons (ps_if (pt_cmpR op_eq (pv 3) pe_int (nomark _)) (pss_one (ps_ret (pe_op op_add_str (pe_op op_add_str (pe_slice sl_str (pv 1) po_none (po_some (pv 2))) (pe_call GS hr rfl mP kP bP .nil pass0 (pa_cons (pv 0) (pa_cons pe_str pa_nil)))) (pe_slice sl_str (pv 1) (po_some (pv 2)) po_none)))) pss_nil)
    (pss_cons (ps_if (pt_cmpR op_eq (pv 3) pe_int (nomark _)) (pss_one (ps_ret (pe_op op_add_str (pe_slice sl_str (pv 1) po_none (po_some (pv 2))) (pe_slice sl_str (pv 1) (po_some (pe_op op_add (pv 2) pe_int)) po_none)))) pss_nil)
    (pss_cons (ps_if (pt_cmpR op_eq (pv 3) pe_int (nomark _)) (pss_one (ps_ret (pe_op op_add_str (pe_op op_add_str (pe_slice sl_str (pv 1) po_none (po_some (pv 2))) (pe_call GS hr rfl mP kP bP .nil pass0 (pa_cons (pv 0) (pa_cons pe_str pa_nil)))) (pe_slice sl_str (pv 1) (po_some (pe_op op_add (pv 2) pe_int)) po_none)))) pss_nil)
    (pss_cons (ps_if (pt_cmpR op_eq (pv 3) pe_int (nomark _)) (pss_one (ps_ret (pe_op op_add_str (pe_op op_add_str (pv 1) pe_str) (pe_call GP hr rfl mP kP bP .nil pass0 (pa_cons (pv 0) (pa_cons (pe_lst (pa_cons pe_str (pa_cons pe_str (pa_cons pe_str (pa_cons pe_str (pa_cons pe_str pa_nil)))))) pa_nil)))))) pss_nil)
    (pss_cons (ps_if (pt_cmpR op_eq (pv 3) pe_int (nomark _)) (pss_one (ps_ret (pe_op op_add_str (pv 1) (pe_call GP hr rfl mP kP bP .nil pass0 (pa_cons (pv 0) (pa_cons (pe_lst (pa_cons pe_str (pa_cons pe_str (pa_cons pe_str (pa_cons pe_str (pa_cons pe_str pa_nil)))))) pa_nil)))))) pss_nil)
    (pss_cons (ps_set (i := 4) scSp.nd rfl (Or.inl rfl) (pe_lst (pa_cons pe_str (pa_cons pe_str (pa_cons pe_str (pa_cons pe_str (pa_cons pe_str (pa_cons pe_str (pa_cons pe_str pa_nil)))))))))
    (pss_one (ps_ret (pe_call GP hr rfl mP kP bP .nil pass0 (pa_cons (pv 0) (pa_cons (pe_op op_cat (pv 4) (pe_lst (pa_cons pe_str (pa_cons pe_str pa_nil)))) pa_nil)))))))))))), ?_⟩
  refine ⟨_, rfl, _, rfl, z, rfl, sz20 (by omega), _, _, rfl, rfl, st, q, b, _, rfl, hs, hb0, by omega, by omega, by omega, fun at0 H1 a0 a1 hs1 gx1 => ?_⟩
  refine ⟨_, rfl, st, q, b + 1, _, rfl, hs1, by omega, by omega, (by decide), (by decide), fun way H2 w0 w1 hs2 gx2 => ?_⟩
  have gx := gx1.trans gx2
  have c1 : ∀ lo hi, (cutS z lo hi).length ≤ 100 := fun lo hi => Nat.le_trans (cutS_length z lo hi) hz
  have hst : ∀ {ss : List Str} {v : V}, v ∈ ss.map V.str → (∀ y ∈ ss, y.length ≤ 20 ∧ PyData.strOk y = true) → ∃ y, v = .str y ∧ y.length ≤ 20 ∧ PyData.strOk y = true := fun hv hall => by
    obtain ⟨y, hy, rfl⟩ := List.mem_map.mp hv
    exact ⟨y, rfl, hall y hy⟩
  refine ⟨_, rfl, rfl, _, rfl, ite2 (fun _ => ?_) (fun _ => ?_)⟩
  · refine ⟨_, rfl, _, rfl, _, rfl, z, rfl, sz20 (by omega), _, rfl, st, q, b + 1 + 1, _, rfl, hs2, by omega, by omega, (by decide +kernel), (by decide +kernel), fun y H3 hy hyz hs3 gx3 => ?_⟩
    refine ⟨_, _, rfl, rfl, sz20 (by have := c1 none (some at0); omega), _, rfl, _, rfl, _, rfl, z, rfl, sz20 (by omega), _, _, rfl, rfl, sz20 (by rw [app_len]; have := c1 none (some at0); have := c1 (some at0) none; omega), ?_⟩
    exact k _ _ H3 (by rw [app_len, app_len]; have := c1 none (some at0); have := c1 (some at0) none; have := cutS_length z none (some at0); omega) (ok_app (ok_app (ok_cut zk _ _) (ok_sign (by decide +kernel) hyz)) (ok_cut zk _ _)) (by omega) (by omega) hs3 (gx.trans gx3)
  refine ⟨_, rfl, rfl, _, rfl, ite2 (fun _ => ?_) (fun _ => ?_)⟩
  · refine ⟨_, rfl, _, rfl, _, rfl, z, rfl, sz20 (by omega), _, rfl, _, rfl, _, _, rfl, rfl, _, rfl, z, rfl, sz20 (by omega), _, _, rfl, rfl, sz20 (by have := c1 none (some at0); have := c1 (some (at0 + 1)) none; omega), ?_⟩
    exact k _ _ H2 (by rw [app_len]; have := c1 none (some at0); have := c1 (some (at0 + 1)) none; have := cutS_length z none (some at0); have := cutS_length z (some (at0 + 1)) none; omega) (ok_app (ok_cut zk _ _) (ok_cut zk _ _)) (by omega) (by omega) hs2 gx
  refine ⟨_, rfl, rfl, _, rfl, ite2 (fun _ => ?_) (fun _ => ?_)⟩
  · refine ⟨_, rfl, _, rfl, _, rfl, z, rfl, sz20 (by omega), _, rfl, st, q, b + 1 + 1, _, rfl, hs2, by omega, by omega, (by decide +kernel), (by decide +kernel), fun y H3 hy hyz hs3 gx3 => ?_⟩
    refine ⟨_, _, rfl, rfl, sz20 (by have := c1 none (some at0); omega), _, rfl, _, rfl, _, _, rfl, rfl, _, rfl, z, rfl, sz20 (by omega), _, _, rfl, rfl, sz20 (by rw [app_len]; have := c1 none (some at0); have := c1 (some (at0 + 1)) none; omega), ?_⟩
    exact k _ _ H3 (by rw [app_len, app_len]; have := c1 none (some at0); have := c1 (some (at0 + 1)) none; omega) (ok_app (ok_app (ok_cut zk _ _) (ok_sign (by decide +kernel) hyz)) (ok_cut zk _ _)) (by omega) (by omega) hs3 (gx.trans gx3)
  refine ⟨_, rfl, rfl, _, rfl, ite2 (fun _ => ?_) (fun _ => ?_)⟩
  · refine ⟨_, rfl, _, _, rfl, rfl, sz20 (by show _ + 2 ≤ 1000; omega), _, rfl, (by show 5 ≤ sizeLine; decide), fun m hm => ?_⟩
    have gm := same_new hm (.lst [.str "dense 0", .str "packed 1", .str "bits 2", .str "hashed 3", .str "dense"])
    obtain ⟨nm1, nm2⟩ := hs2.out hm
    refine ⟨st, q, m, b + 1 + 1, _, rfl, hs2.same gm, by omega, by omega, upd_same, nm1, nm2, (by show 0 < 5; decide), (by show 5 ≤ 1000; decide), fun v H3 hv hs3 gx3 => ?_⟩
    obtain ⟨y, rfl, hy, hyk⟩ := hst (ss := ["dense 0", "packed 1", "bits 2", "hashed 3", "dense"]) hv (by decide +kernel)
    refine ⟨_, _, rfl, rfl, sz20 (by rw [app_len]; show _ + 2 + _ ≤ 1000; omega), ?_⟩
    exact k _ _ H3 (by rw [app_len, app_len]; show _ + 2 + _ ≤ 300; omega) (ok_app (ok_app zk (by decide +kernel)) hyk) (by omega) (by omega) hs3 ((gx.trans (.of gm)).trans gx3)
  refine ⟨_, rfl, rfl, _, rfl, ite2 (fun _ => ?_) (fun _ => ?_)⟩
  · refine ⟨_, rfl, _, rfl, (by show 5 ≤ sizeLine; decide), fun m hm => ?_⟩
    have gm := same_new hm (.lst [.str " ", .str ",", .str ", ", .str "-", .str "0"])
    obtain ⟨nm1, nm2⟩ := hs2.out hm
    refine ⟨st, q, m, b + 1 + 1, _, rfl, hs2.same gm, by omega, by omega, upd_same, nm1, nm2, (by show 0 < 5; decide), (by show 5 ≤ 1000; decide), fun v H3 hv hs3 gx3 => ?_⟩
    obtain ⟨y, rfl, hy, hyk⟩ := hst (ss := [" ", ",", ", ", "-", "0"]) hv (by decide +kernel)
    refine ⟨_, _, rfl, rfl, sz20 (by omega), ?_⟩
    exact k _ _ H3 (by rw [app_len]; omega) (ok_app zk hyk) (by omega) (by omega) hs3 ((gx.trans (.of gm)).trans gx3)
  refine ⟨(by show 7 ≤ sizeLine; decide), fun m hm => ?_⟩
  have gm := same_new hm (.lst [.str "", .str "-", .str " -", .str "dense", .str "dense 1", .str "packed 0", .str "packed 0, dense 0"])
  refine ⟨_, rfl, _, rfl, (by show 2 ≤ sizeLine; decide), fun m2 hm2 => ?_⟩
  have gm2 := same_new hm2 (.lst [.str "bits 0, bits 2", .str "0 dense"])
  refine ⟨m, m2, _, _, rfl, rfl, gm2 _ _ upd_same, upd_same, (by show 9 ≤ sizeLine; decide), fun p hp => ?_⟩
  have gp := same_new hp (.lst ([.str "", .str "-", .str " -", .str "dense", .str "dense 1", .str "packed 0", .str "packed 0, dense 0"] ++ [.str "bits 0, bits 2", .str "0 dense"]))
  have gall := gm.trans (gm2.trans gp)
  obtain ⟨np1, np2⟩ := (hs2.same (gm.trans gm2)).out hp
  refine ⟨st, q, p, b + 1 + 1, _, rfl, hs2.same gall, by omega, by omega, upd_same, np1, np2, (by show 0 < 9; decide), (by show 9 ≤ 1000; decide), fun v H3 hv hs3 gx3 => ?_⟩
  obtain ⟨y, rfl, hy, hyk⟩ := hst (ss := ["", "-", " -", "dense", "dense 1", "packed 0", "packed 0, dense 0", "bits 0, bits 2", "0 dense"]) hv (by decide +kernel)
  exact k _ _ H3 (by omega) hyk (by omega) (by omega) hs3 ((gx.trans (.of gall)).trans gx3)
end
end Lw
namespace Lw
open PySem L2 TL
abbrev sBad : Stmt := topS 23
/-! parts that make no form -/
theorem no_long {ks : List Str} {is : List Int} (h : 4 ≤ ks.length) : valid (ks.take 4) is = false := by
  unfold valid
  rw [decide_eq_false (by rw [List.length_take]; omega), Bool.false_and]
theorem no_len {ks : List Str} {is : List Int} (h : is.length ≠ (ks.take 4).length) : valid (ks.take 4) is = false := by
  unfold valid axesOk
  rw [decide_eq_false h, Bool.false_and, Bool.and_false, Bool.and_false]
theorem no_kind {ks : List Str} {is : List Int} {k : Str} (h : k ∈ ks.take 4) (hk : k ∉ KINDS) : valid (ks.take 4) is = false := by
  unfold valid
  have e : ((ks.take 4).all fun k => decide (k ∈ KINDS)) = false := by
    rw [List.all_eq_false]
    exact ⟨k, h, by simpa using hk⟩
  rw [e, Bool.false_and, Bool.and_false]
theorem no_axis {ks : List Str} {is : List Int} {j : Nat} (hj : j < (ks.take 4).length) (h : (j : Int) ∉ is) : valid (ks.take 4) is = false := by
  unfold valid axesOk
  have e : ((List.range (ks.take 4).length).all fun j => decide ((j : Int) ∈ is)) = false := by
    rw [List.all_eq_false]
    exact ⟨j, List.mem_range.mpr hj, by simpa using h⟩
  rw [e, Bool.and_false, Bool.and_false, Bool.and_false]
theorem shaped_kinds : ∀ {ks : List Str}, ks.length ≤ 3 → (∀ k ∈ ks, k ∈ KINDS) → SeqAt.shaped (.list (ks.map PyData.str)) = true
  | [], _, _ => by decide +kernel
  | [a], _, h => by
    have h1 := kinds_ok _ (h a (by simp))
    simp [SeqAt.shaped, PyData.canLay0, PyData.canLayAll0, PyData.depth, PyData.depthAll, h1]
  | [a, b], _, h => by
    have h1 := kinds_ok _ (h a (by simp))
    have h2 := kinds_ok _ (h b (by simp))
    simp [SeqAt.shaped, PyData.canLay0, PyData.canLayAll0, PyData.depth, PyData.depthAll, h1, h2]
  | [a, b, c], _, h => by
    have h1 := kinds_ok _ (h a (by simp))
    have h2 := kinds_ok _ (h b (by simp))
    have h3 := kinds_ok _ (h c (by simp))
    simp [SeqAt.shaped, PyData.canLay0, PyData.canLayAll0, PyData.depth, PyData.depthAll, h1, h2, h3]
  | _ :: _ :: _ :: _ :: _, h, _ => by simp at h
theorem cut_ints (is : List Int) (lo hi : Option Int) : ∃ js : List Int, cutV (is.map V.int) lo hi = js.map V.int ∧ js.length = (cutV (is.map V.int) lo hi).length := by
  refine ⟨(is.drop (HT.sIx (is.map V.int).length 0 lo)).take (HT.sIx (is.map V.int).length (is.map V.int).length hi - HT.sIx (is.map V.int).length 0 lo), ?_, ?_⟩
  · unfold cutV
    rw [List.map_take, List.map_drop]
  · unfold cutV
    rw [List.length_take, List.length_take, List.length_drop, List.length_drop, List.length_map]
section
variable {P : Program} {w : World} {K : PySem.W.Frag} {mg : Str → Option Value} {base : Heap} {f g g1 : Addr} {fd gd gd1 : FuncData}
theorem dp_strs {H : Hp} : ∀ ss : List Str, DpAll K H (ss.map V.str) (ss.map PyData.str)
  | [] => .nil
  | n :: r => .cons (.str n) (dp_strs r)
def spBad : Sp := fun vs H Q _ => ∃ (st q kp sp : Addr) (b : Int) (ks : List Str) (is : List Int), vs = [.ref st, .ref kp, .ref sp] ∧ Spr H st q b ∧ 0 ≤ b ∧ b ≤ 900 ∧ H kp = some (.lst (ks.map V.str)) ∧ H sp = some (.lst (is.map V.int)) ∧
  kp ≠ st ∧ kp ≠ q ∧ sp ≠ st ∧ sp ≠ q ∧ ks.length ≤ 3 ∧ is.length = ks.length ∧ (∀ k ∈ ks, k ∈ KINDS) ∧ (∀ i ∈ is, i < (ks.length : Int)) ∧
  ∀ (t k2 s2 : Addr) (ks2 : List Str) (is2 : List Int) (b' : Int) (H' : Hp), H' t = some (.tup [.ref k2, .ref s2]) → H' k2 = some (.lst (ks2.map V.str)) → H' s2 = some (.lst (is2.map V.int)) → ks2.length ≤ 10 → is2.length ≤ 10 → valid (ks2.take 4) is2 = false →
    b ≤ b' → b' ≤ b + 2 → Spr H' st q b' → SX st q H H' → Q (.ref t) H'
abbrev namesB : List Str := ["_law_stream", "_law_kinds", "_law_sides", "_law_way"]
theorem scB : FnScope namesB ["_law_stream", "_law_kinds", "_law_sides"] (defScope sBad) := ⟨rfl, rfl, rfl, by decide +kernel, rfl, by decide +kernel, by decide +kernel⟩
theorem ok_bad (F : Fun K "_law_bad_parts" "_law_bad_parts" sBad f fd) (G : FnOk P w K mg base CX0 1 g gd ["_law_stream", "_law_many"] spDraw) (bG : Binds K gd ["_law_stream", "_law_many"] []) (kG : PySem.W.keepIn K (.ref g) = true) (mG : mg "_law_draw" = some (.ref g))
    (GP : FnOk P w K mg base CX0 2 g1 gd1 ["_law_stream", "_law_some"] (spPick K)) (bP : Binds K gd1 ["_law_stream", "_law_some"] []) (kP : PySem.W.keepIn K (.ref g1) = true) (mP : mg "_law_pick" = some (.ref g1)) (B : Bt mg) :
    FnOk P w K mg base CX0 3 f fd ["_law_stream", "_law_kinds", "_law_sides"] spBad := by
  refine F.ok scB (fun vs H Q E h => ?_) (fun cdv A outer s H vs Q E hr h => ?_)
  · obtain ⟨st, q, kp, sp, b, ks, is, rfl, _⟩ := h
    rfl
  obtain ⟨st, q, kp, sp, b, ks, is, rfl, hs, hb0, hb1, hk, hi, nk1, nk2, ni1, ni2, hkl, hil, hkk, hii, k⟩ := h
  have hr1 := hr.mono (j := 1) (by decide)
  refine ⟨_, pss_cons (ps_set (i := 3) scB.nd rfl (Or.inl rfl) (pe_call G hr1 rfl mG kG bG .nil pass0 (pa_cons (pv 0) (pa_cons pe_int pa_nil))))
    (C8.pss_cut (ps_if (PW.pt (pw_and (pt_cmpR op_eq (pv 3) pe_int (nomark _)) (pw_and1 (pt_cmpR (op_neD hr.units) (pv 1) (pe_lst pa_nil) (nomark _))))) (pss_one (ps_ret (pe_tup (pa_cons (pv 1) (pa_cons (pe_slice sl_list (pv 2) (po_some pe_int) po_none) pa_nil))))) pss_nil)
    (pss_cons (ps_if (pt_cmpR op_eq (pv 3) pe_int (nomark _)) (pss_one (ps_ret (pe_tup (pa_cons (pe_op op_cat (pv 1) (pe_lst (pa_cons (pe_call GP hr rfl mP kP bP .nil pass0 (pa_cons (pv 0) (pa_cons (pe_lst (pa_cons pe_str (pa_cons pe_str (pa_cons pe_str (pa_cons pe_str (pa_cons pe_str pa_nil)))))) pa_nil))) pa_nil))) (pa_cons (pe_op op_cat (pv 2) (pe_lst (pa_cons (pe_callB call_len_seq (by rfl) B.len PySem.boot_len (pa_cons (pv 2) pa_nil)) pa_nil))) pa_nil))))) pss_nil)
    (pss_cons (ps_if (pt_cmpR op_eq (pv 3) pe_int (nomark _)) (pss_one (ps_ret (pe_tup (pa_cons (pv 1) (pa_cons (pe_op op_cat (pv 2) (pe_lst (pa_cons (pe_callB call_len_seq (by rfl) B.len PySem.boot_len (pa_cons (pv 2) pa_nil)) pa_nil))) pa_nil))))) pss_nil)
    (pss_cons (ps_if (pt_cmpR op_eq (pv 3) pe_int (nomark _)) (pss_one (ps_ret (pe_tup (pa_cons (pe_op op_cat (pv 1) (pe_lst (pa_cons pe_str pa_nil))) (pa_cons (pe_op op_cat (pv 2) (pe_lst (pa_cons (pe_op op_add (pe_callB call_len_seq (by rfl) B.len PySem.boot_len (pa_cons (pv 1) pa_nil)) pe_int) pa_nil))) pa_nil))))) pss_nil)
    (pss_cons (ps_if (pt_cmpR op_eq (pv 3) pe_int (nomark _)) (pss_one (ps_ret (pe_tup (pa_cons (pe_op op_cat (pv 1) (pe_lst (pa_cons pe_str (pa_cons pe_str pa_nil)))) (pa_cons (pe_op op_cat (pv 2) (pe_lst (pa_cons (pe_callB call_len_seq (by rfl) B.len PySem.boot_len (pa_cons (pv 1) pa_nil)) (pa_cons (pe_callB call_len_seq (by rfl) B.len PySem.boot_len (pa_cons (pv 1) pa_nil)) pa_nil)))) pa_nil))))) pss_nil)
    (pss_one (ps_ret (pe_tup (pa_cons (pe_lst (pa_cons pe_str (pa_cons pe_str (pa_cons pe_str (pa_cons pe_str pa_nil))))) (pa_cons (pe_lst (pa_cons pe_int (pa_cons pe_int (pa_cons pe_int (pa_cons pe_int pa_nil))))) pa_nil)))))))))), ?_⟩
  refine ⟨_, rfl, st, q, b, _, rfl, hs, hb0, by omega, (by decide), (by decide), fun way H1 w0 w1 hs1 gx1 => ?_⟩
  have hk1 := gx1 _ _ nk1 nk2 hk
  have hi1 := gx1 _ _ ni1 ni2 hi
  have lk : ∀ {ss : List Str}, (ss.map V.str).length = ss.length := fun {ss} => List.length_map _
  have li : ∀ {ss : List Int}, (ss.map V.int).length = ss.length := fun {ss} => List.length_map _
  have sz : ∀ {n : Nat}, n ≤ 10 → n ≤ sizeLine := fun h => sz20 (by omega)
  refine ⟨fun σ' H' => σ' = [some (.ref st), some (.ref kp), some (.ref sp), some (.int way)] ∧ Same H1 H', ?_, ?_⟩
  · refine ⟨_, rfl, rfl, _, rfl, ite2 (fun c => ?_) (fun c => ?_)⟩
    · refine ⟨_, rfl, Nat.zero_le _, fun e he => ?_⟩
      have ge := same_new he (.lst [])
      refine ⟨.list (ks.map PyData.str), .list [], .lst (SqL.of (ge _ _ hk1)) (dp_strs _), .lst (SqL.of upd_same) .nil, shaped_kinds hkl hkk, by decide +kernel, _, rfl, ?_⟩
      cases ks with
      | nil => exact iteN (by decide +kernel) ⟨rfl, ge⟩
      | cons a r =>
        refine iteC rfl ?_
        obtain ⟨js, ejs, ljs⟩ := cut_ints is (some 1) none
        refine ⟨_, rfl, _, rfl, _, rfl, sp, _, rfl, SqL.of (ge _ _ hi1), fun p hp => ⟨(by show 2 ≤ sizeLine; decide), fun t ht => ?_⟩⟩
        have gp := same_new hp (.lst (cutV (is.map V.int) (some 1) none))
        have gt := same_new ht (.tup [.ref kp, .ref p])
        have g := ge.trans (gp.trans gt)
        refine k t kp p (a :: r) js (b + 1) _ upd_same (g _ _ hk1) (by rw [← ejs]; exact gt _ _ upd_same) (by omega) ?_ (no_len ?_) (by omega) (by omega) (hs1.same g) (gx1.trans (.of g))
        · rw [ljs]
          have z := cutV_length (is.map V.int) (some 1) none
          rw [li] at z
          omega
        · rw [ljs]
          have e4 : ((a :: r).take 4).length = is.length := by rw [List.length_take, hil]; omega
          rw [e4]
          rcases is with _ | ⟨x, _ | ⟨y, _ | ⟨z, _ | ⟨u, v⟩⟩⟩⟩
          · simp at hil
          · show 0 ≠ 1
            decide
          · show 1 ≠ 2
            decide
          · show 2 ≠ 3
            decide
          · rw [← hil] at hkl
            simp at hkl
    · exact iteF ⟨rfl, Same.refl _⟩
  · rintro σ' H2 ⟨rfl, g12⟩
    have hk2 := g12 _ _ hk1
    have hi2 := g12 _ _ hi1
    have hs2 := hs1.same g12
    have gx2 := gx1.trans (.of (st := st) (q := q) g12)
    have lt4 : ∀ {x : Str}, ((ks ++ [x]).take 4).length = ks.length + 1 := fun {x} => by rw [List.length_take, List.length_append, List.length_singleton]; omega
    refine ⟨_, rfl, rfl, _, rfl, ite2 (fun _ => ?_) (fun _ => ?_)⟩
    · refine ⟨_, rfl, _, rfl, (by show 5 ≤ sizeLine; decide), fun m hm => ?_⟩
      have gm := same_new hm (.lst [.str "sparse", .str "", .str "Dense", .str "dense ", .str "0"])
      obtain ⟨nm1, nm2⟩ := hs2.out hm
      refine ⟨st, q, m, b + 1, _, rfl, hs2.same gm, by omega, by omega, upd_same, nm1, nm2, (by show 0 < 5; decide), (by show 5 ≤ 1000; decide), fun v H3 hv hs3 gx3 => ?_⟩
      obtain ⟨y, rfl, hy⟩ : ∃ y, v = V.str y ∧ y ∉ KINDS := by
        obtain ⟨y, hy, rfl⟩ := List.mem_map.mp (show v ∈ (["sparse", "", "Dense", "dense ", "0"] : List Str).map V.str from hv)
        have z : ∀ y ∈ (["sparse", "", "Dense", "dense ", "0"] : List Str), y ∉ KINDS := by decide +kernel
        exact ⟨y, rfl, z y hy⟩
      have hk3 := gx3 _ _ nk1 nk2 (gm _ _ hk2)
      have hi3 := gx3 _ _ ni1 ni2 (gm _ _ hi2)
      refine ⟨(by show 1 ≤ sizeLine; decide), fun l1 h1 => ?_⟩
      have e1 := same_new h1 (.lst [.str y])
      refine ⟨kp, l1, _, _, rfl, rfl, e1 _ _ hk3, upd_same, sz (by rw [lk]; show ks.length + 1 ≤ 10; omega), fun p1 hp1 => ?_⟩
      have e2 := same_new hp1 (.lst (ks.map V.str ++ [.str y]))
      refine ⟨_, rfl, _, rfl, sp, _, rfl, .inl (SqL.of (e2 _ _ (e1 _ _ hi3))), (by show 1 ≤ sizeLine; decide), fun l2 h2 => ?_⟩
      have e3 := same_new h2 (.lst [.int ((is.map V.int).length : Nat)])
      refine ⟨sp, l2, _, _, rfl, rfl, e3 _ _ (e2 _ _ (e1 _ _ hi3)), upd_same, sz (by rw [li]; show is.length + 1 ≤ 10; omega), fun p2 hp2 => ?_⟩
      have e4 := same_new hp2 (.lst (is.map V.int ++ [.int ((is.map V.int).length : Nat)]))
      refine ⟨(by show 2 ≤ sizeLine; decide), fun t ht => ?_⟩
      have e5 := same_new ht (.tup [.ref p1, .ref p2])
      have eall := e1.trans (e2.trans (e3.trans (e4.trans e5)))
      refine k t p1 p2 (ks ++ [y]) (is ++ ([(((is.map V.int).length : Nat) : Int)] : List Int)) (b + 1 + 1) _ upd_same ?_ ?_ (by rw [List.length_append]; show ks.length + 1 ≤ 10; omega) (by rw [List.length_append]; show is.length + 1 ≤ 10; omega) (no_kind (k := y) ?_ hy) (by omega) (by omega) (hs3.same eall) (((gx2.trans (.of gm)).trans gx3).trans (.of eall))
      · rw [List.map_append]
        exact (e3.trans (e4.trans e5)) _ _ upd_same
      · rw [List.map_append]
        exact e5 _ _ upd_same
      · rw [List.take_of_length_le (by rw [List.length_append, List.length_singleton]; omega)]
        simp
    refine ⟨_, rfl, rfl, _, rfl, ite2 (fun _ => ?_) (fun _ => ?_)⟩
    · refine ⟨_, rfl, _, rfl, _, rfl, sp, _, rfl, .inl (SqL.of hi2), (by show 1 ≤ sizeLine; decide), fun l2 h2 => ?_⟩
      have e3 := same_new h2 (.lst [.int ((is.map V.int).length : Nat)])
      refine ⟨sp, l2, _, _, rfl, rfl, e3 _ _ hi2, upd_same, sz (by rw [li]; show is.length + 1 ≤ 10; omega), fun p2 hp2 => ?_⟩
      have e4 := same_new hp2 (.lst (is.map V.int ++ [.int ((is.map V.int).length : Nat)]))
      refine ⟨(by show 2 ≤ sizeLine; decide), fun t ht => ?_⟩
      have e5 := same_new ht (.tup [.ref kp, .ref p2])
      have eall := e3.trans (e4.trans e5)
      refine k t kp p2 ks (is ++ ([(((is.map V.int).length : Nat) : Int)] : List Int)) (b + 1) _ upd_same (eall _ _ hk2) ?_ (by omega) (by rw [List.length_append]; show is.length + 1 ≤ 10; omega) (no_len ?_) (by omega) (by omega) (hs2.same eall) (gx2.trans (.of eall))
      · rw [List.map_append]
        exact e5 _ _ upd_same
      · rw [List.length_append, List.length_singleton, List.length_take]
        omega
    refine ⟨_, rfl, rfl, _, rfl, ite2 (fun _ => ?_) (fun _ => ?_)⟩
    · refine ⟨_, rfl, (by show 1 ≤ sizeLine; decide), fun l1 h1 => ?_⟩
      have e1 := same_new h1 (.lst [.str "dense"])
      refine ⟨kp, l1, _, _, rfl, rfl, e1 _ _ hk2, upd_same, sz (by rw [lk]; show ks.length + 1 ≤ 10; omega), fun p1 hp1 => ?_⟩
      have e2 := same_new hp1 (.lst (ks.map V.str ++ [.str "dense"]))
      refine ⟨_, rfl, _, rfl, kp, _, rfl, .inl (SqL.of (e2 _ _ (e1 _ _ hk2))), _, _, rfl, rfl, (by show 1 ≤ sizeLine; decide), fun l2 h2 => ?_⟩
      have e3 := same_new h2 (.lst [.int (((ks.map V.str).length : Nat) + 1)])
      refine ⟨sp, l2, _, _, rfl, rfl, e3 _ _ (e2 _ _ (e1 _ _ hi2)), upd_same, sz (by rw [li]; show is.length + 1 ≤ 10; omega), fun p2 hp2 => ?_⟩
      have e4 := same_new hp2 (.lst (is.map V.int ++ [.int (((ks.map V.str).length : Nat) + 1)]))
      refine ⟨(by show 2 ≤ sizeLine; decide), fun t ht => ?_⟩
      have e5 := same_new ht (.tup [.ref p1, .ref p2])
      have eall := e1.trans (e2.trans (e3.trans (e4.trans e5)))
      refine k t p1 p2 (ks ++ (["dense"] : List Str)) (is ++ [(((ks.map V.str).length : Nat) : Int) + 1]) (b + 1) _ upd_same ?_ ?_ (by rw [List.length_append]; show ks.length + 1 ≤ 10; omega) (by rw [List.length_append]; show is.length + 1 ≤ 10; omega) (no_axis (j := ks.length) (by rw [lt4]; omega) ?_) (by omega) (by omega) (hs2.same eall) (gx2.trans (.of eall))
      · rw [List.map_append]
        exact (e3.trans (e4.trans e5)) _ _ upd_same
      · rw [List.map_append]
        exact e5 _ _ upd_same
      · intro hm
        rcases List.mem_append.mp hm with hm | hm
        · have := hii _ hm
          omega
        · have := List.mem_singleton.mp hm
          rw [lk] at this
          omega
    refine ⟨_, rfl, rfl, _, rfl, ite2 (fun _ => ?_) (fun _ => ?_)⟩
    · refine ⟨_, rfl, (by show 2 ≤ sizeLine; decide), fun l1 h1 => ?_⟩
      have e1 := same_new h1 (.lst [.str "bits", .str "bits"])
      refine ⟨kp, l1, _, _, rfl, rfl, e1 _ _ hk2, upd_same, sz (by rw [lk]; show ks.length + 2 ≤ 10; omega), fun p1 hp1 => ?_⟩
      have e2 := same_new hp1 (.lst (ks.map V.str ++ [.str "bits", .str "bits"]))
      have hk3 := e2 _ _ (e1 _ _ hk2)
      refine ⟨_, rfl, _, rfl, kp, _, rfl, .inl (SqL.of hk3), _, rfl, kp, _, rfl, .inl (SqL.of hk3), (by show 2 ≤ sizeLine; decide), fun l2 h2 => ?_⟩
      have e3 := same_new h2 (.lst [.int ((ks.map V.str).length : Nat), .int ((ks.map V.str).length : Nat)])
      refine ⟨sp, l2, _, _, rfl, rfl, e3 _ _ (e2 _ _ (e1 _ _ hi2)), upd_same, sz (by rw [li]; show is.length + 2 ≤ 10; omega), fun p2 hp2 => ?_⟩
      have e4 := same_new hp2 (.lst (is.map V.int ++ [.int ((ks.map V.str).length : Nat), .int ((ks.map V.str).length : Nat)]))
      refine ⟨(by show 2 ≤ sizeLine; decide), fun t ht => ?_⟩
      have e5 := same_new ht (.tup [.ref p1, .ref p2])
      have eall := e1.trans (e2.trans (e3.trans (e4.trans e5)))
      refine k t p1 p2 (ks ++ (["bits", "bits"] : List Str)) (is ++ [(((ks.map V.str).length : Nat) : Int), (((ks.map V.str).length : Nat) : Int)]) (b + 1) _ upd_same ?_ ?_ (by rw [List.length_append]; show ks.length + 2 ≤ 10; omega) (by rw [List.length_append]; show is.length + 2 ≤ 10; omega) ?_ (by omega) (by omega) (hs2.same eall) (gx2.trans (.of eall))
      · rw [List.map_append]
        exact (e3.trans (e4.trans e5)) _ _ upd_same
      · rw [List.map_append]
        exact e5 _ _ upd_same
      · by_cases h2 : 2 ≤ ks.length
        · exact no_long (by rw [List.length_append]; show 4 ≤ ks.length + 2; omega)
        · refine no_axis (j := ks.length + 1) (by rw [List.length_take, List.length_append]; show ks.length + 1 < min 4 (ks.length + 2); omega) fun hm => ?_
          rcases List.mem_append.mp hm with hm | hm
          · have := hii _ hm
            omega
          · have z : (((ks.length + 1 : Nat) : Int)) = ((ks.map V.str).length : Nat) := by simpa using hm
            rw [lk] at z
            omega
    refine ⟨(by show 4 ≤ sizeLine; decide), fun l1 h1 => ⟨(by show 4 ≤ sizeLine; decide), fun l2 h2 => ⟨(by show 2 ≤ sizeLine; decide), fun t ht => ?_⟩⟩⟩
    have e1 := same_new h1 (.lst [.str "dense", .str "packed", .str "bits", .str "hashed"])
    have e2 := same_new h2 (.lst [.int 0, .int 1, .int 2, .int 3])
    have e3 := same_new ht (.tup [.ref l1, .ref l2])
    have eall := e1.trans (e2.trans e3)
    exact k t l1 l2 ["dense", "packed", "bits", "hashed"] [0, 1, 2, 3] (b + 1) _ upd_same ((e2.trans e3) _ _ upd_same) (e3 _ _ upd_same) (by decide) (by decide) (no_long (by decide)) (by omega) (by omega) (hs2.same eall) (gx2.trans (.of eall))
end
end Lw
namespace Lw
open PySem L2 TL
theorem spl_mem (S : List Nat) : ∀ (l : List Nat) (k : Nat) (acc p : List Nat), p ∈ spl S k acc l → ∀ c ∈ p, c ∈ acc ∨ c ∈ l
  | [], k, acc, p, hp, c, hc => by
    rw [spl_nil] at hp
    rw [List.mem_singleton.mp hp] at hc
    exact .inl hc
  | x :: r, 0, acc, p, hp, c, hc => by
    cases h : pre S (x :: r) with
    | true =>
      rw [spl_hit h] at hp
      rcases List.mem_cons.mp hp with e | hp
      · rw [e] at hc; exact .inl hc
      · rcases spl_mem S r _ _ p hp c hc with z | z
        · cases z
        · exact .inr (List.mem_cons_of_mem _ z)
    | false =>
      rw [spl_miss h] at hp
      rcases spl_mem S r _ _ p hp c hc with z | z
      · rcases List.mem_append.mp z with z | z
        · exact .inl z
        · rw [List.mem_singleton.mp z]; exact .inr (List.mem_cons_self ..)
      · exact .inr (List.mem_cons_of_mem _ z)
  | x :: r, k + 1, acc, p, hp, c, hc => by
    rcases spl_mem S r k acc p hp c hc with z | z
    · exact .inl z
    · exact .inr (List.mem_cons_of_mem _ z)
theorem ok_split {z y p : Str} (hy : tl y ≠ []) (hk : y.cps.all (· < 256) = true) (h : PyData.strOk z = true) (hp : p ∈ Txt.split z y) : PyData.strOk p = true := by
  refine ok_sign h fun c hc => ?_
  have e := split_spl z y hy (kind_ok hk)
  have m : tl p ∈ spl (tl y) 0 [] (tl z) := by rw [← e]; exact List.mem_map_of_mem hp
  rcases spl_mem _ _ _ _ _ m c hc with q | q
  · cases q
  · exact q
theorem shaped_strs : ∀ {ks : List Str}, ks.length ≤ 3 → (∀ k ∈ ks, PyData.strOk k = true) → SeqAt.shaped (.list (ks.map PyData.str)) = true
  | [], _, _ => by decide +kernel
  | [a], _, h => by
    have h1 := h a (by simp)
    simp [SeqAt.shaped, PyData.canLay0, PyData.canLayAll0, PyData.depth, PyData.depthAll, h1]
  | [a, b], _, h => by
    have h1 := h a (by simp)
    have h2 := h b (by simp)
    simp [SeqAt.shaped, PyData.canLay0, PyData.canLayAll0, PyData.depth, PyData.depthAll, h1, h2]
  | [a, b, c], _, h => by
    have h1 := h a (by simp)
    have h2 := h b (by simp)
    have h3 := h c (by simp)
    simp [SeqAt.shaped, PyData.canLay0, PyData.canLayAll0, PyData.depth, PyData.depthAll, h1, h2, h3]
  | _ :: _ :: _ :: _ :: _, h, _ => by simp at h
theorem eqv_strs : ∀ xs ys : List Str, PyData.eqvAll (xs.map PyData.str) (ys.map PyData.str) = decide (xs = ys)
  | [], [] => by simp [PyData.eqvAll]
  | [], _ :: _ => by simp [PyData.eqvAll]
  | _ :: _, [] => by simp [PyData.eqvAll]
  | a :: r, b :: t => by
    have q := eqv_strs r t
    rw [List.map_cons, List.map_cons]
    show (PyData.eqv (.str a) (.str b) && PyData.eqvAll (r.map PyData.str) (t.map PyData.str)) = _
    rw [q]
    show ((a == b) && decide (r = t)) = _
    by_cases h1 : a = b <;> by_cases h2 : r = t <;> simp [h1, h2]
def wk (p : Str) : Str := (Txt.split p " ").getD 0 Str.empty
def wa (p : Str) : Str := (Txt.split p " ").getD 1 Str.empty
theorem two_words {p : Str} (h : (Txt.split p " ").length = 2) : Txt.split p " " = [wk p, wa p] := by
  unfold wk wa
  match Txt.split p " ", h with
  | [a, b], _ => rfl
theorem lvl_w {p : Str} (h : (Txt.split p " ").length = 2) : lvl p = if wa p ∈ AWORDS then some (wk p, aval (wa p)) else none := lvl_two (two_words h)
theorem axes_perm {is js : List Int} (h : is.Perm js) (n : Nat) : axesOk is n = axesOk js n := by
  unfold axesOk
  rw [h.length_eq]
  congr 1
  congr 1
  funext j
  by_cases q : (j : Int) ∈ is
  · rw [decide_eq_true q, decide_eq_true (h.mem_iff.mp q)]
  · rw [decide_eq_false q, decide_eq_false (fun z => q (h.mem_iff.mpr z))]
theorem fm_all {ps : List Str} (h : ∀ p ∈ ps, (Txt.split p " ").length = 2) (ha : ∀ p ∈ ps, wa p ∈ AWORDS) : ps.filterMap lvl = ps.map fun p => (wk p, aval (wa p)) := by
  induction ps with
  | nil => rfl
  | cons p r ih =>
    have e : lvl p = some (wk p, aval (wa p)) := by rw [lvl_w (h p (List.mem_cons_self ..)), if_pos (ha p (List.mem_cons_self ..))]
    rw [List.filterMap_cons_some e, ih (fun q hq => h q (List.mem_cons_of_mem _ hq)) (fun q hq => ha q (List.mem_cons_of_mem _ hq))] <;> rfl
/-- what the law's look says, and what Form.read makes -/
theorem rd_some_iff {z : Str} (hz : z ≠ "-") (h : ∀ p ∈ Txt.split z ", ", (Txt.split p " ").length = 2) :
    (rd z).isSome = true ↔ (∀ p ∈ Txt.split z ", ", wa p ∈ AWORDS) ∧ valid ((Txt.split z ", ").map wk) (((Txt.split z ", ").map wa).map aval) = true := by
  have key : (∀ p ∈ Txt.split z ", ", wa p ∈ AWORDS) → lks (Txt.split z ", ") = (Txt.split z ", ").map wk ∧ lis (Txt.split z ", ") = ((Txt.split z ", ").map wa).map aval := fun ha => by
    unfold lks lis
    rw [fm_all h ha, List.map_map, List.map_map, List.map_map]
    exact ⟨rfl, rfl⟩
  constructor
  · intro hs
    unfold rd at hs
    rw [if_neg hz] at hs
    split at hs
    · rename_i c
      obtain ⟨c1, c2⟩ := c
      rw [List.all_eq_true] at c1
      have ha : ∀ p ∈ Txt.split z ", ", wa p ∈ AWORDS := fun p hp => by
        have q := c1 p hp
        rw [lvl_w (h p hp)] at q
        by_cases m : wa p ∈ AWORDS
        · exact m
        · rw [if_neg m] at q
          cases q
      obtain ⟨k1, k2⟩ := key ha
      rw [k1, k2] at c2
      exact ⟨ha, c2⟩
    · cases hs
  · rintro ⟨ha, hv⟩
    obtain ⟨k1, k2⟩ := key ha
    have hall : ((Txt.split z ", ").all fun p => (lvl p).isSome) = true := by
      rw [List.all_eq_true]
      intro p hp
      rw [lvl_w (h p hp), if_pos (ha p hp)]
      rfl
    unfold rd
    rw [if_neg hz, if_pos ⟨hall, by rw [k1, k2]; exact hv⟩]
    rfl
theorem sorted_take : ∀ {ys : List Str}, ys.length ≤ 3 → (∀ y ∈ ys, y ∈ AWORDS) → PyProof.Rows.sortedS ys = true → axesOk (ys.map aval) ys.length = true → ys = AWORDS.take ys.length
  | [], _, _, _, _ => rfl
  | [a], _, h, s, x => by
    have z : ∀ a ∈ AWORDS, PyProof.Rows.sortedS [a] = true → axesOk ([a].map aval) 1 = true → [a] = AWORDS.take 1 := by decide +kernel
    exact z a (h a (by simp)) s x
  | [a, b], _, h, s, x => by
    have z : ∀ a ∈ AWORDS, ∀ b ∈ AWORDS, PyProof.Rows.sortedS [a, b] = true → axesOk ([a, b].map aval) 2 = true → [a, b] = AWORDS.take 2 := by decide +kernel
    exact z a (h a (by simp)) b (h b (by simp)) s x
  | [a, b, c], _, h, s, x => by
    have z : ∀ a ∈ AWORDS, ∀ b ∈ AWORDS, ∀ c ∈ AWORDS, PyProof.Rows.sortedS [a, b, c] = true → axesOk ([a, b, c].map aval) 3 = true → [a, b, c] = AWORDS.take 3 := by decide +kernel
    exact z a (h a (by simp)) b (h b (by simp)) c (h c (by simp)) s x
  | _ :: _ :: _ :: _ :: _, h, _, _, _ => by simp at h
theorem take_axes : ∀ n, n ≤ 3 → axesOk ((AWORDS.take n).map aval) n = true := by
  intro n hn
  have z : ∀ n ∈ [0, 1, 2, 3], axesOk ((AWORDS.take n).map aval) n = true := by decide +kernel
  exact z n (by simp; omega)
/-- the last look: sorted words against the numbers -/
theorem last_look {z : Str} (hz : z ≠ "-") (hl : (Txt.split z ", ").length ≤ 3) (h : ∀ p ∈ Txt.split z ", ", (Txt.split p " ").length = 2) (hk : ∀ p ∈ Txt.split z ", ", wk p ∈ KINDS) {ys : List Str} (hp : ys.Perm ((Txt.split z ", ").map wa)) (hs : PyProof.Rows.sortedS ys = true) :
    decide (ys = AWORDS.take (Txt.split z ", ").length) = (rd z).isSome := by
  have ly : ys.length = (Txt.split z ", ").length := by rw [hp.length_eq, List.length_map]
  have hv : ∀ is, valid ((Txt.split z ", ").map wk) is = axesOk is (Txt.split z ", ").length := fun is => by
    unfold valid
    rw [List.length_map, decide_eq_true hl, Bool.true_and]
    have e : (((Txt.split z ", ").map wk).all fun k => decide (k ∈ KINDS)) = true := by
      rw [List.all_eq_true]
      intro k hk'
      obtain ⟨p, hp', rfl⟩ := List.mem_map.mp hk'
      exact decide_eq_true (hk p hp')
    rw [e, Bool.true_and]
  have hax : axesOk (((Txt.split z ", ").map wa).map aval) (Txt.split z ", ").length = axesOk (ys.map aval) (Txt.split z ", ").length := axes_perm (hp.symm.map aval) _
  cases hr : (rd z).isSome with
  | true =>
    obtain ⟨ha, hvv⟩ := (rd_some_iff hz h).mp hr
    rw [hv, hax, ← ly] at hvv
    refine decide_eq_true ?_
    rw [← ly]
    refine sorted_take (by omega) (fun y hy => ?_) hs hvv
    obtain ⟨p, hp', rfl⟩ := List.mem_map.mp (hp.mem_iff.mp hy)
    exact ha p hp'
  | false =>
    refine decide_eq_false fun e => ?_
    have t : (rd z).isSome = true := (rd_some_iff hz h).mpr ⟨fun p hp' => ?_, by rw [hv, hax, e]; exact take_axes _ hl⟩
    · rw [hr] at t
      cases t
    · have m : wa p ∈ ys := hp.mem_iff.mpr (List.mem_map_of_mem hp')
      rw [e] at m
      exact List.mem_of_mem_take m
theorem rd_long {z : Str} (hz : z ≠ "-") (h : 3 < (Txt.split z ", ").length) : rd z = none := by
  unfold rd
  rw [if_neg hz, if_neg]
  rintro ⟨h1, h2⟩
  rw [List.all_eq_true] at h1
  obtain ⟨v1, _⟩ := valid_parts h2
  have e : ∀ ps : List Str, (∀ p ∈ ps, (lvl p).isSome = true) → (lks ps).length = ps.length := by
    intro ps
    induction ps with
    | nil => intro _; rfl
    | cons p r ih =>
      intro hp
      have q := hp p (List.mem_cons_self ..)
      obtain ⟨x, ex⟩ := Option.isSome_iff_exists.mp q
      have i := ih fun p' hp' => hp p' (List.mem_cons_of_mem _ hp')
      unfold lks at i ⊢
      rw [List.filterMap_cons_some ex, List.map_cons, List.length_cons, List.length_cons, i]
  rw [e _ h1] at v1
  omega
theorem rd_kind {z p : Str} (hz : z ≠ "-") (h : ∀ p ∈ Txt.split z ", ", (Txt.split p " ").length = 2) (hp : p ∈ Txt.split z ", ") (hk : wk p ∉ KINDS) : rd z = none := by
  cases hr : (rd z).isSome with
  | true =>
    obtain ⟨_, hv⟩ := (rd_some_iff hz h).mp hr
    exact absurd ((valid_parts hv).2.1 _ (List.mem_map_of_mem hp)) hk
  | false => exact Option.not_isSome_iff_eq_none.mp (by rw [hr]; decide)
end Lw
namespace Lw
open PySem L2 TL
abbrev sRight : Stmt := topS 20
/-- the parts' words, each in a list of its own -/
def Prt (H : Hp) (us : List V) (ps : List Str) : Prop := us.length = ps.length ∧ ∀ (i : Nat) (u : V) (p : Str), us[i]? = some u → ps[i]? = some p → ∃ a, u = .ref a ∧ H a = some (.lst ((Txt.split p " ").map V.str))
theorem Prt.same {H H' : Hp} {us : List V} {ps : List Str} (g : Same H H') (h : Prt H us ps) : Prt H' us ps :=
  ⟨h.1, fun i u p e1 e2 => by obtain ⟨a, r, z⟩ := h.2 i u p e1 e2; exact ⟨a, r, g _ _ z⟩⟩
def InvP (H0 : Hp) (L D : Addr) (ps : List Str) (i : Nat) (H : Hp) : Prop := ∃ acc : List V, H D = some (.lst acc) ∧ H L = some (.lst (ps.map V.str)) ∧ Prt H acc (ps.take i) ∧ Same H0 H
/-- a look at each part: the list of answers so far -/
def InvQ (H0 : Hp) (D : Addr) (F : Str → V) (ps : List Str) (i : Nat) (H : Hp) : Prop := H D = some (.lst ((ps.take i).map F)) ∧ Same H0 H
section
variable {P : Program} {w : World} {K : PySem.W.Frag} {mg : Str → Option Value} {base : Heap} {f : Addr} {fd : FuncData}
def spRight : Sp := fun vs H Q _ => ∃ z : Str, vs = [.str z] ∧ z.length ≤ 900 ∧ PyData.strOk z = true ∧ ∀ H' : Hp, Same H H' → Q (.bl (rd z).isSome) H'
abbrev namesRt : List Str := ["_law_text", "_law_parts", "_law_part"]
theorem scRt : FnScope namesRt ["_law_text"] (defScope sRight) := ⟨rfl, rfl, rfl, by decide +kernel, rfl, by decide +kernel, by decide +kernel⟩
theorem at_both {us : List V} {ps : List Str} {H : Hp} {i : Nat} {x : V} (h : Prt H us ps) (hx : us[i]? = some x) : ∃ p a, ps[i]? = some p ∧ x = .ref a ∧ H a = some (.lst ((Txt.split p " ").map V.str)) := by
  have hi : i < ps.length := by rw [← h.1]; exact (List.getElem?_eq_some_iff.mp hx).1
  obtain ⟨a, r, z⟩ := h.2 i x _ hx (List.getElem?_eq_getElem hi)
  exact ⟨_, a, List.getElem?_eq_getElem hi, r, z⟩
abbrev tLen (K : PySem.W.Frag) (i : Nat) : TE := tCB (fun xs H Q => ∃ p ys, xs = [.ref p] ∧ (SqL K H p ys ∨ SqT K H p ys) ∧ Q (.int ys.length) H) (tCons (tVar i) tNil)
theorem ok_right (F : Fun K "_law_right_text" "_law_right_text" sRight f fd) (B : Bt mg) (S : Bs mg) : FnOk P w K mg base CX0 1 f fd ["_law_text"] spRight := by
  refine F.ok scRt (fun vs H Q E h => ?_) (fun cdv A outer s H vs Q E hr h => ?_)
  · obtain ⟨z, rfl, _⟩ := h
    rfl
  obtain ⟨z, rfl, hz, hzk, q⟩ := h
  obtain ⟨pl, pn⟩ := split_lens z ", " (by decide +kernel) (by decide +kernel)
  refine ⟨_, pss_cons (ps_if (pt_cmpR op_eq (pv 0) pe_str (nomark _)) (pss_one (ps_ret pe_bl)) pss_nil)
    (pss_cons (ps_setLc (i := 1) (own := [("_law_part", 2)]) (g := gName 2) (tt := tYes) rfl scRt.nd rfl rfl (sw_true rfl rfl rfl (by decide +kernel)) (pi_list (pe_split (pv 0) pe_str)) (blkOk_by (N := namesRt) (sc := defScope sRight) (by decide +kernel)) (fun _ _ _ _ _ => pg_name (i := 2) scRt.nd rfl (Or.inl rfl)) (fun _ _ _ _ _ => pts_nil) (fun _ _ _ _ _ => pe_split (pv 2) pe_str))
    (pss_cons (ps_if (PW.pt (pw_or (pt_cmpR op_gt (pe_callB call_len_seq (by rfl) B.len PySem.boot_len (pa_cons (pv 1) pa_nil)) pe_int (nomark _)) (pw_or1 (pt_val (pe_callB (cr_any rfl) (by rfl) S.any (by decide +kernel) (pa_cons (pe_lc (own := [("_law_part", 2)]) (g := gName 2) (tt := tYes) (te := tOp rNe (tLen K 2) (tC (.int 2))) rfl scRt.nd (pi_list (pv 1)) (blkOk_by (N := namesRt) (sc := defScope sRight) (by decide +kernel)) (fun _ _ _ _ _ => pg_name (i := 2) scRt.nd rfl (Or.inl rfl)) (fun _ _ _ _ _ => pts_nil)
        (fun _ _ _ _ _ => pe_cmpR op_ne (pe_callB call_len_seq (by rfl) B.len PySem.boot_len (pa_cons (pv 2) pa_nil)) pe_int (nomark _))) pa_nil)))))) (pss_one (ps_ret pe_bl)) pss_nil)
    (pss_cons (ps_if (pt_val (pe_callB (cr_any rfl) (by rfl) S.any (by decide +kernel) (pa_cons (pe_lc (own := [("_law_part", 2)]) (g := gName 2) (tt := tYes) (te := tOp (rIn K true) (tOp (rIxL K) (tVar 2) (tC (.int 0))) (tTup (tCons (tC (.str "dense")) (tCons (tC (.str "packed")) (tCons (tC (.str "bits")) (tCons (tC (.str "hashed")) tNil)))))) rfl scRt.nd (pi_list (pv 1)) (blkOk_by (N := namesRt) (sc := defScope sRight) (by decide +kernel)) (fun _ _ _ _ _ => pg_name (i := 2) scRt.nd rfl (Or.inl rfl)) (fun _ _ _ _ _ => pts_nil)
        (fun _ _ _ _ _ => pe_cmpR op_notIn_seq (pe_ix ix_list (pv 2) pe_int (fun _ _ => rfl)) (pe_tup (pa_cons pe_str (pa_cons pe_str (pa_cons pe_str (pa_cons pe_str pa_nil))))) (by rfl))) pa_nil))) (pss_one (ps_ret pe_bl)) pss_nil)
    (pss_one (ps_ret (pe_cmpR (op_eqD hr.units) (pe_callB cr_sortedS (by rfl) S.sorted (by decide +kernel) (pa_cons (pe_lc (own := [("_law_part", 2)]) (g := gName 2) (tt := tYes) (te := tOp (rIxL K) (tVar 2) (tC (.int 1))) rfl scRt.nd (pi_list (pv 1)) (blkOk_by (N := namesRt) (sc := defScope sRight) (by decide +kernel)) (fun _ _ _ _ _ => pg_name (i := 2) scRt.nd rfl (Or.inl rfl)) (fun _ _ _ _ _ => pts_nil)
        (fun _ _ _ _ _ => pe_ix ix_list (pv 2) pe_int (fun _ _ => rfl))) pa_nil)) (pe_slice sl_list (pe_lst (pa_cons pe_str (pa_cons pe_str (pa_cons pe_str pa_nil)))) po_none (po_some (pe_callB call_len_seq (by rfl) B.len PySem.boot_len (pa_cons (pv 1) pa_nil)))) (nomark _))))))), ?_⟩
  refine ⟨_, rfl, rfl, _, rfl, ?_⟩
  refine ite2 (fun c => ?_) (fun c => ?_)
  · have ez : z = "-" := by
      have y := of_decide_eq_true c
      cases y
      rfl
    have er : (rd z).isSome = true := by
      unfold rd
      rw [if_pos ez]
      rfl
    have y := q H (Same.refl H)
    rw [er] at y
    exact y
  have nz : z ≠ "-" := fun e => c (by rw [e]; exact decide_eq_true rfl)
  have sz : ∀ {n : Nat}, n ≤ 910 → n ≤ sizeLine := fun h => sz20 (by omega)
  refine ⟨_, rfl, ⟨_, rfl⟩, _, _, rfl, rfl, rfl, sz (by omega), fun L hL => ?_⟩
  have gL := same_new hL (.lst ((Txt.split z ", ").map V.str))
  refine ⟨L, rfl, ⟨_, SqL.of upd_same⟩, fun D hD => ?_⟩
  have hDH : H D = none := gL.free hD
  have gD := same_new hD (.lst [])
  have elm : ((Txt.split z ", ").map V.str).length = (Txt.split z ", ").length := List.length_map _
  refine lc_list (K := K) (a := L) (xs := (Txt.split z ", ").map V.str) (InvP H L D (Txt.split z ", ")) ⟨[], upd_same, gD _ _ upd_same, ⟨rfl, fun i u p e => (by simp at e)⟩, gL.trans gD⟩ (fun i H2 _ ⟨_, _, h2, _⟩ => SqL.of h2) ?_ ?_
  · rintro i x H2 hx ⟨acc, hd, hl2, hpr, g⟩
    obtain ⟨p, ep, rfl⟩ := at_map hx
    have hi : i < (Txt.split z ", ").length := (List.getElem?_eq_some_iff.mp ep).1
    have hpm : p ∈ Txt.split z ", " := List.mem_of_getElem? ep
    have plen := pl p hpm
    have lacc : acc.length = i := by rw [hpr.1, List.length_take]; omega
    refine ⟨rfl, kept ?_⟩
    refine ⟨_, rfl, ⟨_, rfl⟩, _, _, rfl, rfl, rfl, sz (by omega), fun W hW => ?_⟩
    have gW := same_new hW (.lst ((Txt.split p " ").map V.str))
    have nDL : L ≠ D := fun e => by
      have y := hD
      rw [← e, upd_same] at y
      cases y
    have hd3 := gW _ _ hd
    refine ⟨acc, hd3, small1000 (by omega), acc ++ [.ref W], upd_same, by rw [upd_ne nDL]; exact gW _ _ hl2, ?_, same_over (g.trans gW) hDH _⟩
    have et : (Txt.split z ", ").take (i + 1) = (Txt.split z ", ").take i ++ [p] := by rw [List.take_succ, ep] <;> rfl
    have nWD : W ≠ D := (ne_of_none hd hW).symm
    refine ⟨by rw [et, List.length_append, List.length_append, hpr.1] <;> rfl, fun j u p' eu ep' => ?_⟩
    rw [et] at ep'
    by_cases hj : j < acc.length
    · rw [List.getElem?_append_left hj] at eu
      rw [List.getElem?_append_left (by rw [← hpr.1]; exact hj)] at ep'
      obtain ⟨a, r, ha⟩ := hpr.2 j u p' eu ep'
      have naD : a ≠ D := fun e => by
        exact False.elim (by simp_all)
      exact ⟨a, r, by rw [upd_ne naD]; exact gW _ _ ha⟩
    · have hj2 : j = acc.length := by
        have q1 := (List.getElem?_eq_some_iff.mp eu).1
        rw [List.length_append, List.length_singleton] at q1
        omega
      subst hj2
      rw [List.getElem?_append_right (Nat.le_refl _), Nat.sub_self] at eu
      rw [List.getElem?_append_right (by rw [← hpr.1]; exact Nat.le_refl _), ← hpr.1, Nat.sub_self] at ep'
      cases eu
      cases ep'
      exact ⟨W, rfl, by rw [upd_ne nWD, upd_same]⟩
  · rintro H2 ⟨us, hd, _, hpr, g⟩
    rw [elm, List.take_length] at hpr
    have nom : ∀ {b : Bool}, rd z = none → (rd z).isSome = false := fun e => by rw [e] <;> rfl
    refine ⟨_, rfl, D, _, rfl, .inl (SqL.of hd), _, _, rfl, rfl, _, rfl, ite2 (fun c3 => ?_) (fun c3 => ?_)⟩
    · refine iteC rfl ?_
      have c4 : (3 : Int) < ((us.length : Nat) : Int) := of_decide_eq_true c3
      have y := q H2 g
      rw [nom (b := true) (rd_long nz (by rw [← hpr.1]; omega))] at y
      exact y
    have c4 : ¬ (3 : Int) < ((us.length : Nat) : Int) := of_decide_eq_false (Bool.eq_false_iff.mpr c3)
    have hl3 : (Txt.split z ", ").length ≤ 3 := by rw [← hpr.1]; omega
    refine ⟨_, rfl, D, rfl, ⟨_, SqL.of hd⟩, fun D2 hD2 => ?_⟩
    have hD20 : H D2 = none := g.free hD2
    refine lc_list (K := K) (a := D) (xs := us) (InvQ H2 D2 (fun p => V.bl (!decide (V.int ((((Txt.split p " ").map V.str).length : Nat) : Int) = V.int 2))) (Txt.split z ", ")) ⟨upd_same, same_new hD2 _⟩ (fun i H3 _ ⟨_, g3⟩ => SqL.of (g3 _ _ hd)) (fun i x H3 hx hv => ?_) ?_
    · obtain ⟨p, a, ep, rfl, ha⟩ := at_both hpr hx
      refine ⟨rfl, kept ?_⟩
      exact ⟨_, rfl, a, _, rfl, .inl (SqL.of (hv.2 _ _ ha)), rfl, _, hv.1, len_m (by omega), InvM.next (f := fun p => V.bl (!decide (V.int ((((Txt.split p " ").map V.str).length : Nat) : Int) = V.int 2))) hD2 hv.2 ep _ rfl⟩
    rintro H3 ⟨hd3, g3⟩
    rw [hpr.1, List.take_length] at hd3
    refine ⟨D2, (Txt.split z ", ").map (fun p => !decide (V.int ((((Txt.split p " ").map V.str).length : Nat) : Int) = V.int 2)), rfl, SqL.of (by rw [hd3, List.map_map] <;> rfl), _, rfl, ite2 (fun c5 => ?_) (fun c5 => ?_)⟩
    · rw [List.any_map, List.any_eq_true] at c5
      obtain ⟨p, hp, hne⟩ := c5
      have h2 : (Txt.split p " ").length ≠ 2 := fun e => by
        simp [e] at hne
      have y := q H3 (g.trans g3)
      rw [nom (b := true) (rd_none nz hp (lvl_not h2))] at y
      exact y
    have h2 : ∀ p ∈ Txt.split z ", ", (Txt.split p " ").length = 2 := fun p hp => by
      by_cases e : (Txt.split p " ").length = 2
      · exact e
      · refine absurd ?_ c5
        rw [List.any_map, List.any_eq_true]
        refine ⟨p, hp, ?_⟩
        show (!decide (V.int ((((Txt.split p " ").map V.str).length : Nat) : Int) = V.int 2)) = true
        rw [List.length_map, decide_eq_false (fun y => e (by injection y with y; omega))]
        rfl
    have hpr3 := hpr.same g3
    have hd33 := g3 _ _ hd
    have wd : ∀ {H' : Hp} {a : Addr} {p : Str}, p ∈ Txt.split z ", " → H' a = some (.lst ((Txt.split p " ").map V.str)) → H' a = some (.lst [.str (wk p), .str (wa p)]) := fun {H' a p} hp e => by
      rw [two_words (h2 p hp)] at e
      exact e
    refine ⟨_, rfl, D, rfl, ⟨_, SqL.of hd33⟩, fun D4 hD4 => ?_⟩
    refine lc_list (K := K) (a := D) (xs := us) (InvQ H3 D4 (fun p => V.bl (!decide (wk p ∈ KINDS))) (Txt.split z ", ")) ⟨upd_same, same_new hD4 _⟩ (fun i H5 _ ⟨_, g5⟩ => SqL.of (g5 _ _ hd33)) (fun i x H5 hx hv => ?_) ?_
    · obtain ⟨p, a, ep, rfl, ha⟩ := at_both hpr3 hx
      have hpm : p ∈ Txt.split z ", " := List.mem_of_getElem? ep
      have ha5 := wd hpm (hv.2 _ _ ha)
      refine ⟨rfl, kept ?_⟩
      refine ⟨_, rfl, a, _, _, _, rfl, rfl, SqL.of ha5, rfl, (by show 4 ≤ sizeLine; decide), fun t ht => ?_⟩
      have gt := same_new ht (.tup [.str "dense", .str "packed", .str "bits", .str "hashed"])
      refine ⟨t, _, rfl, .inr (SqT.of upd_same), rfl, rfl, _, gt _ _ hv.1, len_m (by omega), ?_⟩
      have y := InvM.next (f := fun p => V.bl (!decide (wk p ∈ KINDS))) hD4 (hv.2.trans gt) ep _ rfl
      rw [show inV (.str (wk p)) [.str "dense", .str "packed", .str "bits", .str "hashed"] = decide (wk p ∈ KINDS) from inV_str (wk p) KINDS]
      exact y
    rintro H5 ⟨hd5, g5⟩
    rw [hpr.1, List.take_length] at hd5
    refine ⟨D4, (Txt.split z ", ").map (fun p => !decide (wk p ∈ KINDS)), rfl, SqL.of (by rw [hd5, List.map_map] <;> rfl), _, rfl, ite2 (fun c7 => ?_) (fun c7 => ?_)⟩
    · rw [List.any_map, List.any_eq_true] at c7
      obtain ⟨p, hp, hne⟩ := c7
      have hk : wk p ∉ KINDS := fun e => by
        simp [e] at hne
      have y := q H5 ((g.trans g3).trans g5)
      rw [nom (b := true) (rd_kind nz h2 hp hk)] at y
      exact y
    have hk : ∀ p ∈ Txt.split z ", ", wk p ∈ KINDS := fun p hp => by
      by_cases e : wk p ∈ KINDS
      · exact e
      · refine absurd ?_ c7
        rw [List.any_map, List.any_eq_true]
        exact ⟨p, hp, by show (!decide (wk p ∈ KINDS)) = true; rw [decide_eq_false e] <;> rfl⟩
    have hpr5 := hpr3.same g5
    have hd55 := g5 _ _ hd33
    refine ⟨_, rfl, D, rfl, ⟨_, SqL.of hd55⟩, fun D6 hD6 => ?_⟩
    refine lc_list (K := K) (a := D) (xs := us) (InvQ H5 D6 (fun p => V.str (wa p)) (Txt.split z ", ")) ⟨upd_same, same_new hD6 _⟩ (fun i H7 _ ⟨_, g7⟩ => SqL.of (g7 _ _ hd55)) (fun i x H7 hx hv => ?_) ?_
    · obtain ⟨p, a, ep, rfl, ha⟩ := at_both hpr5 hx
      have ha7 := wd (List.mem_of_getElem? ep) (hv.2 _ _ ha)
      refine ⟨rfl, kept ?_⟩
      exact ⟨_, rfl, a, _, _, _, rfl, rfl, SqL.of ha7, rfl, _, hv.1, len_m (by omega), InvM.next (f := fun p => V.str (wa p)) hD6 hv.2 ep _ rfl⟩
    rintro H7 ⟨hd7, g7⟩
    rw [hpr.1, List.take_length] at hd7
    have g70 := ((g.trans g3).trans g5).trans g7
    refine ⟨D6, (Txt.split z ", ").map wa, rfl, SqL.of (by rw [hd7, List.map_map] <;> rfl), by rw [List.length_map]; omega, fun ys p perm srt np => ?_⟩
    have gp := same_new np (.lst (ys.map V.str))
    refine ⟨(by show 3 ≤ sizeLine; decide), fun l hl => ?_⟩
    have gl := same_new hl (.lst [.str "0", .str "1", .str "2"])
    have hd9 := gl _ _ (gp _ _ (g7 _ _ hd55))
    refine ⟨_, rfl, D, _, rfl, .inl (SqL.of hd9), _, rfl, l, _, rfl, SqL.of upd_same, fun p2 hp2 => ?_⟩
    have g2 := same_new hp2 (.lst (cutV [.str "0", .str "1", .str "2"] none (some ((us.length : Nat) : Int))))
    have ecut : ∀ n ∈ [0, 1, 2, 3], cutV [.str "0", .str "1", .str "2"] none (some ((n : Nat) : Int)) = (AWORDS.take n).map V.str := by decide +kernel
    have u3 : us.length ≤ 3 := by rw [hpr.1]; exact hl3
    have ecu := ecut us.length (by generalize us.length = n at u3; simp; omega)
    have lys : ys.length ≤ 3 := by rw [perm.length_eq, List.length_map]; exact hl3
    have oky : ∀ y ∈ ys, PyData.strOk y = true := fun y hy => by
      obtain ⟨p', hp', rfl⟩ := List.mem_map.mp (perm.mem_iff.mp hy)
      have e := two_words (h2 p' hp')
      exact ok_split (by decide +kernel) (by decide +kernel) (ok_split (by decide +kernel) (by decide +kernel) hzk hp') (y := " ") (z := p') (p := wa p') (by rw [e]; simp)
    have okt : ∀ y ∈ AWORDS.take us.length, PyData.strOk y = true := fun y hy => by
      have y0 : ∀ y ∈ AWORDS, PyData.strOk y = true := by decide +kernel
      exact y0 y (List.mem_of_mem_take hy)
    refine ⟨.list (ys.map PyData.str), .list ((AWORDS.take us.length).map PyData.str), .lst (SqL.of (g2 _ _ (gl _ _ upd_same))) (dp_strs _), .lst (SqL.of upd_same) (by rw [ecu]; exact dp_strs _), shaped_strs lys oky, shaped_strs (by rw [List.length_take]; omega) okt, ?_⟩
    have y := q _ ((g70.trans gp).trans (gl.trans g2))
    rw [show PyData.eqv (.list (ys.map PyData.str)) (.list ((AWORDS.take us.length).map PyData.str)) = (rd z).isSome from (eqv_strs _ _).trans (by rw [hpr.1]; exact last_look nz hl3 h2 hk perm srt)]
    exact y
end
end Lw
namespace Lw
open PySem L2 TL
theorem word_back {a : Str} (h : a ∈ AWORDS) : ((toString (aval a) : String) : Str) = a := by
  have z : ∀ a ∈ AWORDS, ((toString (aval a) : String) : Str) = a := by decide +kernel
  exact z a h
theorem lvl_itm {p : Str} {r : Str × Int} (h : lvl p = some r) : itm r.1 r.2 = p := by
  unfold lvl at h
  split at h
  · rename_i k a e
    by_cases m : a ∈ AWORDS
    · rw [if_pos m] at h
      cases h
      have b := split_back p " " (by decide +kernel) (by decide +kernel)
      rw [e] at b
      refine Eq.trans (ext_tl ?_) b
      show tl (itm k (aval a)) = _
      unfold itm
      rw [word_back m, join_eq, tl_join, tl_append, tl_append, tl_append]
      show tl Str.empty ++ tl k ++ tl " " ++ tl a = tl k ++ (tl " " ++ tl a)
      rw [show tl Str.empty = [] from rfl, List.nil_append, List.append_assoc]
    · rw [if_neg m] at h
      cases h
  · cases h
theorem lvl_all : ∀ {ps : List Str}, (ps.all fun p => (lvl p).isSome) = true → (ps.filterMap lvl).length = ps.length ∧ ((ps.filterMap lvl).map fun r => itm r.1 r.2) = ps
  | [], _ => ⟨rfl, rfl⟩
  | p :: r, h => by
    rw [List.all_cons, Bool.and_eq_true] at h
    obtain ⟨h1, h2⟩ := h
    obtain ⟨i1, i2⟩ := lvl_all h2
    obtain ⟨q, e⟩ := Option.isSome_iff_exists.mp h1
    rw [List.filterMap_cons_some e, List.map_cons, List.length_cons, List.length_cons, i1, i2, lvl_itm e]
    exact ⟨rfl, rfl⟩
theorem split_ne (z : Str) : Txt.split z ", " ≠ [] := fun e => by
  have q := split_spl z ", " (by decide +kernel) (kind_ok (by decide +kernel))
  rw [e] at q
  exact spl_ne _ _ _ _ q.symm
/-- what is read is the text of what was read -/
theorem rd_back {z : Str} {ks : List Str} {is : List Int} (h : rd z = some (ks, is)) : ftext ks is = z ∧ valid ks is = true := by
  unfold rd at h
  by_cases c : z = "-"
  · rw [if_pos c] at h
    cases h
    exact ⟨by rw [c]; rfl, by decide +kernel⟩
  rw [if_neg c] at h
  by_cases c2 : ((Txt.split z ", ").all fun p => (lvl p).isSome) = true ∧ valid (lks (Txt.split z ", ")) (lis (Txt.split z ", ")) = true
  · rw [if_pos c2] at h
    cases h
    obtain ⟨i1, i2⟩ := lvl_all c2.1
    refine ⟨?_, c2.2⟩
    unfold ftext
    rw [if_neg, show (lks (Txt.split z ", ")).zip (lis (Txt.split z ", ")) = (Txt.split z ", ").filterMap lvl from zip_maps _, i2]
    · exact split_back z ", " (by decide +kernel) (by decide +kernel)
    · unfold lks
      rw [List.length_map, i1]
      intro e
      exact split_ne z (List.length_eq_zero_iff.mp e)
  · rw [if_neg c2] at h
    cases h
theorem itm_facts : ∀ k ∈ KINDS, ∀ i ∈ ([0, 1, 2] : List Int), 44 ∉ tl (itm k i) ∧ 32 ∉ tl k ∧ 32 ∉ tl ((toString i : String) : Str) ∧ ((toString i : String) : Str) ∈ AWORDS ∧ aval ((toString i : String) : Str) = i ∧ PyData.strOk (itm k i) = true := by decide +kernel
theorem lvl_of {k : Str} {i : Int} (hk : k ∈ KINDS) (hi : i ∈ ([0, 1, 2] : List Int)) : lvl (itm k i) = some (k, i) := by
  obtain ⟨f1, f2, f3, f4, f5, _⟩ := itm_facts k hk i hi
  have e : Txt.split (itm k i) " " = [k, ((toString i : String) : Str)] := by
    have b := split_join (y := " ") (s := 32) (S := []) (by decide +kernel) (by decide +kernel) (parts := [k, ((toString i : String) : Str)]) (by simp) fun p hp => by
      rcases List.mem_cons.mp hp with rfl | hp
      · exact f2
      · rw [List.mem_singleton.mp hp]
        exact f3
    have e2 : itm k i = Txt.join " " [k, ((toString i : String) : Str)] := by
      refine ext_tl ?_
      unfold itm
      rw [join_eq, tl_join, tl_append, tl_append, tl_append]
      show tl Str.empty ++ tl k ++ tl " " ++ tl _ = tl k ++ (tl " " ++ tl _)
      rw [show tl Str.empty = [] from rfl, List.nil_append, List.append_assoc]
    rw [e2]
    exact b
  rw [lvl_two e, if_pos f4, f5]
theorem fm_itms : ∀ {l : List (Str × Int)}, (∀ p ∈ l, p.1 ∈ KINDS ∧ p.2 ∈ ([0, 1, 2] : List Int)) → ((l.map fun p => itm p.1 p.2).filterMap lvl) = l ∧ ((l.map fun p => itm p.1 p.2).all fun p => (lvl p).isSome) = true
  | [], _ => ⟨rfl, rfl⟩
  | p :: r, h => by
    obtain ⟨i1, i2⟩ := fm_itms (l := r) fun q hq => h q (List.mem_cons_of_mem _ hq)
    obtain ⟨a, b⟩ := h p (List.mem_cons_self ..)
    have e := lvl_of a b
    rw [List.map_cons, List.filterMap_cons_some e, i1, List.all_cons, i2, e]
    exact ⟨rfl, rfl⟩
theorem zip_all : ∀ {ks : List Str} {is : List Int}, is.length = ks.length → (∀ k ∈ ks, k ∈ KINDS) → (∀ i ∈ is, i ∈ ([0, 1, 2] : List Int)) →
    (ks.zip is).map (·.1) = ks ∧ (ks.zip is).map (·.2) = is ∧ ∀ p ∈ ks.zip is, p.1 ∈ KINDS ∧ p.2 ∈ ([0, 1, 2] : List Int)
  | [], [], _, _, _ => ⟨rfl, rfl, fun p h => by cases h⟩
  | [], _ :: _, h, _, _ => by cases h
  | _ :: _, [], h, _, _ => by cases h
  | k :: ks, i :: is, h, h1, h2 => by
    obtain ⟨a, b, c⟩ := zip_all (Nat.succ.inj h) (fun x hx => h1 x (List.mem_cons_of_mem _ hx)) fun x hx => h2 x (List.mem_cons_of_mem _ hx)
    rw [List.zip_cons_cons, List.map_cons, List.map_cons, a, b]
    refine ⟨rfl, rfl, fun p hp => ?_⟩
    rcases List.mem_cons.mp hp with rfl | hp
    · exact ⟨h1 _ (List.mem_cons_self ..), h2 _ (List.mem_cons_self ..)⟩
    · exact c p hp
/-- the text of a form is read back -/
theorem rd_ftext {ks : List Str} {is : List Int} (h : valid ks is = true) : rd (ftext ks is) = some (ks, is) := by
  obtain ⟨h1, h2, h3, h4⟩ := valid_parts h
  by_cases c : ks.length = 0
  · have e1 : ks = [] := List.length_eq_zero_iff.mp c
    have e2 : is = [] := List.length_eq_zero_iff.mp (h3.trans c)
    subst e1
    subst e2
    rfl
  obtain ⟨z1, z2, z3⟩ := zip_all h3 h2 h4
  obtain ⟨f1, f2⟩ := fm_itms z3
  have ef : ftext ks is = Txt.join ", " ((ks.zip is).map fun p => itm p.1 p.2) := by
    unfold ftext
    rw [if_neg c]
  have ne : ((ks.zip is).map fun p => itm p.1 p.2) ≠ [] := fun e => by
    have e2 := congrArg List.length e
    rw [List.length_map, List.length_zip, h3, Nat.min_self] at e2
    exact c e2
  have es : Txt.split (ftext ks is) ", " = (ks.zip is).map fun p => itm p.1 p.2 := by
    rw [ef]
    refine split_join (s := 44) (S := [32]) (by decide +kernel) (by decide +kernel) ne fun p hp => ?_
    obtain ⟨q, hq, rfl⟩ := List.mem_map.mp hp
    obtain ⟨a, b⟩ := z3 q hq
    exact (itm_facts _ a _ b).1
  have nd : ftext ks is ≠ "-" := fun e => by
    rw [e] at es
    have e0 : Txt.split "-" ", " = [("-" : Str)] := by decide +kernel
    rw [e0] at es
    have m : lvl "-" = none := by decide +kernel
    rw [← es] at f2
    rw [List.all_cons, m] at f2
    cases f2
  unfold rd lks lis
  rw [if_neg nd, es, f1, z1, z2, if_pos ⟨f2, h⟩]
theorem join_len {S : List Nat} (hS : S.length ≤ 2) : ∀ {l : List (List Nat)}, (∀ p ∈ l, p.length ≤ 20) → (joinL S l).length ≤ 22 * l.length
  | [], _ => by simp [joinL]
  | [p], h => by
    have q := h p (List.mem_cons_self ..)
    show p.length ≤ 22 * 1
    omega
  | p :: q :: r, h => by
    have i := join_len hS (l := q :: r) fun x hx => h x (List.mem_cons_of_mem _ hx)
    have j := h p (List.mem_cons_self ..)
    rw [joinL_cons (by simp), List.length_append, List.length_append]
    simp only [List.length_cons] at i ⊢
    omega
theorem join_in {S : List Nat} : ∀ {l : List (List Nat)}, ∀ c ∈ joinL S l, c ∈ S ∨ ∃ p ∈ l, c ∈ p
  | [], c, h => by cases h
  | [p], c, h => .inr ⟨p, List.mem_cons_self .., h⟩
  | p :: q :: r, c, h => by
    rw [joinL_cons (by simp)] at h
    rcases List.mem_append.mp h with h | h
    · exact .inr ⟨p, List.mem_cons_self .., h⟩
    · rcases List.mem_append.mp h with h | h
      · exact .inl h
      · rcases join_in (l := q :: r) c h with z | ⟨x, a, b⟩
        · exact .inl z
        · exact .inr ⟨x, List.mem_cons_of_mem _ a, b⟩
theorem ftext_small {ks : List Str} {is : List Int} (h : valid ks is = true) : (ftext ks is).length ≤ 100 ∧ PyData.strOk (ftext ks is) = true := by
  obtain ⟨h1, h2, h3, h4⟩ := valid_parts h
  by_cases c : ks.length = 0
  · have e : ftext ks is = "-" := by
      unfold ftext
      rw [if_pos c]
    rw [e]
    exact ⟨by decide, by decide +kernel⟩
  obtain ⟨z1, z2, z3⟩ := zip_all h3 h2 h4
  have ef : ftext ks is = Txt.join ", " ((ks.zip is).map fun p => itm p.1 p.2) := by
    unfold ftext
    rw [if_neg c]
  have et : tl (ftext ks is) = joinL (tl ", ") (((ks.zip is).map fun p => itm p.1 p.2).map tl) := by rw [ef, join_eq, tl_join]
  constructor
  · rw [len_tl, et]
    have q := join_len (S := tl ", ") (by decide) (l := ((ks.zip is).map fun p => itm p.1 p.2).map tl) fun p hp => by
      obtain ⟨y, hy, rfl⟩ := List.mem_map.mp hp
      obtain ⟨q, hq, rfl⟩ := List.mem_map.mp hy
      obtain ⟨a, b⟩ := z3 q hq
      rw [← len_tl]
      exact (small_itm _ a _ b).2.2.1
    rw [List.length_map, List.length_map, List.length_zip, h3, Nat.min_self] at q
    omega
  · rw [ok_list, et, List.all_eq_true]
    intro x hx
    rcases join_in x hx with z | ⟨p, hp, hc⟩
    · have y : ∀ x ∈ tl ", ", decide (x < 0x110000) = true := by decide +kernel
      exact y x z
    · obtain ⟨y, hy, rfl⟩ := List.mem_map.mp hp
      obtain ⟨q, hq, rfl⟩ := List.mem_map.mp hy
      obtain ⟨a, b⟩ := z3 q hq
      have o := (itm_facts _ a _ b).2.2.2.2.2
      rw [ok_list, List.all_eq_true] at o
      exact o x hc
end Lw
namespace Lw
open PySem L2 TL LamX
abbrev sRef : Stmt := topS 19
abbrev namesRf : List Str := ["_law_deed", "_law_found", "e"]
theorem scRf : FnScope namesRf ["_law_deed"] (defScope sRef) := ⟨rfl, rfl, rfl, by decide +kernel, rfl, by decide +kernel, by decide +kernel⟩
/-- what the look at a deed makes of its reading: True where it raises BadForm, else False -/
def TTr (BF : Addr) : (XK → Hp → VK → Prop) → Hp → VK → Prop := fun tl H Q => tl (fun cls d H' => cls = .ref BF ∧ d = none ∧ Q (.bl true) H') H (fun _ H' => Q (.bl false) H')
structure Rf (K : PySem.W.Frag) (mg : Str → Option Value) (BF WE : Addr) : Prop where
  mB : mg "BadForm" = some (.ref BF)
  mW : mg "WalkError" = some (.ref WE)
  ve : mg "ValueError" = none
  isi : mg "isinstance" = none
  ex : ExcC K BF
  m1 : PySem.W.exmOne K (.ref BF) (.ref BF) = some true
  k1 : PySem.W.kitOne K (.ref BF) (.ref WE) = some true
  k2 : PySem.W.kitOne K (.ref BF) (.type "ValueError") = some true
section
variable {X : Cx} {BF WE g : Addr} {cdg : Value} {q : Str}
theorem takes_len {X : Cx} {W : WX} (t : Takes X W) : Takes X (fun cls d σ H => σ.length = X.N.length → W cls d σ H) := fun u s' ⟨a, B, sI, pins, σ, H, cls, d, e, I, nb, up, sky, na, os, ag, w⟩ =>
  t u s' ⟨a, B, sI, pins, σ, H, cls, d, e, I, nb, up, sky, na, os, ag, w I.len⟩
theorem ref_gives (R : Rf X.K X.mg BF WE) : GivesTo X namesRf "_law_refused" (defScope sRef) g cdg (defBody sRef) "_law_deed" q (TTr BF) := by
  intro f c' s H Q tl act hc h
  have hE : ExcC (cxOf C8.CX0 X.prog X.w X.K X.mg X.base namesRf "_law_refused" (defScope sRef) g cdg X.A X.stack s H C8.E0).nox.K BF := R.ex
  have gB : (cxOf C8.CX0 X.prog X.w X.K X.mg X.base namesRf "_law_refused" (defScope sRef) g cdg X.A X.stack s H C8.E0).nox.mg "BadForm" = some (.ref BF) := R.mB
  refine ⟨_, pss_cons (ps_set (i := 1) scRf.nd rfl (Or.inl rfl) pe_bl) (pss_cons (ps_try_as (X := (cxOf C8.CX0 X.prog X.w X.K X.mg X.base namesRf "_law_refused" (defScope sRef) g cdg X.A X.stack s H C8.E0).nox) (i := 2) (c := .ref BF)
      (tb := fun W D σ H => ∃ Ech : XK, (∀ cls d σ' H', σ'.length = 3 → Ech cls d H' → W cls d σ' H') ∧ σ[0]? = some (some (.ref f)) ∧ H c' = some (CodeO c' q) ∧ tl Ech H (fun _ H' => D.nx σ H'))
      (ts := fun a cls d D σ H => cls = .ref BF ∧ d = none ∧ σ[2]? = some (some (.ref a)) ∧ D.nx (σ.set 1 (some (.bl true))) H)
      rfl rfl scRf.nd rfl rfl ⟨rfl, by decide, .inl gB⟩ L2.takes0 (fun W pn xe tk _ => ?_) (fun a oe cls d pn hz hf => ?_)) (pss_one (ps_ret (pv 1)))), ?_⟩
  · refine ⟨fun pins s' σ H' D I h' => ?_⟩
    obtain ⟨Ech, hW, h1, h2, h3⟩ := h'
    exact (pss_one (ps_expr (act (fun cls d σ' H' => σ'.length = 3 → W cls d σ' H') pn xe Ech _ _ (takes_len tk) (fun cls d σ' H' e l => hW cls d σ' H' l e)))).run pins s' σ H' D I ⟨h1, h2, h3⟩
  · refine ⟨fun pins s' σ H' D I h' => ?_⟩
    obtain ⟨rfl, rfl, h2, h3⟩ := h'
    refine (pss_one (ps_set (i := 1) (X := ((cxOf C8.CX0 X.prog X.w X.K X.mg X.base namesRf "_law_refused" (defScope sRef) g cdg X.A X.stack s H C8.E0).nox).suite a ((a, oe) :: pn)) scRf.nd rfl (Or.inl rfl) (pe_and (pe_callB (call_isE hE hz hf) (by rfl) R.isi (by decide +kernel) (pa_cons (pv 2) (pa_cons (pe_glob (v := .ref WE) (by rfl) R.mW rfl) pa_nil))) (pe_one (pe_callB (call_isE hE hz hf) (by rfl) R.isi (by decide +kernel) (pa_cons (pv 2) (pa_cons (pe_bltn (v := .ty "ValueError") (by rfl) R.ve (by decide +kernel) rfl) pa_nil))))))).run pins s' σ H' D I ?_
    exact ⟨_, h2, _, _, true, rfl, (fun u e => e), R.k1, true, rfl, _, h2, _, _, true, rfl, (fun u e => e), R.k2, h3⟩
  · refine ⟨fun cls d H' => cls = .ref BF ∧ d = none ∧ Q (.bl true) H', fun cls d σ' H' hl hE' => ?_, rfl, hc, ?_⟩
    · obtain ⟨rfl, rfl, hq⟩ := hE'
      match σ', hl with
      | [x0, x1, x2], _ => exact ⟨true, R.m1, fun _ a _ => ⟨rfl, rfl, rfl, _, rfl, hq⟩, fun z => by cases z⟩
    · have h' : tl (fun cls d H' => cls = .ref BF ∧ d = none ∧ Q (.bl true) H') H (fun _ H' => Q (.bl false) H') := h
      exact Eq.mp (congrArg (tl _ H) (funext fun v => funext fun H' => propext ⟨fun h => ⟨_, rfl, h⟩, fun ⟨_, e, h⟩ => by cases e; exact h⟩)) h'
end
end Lw
namespace Lw
open PySem L2 TL LamX
theorem tabs_sx {T : List (Addr × Str)} {H H' : Hp} {st q : Addr} {b : Int} (s : Spr H st q b) (g : SX st q H H') (t : Tabs T H) : Tabs T H' := fun p hp => by
  obtain ⟨ns, a, c, z1, z2, _⟩ := s
  have key : ∀ (x : Addr) (o : HO), (∀ xs, o ≠ .lst xs) → H x = some o → H' x = some o := fun x o no e => g x o (fun z => by rw [z, z1] at e; exact no _ (Option.some.inj e).symm) (fun z => by rw [z, z2] at e; exact no _ (Option.some.inj e).symm) e
  obtain ⟨ps, e1, e2, e3⟩ := t p hp
  refine ⟨ps, key _ _ (fun xs z => by cases z) e1, e2, fun pos cv hc => ?_⟩
  obtain ⟨c', e4, e5⟩ := e3 pos cv hc
  exact ⟨c', e4, key _ _ (fun xs z => by unfold CodeO at z; cases z) e5⟩
theorem tabs_same {T : List (Addr × Str)} {H H' : Hp} (g : Same H H') (t : Tabs T H) : Tabs T H' := t.ext g
theorem tabs_lst {T : List (Addr × Str)} {H : Hp} {D : Addr} {xs ys : List V} (h : H D = some (.lst xs)) (t : Tabs T H) : Tabs T (upd H D (.lst ys)) := fun p hp => by
  have key : ∀ (x : Addr) (o : HO), (∀ xs, o ≠ .lst xs) → H x = some o → upd H D (.lst ys) x = some o := fun x o no e => by
    rw [upd_ne (fun z => by rw [z, h] at e; exact no _ (Option.some.inj e).symm)]
    exact e
  obtain ⟨ps, e1, e2, e3⟩ := t p hp
  refine ⟨ps, key _ _ (fun xs z => by cases z) e1, e2, fun pos cv hc => ?_⟩
  obtain ⟨c', e4, e5⟩ := e3 pos cv hc
  exact ⟨c', e4, key _ _ (fun xs z => by unfold CodeO at z; cases z) e5⟩
theorem ext_sp {H H' : Hp} {st q : Addr} {b : Int} (g : ExtN H H') : Spr H st q b → Spr H' st q b
  | ⟨ns, a, c, z1, z2, r⟩ => ⟨ns, a, c, g _ _ z1 (fun _ z => by cases z), g _ _ z2 (fun _ z => by cases z), r⟩
theorem ext_lst {H H' : Hp} {D : Addr} {xs : List V} (g : ExtN H H') (h : H D = some (.lst xs)) : H' D = some (.lst xs) := g _ _ h fun _ z => by cases z
section
variable {K : PySem.W.Frag} {H H' : Hp}
theorem ext_tup {a : Addr} {xs : List V} (g : ExtN H H') (h : SqT K H a xs) : SqT K H' a xs := by
  rcases h with (h | ⟨o, h⟩) | h
  · exact .inl (.inl (g _ _ h fun _ z => by cases z))
  · exact .inl (.inr ⟨o, g _ _ h fun _ z => by cases z⟩)
  · exact .inr h
theorem al_strs {n : Nat} {a b : Addr} {ks : List Str} (h1 : SqT K H a (ks.map V.str)) (h2 : SqT K H b (ks.map V.str)) (hl : ks.length ≤ 1000) : Al K H (n + 2) (.ref a) (.ref b) :=
  .inr (.inr ⟨a, b, _, _, rfl, rfl, h1, h2, rfl, by rw [List.length_map]; exact hl, fun i x y ex ey => by
    rw [ex] at ey
    cases ey
    obtain ⟨z, _, rfl⟩ := at_map ex
    exact Al.str z⟩)
theorem al_ints {n : Nat} {a b : Addr} {is : List Int} (h1 : SqT K H a (is.map V.int)) (h2 : SqT K H b (is.map V.int)) (hl : is.length ≤ 1000) : Al K H (n + 2) (.ref a) (.ref b) :=
  .inr (.inr ⟨a, b, _, _, rfl, rfl, h1, h2, rfl, by rw [List.length_map]; exact hl, fun i x y ex ey => by
    rw [ex] at ey
    cases ey
    obtain ⟨z, _, rfl⟩ := at_map ex
    exact Al.int z⟩)
theorem bl_two {n : Nat} {a b : Addr} {x y x' y' : V} (h1 : H a = some (.lst [x, y])) (h2 : H b = some (.lst [x', y'])) (hx : Al K H n x x') (hy : Al K H n y y') : Bl K H (n + 1) (.ref a) (.ref b) :=
  .inr ⟨a, b, _, _, rfl, rfl, h1, h2, rfl, (by show 2 ≤ 1000; omega), fun i u v eu ev => by
    match i with
    | 0 => cases eu; cases ev; exact hx
    | 1 => cases eu; cases ev; exact hy
    | i + 2 => cases eu⟩
theorem bl_three {n : Nat} {a b : Addr} {x y z x' y' z' : V} (h1 : H a = some (.lst [x, y, z])) (h2 : H b = some (.lst [x', y', z'])) (hx : Al K H n x x') (hy : Al K H n y y') (hz : Al K H n z z') : Bl K H (n + 1) (.ref a) (.ref b) :=
  .inr ⟨a, b, _, _, rfl, rfl, h1, h2, rfl, (by show 3 ≤ 1000; omega), fun i u v eu ev => by
    match i with
    | 0 => cases eu; cases ev; exact hx
    | 1 => cases eu; cases ev; exact hy
    | 2 => cases eu; cases ev; exact hz
    | i + 3 => cases eu⟩
theorem valid_iota {ks : List Str} (h : ks.length ≤ 3) (hk : ∀ k ∈ ks, k ∈ KINDS) : valid ks (iota ks.length) = true := by
  have z : ∀ n ∈ [0, 1, 2, 3], axesOk (iota n) n = true := by decide +kernel
  unfold valid
  rw [decide_eq_true h, z ks.length (by generalize ks.length = n at h; simp; omega), Bool.true_and, Bool.and_true, List.all_eq_true]
  exact fun k hk' => decide_eq_true (hk k hk')
theorem form_lst {C p D : Addr} {ks : List Str} {is : List Int} {xs ys : List V} (h : H D = some (.lst xs)) : FormAt K C p ks is H → FormAt K C p ks is (upd H D (.lst ys))
  | ⟨dx, tk, ta, h1, h2, h3⟩ => ⟨dx, tk, ta, by rw [upd_ne (fun z => by rw [z, h] at h1; cases h1)]; exact h1, TK.lst h _ _ h2, TK.lst h _ _ h3⟩
end
end Lw
namespace Lw
open PySem L2 TL LamX
abbrev sLaw : Stmt := topS 24
abbrev namesL : List Str := ["_law_script", "_law_stream", "_law_turn", "_law_form_here", "_law_kinds", "_law_sides", "_law_handed", "_law_some", "_law_text", "_law_back", "_law_one", "_law_bare", "_law_k", "_law_bad", "_law_other", "_law_kind", "_law_axis"]
theorem scL : FnScope namesL ["_law_script"] (defScope sLaw) := ⟨rfl, rfl, rfl, by decide +kernel, rfl, by decide +kernel, by decide +kernel⟩
/-- the name of the law's lambdas -/
def qLam : Str := "law.<locals>." ++ "<lambda>"
def spLaw (K : PySem.W.Frag) (P0 : Addr) : Sp := fun vs H Q _ => ∃ (a : Addr) (ns : List Int), vs = [.ref a] ∧ SqL K H a (ns.map V.int) ∧ ns.length ≤ 63 ∧ H P0 = some (.tbl #[]) ∧ ∀ H', Q (.bl true) H'
section
variable {P : Program} {w : World} {K : PySem.W.Frag} {mg : Str → Option Value} {base : Heap} {C fI BF WE AW KD pR gR pT gT c P0 : Addr} {MC : Value} {dT : FuncData}
variable {fL fB fS fD fF fX fM fSp fRt fBp fRf : Addr} {dB dS dD dF dX dM dSp dRt dBp : FuncData}
theorem ok_law {oc od kV doc pm an ct osl} (lkL : K.lookup fL = some ⟨oc, od, .func (PySem.W.fnOf "law" "law" (defArgs sLaw) (defBody sLaw) (defScope sLaw) .none kV doc pm an (.ref c) ct), osl⟩) (hcL : PySem.W.codeIn K (.ref c) "law" = true)
    (B : Bt mg) (T : Fm K mg C fI BF AW KD MC) (R : Rf K mg BF WE)
    (GB : FnOk P w K mg base CX0 1 fB dB ["_law_script"] (spStart K)) (bB : Binds K dB ["_law_script"] []) (kB : PySem.W.keepIn K (.ref fB) = true) (mB : mg "_law_start" = some (.ref fB))
    (GS : FnOk P w K mg base CX0 5 fS dS ["_law_found", "_law_due"] (spSame K 5)) (bS : Binds K dS ["_law_found", "_law_due"] []) (kS : PySem.W.keepIn K (.ref fS) = true) (mS : mg "_law_same" = some (.ref fS))
    (GD : FnOk P w K mg base CX0 1 fD dD ["_law_stream", "_law_many"] spDraw) (bD : Binds K dD ["_law_stream", "_law_many"] []) (kD : PySem.W.keepIn K (.ref fD) = true) (mD : mg "_law_draw" = some (.ref fD))
    (GF : FnOk P w K mg base CX0 3 fF dF ["_law_stream", "_law_rank"] (spForm K)) (bF : Binds K dF ["_law_stream", "_law_rank"] []) (kF : PySem.W.keepIn K (.ref fF) = true) (mF : mg "_law_form" = some (.ref fF))
    (GX : FnOk P w K mg base CX0 1 fX dX ["_law_form_here"] (spFtext K)) (bX : Binds K dX ["_law_form_here"] []) (kX : PySem.W.keepIn K (.ref fX) = true) (mX : mg "_law_form_text" = some (.ref fX))
    (GM : FnOk P w K mg base (L2.CX P w) 5 fM dM ["_law_kinds", "_law_sides"] (spMade K C BF)) (bM : Binds K dM ["_law_kinds", "_law_sides"] []) (kM : PySem.W.keepIn K (.ref fM) = true) (mM : mg "_law_made" = some (.ref fM))
    (GSp : FnOk P w K mg base CX0 3 fSp dSp ["_law_stream", "_law_text"] spSpoil) (bSp : Binds K dSp ["_law_stream", "_law_text"] []) (kSp : PySem.W.keepIn K (.ref fSp) = true) (mSp : mg "_law_spoiled" = some (.ref fSp))
    (GRt : FnOk P w K mg base CX0 1 fRt dRt ["_law_text"] spRight) (bRt : Binds K dRt ["_law_text"] []) (kRt : PySem.W.keepIn K (.ref fRt) = true) (mRt : mg "_law_right_text" = some (.ref fRt))
    (GBp : FnOk P w K mg base CX0 3 fBp dBp ["_law_stream", "_law_kinds", "_law_sides"] spBad) (bBp : Binds K dBp ["_law_stream", "_law_kinds", "_law_sides"] []) (kBp : PySem.W.keepIn K (.ref fBp) = true) (mBp : mg "_law_bad_parts" = some (.ref fBp))
    {oc' od' kV' doc' pm' an' cd' ct' osl'} (lkR : K.lookup fRf = some ⟨oc', od', .func (PySem.W.fnOf "_law_refused" "_law_refused" (defArgs sRef) (defBody sRef) (defScope sRef) .none kV' doc' pm' an' cd' ct'), osl'⟩) (hcR : PySem.W.codeIn K cd' "_law_refused" = true)
    (bRf : Binds K (PySem.W.fnOf "_law_refused" "_law_refused" (defArgs sRef) (defBody sRef) (defScope sRef) .none kV' doc' pm' an' cd' ct') ["_law_deed"] []) (kRf : PySem.W.keepIn K (.ref fRf) = true) (mRf : mg "_law_refused" = some (.ref fRf))
    (GR : FnR P w K mg base (L2.CX P w) 5 gR (spRead K C BF)) (cR : ClX.CMet K C MC "read" pR gR)
    (GT : FnOk P w K mg base CX0 1 gT dT ["self"] (spText K C)) (bT : Binds K dT ["self"] []) (pTx : PropOf K C "text" pT gT)
    (TB : TabB base mg c P0) :
    FnOk P w K mg base CX0 8 fL (PySem.W.fnOf "law" "law" (defArgs sLaw) (defBody sLaw) (defScope sLaw) .none kV doc pm an (.ref c) ct) ["_law_script"] (spLaw K P0) := by
  refine fn_of lkL hcL scL (fun vs H Q E h => ?_) fun A outer s H vs Q E hr h => ?_
  · obtain ⟨a, ns, rfl, _⟩ := h
    rfl
  have fin : ∃ t, PSs (cxOf CX0 P w K mg base namesL "law" (defScope sLaw) fL (.ref c) A outer s H E).nox (defBody sLaw) t ∧ t { nx := fun _ H' => Q .non H', rt := Q } (start namesL vs) H := by
    obtain ⟨a, ns, rfl, hS, hn, hP0, k⟩ := h
    refine ⟨_, pss_cons (ps_set (i := 1) scL.nd rfl (Or.inl rfl) (pe_call GB (hr.mono (by decide)) rfl mB kB bB .nil pass0 (pa_cons (pv 0) pa_nil)))
      (C8.pss_cut (ps_if (pt_not (pt_val (pe_call GS (hr.mono (by decide)) rfl mS kS bS .nil pass0 (pa_cons (ClX.pe_cval (pe_glob (v := .ref C) (by rfl) T.mC rfl)) (pa_cons (pe_tup (pa_cons pe_str (pa_cons pe_str (pa_cons pe_str (pa_cons pe_str pa_nil))))) pa_nil))))) (pss_one (ps_ret pe_bl)) pss_nil)
      (pss_cons (ps_for PassesOwn.never rfl (pi_range1 (by rfl) B.range (pa_cons pe_int pa_nil)) (pg_name (i := 2) scL.nd rfl (Or.inl rfl)) (pss_cons (ps_set (i := 3) scL.nd rfl (Or.inl rfl) (pe_call GF (hr.mono (by decide)) rfl mF kF bF .nil pass0 (pa_cons (pv 1) (pa_cons (pe_call GD (hr.mono (by decide)) rfl mD kD bD .nil pass0 (pa_cons (pv 1) (pa_cons pe_int pa_nil))) pa_nil))))
        (pss_cons (ps_par (i := 4) (j := 5) rfl scL.nd rfl rfl (by decide) rfl rfl (pa_cons (pe_lc (own := [("_law_kind", 15), ("_law_axis", 16)]) (g := gTup K 2 (gCons (gName 15) (gCons (gName 16) gNil))) (tt := tYes) rfl scL.nd (pi_tup (pv 3)) (blkOk_by (N := namesL) (sc := defScope sLaw) (by decide +kernel)) (fun _ _ _ _ _ => pg_tup rfl (pgs_cons (pg_name (i := 15) scL.nd rfl (Or.inl rfl)) (pgs_cons (pg_name (i := 16) scL.nd rfl (Or.inl rfl)) pgs_nil))) (fun _ _ _ _ _ => pts_nil) (fun _ _ _ _ _ => pv 15))
          (pa_cons (pe_lc (own := [("_law_kind", 15), ("_law_axis", 16)]) (g := gTup K 2 (gCons (gName 15) (gCons (gName 16) gNil))) (tt := tYes) rfl scL.nd (pi_tup (pv 3)) (blkOk_by (N := namesL) (sc := defScope sLaw) (by decide +kernel)) (fun _ _ _ _ _ => pg_tup rfl (pgs_cons (pg_name (i := 15) scL.nd rfl (Or.inl rfl)) (pgs_cons (pg_name (i := 16) scL.nd rfl (Or.inl rfl)) pgs_nil))) (fun _ _ _ _ _ => pts_nil) (fun _ _ _ _ _ => pv 16)) pa_nil)) rfl)
        (pss_cons (ps_set (i := 6) scL.nd rfl (Or.inl rfl) (pe_callTy call_list_of (by rfl) B.lst (by decide +kernel) (pa_cons (pv 5) pa_nil)))
        (C8.pss_cut (ps_set (i := 7) scL.nd rfl (Or.inl rfl) (pe_call (E := E0) GM (hr.mono (by decide)) rfl mM kM bM .nil (passes_call L2.takes0 (fun _ _ _ _ h => h.elim)) (pa_cons (pv 4) (pa_cons (pe_ifExp (pt_cmpR op_eq (pe_call GD (hr.mono (by decide)) rfl mD kD bD .nil pass0 (pa_cons (pv 1) (pa_cons pe_int pa_nil))) pe_int (nomark _)) (pv 6) (pe_callTy call_tuple_of (by rfl) B.tup (by decide +kernel) (pa_cons (pv 5) pa_nil))) pa_nil))))
        (pss_cons (ps_expr (pe_bm PySem.F.plainAttrs_list PySem.F.slot_list_append PySem.F.type_list_append mt_append (pv 6) (pa_cons pe_int pa_nil)))
        (pss_cons (ps_set (i := 8) scL.nd rfl (Or.inl rfl) (pe_call GX (hr.mono (by decide)) rfl mX kX bX .nil pass0 (pa_cons (pv 3) pa_nil)))
        (pss_cons (ps_set (i := 9) scL.nd rfl (Or.inl rfl) (ClX.pe_cmeth (E := E0) (pe_glob (v := .ref C) (by rfl) T.mC rfl) T.cr cR GR (hr.mono (by decide)) (passes_call L2.takes0 (fun _ _ _ _ h => h.elim)) (pa_cons (pv 8) pa_nil)))
        (pss_cons (ps_for PassesOwn.never rfl (pi_tup (pe_tup (pa_cons (pv 7) (pa_cons (pv 9) pa_nil)))) (pg_name (i := 10) scL.nd rfl (Or.inl rfl))
          (pss_one (ps_if (pt_not (pt_val (pe_call GS (hr.mono (by decide)) rfl mS kS bS .nil pass0 (pa_cons (pe_lst (pa_cons (pe_fld (pv 10) rfl) (pa_cons (pe_fld (pv 10) rfl) (pa_cons (pe_prop (pv 10) T.cl pTx GT (hr.mono (by decide)) bT .nil pass0 rfl) pa_nil))))
            (pa_cons (pe_lst (pa_cons (pe_callTy call_tuple_of (by rfl) B.tup (by decide +kernel) (pa_cons (pv 4) pa_nil)) (pa_cons (pe_callTy call_tuple_of (by rfl) B.tup (by decide +kernel) (pa_cons (pv 5) pa_nil)) (pa_cons (pv 8) pa_nil)))) pa_nil))))) (pss_one (ps_ret pe_bl)) pss_nil)))
        (pss_cons (ps_set (i := 11) scL.nd rfl (Or.inl rfl) (pe_call (E := E0) GM (hr.mono (by decide)) rfl mM kM bM .nil (passes_call L2.takes0 (fun _ _ _ _ h => h.elim)) (pa_cons (pv 4) (pa_cons pe_non pa_nil))))
        (C8.pss_cut (ps_if (pt_not (pt_val (pe_call GS (hr.mono (by decide)) rfl mS kS bS .nil pass0 (pa_cons (pe_lst (pa_cons (pe_fld (pv 11) rfl) (pa_cons (pe_fld (pv 11) rfl) pa_nil)))
            (pa_cons (pe_lst (pa_cons (pe_callTy call_tuple_of (by rfl) B.tup (by decide +kernel) (pa_cons (pv 4) pa_nil)) (pa_cons (pe_slice sl_tupA (pe_tup (pa_cons pe_int (pa_cons pe_int (pa_cons pe_int pa_nil)))) po_none (po_some (pe_callB call_len_seq (by rfl) B.len PySem.boot_len (pa_cons (pv 4) pa_nil)))) pa_nil))) pa_nil))))) (pss_one (ps_ret pe_bl)) pss_nil)
        (pss_cons (ps_for PassesOwn.never rfl (pi_range1 (by rfl) B.range (pa_cons pe_int pa_nil)) (pg_name (i := 12) scL.nd rfl (Or.inl rfl))
          (pss_cons (ps_set (i := 14) scL.nd rfl (Or.inr rfl) (pe_call GSp (hr.mono (by decide)) rfl mSp kSp bSp .nil pass0 (pa_cons (pv 1) (pa_cons (pv 8) pa_nil))))
          (C8.pss_cut (ps_if (pt_cmpR op_eq (pe_call GRt (hr.mono (by decide)) rfl mRt kRt bRt .nil pass0 (pa_cons (pv 14) pa_nil)) (pe_lamcall (t := fun E => ClX.tCMeth C (spRead K C BF) E (tC (.ref C)) (tCons (tVar 14) tNil)) (T := [(P0, qLam)]) (TT := TTr BF) (Ng := namesRf) (k := 5) (a := "_law_deed") (by rfl) mRf kRf lkR hcR bRf scRf rfl (Or.inl rfl) (ref_gives R) TB rfl (List.mem_singleton.mpr rfl) (fun p hp _ => by rw [List.mem_singleton.mp hp]; rfl) (hr.mono (by decide)) (lamS_by (by show lamSB (defScope sLaw) _ = true; decide +kernel)) rfl (fun _ _ _ _ _ => rfl) (fun A outer s H E f c' hr2 => ClX.pe_cmeth (E := E) (pe_glob (v := .ref C) (by rfl) T.mC rfl) T.cr cR GR hr2 (passes_call (takes_of rfl rfl rfl rfl) (fun _ _ _ _ h => h)) (pa_cons (pv 14) pa_nil))) (nomark _)) (pss_one (ps_ret pe_bl)) pss_nil)
          (pss_one (ps_if (PW.pt (pw_and (pt_val (pe_call GRt (hr.mono (by decide)) rfl mRt kRt bRt .nil pass0 (pa_cons (pv 14) pa_nil))) (pw_and1 (pt_cmpR op_ne (pe_prop (ClX.pe_cmeth (E := E0) (pe_glob (v := .ref C) (by rfl) T.mC rfl) T.cr cR GR (hr.mono (by decide)) (passes_call L2.takes0 (fun _ _ _ _ h => h.elim)) (pa_cons (pv 14) pa_nil)) T.cl pTx GT (hr.mono (by decide)) bT .nil pass0 rfl) (pv 14) (nomark _))))) (pss_one (ps_ret pe_bl)) pss_nil)))))
        (pss_cons (ps_set (i := 13) scL.nd rfl (Or.inr rfl) (pe_call GBp (hr.mono (by decide)) rfl mBp kBp bBp .nil pass0 (pa_cons (pv 1) (pa_cons (pv 4) (pa_cons (pv 5) pa_nil)))))
        (pss_one (ps_if (pt_not (pt_val (pe_lamcall (t := fun E => tCall (spMade K C BF) [] E (tCons (tOp (rIxT K) (tVar 13) (tC (.int 0))) (tCons (tOp (rIxT K) (tVar 13) (tC (.int 1))) tNil))) (T := [(P0, qLam)]) (TT := TTr BF) (Ng := namesRf) (k := 5) (a := "_law_deed") (by rfl) mRf kRf lkR hcR bRf scRf rfl (Or.inl rfl) (ref_gives R) TB rfl (List.mem_singleton.mpr rfl) (fun p hp _ => by rw [List.mem_singleton.mp hp]; rfl) (hr.mono (by decide)) (lamS_by (by show lamSB (defScope sLaw) _ = true; decide +kernel)) rfl (fun _ _ _ _ _ => rfl) (fun A outer s H E f c' hr2 => pe_call (E := E) GM hr2 (by rfl) mM kM bM .nil (passes_call (takes_of rfl rfl rfl rfl) (fun _ _ _ _ h => h)) (pa_cons (pe_ix ix_tup (pv 13) pe_int (fun _ _ => rfl)) (pa_cons (pe_ix ix_tup (pv 13) pe_int (fun _ _ => rfl)) pa_nil)))))) (pss_one (ps_ret pe_bl)) pss_nil)))))))))))))))
      (pss_one (ps_ret pe_bl)))), ?_⟩
    refine ⟨_, rfl, a, ns, rfl, hS, hn, fun st q H1 g1 hs1 => ?_⟩
    have hT1 : Tabs [(P0, qLam)] H1 := fun p hp => by
      rw [List.mem_singleton.mp hp]
      exact TabS.nil (g1 _ _ hP0)
    refine ⟨fun σ' H' => (∃ u2 u3 u4 u5 u6 u7 u8 u9 u10 u11 u12 u13 u14 u15 u16 : Option V, σ' = [some (.ref a), some (.ref st), u2, u3, u4, u5, u6, u7, u8, u9, u10, u11, u12, u13, u14, u15, u16]) ∧ Spr H' st q 0 ∧ Tabs [(P0, qLam)] H', ?_, ?_⟩
    · refine ⟨C, MC, .ref KD, .ref KD, rfl, T.cr, T.kd, (by show 4 ≤ sizeLine; decide), fun t ht => ?_⟩
      have gt := same_new ht (.tup [.str "dense", .str "packed", .str "bits", .str "hashed"])
      refine ⟨_, _, rfl, Al.bl (al_strs (n := 3) (T.kdT _) (SqT.of upd_same) (by decide)), fun H2 g2 => ⟨_, rfl, iteF ?_⟩⟩
      exact ⟨⟨none, none, none, none, none, none, none, none, none, none, none, none, none, none, none, rfl⟩, hs1.same (gt.trans g2), tabs_same (gt.trans g2) hT1⟩
    rintro σ' H2 ⟨⟨u2, u3, u4, u5, u6, u7, u8, u9, u10, u11, u12, u13, u14, u15, u16, rfl⟩, hs2, hT2⟩
    refine ⟨6, rfl, by decide, by decide, for_range (n := 6) (fun i σ' H' => (∃ u2 u3 u4 u5 u6 u7 u8 u9 u10 u11 u12 u13 u14 u15 u16 : Option V, σ' = [some (.ref a), some (.ref st), u2, u3, u4, u5, u6, u7, u8, u9, u10, u11, u12, u13, u14, u15, u16]) ∧ (∃ b : Int, Spr H' st q b ∧ 0 ≤ b ∧ b ≤ 100 * (i : Int)) ∧ Tabs [(P0, qLam)] H') ⟨⟨u2, u3, u4, u5, u6, u7, u8, u9, u10, u11, u12, u13, u14, u15, u16, rfl⟩, ⟨0, hs2, by decide, by decide⟩, hT2⟩ ?_ (fun _ _ _ => k _)⟩
    clear hs1 hs2 hT1 hT2 u2 u3 u4 u5 u6 u7 u8 u9 u10 u11 u12 u13 u14 u15 u16
    rintro i σ' H0 hi ⟨⟨u2, u3, u4, u5, u6, u7, u8, u9, u10, u11, u12, u13, u14, u15, u16, rfl⟩, ⟨b, hs, hb0, hb1⟩, hT⟩
    refine ⟨_, rfl, _, rfl, st, q, b, 4, rfl, hs, hb0, by omega, by decide, by decide, fun r H3 r0 r1 hs3 gx3 => ?_⟩
    obtain ⟨n, rfl⟩ : ∃ n : Nat, r = n := ⟨r.toNat, by omega⟩
    refine ⟨st, q, b + 1, n, rfl, hs3, by omega, by omega, by omega, fun t us l b4 H4 hg htq htu hb4 hb4' hs4 gx4 => ?_⟩
    have hT4 := tabs_sx hs3 gx4 (tabs_sx hs gx3 hT)
    have hn3 : n ≤ 3 := by omega
    have hv := iota_valid hg hn3
    obtain ⟨hl3, hkk, hil, hii⟩ := valid_parts hv
    have hul : us.length = l.length := htu.1
    have hll : l.length ≤ 3 := by rw [hg.1]; exact hn3
    -- the kinds and the axes
    refine ⟨_, rfl, t, rfl, ⟨us, htq⟩, fun D1 hD1 => ?_⟩
    refine lc_tup (K := K) (a := t) (xs := us) (InvM H4 D1 (fun p : Str × Int => V.str p.1) l) ⟨upd_same, same_new hD1 _⟩ (fun i H' _ ⟨_, g⟩ => seqT g htq) (fun j x H' hx hv => ?_) ?_
    · have hj : j < l.length := by rw [← hul]; exact (List.getElem?_eq_some_iff.mp hx).1
      obtain ⟨y, rfl, zy⟩ := htu.2 j x _ hx (List.getElem?_eq_getElem hj)
      refine ⟨y, _, rfl, seqT hv.2 zy, rfl, _, _, rfl, _, _, rfl, rfl, rfl, kept ?_⟩
      exact ⟨_, rfl, _, hv.1, len_m (by omega), InvM.next (f := fun p : Str × Int => V.str p.1) hD1 hv.2 (List.getElem?_eq_getElem hj) _ rfl⟩
    rintro H5 ⟨hd5, g5⟩
    rw [List.take_of_length_le (by rw [hul]; exact Nat.le_refl _)] at hd5
    have hT5 := tabs_same g5 hT4
    refine ⟨_, rfl, t, rfl, ⟨us, seqT g5 htq⟩, fun D2 hD2 => ?_⟩
    refine lc_tup (K := K) (a := t) (xs := us) (InvM H5 D2 (fun p : Str × Int => V.int p.2) l) ⟨upd_same, same_new hD2 _⟩ (fun i H' _ ⟨_, g⟩ => seqT (g5.trans g) htq) (fun j x H' hx hv => ?_) ?_
    · have hj : j < l.length := by rw [← hul]; exact (List.getElem?_eq_some_iff.mp hx).1
      obtain ⟨y, rfl, zy⟩ := htu.2 j x _ hx (List.getElem?_eq_getElem hj)
      refine ⟨y, _, rfl, seqT (g5.trans hv.2) zy, rfl, _, _, rfl, _, _, rfl, rfl, rfl, kept ?_⟩
      exact ⟨_, rfl, _, hv.1, len_m (by omega), InvM.next (f := fun p : Str × Int => V.int p.2) hD2 hv.2 (List.getElem?_eq_getElem hj) _ rfl⟩
    rintro H6 ⟨hd6, g6⟩
    rw [List.take_of_length_le (by rw [hul]; exact Nat.le_refl _)] at hd6
    have hk6 : H6 D1 = some (.lst ((l.map (·.1)).map V.str)) := by rw [g6 _ _ hd5, List.map_map] <;> rfl
    have hi6 : H6 D2 = some (.lst ((l.map (·.2)).map V.int)) := by rw [hd6, List.map_map] <;> rfl
    have hT6 := tabs_same g6 hT5
    have hs6 := (hs4.same g5).same g6
    have htq6 := seqT (g5.trans g6) htq
    have htu6 : Tups K H6 us l := htu.mono (.of (g5.trans g6))
    dsimp only [gName, tSeq, tAsg]
    generalize hks : l.map (·.1) = ks at hv hl3 hkk hil hk6
    generalize his : l.map (·.2) = is at hv hil hii hi6
    refine ⟨_, _, rfl, ?_⟩
    refine ⟨_, rfl, D2, _, rfl, .inl (SqL.of hi6), fun hd hhd => ?_⟩
    have gh := same_new hhd (.lst (is.map V.int))
    have nh1 : D1 ≠ hd := ne_of_none hk6 hhd
    have nh2 : D2 ≠ hd := ne_of_none hi6 hhd
    obtain ⟨nhs, nhq⟩ := hs6.out hhd
    have hs7 := hs6.same gh
    obtain ⟨nk1, nk2⟩ : D1 ≠ st ∧ D1 ≠ q := by
      obtain ⟨_, _, _, z1, z2, _⟩ := hs4
      exact ⟨(ne_of_none z1 hD1).symm, (ne_of_none z2 hD1).symm⟩
    obtain ⟨ni1, ni2⟩ : D2 ≠ st ∧ D2 ≠ q := by
      obtain ⟨_, _, _, z1, z2, _⟩ := hs4.same g5
      exact ⟨(ne_of_none z1 hD2).symm, (ne_of_none z2 hD2).symm⟩
    refine ⟨fun σ' H' => ∃ p : Addr, σ' = [some (.ref a), some (.ref st), some (.int (0 + (i : Int))), some (.ref t), some (.ref D1), some (.ref D2), some (.ref hd), some (.ref p), u8, u9, u10, u11, u12, u13, u14, u15, u16] ∧ FormAt K C p ks is H' ∧ H' D1 = some (.lst (ks.map V.str)) ∧ H' D2 = some (.lst (is.map V.int)) ∧ H' hd = some (.lst (is.map V.int)) ∧ Spr H' st q (b4 + 1) ∧ Tabs [(P0, qLam)] H' ∧ SqT K H' t us ∧ Tups K H' us l, ?_, ?_⟩
    · refine ⟨_, rfl, _, rfl, st, q, b4, 2, rfl, hs7, by omega, by omega, by decide, by decide, fun r2 H8 r20 r21 hs8 gx8 => ?_⟩
      have hk8 := gx8 _ _ nk1 nk2 (gh _ _ hk6)
      have hi8 := gx8 _ _ ni1 ni2 (gh _ _ hi6)
      have hh8 := gx8 _ _ nhs nhq (show upd H6 hd (.lst (is.map V.int)) hd = _ from upd_same)
      have tk8 := TK.sx (K := K) hs7 gx8
      have ht8 := tk8 _ _ (seqT gh htq6)
      have htu8 := (htu6.mono (.of gh)).mono tk8
      have hT8 := tabs_sx hs7 gx8 (tabs_same gh hT6)
      have e4 : ks.take 4 = ks := List.take_of_length_le (by omega)
      have no4 : valid (ks.take 4) is = false → False := fun h => by rw [e4, hv] at h; cases h
      refine ⟨rfl, _, rfl, ite2 (fun c0 => ?_) (fun c0 => ?_)⟩
      · refine ⟨_, rfl, D1, .ref hd, ks, is, rfl, SqL.of hk8, by omega, by omega, .inr ⟨hd, rfl, .inl (SqL.of hh8)⟩, fun _ p H9 g9 fa => ?_, fun h => (no4 h).elim⟩
        rw [e4] at fa
        exact ⟨p, rfl, fa, g9 _ _ hk8, g9 _ _ hi8, g9 _ _ hh8, hs8.same g9, tabs_same g9 hT8, seqT g9 ht8, htu8.mono (.of g9)⟩
      · refine ⟨_, rfl, D2, _, rfl, .inl ⟨SqL.of hi8, fun tt htt => ?_⟩⟩
        have gtt := same_new htt (.tup (is.map V.int))
        refine ⟨D1, .ref tt, ks, is, rfl, SqL.of (gtt _ _ hk8), by omega, by omega, .inr ⟨tt, rfl, .inr (SqT.of upd_same)⟩, fun _ p H9 g9 fa => ?_, fun h => (no4 h).elim⟩
        rw [e4] at fa
        have g9 := gtt.trans g9
        exact ⟨p, rfl, fa, g9 _ _ hk8, g9 _ _ hi8, g9 _ _ hh8, hs8.same g9, tabs_same g9 hT8, seqT g9 ht8, htu8.mono (.of g9)⟩
    · rintro σ' H8 ⟨p, rfl, hf8, hk8, hi8, hh8, hs8, hT8, ht8, htu8⟩
      have nhk : hd ≠ D1 := nh1.symm
      have nhi : hd ≠ D2 := nh2.symm
      refine ⟨_, rfl, .inl ⟨rfl, _, SqL.of hh8⟩, hd, _, _, rfl, rfl, hh8, small1000 (by rw [List.length_map]; omega), ?_⟩
      have hf9 := form_lst (K := K) (ys := is.map V.int ++ [.int 7]) hh8 hf8
      have hk9 : (upd H8 hd (.lst (is.map V.int ++ [.int 7]))) D1 = some (.lst (ks.map V.str)) := by rw [upd_ne nh1]; exact hk8
      have hi9 : (upd H8 hd (.lst (is.map V.int ++ [.int 7]))) D2 = some (.lst (is.map V.int)) := by rw [upd_ne nh2]; exact hi8
      have hs9 : Spr (upd H8 hd (.lst (is.map V.int ++ [.int 7]))) st q (b4 + 1) := hs8.upd nhs nhq
      have tk9 : TK K H8 (upd H8 hd (.lst (is.map V.int ++ [.int 7]))) := TK.lst hh8
      have hT9 : Tabs [(P0, qLam)] (upd H8 hd (.lst (is.map V.int ++ [.int 7]))) := tabs_lst hh8 hT8
      have ht9 := tk9 _ _ ht8
      have htu9 := htu8.mono tk9
      generalize upd H8 hd (.lst (is.map V.int ++ [.int 7])) = H9 at hf9 hk9 hi9 hs9 tk9 hT9 ht9 htu9
      refine ⟨_, rfl, t, us, l, n, rfl, ht9, htu9, hg, hn3, fun H10 g10 => ?_⟩
      rw [hks, his]
      refine ⟨rfl, _, rfl, ftext ks is, rfl, ?_, fun ks' is' er pb H11 g11 fb => ?_, fun er => ?_⟩
      · have := (ftext_small hv).1
        omega
      · rw [rd_ftext hv] at er
        cases er
        have g911 := g10.trans g11
        have hf11 := hf9.same g911
        have hk11 := g911 _ _ hk9
        have hi11 := g911 _ _ hi9
        have hs11 := hs9.same g911
        have hT11 := tabs_same g911 hT9
        refine ⟨_, rfl, _, rfl, (by show 2 ≤ sizeLine; decide), fun tt htt => ?_⟩
        have gtt := same_new htt (.tup [.ref p, .ref pb])
        refine ⟨tt, rfl, ⟨_, SqT.of upd_same⟩, for_tup (K := K) (a := tt) (xs := [.ref p, .ref pb]) (fun _ σ' H' => (∃ x10 : Option V, σ' = [some (.ref a), some (.ref st), some (.int (0 + (i : Int))), some (.ref t), some (.ref D1), some (.ref D2), some (.ref hd), some (.ref p), some (.str (ftext ks is)), some (.ref pb), x10, u11, u12, u13, u14, u15, u16]) ∧ Same (upd H11 tt (.tup [.ref p, .ref pb])) H') ⟨⟨_, rfl⟩, Same.refl _⟩ (fun _ _ H' _ ⟨_, g⟩ => seqT g (SqT.of upd_same)) ?_ ?_⟩
        · rintro j x σ' H' hx ⟨⟨x10, rfl⟩, g⟩
          obtain ⟨pz, rfl, dx, tk, ta, hp, hpk, hpa⟩ : ∃ pz, x = .ref pz ∧ FormAt K C pz ks is H' := by
            match j with
            | 0 => cases hx; exact ⟨p, rfl, hf11.same (gtt.trans g)⟩
            | 1 => cases hx; exact ⟨pb, rfl, fb.same (gtt.trans g)⟩
            | j + 2 => cases hx
          refine ⟨_, rfl, pz, C, dx, _, _, rfl, hp, T.cl, T.nK, flds_k _ _, _, rfl, pz, C, dx, _, _, rfl, hp, T.cl, T.nA, flds_a _ _, _, rfl, pz, dx, _, rfl, hp, pz, ks, is, rfl, ⟨dx, tk, ta, hp, hpk, hpa⟩, hv, fun Ha ga => ⟨(by show 3 ≤ sizeLine; decide), fun L hL => ?_⟩⟩
          have gL := same_new hL (.lst [.ref tk, .ref ta, .str (ftext ks is)])
          have hka := gL _ _ (ga _ _ (g _ _ (gtt _ _ hk11)))
          have hia := gL _ _ (ga _ _ (g _ _ (gtt _ _ hi11)))
          refine ⟨_, rfl, D1, _, rfl, .inl ⟨SqL.of hka, fun t1 h1 => ?_⟩⟩
          have e1 := same_new h1 (.tup (ks.map V.str))
          refine ⟨_, rfl, D2, _, rfl, .inl ⟨SqL.of (e1 _ _ hia), fun t2 h2 => ?_⟩⟩
          have e2 := same_new h2 (.tup (is.map V.int))
          refine ⟨_, rfl, (by show 3 ≤ sizeLine; decide), fun M hM => ?_⟩
          have e3 := same_new hM (.lst [.ref t1, .ref t2, .str (ftext ks is)])
          have q1 := (ga.trans gL).trans ((e1.trans e2).trans e3)
          refine ⟨_, _, rfl, bl_three (n := 4) ((e1.trans (e2.trans e3)) _ _ upd_same) upd_same (al_strs (n := 2) (seqT q1 hpk) (SqT.of ((e2.trans e3) _ _ upd_same)) (by omega)) (al_ints (n := 2) (seqT q1 hpa) (SqT.of (e3 _ _ upd_same)) (by omega)) (Al.str _), fun Hb gb => ⟨_, rfl, iteF ?_⟩⟩
          exact ⟨⟨_, rfl⟩, g.trans (q1.trans gb)⟩
        · rintro σ' H12 ⟨⟨x10, rfl⟩, g12⟩
          have g1112 := gtt.trans g12
          have hk12 := g1112 _ _ hk11
          have hi12 := g1112 _ _ hi11
          have hs12 := hs11.same g1112
          have hT12 := tabs_same g1112 hT11
          have e4 : ks.take 4 = ks := List.take_of_length_le (by omega)
          have vio := valid_iota hl3 hkk
          refine ⟨_, rfl, D1, .non, ks, iota ks.length, rfl, SqL.of hk12, by omega, ?_, .inl ⟨rfl, by rw [e4]⟩, fun _ pc H13 g13 fc => ?_, fun h => ?_⟩
          · unfold iota
            rw [List.length_map, List.length_range]
            omega
          · rw [e4] at fc
            have hk13 := g13 _ _ hk12
            have hi13 := g13 _ _ hi12
            have hs13 := hs12.same g13
            have hT13 := tabs_same g13 hT12
            refine ⟨fun σ' H' => σ' = [some (.ref a), some (.ref st), some (.int (0 + (i : Int))), some (.ref t), some (.ref D1), some (.ref D2), some (.ref hd), some (.ref p), some (.str (ftext ks is)), some (.ref pb), x10, some (.ref pc), u12, u13, u14, u15, u16] ∧ Same H13 H', ?_, ?_⟩
            · obtain ⟨dx, tk, ta, hp, hpk, hpa⟩ := fc
              refine ⟨_, rfl, pc, C, dx, _, _, rfl, hp, T.cl, T.nK, flds_k _ _, _, rfl, pc, C, dx, _, _, rfl, hp, T.cl, T.nA, flds_a _ _, (by show 2 ≤ sizeLine; decide), fun L hL => ?_⟩
              have gL := same_new hL (.lst [.ref tk, .ref ta])
              refine ⟨_, rfl, D1, _, rfl, .inl ⟨SqL.of (gL _ _ hk13), fun t1 h1 => ?_⟩⟩
              have e1 := same_new h1 (.tup (ks.map V.str))
              refine ⟨(by show 3 ≤ sizeLine; decide), fun t3 h3 => ?_⟩
              have e3 := same_new h3 (.tup [.int 0, .int 1, .int 2])
              have hk3 := e3 _ _ (e1 _ _ (gL _ _ hk13))
              have lk : (ks.map V.str).length = ks.length := List.length_map _
              refine ⟨_, rfl, D1, _, rfl, .inl (SqL.of hk3), _, rfl, t3, _, rfl, SqT.of upd_same, fun hw => ?_, fun hw p2 hp2 => ?_⟩
              · have e5 : ks.length = 3 := by
                  have y := hw.2
                  rw [lk, HT.sIx_nat] at y
                  have y : min ks.length 3 = 3 := y
                  omega
                refine ⟨(by show 2 ≤ sizeLine; decide), fun M hM => ?_⟩
                have e6 := same_new hM (.lst [.ref t1, .ref t3])
                have q1 := gL.trans (e1.trans (e3.trans e6))
                refine ⟨_, _, rfl, bl_two (n := 4) ((e1.trans (e3.trans e6)) _ _ upd_same) upd_same (al_strs (n := 2) (seqT q1 hpk) (SqT.of ((e3.trans e6) _ _ upd_same)) (by omega)) (al_ints (n := 2) (is := iota ks.length) (seqT q1 hpa) (by rw [e5]; exact SqT.of (e6 _ _ upd_same)) (by rw [e5]; decide)), fun Hb gb => ⟨_, rfl, iteF ⟨rfl, q1.trans gb⟩⟩⟩
              · have ecut : ∀ m ∈ [0, 1, 2, 3], cutV [.int 0, .int 1, .int 2] none (some ((m : Nat) : Int)) = (iota m).map V.int := by decide +kernel
                have ecu := ecut (ks.map V.str).length (by rw [lk]; generalize ks.length = m at hl3; simp; omega)
                have e5 := same_new hp2 (.tup (cutV [.int 0, .int 1, .int 2] none (some (((ks.map V.str).length : Nat) : Int))))
                refine ⟨(by show 2 ≤ sizeLine; decide), fun M hM => ?_⟩
                have e6 := same_new hM (.lst [.ref t1, .ref p2])
                have q1 := gL.trans (e1.trans (e3.trans (e5.trans e6)))
                refine ⟨_, _, rfl, bl_two (n := 4) ((e1.trans (e3.trans (e5.trans e6))) _ _ upd_same) upd_same (al_strs (n := 2) (seqT q1 hpk) (SqT.of ((e3.trans (e5.trans e6)) _ _ upd_same)) (by omega)) (al_ints (n := 2) (is := iota ks.length) (seqT q1 hpa) (by rw [← lk, ← ecu]; exact SqT.of (e6 _ _ upd_same)) (by unfold iota; rw [List.length_map, List.length_range]; omega)), fun Hb gb => ⟨_, rfl, iteF ⟨rfl, q1.trans gb⟩⟩⟩
            · rintro σ' H14 ⟨rfl, g14⟩
              have hk14 := g14 _ _ hk13
              have hi14 := g14 _ _ hi13
              have hs14 := hs13.same g14
              have hT14 := tabs_same g14 hT13
              obtain ⟨fz1, fz2⟩ := ftext_small hv
              clear hk13 hi13 hs13 hT13 hk12 hi12 hs12 hT12 hk11 hi11 hs11 hT11 hf11 hf9 hk9 hi9 hs9 hT9 hk8 hi8 hs8 hT8 hf8 hh8 ht8 ht9 htu8 htu9
              refine ⟨3, rfl, by decide, by decide, for_range (n := 3) (fun j σ' H' => (∃ u12 u14 : Option V, σ' = [some (.ref a), some (.ref st), some (.int (0 + (i : Int))), some (.ref t), some (.ref D1), some (.ref D2), some (.ref hd), some (.ref p), some (.str (ftext ks is)), some (.ref pb), x10, some (.ref pc), u12, u13, u14, u15, u16]) ∧ (∃ b' : Int, Spr H' st q b' ∧ b4 + 1 ≤ b' ∧ b' ≤ b4 + 1 + 3 * (j : Int)) ∧ Tabs [(P0, qLam)] H' ∧ H' D1 = some (.lst (ks.map V.str)) ∧ H' D2 = some (.lst (is.map V.int))) ⟨⟨_, _, rfl⟩, ⟨b4 + 1, hs14, by omega, by omega⟩, hT14, hk14, hi14⟩ ?_ ?_⟩
              · rintro j σ' H15 hj ⟨⟨v12, v14, rfl⟩, ⟨b', hs15, hb5, hb5'⟩, hT15, hk15, hi15⟩
                refine ⟨_, rfl, _, rfl, st, q, b', ftext ks is, rfl, hs15, by omega, by omega, fz1, fz2, fun y b6 H16 yl yk hb6 hb6' hs16 gx16 => ?_⟩
                have hT16 := tabs_sx hs15 gx16 hT15
                have hk16 := gx16 _ _ nk1 nk2 hk15
                have hi16 := gx16 _ _ ni1 ni2 hi15
                refine ⟨fun σ' H' => σ' = [some (.ref a), some (.ref st), some (.int (0 + (i : Int))), some (.ref t), some (.ref D1), some (.ref D2), some (.ref hd), some (.ref p), some (.str (ftext ks is)), some (.ref pb), x10, some (.ref pc), some (.int (0 + (j : Int))), u13, some (.str y), u15, u16] ∧ Spr H' st q b6 ∧ Tabs [(P0, qLam)] H' ∧ H' D1 = some (.lst (ks.map V.str)) ∧ H' D2 = some (.lst (is.map V.int)), ?_, ?_⟩
                · refine ⟨_, rfl, y, rfl, by omega, yk, fun Ha ga => ⟨tabs_same ga hT16, fun Hb eb Tb => ?_⟩⟩
                  refine ⟨rfl, _, rfl, y, rfl, by omega, fun ks' is' er p' H18 g18 _ => ?_, fun er H18 g18 => ⟨rfl, rfl, ?_⟩⟩
                  · rw [er]
                    refine ⟨rfl, _, rfl, iteN rfl ⟨rfl, (ext_sp eb (hs16.same ga)).same g18, tabs_same g18 Tb, g18 _ _ (ext_lst eb (ga _ _ hk16)), g18 _ _ (ext_lst eb (ga _ _ hi16))⟩⟩
                  · rw [er]
                    refine ⟨rfl, _, rfl, iteN rfl ⟨rfl, (ext_sp eb (hs16.same ga)).same g18, tabs_same g18 Tb, g18 _ _ (ext_lst eb (ga _ _ hk16)), g18 _ _ (ext_lst eb (ga _ _ hi16))⟩⟩
                · rintro σ' H17 ⟨rfl, hs17, hT17, hk17, hi17⟩
                  refine ⟨_, rfl, y, rfl, by omega, yk, fun Hc gc => ⟨_, rfl, ?_⟩⟩
                  have fin17 : ∀ H', Same H17 H' → (∃ b' : Int, Spr H' st q b' ∧ b4 + 1 ≤ b' ∧ b' ≤ b4 + 1 + 3 * ((j + 1 : Nat) : Int)) ∧ Tabs [(P0, qLam)] H' ∧ H' D1 = some (.lst (ks.map V.str)) ∧ H' D2 = some (.lst (is.map V.int)) := fun H' g => ⟨⟨b6, hs17.same g, by omega, by omega⟩, tabs_same g hT17, g _ _ hk17, g _ _ hi17⟩
                  cases er : rd y with
                  | none =>
                    refine iteN rfl (iteF ?_)
                    exact ⟨⟨_, _, rfl⟩, fin17 _ gc⟩
                  | some r =>
                    refine iteC rfl ?_
                    refine ⟨rfl, _, rfl, y, rfl, by omega, fun ks' is' er' p' H18 g18 fa => ?_, fun er' => ?_⟩
                    · obtain ⟨eb, hv'⟩ := rd_back er'
                      obtain ⟨dx, tk, ta, hp, hpk, hpa⟩ := fa
                      refine ⟨p', dx, _, rfl, hp, p', ks', is', rfl, ⟨dx, tk, ta, hp, hpk, hpa⟩, hv', fun H19 g19 => ⟨_, rfl, ?_⟩⟩
                      rw [eb]
                      refine ⟨rfl, _, rfl, iteN (by simp) ⟨⟨_, _, rfl⟩, fin17 _ ((gc.trans g18).trans g19)⟩⟩
                    · rw [er] at er'
                      cases er'
              · rintro σ' H15 ⟨⟨v12, v14, rfl⟩, ⟨b', hs15, hb5, hb5'⟩, hT15, hk15, hi15⟩
                have hlt : ∀ i ∈ is, i < (ks.length : Int) := fun x hx => by
                  have y := hg.2.2.mem_iff.mp (by rw [his]; exact hx)
                  unfold iota at y
                  obtain ⟨m, hm, rfl⟩ := List.mem_map.mp y
                  have e : ks.length = n := by rw [← hks, List.length_map, hg.1]
                  have := List.mem_range.mp hm
                  omega
                refine ⟨_, rfl, _, rfl, _, rfl, st, q, D1, D2, b', ks, is, rfl, hs15, by omega, by omega, hk15, hi15, nk1, nk2, ni1, ni2, hl3, hil, hkk, hlt, fun t' k2 s2 ks2 is2 b7 H16 ht' hk2 hs2 l1 l2 hvb hb7 hb7' hs16 gx16 => ?_⟩
                refine ⟨tabs_sx hs15 gx16 hT15, fun Hb eb Tb => ?_⟩
                refine ⟨_, rfl, t', _, 0, _, rfl, rfl, ext_tup eb (SqT.of ht'), rfl, _, rfl, t', _, 1, _, rfl, rfl, ext_tup eb (SqT.of ht'), rfl, k2, .ref s2, ks2, is2, rfl, SqL.of (ext_lst eb hk2), l1, l2, .inr ⟨s2, rfl, .inl (SqL.of (ext_lst eb hs2))⟩, fun h => ?_, fun _ H18 g18 => ⟨rfl, rfl, _, rfl, iteF ?_⟩⟩
                · rw [hvb] at h
                  cases h
                · exact ⟨⟨_, _, _, _, _, _, _, _, _, _, _, _, _, _, _, rfl⟩, ⟨b7, (ext_sp eb hs16).same g18, by omega, by omega⟩, tabs_same g18 Tb⟩
          · rw [e4, vio] at h
            cases h
      · rw [rd_ftext hv] at er
        cases er
  obtain ⟨t, ht, hq⟩ := fin
  exact ⟨t, ht.nox, hq⟩
end
end Lw
namespace Lw
open PySem L2 TL LamX
/-- a def of the text, as the top leaves it -/
structure Dx (K : PySem.W.Frag) (mg : Str → Option Value) (x : Str) (st : Stmt) (f : Addr) (fd : FuncData) : Prop where
  F : Fun K x x st f fd
  m : mg x = some (.ref f)
theorem dx_mk {K : PySem.W.Frag} {h : Heap} {mg : Str → Option Value} {x : Str} {st : Stmt} {f : Addr} (X : K.In h) (G : h.Ns mainGlobals mg) {od an : Option Addr} {sl : Array (Option Value)} {oc kV dc pm cd ct : Value}
    (a : PySem.W.nsIn K mainGlobals x = some (some (.ref f))) (l : K.lookup f = some ⟨oc, od, .func (PySem.W.fnOf x x (defArgs st) (defBody st) (defScope st) .none kV dc pm an cd ct), sl⟩) (c : PySem.W.codeIn K cd x = true) (k : PySem.W.keepIn K (.ref f) = true) :
    Dx K mg x st f (PySem.W.fnOf x x (defArgs st) (defBody st) (defScope st) .none kV dc pm an cd ct) := ⟨fun_mk l c k, PySem.W.mg_of X G a⟩
theorem ok_sames {P : Program} {w : World} {K : PySem.W.Frag} {mg : Str → Option Value} {base : Heap} {f : Addr} {fd : FuncData} (F : Fun K "_law_same" "_law_same" sSame f fd) (bF : Binds K fd ["_law_found", "_law_due"] []) (mF : mg "_law_same" = some (.ref f)) (B : Bt mg) :
    ∀ n : Nat, FnOk P w K mg base CX0 n f fd ["_law_found", "_law_due"] (spSame K n)
  | 0 => none_left fun vs H Q E ⟨_, _, _, h, _⟩ => h
  | n + 1 => ok_same F (ok_sames F bF mF B n) bF F.kp mF B
theorem sq_const {K : PySem.W.Frag} {H : Hp} {a : Addr} {xs : List V} {od : Option Addr} {its : Array Value} {n : Nat} {sl : Array (Option Value)} (l : K.lookup a = some ⟨.type "tuple", od, .seq its n, sl⟩) (h : its.size ≤ sizeLine) (v : Vals xs its.toList) : SqT K H a xs :=
  .inr ⟨_, its, n, l, rfl, rfl, h, v⟩
theorem kit_ref {K : PySem.W.Frag} {t : Value} {C : Addr} (h1 : PySem.W.isClsIn K C = true) (h2 : PySem.W.typeIn K (.ref C) = some (.type "type")) (h3 : PySem.W.subIn K t (.ref C) = some true) : PySem.W.kitOne K t (.ref C) = some true := by
  unfold PySem.W.kitOne
  by_cases e : (t == .ref C) = true
  · rw [if_pos e]
  · rw [if_neg e]
    show (if ((PySem.W.clsIn K C).isSome && PySem.W.typeIn K (.ref C) == some (.type "type")) = true then PySem.W.subIn K t (.ref C) else none) = _
    have c1 : (PySem.W.clsIn K C).isSome = true := h1
    rw [if_pos (by rw [c1, h2] <;> rfl)]
    exact h3
theorem kit_ty {K : PySem.W.Frag} {C : Addr} {T : String} (h1 : PySem.W.kitMeta T = true) (h3 : PySem.W.subIn K (.ref C) (.type T) = some true) : PySem.W.kitOne K (.ref C) (.type T) = some true := by
  unfold PySem.W.kitOne
  rw [if_neg (by intro e; cases (beq_iff_eq.mp e))]
  show (if PySem.W.kitMeta T = true then PySem.W.subIn K (.ref C) (.type T) else none) = _
  rw [if_pos h1]
  exact h3
theorem all_mk {l : PySem.W.OpenLaw} {w : World} {K : PySem.W.Frag} {h : Heap} {mg : Str → Option Value} {fa : Addr} (X : K.In h) (G : h.Ns mainGlobals mg) (hfa : mg "law" = some (.ref fa)) (own : OwnTab K fa h)
    {fL cL P0 fRf C fI BF WE AW KD Dk pT gT pR gR fW fZ fA fD fB fP fMx fS fF fX fRt fSp fM fBp : Addr} {dW dZ dA dD dB dP dMx dS dF dX dRt dSp dM dBp : FuncData} {cd2 cd3 cd6 cd7 ct0 ct2 ct3 ct6 ct7 dc0 dc2 dc3 dc6 dc7 kV0 kV2 kV6 kV7 oc0 oc1 oc2 oc3 oc6 oc7 pm0 pm2 pm3 pm6 pm7 : Value} {an0 an2 an3 an6 an7 od0 od1 od2 od3 od4 od5 od6 od7 : Option Addr} {sl0 sl1 sl2 sl3 sl4 sl5 sl6 sl7 : Array (Option Value)} {vs1 its4 its5 : Array Value} {n4 n5 : Nat} {rest6 rest7 : List Value} {t3 : Tok}
    (lA : PySem.W.nsIn K mainGlobals "law" = some (some (.ref fL)))
    (lL : K.lookup fL = some ⟨oc0, od0, .func (PySem.W.fnOf "law" "law" (defArgs sLaw) (defBody sLaw) (defScope sLaw) .none kV0 dc0 pm0 an0 (.ref cL) ct0), sl0⟩)
    (lC : PySem.W.codeIn K (.ref cL) "law" = true)
    (lK : K.lookup cL = some ⟨oc1, od1, .fields vs1, sl1⟩)
    (lV : vs1[11]? = some (.ref P0))
    (lH : PySem.W.codeHdIn K cL P0 = true)
    (lN : K.lookup P0 = none)
    (rA : PySem.W.nsIn K mainGlobals "_law_refused" = some (some (.ref fRf)))
    (rL : K.lookup fRf = some ⟨oc2, od2, .func (PySem.W.fnOf "_law_refused" "_law_refused" (defArgs sRef) (defBody sRef) (defScope sRef) .none kV2 dc2 pm2 an2 cd2 ct2), sl2⟩)
    (rC : PySem.W.codeIn K cd2 "_law_refused" = true)
    (rK : PySem.W.keepIn K (.ref fRf) = true)
    (aC : PySem.W.nsIn K mainGlobals "Form" = some (some (.ref C)))
    (aB : PySem.W.nsIn K mainGlobals "BadForm" = some (some (.ref BF)))
    (aW : PySem.W.nsIn K mainGlobals "WalkError" = some (some (.ref WE)))
    (aM : PySem.W.nsIn K mainGlobals "MOST_LEVELS" = some (some (.int 3 t3)))
    (aA : PySem.W.nsIn K mainGlobals "AXIS_WORDS" = some (some (.ref AW)))
    (a1 : PySem.W.findIn K (.ref C) "__init__" = some (some (.ref fI)))
    (i1 : PySem.W.isFn K (.ref fI) = true)
    (l1 : K.lookup fI = some ⟨oc3, od3, .func (PySem.W.fnOf "__init__" "Form.__init__" (defArgs sInit) (defBody sInit) (defScope sInit) .none (.ref Dk) dc3 pm3 an3 cd3 ct3), sl3⟩)
    (c1 : PySem.W.codeIn K cd3 "Form.__init__" = true)
    (n1 : PySem.W.nsIn K Dk "axes" = some (some .none))
    (mk : PySem.W.makesIn K C = true)
    (kC : PySem.W.keepIn K (.ref C) = true)
    (pg : PySem.W.plainGet K C Str.empty = true)
    (hd : PySem.W.hasDictIn K C = true)
    (po : PySem.W.plainOver K C = true)
    (sa : PySem.W.findIn K (.ref C) "__setattr__" = some (some (.builtin "object.__setattr__")))
    (nK : PySem.W.findIn K (.ref C) "kinds" = some none)
    (nA : PySem.W.findIn K (.ref C) "axes" = some none)
    (r1 : PySem.W.readsIn K C (.type "type") = true)
    (r2 : PySem.W.specialIn K (.ref C) "__getattribute__" = some (some (.builtin "type.__getattribute__")))
    (kd : PySem.W.findCls K (.ref C) (.type "type") "KINDS" = some (.val (.ref KD)))
    (kl : K.lookup KD = some ⟨.type "tuple", od4, .seq its4 n4, sl4⟩)
    (kz : its4.size ≤ sizeLine)
    (kv : Vals (KINDS.map V.str) its4.toList)
    (al : K.lookup AW = some ⟨.type "tuple", od5, .seq its5 n5, sl5⟩)
    (az : its5.size ≤ sizeLine)
    (av : Vals (AWORDS.map V.str) its5.toList)
    (m1 : PySem.W.findCls K (.ref C) (.type "type") "read" = some (.get (.builtin "classmethod.__get__") (.ref pR) .none (.ref C)))
    (m2 : PySem.W.recIn K pR "classmethod" = some (.ref gR :: rest6))
    (m3 : PySem.W.fnIn K gR = true)
    (m4 : K.lookup gR = some ⟨oc6, od6, .func (PySem.W.fnOf "read" "Form.read" (defArgs sRead) (defBody sRead) (defScope sRead) .none kV6 dc6 pm6 an6 cd6 ct6), sl6⟩)
    (m5 : PySem.W.codeIn K cd6 "Form.read" = true)
    (m6 : PySem.W.keepIn K (.ref gR) = true)
    (t1 : PySem.W.findIn K (.ref C) "text" = some (some (.ref pT)))
    (t2 : PySem.W.specialIn K (.ref pT) "__get__" = some (some (.builtin "property.__get__")))
    (t4 : PySem.W.takesIn K (.ref pT) = some true)
    (t5 : PySem.W.recIn K pT "property" = some (.ref gT :: rest7))
    (t6 : K.lookup gT = some ⟨oc7, od7, .func (PySem.W.fnOf "text" "Form.text" (defArgs sText) (defBody sText) (defScope sText) .none kV7 dc7 pm7 an7 cd7 ct7), sl7⟩)
    (t7 : PySem.W.codeIn K cd7 "Form.text" = true)
    (t8 : PySem.W.keepIn K (.ref gT) = true)
    (xB : PySem.W.excIn K BF veB "ValueError.__new__" = true)
    (kB : PySem.W.keepIn K (.ref BF) = true)
    (rB : PySem.W.subIn K (.ref BF) (.type "BaseException") = some true)
    (tB : PySem.W.typeIn K (.ref BF) = some (.type "type"))
    (e1 : PySem.W.findIn K (.ref BF) "__getattribute__" = some (some (.builtin "BaseException.__getattribute__")))
    (e2 : PySem.W.findIn K (.ref BF) "__getattr__" = some none)
    (e3 : PySem.W.hasDictIn K BF = true)
    (e4 : PySem.W.findIn K (.ref BF) "__class__" = some (some (.builtin "object.__class__")))
    (e5 : PySem.W.specialIn K (.builtin "object.__class__") "__get__" = some (some (.builtin "getset_descriptor.__get__")))
    (e6 : PySem.W.takesIn K (.builtin "object.__class__") = some true)
    (e7 : PySem.W.mroIn K BF (.type "object") = some true)
    (e8 : PySem.W.subIn K (.ref BF) (.ref BF) = some true)
    (w1 : PySem.W.isClsIn K WE = true)
    (w2 : PySem.W.typeIn K (.ref WE) = some (.type "type"))
    (w3 : PySem.W.subIn K (.ref BF) (.ref WE) = some true)
    (w4 : PySem.W.subIn K (.ref BF) (.type "ValueError") = some true)
    (z_isinstance : PySem.W.nsIn K mainGlobals "isinstance" = some none)
    (z_list : PySem.W.nsIn K mainGlobals "list" = some none)
    (z_tuple : PySem.W.nsIn K mainGlobals "tuple" = some none)
    (z_len : PySem.W.nsIn K mainGlobals "len" = some none)
    (z_all : PySem.W.nsIn K mainGlobals "all" = some none)
    (z_zip : PySem.W.nsIn K mainGlobals "zip" = some none)
    (z_dict : PySem.W.nsIn K mainGlobals "dict" = some none)
    (z_int : PySem.W.nsIn K mainGlobals "int" = some none)
    (z_bool : PySem.W.nsIn K mainGlobals "bool" = some none)
    (z_range : PySem.W.nsIn K mainGlobals "range" = some none)
    (z_str : PySem.W.nsIn K mainGlobals "str" = some none)
    (z_any : PySem.W.nsIn K mainGlobals "any" = some none)
    (z_sorted : PySem.W.nsIn K mainGlobals "sorted" = some none)
    (z_ValueError : PySem.W.nsIn K mainGlobals "ValueError" = some none)
    (DW : Dx K mg "is_whole" sWhole fW dW)
    (DZ : Dx K mg "frozen" sFrozen fZ dZ)
    (DA : Dx K mg "are_axes" sAxes fA dA)
    (DD : Dx K mg "_law_draw" sDraw fD dD)
    (DB : Dx K mg "_law_start" sStart fB dB)
    (DP : Dx K mg "_law_pick" sPick fP dP)
    (DMx : Dx K mg "_law_mixed" sMixed fMx dMx)
    (DS : Dx K mg "_law_same" sSame fS dS)
    (DF : Dx K mg "_law_form" sForm fF dF)
    (DX : Dx K mg "_law_form_text" sFtext fX dX)
    (DRt : Dx K mg "_law_right_text" sRight fRt dRt)
    (DSp : Dx K mg "_law_spoiled" sSpoil fSp dSp)
    (DM : Dx K mg "_law_made" sMade fM dM)
    (DBp : Dx K mg "_law_bad_parts" sBad fBp dBp)
    : LawAtS l w K CX0 8 63 "_law_script" mg fa h := by
  have e := hfa.symm.trans (PySem.W.mg_of X G lA)
  cases e
  have hh : PySem.W.CodeHd h cL P0 := PySem.W.codeHd_of_K X lH
  have own0 : h.get? P0 = some { cls := .none, data := .fields #[] } := own cL P0 _ _ _ _ vs1 _ lL rfl rfl lK lV
  have B : Bt mg := ⟨PySem.W.mg_none_of X G z_isinstance, PySem.W.mg_none_of X G z_list, PySem.W.mg_none_of X G z_tuple, PySem.W.mg_none_of X G z_len, PySem.W.mg_none_of X G z_all, PySem.W.mg_none_of X G z_zip, PySem.W.mg_none_of X G z_dict, PySem.W.mg_none_of X G z_int, PySem.W.mg_none_of X G z_bool, PySem.W.mg_none_of X G z_range⟩
  have S : Bs mg := ⟨PySem.W.mg_none_of X G z_str, PySem.W.mg_none_of X G z_any, PySem.W.mg_none_of X G z_sorted, PySem.W.mg_none_of X G z_ValueError⟩
  have T : Fm K mg C fI BF AW KD (.type "type") := { cl := ⟨pg, hd, po, sa⟩, nK := nK, nA := nA, mkC := ⟨mk, a1, i1, kC⟩, mC := PySem.W.mg_of X G aC, mB := PySem.W.mg_of X G aB, xB := xB, kB := kB, rB := rB, tB := tB, most := ⟨t3, PySem.W.mg_of X G aM⟩, cr := ⟨r1, r2⟩, kd := ⟨kd, rfl⟩, kdT := fun H => sq_const kl kz kv, mAW := PySem.W.mg_of X G aA, awT := fun H => sq_const al az av }
  have R : Rf K mg BF WE := { mB := PySem.W.mg_of X G aB, mW := PySem.W.mg_of X G aW, ve := PySem.W.mg_none_of X G z_ValueError, isi := PySem.W.mg_none_of X G z_isinstance, ex := ⟨e1, e2, rB, e3, e4, e5, e6, e7⟩, m1 := PySem.W.exm_ref rB e3 tB e8, k1 := kit_ref w1 w2 w3, k2 := kit_ty (by decide +kernel) w4 }
  have FRf : Fun K "_law_refused" "_law_refused" sRef fRf _ := fun_mk rL rC rK
  have bRf := FRf.binds (ps := ["_law_deed"]) fun _ _ _ _ _ _ us hl => match us, hl with | [_], _ => rfl
  have Frd : Fun K "read" "Form.read" sRead gR _ := fun_mk m4 m5 m6
  have bRd := Frd.binds (ps := ["cls", "text"]) fun _ _ _ _ _ _ us hl => match us, hl with | [_, _], _ => rfl
  have Ftx : Fun K "text" "Form.text" sText gT _ := fun_mk t6 t7 t8
  have bTx := Ftx.binds (ps := ["self"]) fun _ _ _ _ _ _ us hl => match us, hl with | [_], _ => rfl
  have bW := DW.F.binds (ps := ["n"]) fun _ _ _ _ _ _ us hl => match us, hl with | [_], _ => rfl
  have bZ := DZ.F.binds (ps := ["worth"]) fun _ _ _ _ _ _ us hl => match us, hl with | [_], _ => rfl
  have bA := DA.F.binds (ps := ["axes", "many"]) fun _ _ _ _ _ _ us hl => match us, hl with | [_, _], _ => rfl
  have bD := DD.F.binds (ps := ["_law_stream", "_law_many"]) fun _ _ _ _ _ _ us hl => match us, hl with | [_, _], _ => rfl
  have bB := DB.F.binds (ps := ["_law_script"]) fun _ _ _ _ _ _ us hl => match us, hl with | [_], _ => rfl
  have bP := DP.F.binds (ps := ["_law_stream", "_law_some"]) fun _ _ _ _ _ _ us hl => match us, hl with | [_, _], _ => rfl
  have bMx := DMx.F.binds (ps := ["_law_stream", "_law_some"]) fun _ _ _ _ _ _ us hl => match us, hl with | [_, _], _ => rfl
  have bS := DS.F.binds (ps := ["_law_found", "_law_due"]) fun _ _ _ _ _ _ us hl => match us, hl with | [_, _], _ => rfl
  have bF := DF.F.binds (ps := ["_law_stream", "_law_rank"]) fun _ _ _ _ _ _ us hl => match us, hl with | [_, _], _ => rfl
  have bX := DX.F.binds (ps := ["_law_form_here"]) fun _ _ _ _ _ _ us hl => match us, hl with | [_], _ => rfl
  have bRt := DRt.F.binds (ps := ["_law_text"]) fun _ _ _ _ _ _ us hl => match us, hl with | [_], _ => rfl
  have bSp := DSp.F.binds (ps := ["_law_stream", "_law_text"]) fun _ _ _ _ _ _ us hl => match us, hl with | [_, _], _ => rfl
  have bM := DM.F.binds (ps := ["_law_kinds", "_law_sides"]) fun _ _ _ _ _ _ us hl => match us, hl with | [_, _], _ => rfl
  have bBp := DBp.F.binds (ps := ["_law_stream", "_law_kinds", "_law_sides"]) fun _ _ _ _ _ _ us hl => match us, hl with | [_, _, _], _ => rfl
  refine ⟨_, [(cL, P0)], spLaw K P0, fun p hp => ?_, fun p hp => ?_, fun p hp => ?_, fun s v => .of_eq (fd := PySem.W.fnOf "law" "law" (defArgs sLaw) (defBody sLaw) (defScope sLaw) .none kV0 dc0 pm0 an0 (.ref cL) ct0) rfl, fun H a ns hl _ hT hS => ⟨a, ns, rfl, hS, hl, hT (cL, P0) (List.mem_singleton.mpr rfl), fun _ => rfl⟩, fun base _ _ hTB => ?_⟩
  · rw [List.mem_singleton.mp hp]
    exact own0
  · rw [List.mem_singleton.mp hp]
    exact lN
  · rw [List.mem_singleton.mp hp]
    exact hh
  have GS := ok_sames (P := l.prog) (w := w) (base := base) DS.F bS DS.m B 5
  have GD := ok_draw (P := l.prog) (w := w) (base := base) DD.F B
  have GB := ok_start (P := l.prog) (w := w) (base := base) DB.F B
  have GP := ok_pick DP.F GD bD DD.F.kp DD.m B
  have GPs := ok_pickS DP.F GD bD DD.F.kp DD.m B
  have GMx := ok_mixed DMx.F GD bD DD.F.kp DD.m B
  have GF := ok_form DF.F GMx bMx DMx.F.kp DMx.m GP bP DP.F.kp DP.m B
  have GX := ok_ftext (P := l.prog) (w := w) (base := base) DX.F B S
  have GW := ok_whole (P := l.prog) (w := w) (base := base) DW.F B
  have GZ := ok_frz (P := l.prog) (w := w) (base := base) DZ.F bZ DZ.m B
  have GA := ok_axes DA.F GW bW DW.F.kp DW.m B
  have FI := ok_init (P := l.prog) (w := w) (base := base) (du := .none) l1 c1 n1 T B GZ bZ DZ.F.kp DZ.m GA bA DA.F.kp DA.m
  have GM := ok_made DM.F T B FI
  have GR := fnR_of (ok_read Frd T B FI) bRd
  have GT := ok_text (P := l.prog) (w := w) (base := base) Ftx T B
  have GSp := ok_spoil DSp.F GD bD DD.F.kp DD.m GPs GP bP DP.F.kp DP.m B
  have GRt := ok_right (P := l.prog) (w := w) (base := base) DRt.F B S
  have GBp := ok_bad DBp.F GD bD DD.F.kp DD.m GP bP DP.F.kp DP.m B
  have GL := ok_law lL lC B T R GB bB DB.F.kp DB.m GS bS DS.F.kp DS.m GD bD DD.F.kp DD.m GF bF DF.F.kp DF.m GX bX DX.F.kp DX.m GM bM DM.F.kp DM.m GSp bSp DSp.F.kp DSp.m GRt bRt DRt.F.kp DRt.m GBp bBp DBp.F.kp DBp.m rL rC bRf rK (PySem.W.mg_of X G rA) GR ⟨m1, ⟨_, m2⟩, m3⟩ GT bTx ⟨t1, t2, t4, ⟨_, t5⟩⟩ (hTB (cL, P0) (List.mem_singleton.mpr rfl))
  exact GL
end Lw
open PySem PySem.W PyProof.Rows
set_option maxRecDepth 100000 in
set_option maxHeartbeats 0 in
theorem PySem.Challenge.cw_levelwalks_k01_form_texts_holds : PySem.Challenge.rw_levelwalks_k01_form_texts.Holds := by
  w_on; o_law; k_head; (case hw => w_witness2)
  k_fill
  refine LamX.walk_ofOwn (l := PySem.Challenge.rw_levelwalks_k01_form_texts) (n := 63) (k := 8) (x := "_law_script") (CX := fun _ => L2.CX0) rfl (by decide) rfl ⟨rfl, by decide, by decide⟩ (by decide +kernel) (fun w h Y => PySem.W.km_in_of Y) ?F (fun _ _ _ _ _ z => z)
  case F =>
    intro w mg fa h Y KX G hmg own
    refine' Lw.all_mk KX G hmg own ?lA ?lL ?lC ?lK ?lV ?lH ?lN ?rA ?rL ?rC ?rK ?aC ?aB ?aW ?aM ?aA ?a1 ?i1 ?l1 ?c1 ?n1 ?mk ?kC ?pg ?hd ?po ?sa ?nK ?nA ?r1 ?r2 ?kd ?kl ?kz ?kv ?al ?az ?av ?m1 ?m2 ?m3 ?m4 ?m5 ?m6 ?t1 ?t2 ?t4 ?t5 ?t6 ?t7 ?t8 ?xB ?kB ?rB ?tB ?e1 ?e2 ?e3 ?e4 ?e5 ?e6 ?e7 ?e8 ?w1 ?w2 ?w3 ?w4 ?z_isinstance ?z_list ?z_tuple ?z_len ?z_all ?z_zip ?z_dict ?z_int ?z_bool ?z_range ?z_str ?z_any ?z_sorted ?z_ValueError ?DW ?DZ ?DA ?DD ?DB ?DP ?DMx ?DS ?DF ?DX ?DRt ?DSp ?DM ?DBp
    (case lA => k_is)
    (case lL => k_is)
    (case lC => k_is)
    (case lK => k_is)
    (case lV => rfl)
    (case lH => rfl)
    (case lN => rfl)
    (case rA => k_is)
    (case rL => k_is)
    (case rC => k_is)
    (case rK => k_is)
    (case aC => k_is)
    (case aB => k_is)
    (case aW => k_is)
    (case aM => k_is)
    (case aA => k_is)
    (case a1 => k_is)
    (case i1 => k_is)
    (case l1 => k_is)
    (case c1 => k_is)
    (case n1 => k_is)
    (case mk => k_is)
    (case kC => k_is)
    (case pg => k_is)
    (case hd => k_is)
    (case po => k_is)
    (case sa => k_is)
    (case nK => k_is)
    (case nA => k_is)
    (case r1 => k_is)
    (case r2 => k_is)
    (case kd => k_is)
    (case kl => k_is)
    (case kz => decide)
    (case kv => exact .cons ⟨_, rfl⟩ (.cons ⟨_, rfl⟩ (.cons ⟨_, rfl⟩ (.cons ⟨_, rfl⟩ .nil))))
    (case al => k_is)
    (case az => decide)
    (case av => exact .cons ⟨_, rfl⟩ (.cons ⟨_, rfl⟩ (.cons ⟨_, rfl⟩ .nil)))
    (case m1 => k_is)
    (case m2 => k_is)
    (case m3 => k_is)
    (case m4 => k_is)
    (case m5 => k_is)
    (case m6 => k_is)
    (case t1 => k_is)
    (case t2 => k_is)
    (case t4 => k_is)
    (case t5 => k_is)
    (case t6 => k_is)
    (case t7 => k_is)
    (case t8 => k_is)
    (case xB => k_exc)
    (case kB => k_is)
    (case rB => k_is)
    (case tB => k_is)
    (case e1 => k_is)
    (case e2 => k_is)
    (case e3 => k_is)
    (case e4 => k_is)
    (case e5 => k_is)
    (case e6 => k_is)
    (case e7 => k_is)
    (case e8 => first | rfl | k_is)
    (case w1 => k_is)
    (case w2 => k_is)
    (case w3 => k_is)
    (case w4 => k_is)
    (case z_isinstance => k_is)
    (case z_list => k_is)
    (case z_tuple => k_is)
    (case z_len => k_is)
    (case z_all => k_is)
    (case z_zip => k_is)
    (case z_dict => k_is)
    (case z_int => k_is)
    (case z_bool => k_is)
    (case z_range => k_is)
    (case z_str => k_is)
    (case z_any => k_is)
    (case z_sorted => k_is)
    (case z_ValueError => k_is)
    (case DW => (refine' Lw.dx_mk KX G ?a ?l ?c ?k; (case a => k_is); (case l => k_is); (case c => k_is); (case k => k_is)))
    (case DZ => (refine' Lw.dx_mk KX G ?a ?l ?c ?k; (case a => k_is); (case l => k_is); (case c => k_is); (case k => k_is)))
    (case DA => (refine' Lw.dx_mk KX G ?a ?l ?c ?k; (case a => k_is); (case l => k_is); (case c => k_is); (case k => k_is)))
    (case DD => (refine' Lw.dx_mk KX G ?a ?l ?c ?k; (case a => k_is); (case l => k_is); (case c => k_is); (case k => k_is)))
    (case DB => (refine' Lw.dx_mk KX G ?a ?l ?c ?k; (case a => k_is); (case l => k_is); (case c => k_is); (case k => k_is)))
    (case DP => (refine' Lw.dx_mk KX G ?a ?l ?c ?k; (case a => k_is); (case l => k_is); (case c => k_is); (case k => k_is)))
    (case DMx => (refine' Lw.dx_mk KX G ?a ?l ?c ?k; (case a => k_is); (case l => k_is); (case c => k_is); (case k => k_is)))
    (case DS => (refine' Lw.dx_mk KX G ?a ?l ?c ?k; (case a => k_is); (case l => k_is); (case c => k_is); (case k => k_is)))
    (case DF => (refine' Lw.dx_mk KX G ?a ?l ?c ?k; (case a => k_is); (case l => k_is); (case c => k_is); (case k => k_is)))
    (case DX => (refine' Lw.dx_mk KX G ?a ?l ?c ?k; (case a => k_is); (case l => k_is); (case c => k_is); (case k => k_is)))
    (case DRt => (refine' Lw.dx_mk KX G ?a ?l ?c ?k; (case a => k_is); (case l => k_is); (case c => k_is); (case k => k_is)))
    (case DSp => (refine' Lw.dx_mk KX G ?a ?l ?c ?k; (case a => k_is); (case l => k_is); (case c => k_is); (case k => k_is)))
    (case DM => (refine' Lw.dx_mk KX G ?a ?l ?c ?k; (case a => k_is); (case l => k_is); (case c => k_is); (case k => k_is)))
    (case DBp => (refine' Lw.dx_mk KX G ?a ?l ?c ?k; (case a => k_is); (case l => k_is); (case c => k_is); (case k => k_is)))
