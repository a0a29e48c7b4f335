import PyProof.Rows.All
import Wide.All
import OpenK.AllK
import Wide.FinOn
import HandS.ForExc
import HandS.ExcInit
import HandS.Defaults
import HandS.ExcField
import HandS.ForMost
import HandS.IsInst
import HandS.Walk
import HandS.Zip
import HandS.Style
import HandS.Wide
import HandS.Codes
import PySem.Challenge.RW_levelwalks_k96_errors_by_keywords
set_option Elab.async false
set_option linter.all false
set_option maxRecDepth 100000
set_option maxHeartbeats 8000000
/-! An own exception class made by keyword, as a value; its field read. -/
namespace PySem
namespace Kex
open PySem.W PySem.Calls PyProof.Rows PySem.HandSPX
open Builtin Builtin.ObjectAttr
section
variable {M : Model} {A : Around} {E : Value → Shared → Prop} {h : Heap} {g : Array GenState} {d : Drawn} {t : Nat} {os : OsState} {kn : Str} {kv : Value}
variable {nm q : Str} {C N : Addr} {bs bm bmB : List Value} {hdct : Bool} {sn : List Str} {sub : List Value} {ab : Bool} {col : Option Bool} {dd : Option Addr} {k0 k1 k2 k3 k5 : Option Value} {B newId initId : String}
theorem chk_new (F : ExcBaseFacts B newId initId bmB) (hT : ∀ X : String, bm.contains (.type X) = bmB.contains (.type X)) {Q : Unit → Shared → Prop}
    (hC : h.get? C = some (excClassObj nm q C N bs bm hdct sn sub ab col dd k0 k1 k2 k3 k5 newId)) (hq : Q () ⟨h, g, d, t, os⟩) : wpAny M A (checkBuiltinCall newId ⟨[.ref C], [(kn, kv)]⟩) Q E ⟨h, g, d, t, os⟩ := by
  have hB : (Value.ref C :: bm).contains (.type B) = true := by rw [List.contains_cons, hT, F.hasB, Bool.or_true]
  have hst := F.noStar
  simp only [checkBuiltinCall, F.newKind, F.newSplit, F.newRow]
  repeat (first | refine wpAny_loadPart_at hC ?_ | (refine wpAny_isSubtype_exc hC ?_; rw [hB]) | refine wpAny_staticBase_exc hC ?_ | refine wpAny_madeBy_exc hC ?_ | simp only [bne_self_eq_false, Bool.false_eq_true, if_false] | wp_step)
  exact hq
end
section
variable {prog : Program} {w : World} {A : Around} {E : Value → Shared → Prop} {R : Result → Shared → Prop} {h : Heap} {g : Array GenState} {d : Drawn} {t : Nat} {os : OsState} {kn : Str} {kv : Value}
variable {nm q : Str} {C N : Addr} {bs bm bmB : List Value} {hdct : Bool} {sn : List Str} {sub : List Value} {ab : Bool} {col : Option Bool} {dd : Option Addr} {k0 k1 k2 k3 k5 : Option Value} {B newId initId : String}
theorem the_new (F : ExcBaseFacts B newId initId bmB) (hT : ∀ X : String, bm.contains (.type X) = bmB.contains (.type X))
    (hC : h.get? C = some (excClassObj nm q C N bs bm hdct sn sub ab col dd k0 k1 k2 k3 k5 newId))
    (hq : R (.ok (.ret (.ref (h.objs.size + 1)))) ⟨(h.push (PySem.W.kdv_tup [])).push (excO C h.objs.size), g, d, t, os⟩) :
    codeAny (model prog w) A (.builtin newId ⟨[.ref C], [(kn, kv)]⟩) R ⟨h, g, d, t, os⟩ := by
  have hen := F.ends
  have hB : (Value.ref C :: bm).contains (.type B) = true := by rw [List.contains_cons, hT, F.hasB, Bool.or_true]
  have hA : (Value.ref C :: bm).contains (.type "AttributeError") = false := by rw [List.contains_cons, hT, F.noAttr] <;> rfl
  have hN : (Value.ref C :: bm).contains (.type "NameError") = false := by rw [List.contains_cons, hT, F.noName] <;> rfl
  refine codeAny_builtinAt F.entry ?_
  unfold Builtin.«BaseException.__new__»
  refine wpAt_bind ?_
  show wpAt _ _ _ (stack >>= _) _ _ _
  refine wpAt_bind (wpAt_stack fun p below => wpAt_of_wpAny ?_)
  wp_walk
  refine wpAt_of_wpAny ?_
  rw [F.owner]
  repeat (first | with_reducible refine wpAny_madeHere_exc F.canon hC ?_ | with_reducible refine wpAny_loadPart_at hC ?_ | (with_reducible refine wpAny_isSubtype_exc hC ?_; first | rw [hB] | rw [hA] | rw [hN]) | wp_step)
  show R _ _
  rw [Heap.size_push]
  exact hq
theorem the_call (F : ExcBaseFacts B newId initId bmB) (hT : ∀ X : String, bm.contains (.type X) = bmB.contains (.type X)) {fI : Addr} {Q : Fin → Shared → Prop}
    (hC : h.get? C = some (excClassObj nm q C N bs bm hdct sn sub ab col dd k0 k1 k2 k3 k5 newId))
    (hi : W.Looks (model prog w) h (typeLookup (.ref C) "__init__") (some (.ref fI))) (hb : ∀ self, W.Looks (model prog w) h (bindSpecial (.ref fI) self) (.ref fI, [self]))
    (hq : codeAny (model prog w) A (.call (.ref fI) ⟨[.ref (h.objs.size + 1)], [(kn, kv)]⟩)
      (fun r s' => match r with | .ok (.ret v) => v = .none ∧ Q (.done (.ret (.ref (h.objs.size + 1)))) s' | .ok _ => False | .error e => E e s')
      ⟨(h.push (W.kdv_tup [])).push (excO C h.objs.size), g, d, t, os⟩) :
    wpAny (model prog w) A (Builtin.«type.__call__» ⟨[.ref C], [(kn, kv)]⟩) Q E ⟨h, g, d, t, os⟩ := by
  repeat (first | with_reducible refine wpAny_loadPart_at hC ?_ | with_reducible refine wpAny_madeBy_exc hC ?_ | wp_step)
  refine codeAny_call_builtin_code (Code.quiet_builtin _ F.quiet) (chk_new F hT hC ?_)
  refine the_new F hT hC ?_
  show wpAny _ _ _ _ _ _
  have k : ∀ b o, h.get? b = some o → ((h.push (W.kdv_tup [])).push (excO C h.objs.size)).get? b = some o := fun b o e => Heap.get?_push_of_some _ (Heap.get?_push_of_some _ e)
  have hC1 := k _ _ hC
  have hget : ((h.push (W.kdv_tup [])).push (excO C h.objs.size)).get? (h.objs.size + 1) = some (excO C h.objs.size) := by heap_get
  have hcC : (Value.ref C :: bm).contains (.ref C) = true := by simp
  have i1 := hi.keeps k
  have b1 := (hb (.ref (h.objs.size + 1))).keeps k
  unfold isInstance
  repeat (first | with_reducible refine wpAny_loadPart_at hget ?_ | (with_reducible refine wpAny_isSubtype_exc hC1 ?_; rw [hcC]) | wp_step)
  show wpAny _ _ (typeLookup (.ref C) _) _ _ _
  refine i1.at ?_
  refine wpAny_holding (wpAny_bind (b1.at ?_))
  refine wpAny_bind (wpAny_call (codeAny_mono hq fun r s' z => ?_))
  rcases r with e | (v | _ | _ | _) <;> first | exact z | exact z.elim | skip
  obtain ⟨rfl, z⟩ := z
  first
    | exact wpAny_pure (wpAny_pure z)
    | (wp_walk; exact z)
theorem chk_call {M : Model} {Q : Unit → Shared → Prop} (hC : h.get? C = some (excClassObj nm q C N bs bm hdct sn sub ab col dd k0 k1 k2 k3 k5 newId))
    (hq : Q () ⟨h, g, d, t, os⟩) : wpAny M A (checkBuiltinCall "type.__call__" ⟨[.ref C], [(kn, kv)]⟩) Q E ⟨h, g, d, t, os⟩ := by
  have f3 := tc_sub
  have hT : (⟨h, g, d, t, os⟩ : Shared).TypeIs (.ref C) "type" := ⟨_, hC, rfl⟩
  simp only [checkBuiltinCall, tc_kind, tc_split]
  repeat (any_goals (first | assumption | with_reducible refine wpAny_loadPart_at hC ?_ | with_reducible refine wpAny_onRaise ?_ | with_reducible refine wpAny_map ?_ | wp_step))
theorem make_kw (F : ExcBaseFacts B newId initId bmB) (hT : ∀ X : String, bm.contains (.type X) = bmB.contains (.type X)) {fI : Addr}
    (hC : h.get? C = some (excClassObj nm q C N bs bm hdct sn sub ab col dd k0 k1 k2 k3 k5 newId))
    (hi : W.Looks (model prog w) h (typeLookup (.ref C) "__init__") (some (.ref fI))) (hb : ∀ self, W.Looks (model prog w) h (bindSpecial (.ref fI) self) (.ref fI, [self]))
    (hq : codeAny (model prog w) (A.under (.builtin "type.__call__" ⟨[.ref C], [(kn, kv)]⟩)) (.call (.ref fI) ⟨[.ref (h.objs.size + 1)], [(kn, kv)]⟩) (W.InitBack (h.objs.size + 1) R)
      ⟨(h.push (W.kdv_tup [])).push (excO C h.objs.size), g, d, t, os⟩) :
    codeAny (model prog w) A (.call (.ref C) ⟨[], [(kn, kv)]⟩) R ⟨h, g, d, t, os⟩ := by
  have f1 := tc_lookup
  have f2 := tc_bind (.ref C)
  have hTy : (⟨h, g, d, t, os⟩ : Shared).TypeIs (.ref C) "type" := ⟨_, hC, rfl⟩
  refine codeAny_of_tree ?_
  show wpAny _ _ (callAny (.ref C) _) _ _ _
  repeat (any_goals (first | assumption | with_reducible refine wpAny_loadPart_at hC ?_ | wp_step))
  refine ⟨rfl, ?_⟩
  refine codeAny_call_builtin_at (Code.quiet_builtin _ (by decide +kernel)) entry_typeCall (chk_call hC (the_call F hT hC hi hb ?_))
  refine codeAny_mono hq fun r s' z => ?_
  rcases r with e | (v | _ | _ | _) <;> exact z
end
end Kex
end PySem
namespace L2
open PySem PySem.Spec PyProof.Rows
/-- C(k = e) of an own exception class, as a value -/
def tMkx (C : Addr) (sp : Sp) (gV : List V → List V → List V) (E : XK) (tk : TA) : TE := fun σ H Q => tk σ H fun zs H2 => zs.length = 1 ∧ ∀ a, H2 a = none →
  sp (gV [.ref a] zs) (upd H2 a (exo a C none)) (fun v H3 => v = .non ∧ Q (.ref a) H3) E
/-- x.f, x such an exception -/
def tAx (K : PySem.W.Frag) (f : Str) (te : TE) : TE := fun σ H Q => te σ H fun x H1 => ∃ (a C d : Addr) (fs : List (Str × V)) (v : V), x = .ref a ∧ XfC K C ∧ PySem.W.findIn K (.ref C) f = some none ∧
  H1 a = some (exo a C (some d)) ∧ H1 d = some (exd d fs) ∧ fs.lookup f = some v ∧ Q v H1
section
variable {X : Cx} {e : Expr} {te : TE} {tk : TA} {p pos : Pos} {kws : List Keyword}
theorem pe_mkx {CX : CXT} {E : XK} {x kn : Str} {C fI : Addr} {k : Nat} {fd : FuncData} {ps : List Str} {sp : Sp} {g : List Value → List Value → List Value} {gV : List V → List V → List V} (T : OexC X.K C) (iC : PySem.W.findIn X.K (.ref C) "__init__" = some (some (.ref fI))) (tI : PySem.W.typeIn X.K (.ref fI) = some (.type "function"))
    (G : FnOk X.prog X.w X.K X.mg X.base CX k fI fd ps sp) (hr : Room (k + 1) X.A) (hb : KBn X.K fd ps 1 [kn] g gV) (hx : Passes CX X E) (hg : Gl X x) (hm : X.mg x = some (.ref C)) (hkw : PK X kws tk)
    (hall : (backToKw pos (keywordEach kws X.env)).all (·.1.isSome) = true := by rfl) (hks : (backToKw pos (keywordEach kws X.env)).filterMap (·.1) = [kn] := by rfl) (hdb : (x == ("__debug__" : Str)) = false := by decide)
    (hpl : ((backTo pos (starEach [] X.env)).any (·.1) || (backToKw pos (keywordEach kws X.env)).any (·.1.isNone)) = false := by rfl) :
    PE X (.Call (.Name x p) [] kws pos) (tMkx C sp gV E tk) := by
  refine ⟨fun pins s σ H Q I h => ?_⟩
  obtain ⟨nm, q, N, bs, bm, sn, sub, ab, col, dd, k0, k1, k2, k3, k5, hC, hbm⟩ := T.cls
  refine wpAny_Call_Name_kw (ld_glob I hg hm ?_ hdb)
  refine PySem.W.callWith_KW0 (h₀ := X.base) I.ok.mod.kin T.kC hall ?_ hpl
  refine thn (hkw.run pos pins s σ H _ I h) fun ws s1 ⟨zs, H1, I1, r1, l1, q1⟩ => ⟨I1.kIn, ?_⟩
  rw [hks]
  obtain ⟨w, rfl⟩ : ∃ w, ws = [w] := by
    have l2 : ws.length = 1 := by rw [← r1.length, l1]
    match ws, l2 with
    | [w], _ => exact ⟨w, rfl⟩
  show wpAny _ _ (call (.ref C) [] [(kn, w)]) _ _ _
  obtain ⟨hp, gs, dr, tk', os⟩ := s1
  have hsz : hp.objs.size ≤ hp.objs.size + 1 := Nat.le_succ _
  have hn : H1 (hp.objs.size + 1) = none := I1.hok.fresh hsz
  have hq := q1 (hp.objs.size + 1) hn
  have kk : ∀ b o, hp.get? b = some o → ((hp.push (PySem.W.kdv_tup [])).push (PySem.HandSPX.excO C hp.objs.size)).get? b = some o := fun b o e => Heap.get?_push_of_some _ (Heap.get?_push_of_some _ e)
  have hget : ((hp.push (PySem.W.kdv_tup [])).push (PySem.HandSPX.excO C hp.objs.size)).get? (hp.objs.size + 1) = some (PySem.HandSPX.excO C hp.objs.size) := by heap_get
  have I2 : Inv X pins σ (upd H1 (hp.objs.size + 1) (exo (hp.objs.size + 1) C none)) ⟨(hp.push (PySem.W.kdv_tup [])).push (PySem.HandSPX.excO C hp.objs.size), gs, dr, tk', os⟩ :=
    I1.laid (t' := tk') (a := hp.objs.size + 1) (o := exo (hp.objs.size + 1) C none) (h' := (hp.push (PySem.W.kdv_tup [])).push (PySem.HandSPX.excO C hp.objs.size)) kk hsz (exo_ok hget)
  have r2 := hb.rel (vs := [V.ref (hp.objs.size + 1)]) (us := [Value.ref (hp.objs.size + 1)]) (.cons rfl .nil) r1
  refine wpAny_call (PySem.Kex.make_kw F.excBase_ValueError (fun Y => PySem.HandSPX.refsVE_contains Y bm hbm) (I1.kIn _ _ hC) (PySem.W.looks_findIn I1.kIn iC) (fun self => PySem.W.bind_fn I1.kIn self tI)
    (codeAny_mono (G.run _ X.stack _ _ ⟨[Value.ref (hp.objs.size + 1)], [(kn, w)]⟩ (g [Value.ref (hp.objs.size + 1)] [w]) _ _ E (hr.make C [] [(kn, w)]) (I2.env0.make C [] [(kn, w)]) (hb.to _ [Value.ref (hp.objs.size + 1)] [w] I2.kIn rfl rfl) r2 hq) fun r s' hq' => ?_))
  cases r with
  | error er => exact hx pins σ _ _ er s' I2 hq'
  | ok fl =>
    cases fl with
    | ret u =>
      obtain ⟨v, H', I3, rv, ev, q3⟩ := I2.after hq'
      subst ev
      exact ⟨rv, ⟨V.ref (hp.objs.size + 1), H', I3, rfl, q3⟩⟩
    | next => exact False.elim hq'
    | brk => exact False.elim hq'
    | cont => exact False.elim hq'
theorem pe_ax {n : Str} (he : PE X e te) (hb : attributeBase e n X.env (eval e X.env) = eval e X.env := by rfl) : PE X (.Attribute e n pos) (tAx X.K n te) := by
  refine ⟨fun pins s σ H Q I h => ?_⟩
  refine attr_of hb (thn (he.run pins s σ H _ I h) fun u s1 hh => ?_)
  obtain ⟨x, H1, I1, rx, a, C, d, fs, v, ex, T, hno, ea, ed, l, q⟩ := hh
  subst ex
  obtain rfl : u = Value.ref a := rx
  obtain ⟨t1, ha⟩ := exo_at I1.hok ea
  obtain ⟨mA, hns, hr⟩ := exd_at I1.hok ed
  obtain ⟨od, ho, hl⟩ := lookIn_ns hns
  obtain ⟨u, hu, ru⟩ := RelO.some_of (v := v) (o := mA n) (by rw [← l]; exact hr n)
  have J : PySem.W.InstAt s1.heap a _ C (some od) := ⟨ha, rfl, rfl, ho⟩
  exact PySem.HandSPX.exc_get I1.kIn J T.ga T.gg T.exC (PySem.W.findObj_own T.hdC hno rfl (by rw [hl, hu])) (handed_of ru) ⟨v, H1, I1.tok _, ru, q⟩
end
end L2
namespace Lw
open PySem L2
def topS (i : Nat) : Stmt := PySem.Challenge.pw_levelwalks_k96_errors_by_keywords.main.body.getD i (.Pass ⟨0, 0, 0, 0⟩)
abbrev sFrozen : Stmt := topS 1
/-! two values that show the same data: ints, texts, tuples of such; at most n deep -/
def Al (H : Hp) : Nat → V → V → Prop
  | 0, _, _ => False
  | n + 1, v, w => (∃ i : Int, v = .int i ∧ w = .int i) ∨ (∃ s : Str, v = .str s ∧ w = .str s) ∨
    ∃ (a b : Addr) (xs ys : List V), v = .ref a ∧ w = .ref b ∧ H a = some (.tup xs) ∧ H b = some (.tup ys) ∧ xs.length = ys.length ∧ xs.length ≤ 1000 ∧ ∀ (i : Nat) (x y : V), xs[i]? = some x → ys[i]? = some y → Al H n x y
def TK (H H' : Hp) : Prop := ∀ (b : Addr) (xs : List V), H b = some (.tup xs) → H' b = some (.tup xs)
theorem TK.of {H H' : Hp} (g : Same H H') : TK H H' := fun b xs h => g b _ h
theorem TK.lst {H : Hp} {D : Addr} {xs ys : List V} (h : H D = some (.lst xs)) : TK H (upd H D (.lst ys)) := fun b zs q => by
  rw [upd_ne (ne_of q h (by intro z; cases z))]
  exact q
theorem Al.mono {H H' : Hp} (g : TK H H') : ∀ {n : Nat} {v w : V}, Al H n v w → Al H' n v w
  | 0, _, _, h => h
  | n + 1, v, w, h => by
    rcases h with h | h | ⟨a, b, xs, ys, e1, e2, h1, h2, h3, h4, h5⟩
    · exact .inl h
    · exact .inr (.inl h)
    · exact .inr (.inr ⟨a, b, xs, ys, e1, e2, g _ _ h1, g _ _ h2, h3, h4, fun i x y p q => Al.mono g (h5 i x y p q)⟩)
theorem same_new {H : Hp} {p : Addr} (h : H p = none) (o : HO) : Same H (upd H p o) := fun b u q => by rw [upd_ne (ne_of_none q h)]; exact q
theorem same_over {H H' : Hp} {p : Addr} (g : Same H H') (h : H p = none) (o : HO) : Same H (upd H' p o) := fun b u q => by rw [upd_ne (ne_of_none q h)]; exact g _ _ q
/-- a comprehension's turn without a test -/
theorem kept {te : TE} {σ : St} {H : Hp} {R : V → Hp → Prop} {S : Hp → Prop} (h : te σ H R) : tYes σ H fun b H3 => if b = true then te σ H3 R else S H3 := iteT (A := te σ H R) (B := S H) h
/-- the built-in names that the program's text does not make its own -/
structure Bt (mg : Str → Option Value) : Prop where
  isi : mg "isinstance" = none
  lst : mg "list" = none
  tup : mg "tuple" = none
  len : mg "len" = none
  all : mg "all" = none
  zip : mg "zip" = none
  dict : mg "dict" = none
  int : mg "int" = none
  bool : mg "bool" = none
  range : mg "range" = none
section
variable {P : Program} {w : World} {K : PySem.W.Frag} {mg : Str → Option Value} {base : Heap} {f : Addr} {fd : FuncData}
theorem none_left {sp : Sp} {ps : List Str} {CX : CXT} (no : ∀ vs H Q E, ¬ sp vs H Q E) : FnOk P w K mg base CX 0 f fd ps sp :=
  ⟨fun vs H Q E h => absurd h (no vs H Q E), fun A outer s H args us vs Q E _ _ _ _ h => absurd h (no vs H Q E)⟩
/-! frozen: the same data, anew -/
def spFrozen (n : Nat) : Sp := fun vs H Q _ => ∃ v : V, vs = [v] ∧ Al H n v v ∧ ∀ (v' : V) (H' : Hp), Same H H' → Al H' n v' v → Q v' H'
theorem scF : FnScope ["worth", "part"] ["worth"] (defScope sFrozen) := ⟨rfl, rfl, rfl, by decide +kernel, rfl, by decide +kernel, by decide +kernel⟩
theorem is_seq {K : PySem.W.Frag} {t : String} {b : Bool} (h1 : kitB t "list" = some false) (h2 : kitB t "tuple" = some b) : PySem.W.kitAny K (.type t) [.type "list", .type "tuple"] = some b :=
  kitAny_cons (kit_ty h1) (fun _ => kitAny_cons (kit_ty h2) (fun e => by rw [e]; exact kitAny_nil) (fun e => e)) (fun e => by cases e)
theorem ok_frozen {n : Nat} (F : Fun K "frozen" "frozen" sFrozen f fd) (G : FnOk P w K mg base CX0 n f fd ["worth"] (spFrozen n)) (bF : Binds K fd ["worth"] []) (kF : PySem.W.keepIn K (.ref f) = true) (mF : mg "frozen" = some (.ref f)) (B : Bt mg) :
    FnOk P w K mg base CX0 (n + 1) f fd ["worth"] (spFrozen (n + 1)) := by
  refine F.ok scF (fun vs H Q E h => ?_) (fun cdv A outer s H vs Q E hr h => ?_)
  · obtain ⟨v, rfl, _⟩ := h
    rfl
  obtain ⟨v, rfl, hA, q⟩ := h
  refine ⟨_, pss_cons (ps_if (pt_val (pe_callB call_isiT (by rfl) B.isi (by decide +kernel) (pa_cons (pv 0) (pa_cons (pe_tup (pa_cons (pe_bltn (v := .ty "list") (by rfl) B.lst (by decide +kernel) rfl) (pa_cons (pe_bltn (v := .ty "tuple") (by rfl) B.tup (by decide +kernel) rfl) pa_nil))) pa_nil))))
      (pss_one (ps_ret (pe_callTy call_tuple_of (by rfl) B.tup (by decide +kernel) (pa_cons (pe_lc (own := [("part", 1)]) (g := gName 1) (tt := tYes) rfl scF.nd (pi_tup (pv 0)) (blkOk_by (N := ["worth", "part"]) (sc := defScope sFrozen) (by decide +kernel))
        (fun _ _ _ _ _ => pg_name (i := 1) scF.nd rfl (Or.inl rfl)) (fun _ _ _ _ _ => pts_nil) (fun _ _ _ _ _ => pe_call G hr rfl mF kF bF .nil pass0 (pa_cons (pv 1) pa_nil))) pa_nil)))) pss_nil)
    (pss_one (ps_ret (pv 0))), ?_⟩
  refine ⟨_, rfl, (by show 2 ≤ sizeLine; decide), fun t ht => ?_⟩
  rcases hA with ⟨i, rfl, _⟩ | ⟨z, rfl, _⟩ | ⟨a, b, xs, ys, rfl, e, h1, h2, h3, h4, h5⟩
  · refine ⟨_, t, _, .type "int", [.type "list", .type "tuple"], false, rfl, upd_same, .cons (.ty _) (.cons (.ty _) .nil), .base (.int i), is_seq (by decide +kernel) (by decide +kernel), _, rfl, ?_⟩
    refine iteF ⟨_, rfl, ?_⟩
    exact q _ _ (same_new ht _) (.inl ⟨i, rfl, rfl⟩)
  · refine ⟨_, t, _, .type "str", [.type "list", .type "tuple"], false, rfl, upd_same, .cons (.ty _) (.cons (.ty _) .nil), .base (.str z), is_seq (by decide +kernel) (by decide +kernel), _, rfl, ?_⟩
    refine iteF ⟨_, rfl, ?_⟩
    exact q _ _ (same_new ht _) (.inr (.inl ⟨z, rfl, rfl⟩))
  · cases e
    obtain rfl : xs = ys := by
      rw [h1] at h2
      cases h2
      rfl
    have g1 : Same H (upd H t (.tup [.ty "list", .ty "tuple"])) := same_new ht _
    refine ⟨_, t, _, .type "tuple", [.type "list", .type "tuple"], true, rfl, upd_same, .cons (.ty _) (.cons (.ty _) .nil), .base (.tup (g1 _ _ h1)), is_seq (by decide +kernel) (by decide +kernel), _, rfl, ?_⟩
    refine iteT ?_
    refine ⟨_, rfl, a, rfl, ⟨_, SqT.of (g1 _ _ h1)⟩, fun D hD => ?_⟩
    have hD0 : H D = none := g1.free hD
    refine lc_tup (K := K) (a := a) (xs := xs) (fun i H' => ∃ acc : List V, H' D = some (.lst acc) ∧ acc.length = i ∧ Same H H' ∧ ∀ (j : Nat) (x y : V), acc[j]? = some x → xs[j]? = some y → Al H' n x y)
      ⟨[], upd_same, rfl, same_over g1 hD0 _, fun j x y e => by simp at e⟩ (fun i H' _ ⟨_, _, _, g, _⟩ => SqT.of (g _ _ h1)) ?_ ?_
    · rintro i x H' hx ⟨acc, hd, hl, g, hal⟩
      refine ⟨rfl, kept ?_⟩
      refine ⟨_, rfl, x, rfl, (h5 i x x hx hx).mono (.of g), fun v' H2 g2 hv => ?_⟩
      have hd2 := g2 _ _ hd
      have hi : i < xs.length := (List.getElem?_eq_some_iff.mp hx).1
      refine ⟨acc, hd2, small1000 (by omega), acc ++ [v'], upd_same, by rw [List.length_append, hl] <;> rfl, same_over (g.trans g2) hD0 _, fun j y z ej ez => ?_⟩
      by_cases hj : j < acc.length
      · rw [List.getElem?_append_left hj] at ej
        exact ((hal j y z ej ez).mono (.of g2)).mono (TK.lst hd2)
      · have hj2 : j = i := by
          have q1 := (List.getElem?_eq_some_iff.mp ej).1
          rw [List.length_append, List.length_singleton] at q1
          omega
        subst hj2
        rw [List.getElem?_append_right (by omega), hl, Nat.sub_self] at ej
        cases ej
        rw [hx] at ez
        cases ez
        exact hv.mono (TK.lst hd2)
    · rintro H' ⟨acc, hd, hl, g, hal⟩
      refine ⟨D, acc, rfl, .inl ⟨SqL.of hd, fun l hl0 => ?_⟩⟩
      have g3 : Same H' (upd H' l (.tup acc)) := same_new hl0 _
      exact q _ _ (g.trans g3) (.inr (.inr ⟨l, a, acc, xs, rfl, rfl, upd_same, g3 _ _ (g _ _ h1), hl, by omega, fun i x y ex ey => (hal i x y ex ey).mono (.of g3)⟩))
end
end Lw
namespace Lw
open PySem L2
abbrev sSame : Stmt := topS 27
/-! zip of two tuples, as a walk -/
theorem walk_zipT {K : PySem.W.Frag} {a b : Addr} {xs ys : List V} (e : xs.length = ys.length) : Walk (RZ.ItzT K a b) xs.length (fun H => SqT K H a xs ∧ SqT K H b ys) (YPair (fun i => xs[i]?) (fun i => ys[i]?)) :=
  ⟨fun i _ hi q => ⟨xs, ys, xs[i], ys[i]'(by omega), q.1, q.2, List.getElem?_eq_getElem hi, List.getElem?_eq_getElem (by omega)⟩, fun _ q => ⟨xs, ys, q.1, q.2, .inl (Nat.le_refl _)⟩,
    fun i H v H' _ q ⟨T, x, y, h1, h2, h3, h4, h5⟩ => ⟨T, x, y, h1, h2, h3, h4 xs q.1, h5 ys q.2⟩⟩
/-! as Al, and two lists of such -/
def Bl (H : Hp) : Nat → V → V → Prop
  | 0, _, _ => False
  | n + 1, v, w => Al H (n + 1) v w ∨ ∃ (a b : Addr) (xs ys : List V), v = .ref a ∧ w = .ref b ∧ H a = some (.lst xs) ∧ H b = some (.lst ys) ∧ xs.length = ys.length ∧ xs.length ≤ 1000 ∧ ∀ (i : Nat) (x y : V), xs[i]? = some x → ys[i]? = some y → Al H n x y
theorem Al.bl {H : Hp} : ∀ {n : Nat} {v w : V}, Al H n v w → Bl H n v w
  | 0, _, _, h => h
  | _ + 1, _, _, h => .inl h
section
variable {P : Program} {w : World} {K : PySem.W.Frag} {mg : Str → Option Value} {base : Heap} {f : Addr} {fd : FuncData}
def spSame (n : Nat) : Sp := fun vs H Q _ => ∃ v u : V, vs = [v, u] ∧ Bl H n v u ∧ ∀ H' : Hp, Same H H' → Q (.bl true) H'
abbrev namesS : List Str := ["_law_found", "_law_due", "_law_one", "_law_other"]
theorem scS : FnScope namesS ["_law_found", "_law_due"] (defScope sSame) := ⟨rfl, rfl, rfl, by decide +kernel, rfl, by decide +kernel, by decide +kernel⟩
theorem is_four {K : PySem.W.Frag} {t : String} (h1 : kitB t "int" = some false) (h2 : kitB t "list" = some false) (h3 : kitB t "tuple" = some false) (h4 : kitB t "dict" = some false) :
    PySem.W.kitAny K (.type t) [.type "int", .type "list", .type "tuple", .type "dict"] = some false :=
  kitAny_cons (kit_ty h1) (fun _ => kitAny_cons (kit_ty h2) (fun _ => kitAny_cons (kit_ty h3) (fun _ => kitAny_cons (kit_ty h4) (fun _ => kitAny_nil) (fun e => by cases e)) (fun e => by cases e)) (fun e => by cases e)) (fun e => by cases e)
theorem is_seqL {K : PySem.W.Frag} : PySem.W.kitAny K (.type "list") [.type "list", .type "tuple"] = some true :=
  kitAny_cons (kit_ty (r := true) (by decide +kernel)) (fun e => by cases e) (fun _ => rfl)
theorem iteC {c : Bool} {A B : Prop} (hc : c = true) (h : A) : if c = true then A else B := by
  rw [if_pos hc]
  exact h
theorem iteN {c : Bool} {A B : Prop} (hc : c = false) (h : B) : if c = true then A else B := by
  rw [if_neg (by rw [hc]; decide)]
  exact h
theorem all_true {n : Nat} : (List.replicate n true).all id = true := by
  rw [List.all_eq_true]
  intro x hx
  rw [(List.mem_replicate.mp hx).2]
  rfl
/-- the list of answers so far -/
def InvS (H0 : Hp) (D : Addr) (i : Nat) (H : Hp) : Prop := H D = some (.lst (List.replicate i (.bl true))) ∧ Same H0 H
theorem ok_same {n : Nat} (F : Fun K "_law_same" "_law_same" sSame f fd) (G : FnOk P w K mg base CX0 n f fd ["_law_found", "_law_due"] (spSame n)) (bF : Binds K fd ["_law_found", "_law_due"] []) (kF : PySem.W.keepIn K (.ref f) = true) (mF : mg "_law_same" = some (.ref f)) (B : Bt mg) :
    FnOk P w K mg base CX0 (n + 1) f fd ["_law_found", "_law_due"] (spSame (n + 1)) := by
  refine F.ok scS (fun vs H Q E h => ?_) (fun cdv A outer s H vs Q E hr h => ?_)
  · obtain ⟨v, u, rfl, _⟩ := h
    rfl
  obtain ⟨v, u, rfl, hA, q⟩ := h
  refine ⟨_, pss_cons (ps_if (pt_val (pe_callB call_isiT (by rfl) B.isi (by decide +kernel) (pa_cons (pv 1) (pa_cons (pe_tup (pa_cons (pe_bltn (v := .ty "list") (by rfl) B.lst (by decide +kernel) rfl) (pa_cons (pe_bltn (v := .ty "tuple") (by rfl) B.tup (by decide +kernel) rfl) pa_nil))) pa_nil))))
      (pss_cons (ps_if (PW.pt (pw_or (pt_cmpR op_ne (pe_callB call_isi (by rfl) B.isi (by decide +kernel) (pa_cons (pv 0) (pa_cons (pe_bltn (v := .ty "list") (by rfl) B.lst (by decide +kernel) rfl) pa_nil))) (pe_callB call_isi (by rfl) B.isi (by decide +kernel) (pa_cons (pv 1) (pa_cons (pe_bltn (v := .ty "list") (by rfl) B.lst (by decide +kernel) rfl) pa_nil))) (nomark _)) (pw_or1 (pt_cmpR op_ne (pe_callB call_isi (by rfl) B.isi (by decide +kernel) (pa_cons (pv 0) (pa_cons (pe_bltn (v := .ty "tuple") (by rfl) B.tup (by decide +kernel) rfl) pa_nil))) (pe_callB call_isi (by rfl) B.isi (by decide +kernel) (pa_cons (pv 1) (pa_cons (pe_bltn (v := .ty "tuple") (by rfl) B.tup (by decide +kernel) rfl) pa_nil))) (nomark _))))) (pss_one (ps_ret pe_bl)) pss_nil)
        (pss_one (ps_ret (pe_and (pe_cmpR op_eq (pe_callB call_len_seq (by rfl) B.len PySem.boot_len (pa_cons (pv 0) pa_nil)) (pe_callB call_len_seq (by rfl) B.len PySem.boot_len (pa_cons (pv 1) pa_nil)) (nomark _)) (pe_one (pe_callB (cr_all rfl) (by rfl) B.all (by decide +kernel) (pa_cons
          (pe_lc (own := [("_law_one", 2), ("_law_other", 3)]) (g := gTup K 2 (gCons (gName 2) (gCons (gName 3) gNil))) (tt := tYes) rfl scS.nd (RZ.pi_zipA (by rfl) B.zip (pa_cons (pv 0) (pa_cons (pv 1) pa_nil))) (blkOk_by (N := namesS) (sc := defScope sSame) (by decide +kernel))
            (fun _ _ _ _ _ => pg_tup rfl (pgs_cons (pg_name (i := 2) scS.nd rfl (Or.inl rfl)) (pgs_cons (pg_name (i := 3) scS.nd rfl (Or.inl rfl)) pgs_nil))) (fun _ _ _ _ _ => pts_nil)
            (fun _ _ _ _ _ => pe_call G hr rfl mF kF bF .nil pass0 (pa_cons (pv 2) (pa_cons (pv 3) pa_nil)))) pa_nil))))))) pss_nil)
    (pss_cons (ps_if (pt_val (pe_callB call_isi (by rfl) B.isi (by decide +kernel) (pa_cons (pv 1) (pa_cons (pe_bltn (v := .ty "dict") (by rfl) B.dict (by decide +kernel) rfl) pa_nil)))) (pss_cons ps_never (pss_one ps_never)) pss_nil)
    (pss_cons (ps_if (pt_val (pe_callB call_isi (by rfl) B.isi (by decide +kernel) (pa_cons (pv 1) (pa_cons (pe_bltn (v := .ty "int") (by rfl) B.int (by decide +kernel) rfl) pa_nil)))) (pss_one (ps_ret (pe_and (pe_callB call_isi (by rfl) B.isi (by decide +kernel) (pa_cons (pv 0) (pa_cons (pe_bltn (v := .ty "int") (by rfl) B.int (by decide +kernel) rfl) pa_nil))) (pe_and (pe_cmpR op_eq (pe_callB call_isi (by rfl) B.isi (by decide +kernel) (pa_cons (pv 0) (pa_cons (pe_bltn (v := .ty "bool") (by rfl) B.bool (by decide +kernel) rfl) pa_nil))) (pe_callB call_isi (by rfl) B.isi (by decide +kernel) (pa_cons (pv 1) (pa_cons (pe_bltn (v := .ty "bool") (by rfl) B.bool (by decide +kernel) rfl) pa_nil))) (nomark _)) (pe_one (pe_cmpR op_eq (pv 0) (pv 1) (nomark _))))))) pss_nil)
    (pss_one (ps_ret (pe_and (pe_cmpR op_eq (pv 0) (pv 1) (nomark _)) (pe_one (pe_cmpR op_isBl (pe_callB call_isiT (by rfl) B.isi (by decide +kernel) (pa_cons (pv 0) (pa_cons (pe_tup (pa_cons (pe_bltn (v := .ty "int") (by rfl) B.int (by decide +kernel) rfl) (pa_cons (pe_bltn (v := .ty "list") (by rfl) B.lst (by decide +kernel) rfl) (pa_cons (pe_bltn (v := .ty "tuple") (by rfl) B.tup (by decide +kernel) rfl) (pa_cons (pe_bltn (v := .ty "dict") (by rfl) B.dict (by decide +kernel) rfl) pa_nil))))) pa_nil))) pe_bl (nomark _)))))))), ?_⟩
  refine ⟨_, rfl, (by show 2 ≤ sizeLine; decide), fun t ht => ?_⟩
  have g1 : Same H (upd H t (.tup [.ty "list", .ty "tuple"])) := same_new ht _
  rcases hA with (⟨i, rfl, rfl⟩ | ⟨z, rfl, rfl⟩ | ⟨a, b, xs, ys, rfl, rfl, h1, h2, h3, h4, h5⟩) | ⟨a, b, xs, ys, rfl, rfl, h1, h2, h3, h4, h5⟩
  · refine ⟨_, t, _, .type "int", [.type "list", .type "tuple"], false, rfl, upd_same, .cons (.ty _) (.cons (.ty _) .nil), .base (.int i), is_seq (by decide +kernel) (by decide +kernel), _, rfl, ?_⟩
    refine iteF ?_
    refine ⟨_, rfl, _, _, .type "int", .type "dict", false, rfl, .ty _, .base (.int i), kit_ty (by decide +kernel), _, rfl, ?_⟩
    refine iteF ?_
    refine ⟨_, rfl, _, _, .type "int", .type "int", true, rfl, .ty _, .base (.int i), kit_ty (by decide +kernel), _, rfl, ?_⟩
    refine iteT ?_
    refine ⟨_, rfl, _, _, .type "int", .type "int", true, rfl, .ty _, .base (.int i), kit_ty (by decide +kernel), _, rfl, ?_⟩
    refine iteT ?_
    refine ⟨_, rfl, _, _, .type "int", .type "bool", false, rfl, .ty _, .base (.int i), kit_ty (by decide +kernel), ?_⟩
    refine ⟨_, rfl, _, _, .type "int", .type "bool", false, rfl, .ty _, .base (.int i), kit_ty (by decide +kernel), ?_⟩
    refine ⟨rfl, _, rfl, iteC (decide_eq_true rfl) ?_⟩
    refine ⟨_, rfl, _, rfl, rfl, ?_⟩
    show Q (.bl (decide (V.int i = V.int i))) _
    rw [decide_eq_true rfl]
    exact q _ g1
  · refine ⟨_, t, _, .type "str", [.type "list", .type "tuple"], false, rfl, upd_same, .cons (.ty _) (.cons (.ty _) .nil), .base (.str z), is_seq (by decide +kernel) (by decide +kernel), _, rfl, ?_⟩
    refine iteF ?_
    refine ⟨_, rfl, _, _, .type "str", .type "dict", false, rfl, .ty _, .base (.str z), kit_ty (by decide +kernel), _, rfl, ?_⟩
    refine iteF ?_
    refine ⟨_, rfl, _, _, .type "str", .type "int", false, rfl, .ty _, .base (.str z), kit_ty (by decide +kernel), _, rfl, ?_⟩
    refine iteF ?_
    refine ⟨_, rfl, _, rfl, rfl, _, rfl, iteC (decide_eq_true rfl) ?_⟩
    refine ⟨_, rfl, (by show 4 ≤ sizeLine; decide), fun t2 ht2 => ?_⟩
    refine ⟨_, t2, _, .type "str", [.type "int", .type "list", .type "tuple", .type "dict"], false, rfl, upd_same, .cons (.ty _) (.cons (.ty _) (.cons (.ty _) (.cons (.ty _) .nil))), .base (.str z), is_four (by decide +kernel) (by decide +kernel) (by decide +kernel) (by decide +kernel), _, _, rfl, rfl, ?_⟩
    exact q _ (g1.trans (same_new ht2 _))
  · refine ⟨_, t, _, .type "tuple", [.type "list", .type "tuple"], true, rfl, upd_same, .cons (.ty _) (.cons (.ty _) .nil), .base (.tup (g1 _ _ h2)), is_seq (by decide +kernel) (by decide +kernel), _, rfl, ?_⟩
    refine iteT ?_
    have ka := g1 _ _ h1
    have kb := g1 _ _ h2
    refine ⟨_, rfl, _, _, .type "tuple", .type "list", false, rfl, .ty _, .base (.tup ka), kit_ty (by decide +kernel), _, rfl, _, _, .type "tuple", .type "list", false, rfl, .ty _, .base (.tup kb), kit_ty (by decide +kernel), rfl, _, rfl, ?_⟩
    refine iteN rfl ?_
    refine ⟨_, rfl, _, _, .type "tuple", .type "tuple", true, rfl, .ty _, .base (.tup ka), kit_ty (by decide +kernel), _, rfl, _, _, .type "tuple", .type "tuple", true, rfl, .ty _, .base (.tup kb), kit_ty (by decide +kernel), rfl, _, rfl, ?_⟩
    refine iteN rfl ?_
    refine ⟨_, rfl, a, xs, rfl, .inr (SqT.of ka), _, rfl, b, ys, rfl, .inr (SqT.of kb), rfl, _, rfl, iteC (decide_eq_true (by rw [h3])) ?_⟩
    refine ⟨_, rfl, _, rfl, a, b, xs, ys, rfl, .inr ⟨SqT.of ka, SqT.of kb, fun D hD => ?_⟩⟩
    have hD0 : H D = none := g1.free hD
    refine lc_it (walk_zipT (K := K) (a := a) (b := b) h3) (InvS H D) ⟨upd_same, same_over g1 hD0 _⟩ (fun i H' _ ⟨_, g⟩ => ⟨SqT.of (g _ _ h1), SqT.of (g _ _ h2)⟩) ?_ ?_
    · rintro i v H' H'' hi ⟨hd, g⟩ ⟨T, x, y, rfl, hT, rfl, ex, ey⟩
      have gT : Same H' (upd H' T (.tup [x, y])) := same_new hT _
      have hi1 : i < 1001 := by omega
      refine ⟨T, [x, y], rfl, SqT.of upd_same, rfl, x, [y], rfl, y, [], rfl, rfl, ?_⟩
      refine ⟨rfl, kept ?_⟩
      refine ⟨_, rfl, _, rfl, x, y, rfl, ((h5 i x y ex ey).mono (.of (g.trans gT))).bl, fun H2 g2 => ?_⟩
      refine ⟨_, g2 _ _ (gT _ _ hd), by rw [List.length_replicate]; exact small1000 (by omega), by rw [upd_same, List.replicate_succ'], same_over ((g.trans gT).trans g2) hD0 _⟩
    · rintro H' ⟨hd, g⟩
      exact ⟨D, List.replicate xs.length true, rfl, SqL.of (by rw [hd, List.map_replicate]), by rw [all_true]; exact q _ g⟩
  · refine ⟨_, t, _, .type "list", [.type "list", .type "tuple"], true, rfl, upd_same, .cons (.ty _) (.cons (.ty _) .nil), .base (.lst (g1 _ _ h2)), is_seqL, _, rfl, ?_⟩
    refine iteT ?_
    have ka := g1 _ _ h1
    have kb := g1 _ _ h2
    refine ⟨_, rfl, _, _, .type "list", .type "list", true, rfl, .ty _, .base (.lst ka), kit_ty (by decide +kernel), _, rfl, _, _, .type "list", .type "list", true, rfl, .ty _, .base (.lst kb), kit_ty (by decide +kernel), rfl, _, rfl, ?_⟩
    refine iteN rfl ?_
    refine ⟨_, rfl, _, _, .type "list", .type "tuple", false, rfl, .ty _, .base (.lst ka), kit_ty (by decide +kernel), _, rfl, _, _, .type "list", .type "tuple", false, rfl, .ty _, .base (.lst kb), kit_ty (by decide +kernel), rfl, _, rfl, ?_⟩
    refine iteN rfl ?_
    refine ⟨_, rfl, a, xs, rfl, .inl (SqL.of ka), _, rfl, b, ys, rfl, .inl (SqL.of kb), rfl, _, rfl, iteC (decide_eq_true (by rw [h3])) ?_⟩
    refine ⟨_, rfl, _, rfl, a, b, xs, ys, rfl, .inl ⟨SqL.of ka, SqL.of kb, fun D hD => ?_⟩⟩
    have hD0 : H D = none := g1.free hD
    refine lc_it (walk_zip (K := K) (a := a) (b := b) (n := xs.length) (by omega)) (InvS H D) ⟨upd_same, same_over g1 hD0 _⟩ (fun i H' _ ⟨_, g⟩ => ⟨SqL.of (g _ _ h1), SqL.of (g _ _ h2)⟩) ?_ ?_
    · rintro i v H' H'' hi ⟨hd, g⟩ ⟨T, x, y, rfl, hT, rfl, ex, ey⟩
      have gT : Same H' (upd H' T (.tup [x, y])) := same_new hT _
      have hi1 : i < 1001 := by omega
      refine ⟨T, [x, y], rfl, SqT.of upd_same, rfl, x, [y], rfl, y, [], rfl, rfl, ?_⟩
      refine ⟨rfl, kept ?_⟩
      refine ⟨_, rfl, _, rfl, x, y, rfl, ((h5 i x y ex ey).mono (.of (g.trans gT))).bl, fun H2 g2 => ?_⟩
      refine ⟨_, g2 _ _ (gT _ _ hd), by rw [List.length_replicate]; exact small1000 (by omega), by rw [upd_same, List.replicate_succ'], same_over ((g.trans gT).trans g2) hD0 _⟩
    · rintro H' ⟨hd, g⟩
      exact ⟨D, List.replicate xs.length true, rfl, SqL.of (by rw [hd, List.map_replicate]), by rw [all_true]; exact q _ g⟩
end
end Lw
namespace Lw
open PySem L2
abbrev sDraw : Stmt := topS 24
/-! the spring of numbers: a list of four, its first one a list of ints -/
def Spr (H : Hp) (st q : Addr) (b : Int) : Prop := ∃ (ns : List Int) (a c : Int), H st = some (.lst [.ref q, .int a, .int b, .int c]) ∧ H q = some (.lst (ns.map V.int)) ∧ 0 ≤ a ∧ 0 ≤ c ∧ c < 2147483647 ∧ ns.length ≤ 63
/-! all else is as it was -/
def SX (st q : Addr) (H H' : Hp) : Prop := ∀ (x : Addr) (o : HO), x ≠ st → x ≠ q → H x = some o → H' x = some o
theorem SX.refl {st q : Addr} {H : Hp} : SX st q H H := fun _ _ _ _ h => h
theorem SX.trans {st q : Addr} {H H1 H2 : Hp} (g : SX st q H H1) (g' : SX st q H1 H2) : SX st q H H2 := fun x o h1 h2 h => g' x o h1 h2 (g x o h1 h2 h)
theorem SX.of {st q : Addr} {H H' : Hp} (g : Same H H') : SX st q H H' := fun x o _ _ h => g x o h
theorem SX.st {st q : Addr} {H : Hp} {o : HO} : SX st q H (upd H st o) := fun x u h1 _ h => by rw [upd_ne h1]; exact h
theorem SX.q {st q : Addr} {H : Hp} {o : HO} : SX st q H (upd H q o) := fun x u _ h2 h => by rw [upd_ne h2]; exact h
theorem Spr.ne {H : Hp} {st q : Addr} {a b c : Int} {ns : List Int} (h1 : H st = some (.lst [.ref q, .int a, .int b, .int c])) (h2 : H q = some (.lst (ns.map V.int))) : q ≠ st := fun e => by
  rw [e, h1] at h2
  cases ns with
  | nil => cases h2
  | cons n r => cases h2
section
variable {P : Program} {w : World} {K : PySem.W.Frag} {mg : Str → Option Value} {base : Heap} {f : Addr} {fd : FuncData}
def spDraw : Sp := fun vs H Q _ => ∃ (st q : Addr) (b m : Int), vs = [.ref st, .int m] ∧ Spr H st q b ∧ 0 ≤ b ∧ b ≤ 1000 ∧ 0 < m ∧ m < 1073741824 ∧
  ∀ (r : Int) (H' : Hp), 0 ≤ r → r < m → Spr H' st q (b + 1) → SX st q H H' → Q (.int r) H'
theorem scD : FnScope ["_law_stream", "_law_many", "_law_digit", "_law_mixed"] ["_law_stream", "_law_many"] (defScope sDraw) := ⟨rfl, rfl, rfl, by decide +kernel, rfl, by decide +kernel, by decide +kernel⟩
theorem dp_ints {H : Hp} : ∀ ns : List Int, DpAll K H (ns.map V.int) (ns.map PyData.int)
  | [] => .nil
  | n :: r => .cons (.int n) (dp_ints r)
theorem first_ix {n : Nat} (h : 0 < n) : seqIndex? 0 n = some 0 := (ixN_seq (n := n) (i := 0) (j := 0) (by unfold ixN; rw [if_pos (by decide), if_pos (by omega)]; rfl)).1
theorem ok_draw (F : Fun K "_law_draw" "_law_draw" sDraw f fd) (B : Bt mg) : FnOk P w K mg base CX0 1 f fd ["_law_stream", "_law_many"] spDraw := by
  refine F.ok scD (fun vs H Q E h => ?_) (fun cdv A outer s H vs Q E hr h => ?_)
  · obtain ⟨st, q, b, m, rfl, _⟩ := h
    rfl
  obtain ⟨st, q, b, m, rfl, ⟨ns, a, c, h1, h2, ha, hc, hc2, hns⟩, hb0, hb1, hm0, hm1, k⟩ := h
  refine ⟨_, pss_cons (ps_asg (pe_op op_add (pe_ix ix_list (pv 0) pe_int (fun _ _ => rfl)) pe_int) (pg_sub (pv 0) pe_int set_list))
    (C8.pss_cut (ps_if (PW.pt (pw_and (pt_cmpR op_eq (pe_ix ix_list (pv 0) pe_int (fun _ _ => rfl)) pe_int (nomark _)) (pw_and1 (pt_cmpR (op_neD hr.units) (pe_ix ix_list (pv 0) pe_int (fun _ _ => rfl)) (pe_lst pa_nil) (nomark _))))) (pss_cons (ps_asg (pe_bm PySem.F.plainAttrs_list PySem.F.slot_list_pop PySem.F.type_list_pop mt_popAt (pe_ix ix_list (pv 0) pe_int (fun _ _ => rfl)) (pa_cons pe_int pa_nil)) (pg_sub (pv 0) pe_int set_list)) (pss_one (ps_if (pt_cmpR op_lt (pe_ix ix_list (pv 0) pe_int (fun _ _ => rfl)) (pe_op op_pow pe_int pe_int) (nomark _)) (pss_cons (ps_asg (pe_op op_mod (pe_callTy call_int1 (by rfl) B.int (by decide +kernel) (pa_cons (pe_op op_add (pe_op op_add (pe_op op_mul (pe_ix ix_list (pv 0) pe_int (fun _ _ => rfl)) pe_int) (pe_ix ix_list (pv 0) pe_int (fun _ _ => rfl))) pe_int) pa_nil)) pe_int) (pg_sub (pv 0) pe_int set_list)) (pss_one (ps_asg pe_int (pg_sub (pv 0) pe_int set_list)))) pss_nil))) pss_nil)
    (pss_cons (ps_if (pt_cmpR op_gt (pe_ix ix_list (pv 0) pe_int (fun _ _ => rfl)) pe_int (nomark _)) (pss_cons (ps_set (i := 2) scD.nd rfl (Or.inl rfl) (pe_op op_mod (pe_callTy call_int1 (by rfl) B.int (by decide +kernel) (pa_cons (pe_ix ix_list (pv 0) pe_int (fun _ _ => rfl)) pa_nil)) (pv 1))) (pss_cons (ps_asg (pe_op op_fdiv (pe_ix ix_list (pv 0) pe_int (fun _ _ => rfl)) (pv 1)) (pg_sub (pv 0) pe_int set_list)) (pss_one (ps_ret (pv 2))))) pss_nil)
    (pss_cons (ps_set (i := 3) scD.nd rfl (Or.inl rfl) (pe_op op_mod (pe_op op_pow (pe_op op_add (pe_op op_add (pe_ix ix_list (pv 0) pe_int (fun _ _ => rfl)) (pe_op op_mul pe_int (pe_ix ix_list (pv 0) pe_int (fun _ _ => rfl)))) pe_int) pe_int) pe_int))
    (pss_one (ps_ret (pe_op op_mod (pe_op op_mod (pe_op op_pow (pe_op op_add (pe_op op_add (pe_op op_mul (pv 3) pe_int) (pe_op op_mul (pe_op op_mul pe_int (pe_ix ix_list (pv 0) pe_int (fun _ _ => rfl))) (pe_ix ix_list (pv 0) pe_int (fun _ _ => rfl)))) pe_int) pe_int) pe_int) (pv 1))))))), ?_⟩
  have nqs : q ≠ st := Spr.ne h1 h2
  refine ⟨_, rfl, st, _, _, _, rfl, rfl, SqL.of h1, rfl, _, _, rfl, rfl, _, rfl, st, _, _, _, rfl, rfl, h1, rfl, ?_⟩
  have e1 : upd H st (.lst [.ref q, .int a, .int (b + 1), .int c]) st = some (.lst [.ref q, .int a, .int (b + 1), .int c]) := upd_same
  have e2 : upd H st (.lst [.ref q, .int a, .int (b + 1), .int c]) q = some (.lst (ns.map V.int)) := by rw [upd_ne nqs]; exact h2
  have gx : SX st q H (upd H st (.lst [.ref q, .int a, .int (b + 1), .int c])) := SX.st
  refine ⟨fun σ' H' => σ' = [some (.ref st), some (.int m), none, none] ∧ Spr H' st q (b + 1) ∧ SX st q H H', ?_, ?_⟩
  · refine ⟨_, rfl, st, _, _, _, rfl, rfl, SqL.of e1, rfl, rfl, _, rfl, ?_⟩
    refine ite2 (fun ca => ?_) (fun _ => ⟨rfl, ⟨ns, a, c, e1, e2, ha, hc, hc2, hns⟩, gx⟩)
    have ca0 : a = 0 := by
      have z := of_decide_eq_true ca
      cases z
      rfl
    refine ⟨_, rfl, st, _, _, _, rfl, rfl, SqL.of e1, rfl, Nat.zero_le _, fun l hl => ?_⟩
    have g2 := same_new hl (.lst [])
    have f1 := g2 _ _ e1
    have f2 := g2 _ _ e2
    have gx2 := gx.trans (.of g2)
    cases ns with
    | nil =>
      refine ⟨.list [], .list [], .lst (SqL.of f2) .nil, .lst (SqL.of upd_same) .nil, by decide +kernel, by decide +kernel, _, rfl, ?_⟩
      refine iteN (by decide +kernel) ⟨rfl, ⟨[], a, c, f1, f2, ha, hc, hc2, hns⟩, gx2⟩
    | cons n r =>
      refine ⟨.list ((n :: r).map PyData.int), .list [], .lst (SqL.of f2) (dp_ints _), .lst (SqL.of upd_same) .nil, PySem.W.ke_shaped_ints _, by decide +kernel, _, rfl, ?_⟩
      refine iteC rfl ?_
      refine ⟨_, rfl, st, _, _, _, rfl, rfl, SqL.of f1, rfl, .inl ⟨rfl, _, SqL.of f2⟩, q, _, 0, 0, _, rfl, rfl, f2, by decide, by decide, first_ix (by simp), rfl, ?_⟩
      have p1 := (upd_ne (o := .lst (r.map V.int)) nqs.symm).trans f1
      have gx3 := gx2.trans (SX.q (o := .lst (r.map V.int)))
      refine ⟨_, rfl, st, _, _, _, rfl, rfl, p1, rfl, ?_⟩
      have gx4 := gx3.trans (SX.st (o := .lst [.ref q, .int n, .int (b + 1), .int c]))
      refine ⟨_, rfl, st, _, _, _, rfl, rfl, SqL.of upd_same, rfl, _, _, rfl, rfl, ⟨by decide, by decide, by decide⟩, _, _, rfl, rfl, _, rfl, ?_⟩
      refine ite2 (fun cn => ?_) (fun cn => ?_)
      · refine ⟨_, rfl, st, _, _, _, rfl, rfl, SqL.of upd_same, rfl, _, _, rfl, rfl, .inr ⟨by decide, by decide⟩, _, rfl, st, _, _, _, rfl, rfl, SqL.of upd_same, rfl, _, _, rfl, rfl, _, _, rfl, rfl, .inl ⟨_, rfl, ?_⟩⟩
        refine ⟨_, _, rfl, rfl, (by show (0 : Int) < 2147483647; decide), _, rfl, st, _, _, _, rfl, rfl, upd_same, rfl, _, rfl, st, _, _, _, rfl, rfl, upd_same, rfl, ?_⟩
        refine ⟨rfl, ⟨r, 0, (c * 31 + n + 7) % 2147483647, upd_same, ?_, by decide, Int.emod_nonneg _ (by decide), Int.emod_lt_of_pos _ (by decide), by simp at hns; omega⟩, (gx4.trans SX.st).trans SX.st⟩
        rw [upd_ne nqs, upd_ne nqs, upd_ne nqs, upd_same]
        rfl
      · have cn1 : ¬ n < (10 : Int) ^ 18 := of_decide_eq_false (Bool.eq_false_iff.mpr cn)
        refine ⟨rfl, ⟨r, n, c, upd_same, ?_, by omega, hc, hc2, by simp at hns; omega⟩, gx4⟩
        rw [upd_ne nqs, upd_same]
        rfl
  · rintro σ' H' ⟨rfl, ⟨ns', a', c', d1, d2, ha', hc', hc2', hns'⟩, g'⟩
    refine ⟨_, rfl, st, _, _, _, rfl, rfl, SqL.of d1, rfl, _, _, rfl, rfl, _, rfl, ?_⟩
    refine ite2 (fun cp => ?_) (fun cp => ?_)
    · have cp1 : a' > 0 := of_decide_eq_true cp
      refine ⟨_, rfl, st, _, _, _, rfl, rfl, SqL.of d1, rfl, .inl ⟨_, rfl, ?_⟩⟩
      refine ⟨_, rfl, _, _, rfl, rfl, hm0, _, rfl, st, _, _, _, rfl, rfl, SqL.of d1, rfl, _, rfl, _, _, rfl, rfl, ⟨hm0, hm1⟩, _, rfl, st, _, _, _, rfl, rfl, d1, rfl, _, rfl, ?_⟩
      exact k _ _ (Int.emod_nonneg _ (by omega)) (Int.emod_lt_of_pos _ hm0) ⟨ns', a' / m, c', upd_same, by rw [upd_ne nqs]; exact d2, Int.ediv_nonneg ha' (by omega), hc', hc2', hns'⟩ (g'.trans SX.st)
    · refine ⟨_, rfl, st, _, _, _, rfl, rfl, SqL.of d1, rfl, _, rfl, st, _, _, _, rfl, rfl, SqL.of d1, rfl, _, _, rfl, rfl, .inl ⟨by decide, by decide⟩, _, _, rfl, rfl, _, _, rfl, rfl, _, _, rfl, rfl, ⟨by decide, by decide, ?_⟩, _, _, rfl, rfl, (by show (0 : Int) < 2147483629; decide), ?_⟩
      · show (c' + 104729 * (b + 1) + 17).natAbs < 18446744073709551616
        omega
      have x0 : 0 ≤ (c' + 104729 * (b + 1) + 17) ^ (5 : Int).toNat % 2147483629 := Int.emod_nonneg _ (by decide)
      have x1 : (c' + 104729 * (b + 1) + 17) ^ (5 : Int).toNat % 2147483629 < 2147483629 := Int.emod_lt_of_pos _ (by decide)
      refine ⟨_, rfl, _, _, rfl, rfl, .inr ⟨by decide, by decide⟩, _, rfl, st, _, _, _, rfl, rfl, SqL.of d1, rfl, _, _, rfl, rfl, .inl ⟨by decide, by decide⟩, _, rfl, st, _, _, _, rfl, rfl, SqL.of d1, rfl, _, _, rfl, rfl, .inr ⟨?_, ?_⟩, _, _, rfl, rfl, _, _, rfl, rfl, _, _, rfl, rfl, ⟨by decide, by decide, ?_⟩, _, _, rfl, rfl, (by show (0 : Int) < 1000000007; decide), _, rfl, _, _, rfl, rfl, hm0, ?_⟩
      · show -(18446744073709551616 : Int) < b + 1
        omega
      · show b + 1 < (18446744073709551616 : Int)
        omega
      · show ((c' + 104729 * (b + 1) + 17) ^ (5 : Int).toNat % 2147483629 * 48271 + 40503 * (b + 1) * (b + 1) + 13).natAbs < 18446744073709551616
        have y0 : 0 ≤ 40503 * (b + 1) * (b + 1) := Int.mul_nonneg (by omega) (by omega)
        have y1 : 40503 * (b + 1) * (b + 1) ≤ 40543503 * 1001 := Int.mul_le_mul (by omega) (by omega) (by omega) (by omega)
        revert x0 x1 y0 y1
        generalize (c' + 104729 * (b + 1) + 17) ^ (5 : Int).toNat % 2147483629 = x
        generalize 40503 * (b + 1) * (b + 1) = y
        intro x0 x1 y0 y1
        omega
      · exact k _ _ (Int.emod_nonneg _ (by omega)) (Int.emod_lt_of_pos _ hm0) ⟨ns', a', c', d1, d2, ha', hc', hc2', hns'⟩ g'
end
end Lw
namespace Lw
open PySem L2
abbrev sStart : Stmt := topS 25
abbrev sPick : Stmt := topS 26
abbrev sThing : Stmt := topS 28
theorem Spr.same {H H' : Hp} {st q : Addr} {b : Int} (g : Same H H') : Spr H st q b → Spr H' st q b
  | ⟨ns, a, c, h1, h2, r⟩ => ⟨ns, a, c, g _ _ h1, g _ _ h2, r⟩
theorem TK.sx {H H' : Hp} {st q : Addr} {b : Int} (s : Spr H st q b) (g : SX st q H H') : TK H H' := by
  obtain ⟨ns, a, c, h1, h2, _⟩ := s
  intro t xs h
  exact g _ _ (ne_of h h1 (by intro z; cases z)) (ne_of h h2 (by intro z; cases z)) h
theorem TK.trans {H H1 H2 : Hp} (g : TK H H1) (g' : TK H1 H2) : TK H H2 := fun b xs h => g' b xs (g b xs h)
section
variable {P : Program} {w : World} {K : PySem.W.Frag} {mg : Str → Option Value} {base : Heap} {f g : Addr} {fd gd : FuncData}
def spStart (K : PySem.W.Frag) : Sp := fun vs H Q _ => ∃ (a : Addr) (ns : List Int), vs = [.ref a] ∧ SqL K H a (ns.map V.int) ∧ ns.length ≤ 63 ∧
  ∀ (st q : Addr) (H' : Hp), Same H H' → Spr H' st q 0 → Q (.ref st) H'
theorem scT : FnScope ["_law_script"] ["_law_script"] (defScope sStart) := ⟨rfl, rfl, rfl, by decide +kernel, rfl, by decide +kernel, by decide +kernel⟩
theorem ok_start (F : Fun K "_law_start" "_law_start" sStart f fd) (B : Bt mg) : FnOk P w K mg base CX0 1 f fd ["_law_script"] (spStart K) := by
  refine F.ok scT (fun vs H Q E h => ?_) (fun cdv A outer s H vs Q E hr h => ?_)
  · obtain ⟨a, ns, rfl, _⟩ := h
    rfl
  obtain ⟨a, ns, rfl, hS, hn, k⟩ := h
  refine ⟨_, pss_one (ps_ret (pe_lst (pa_cons (pe_callTy call_list_of (by rfl) B.lst (by decide +kernel) (pa_cons (pv 0) pa_nil)) (pa_cons pe_int (pa_cons pe_int (pa_cons pe_int pa_nil)))))), ?_⟩
  refine ⟨_, rfl, a, _, rfl, .inl hS, fun l hl => ?_⟩
  have g1 := same_new hl (.lst (ns.map V.int))
  refine ⟨(by show 4 ≤ sizeLine; decide), fun t ht => ?_⟩
  have g2 := same_new ht (.lst [.ref l, .int 0, .int 0, .int 0])
  exact k t l _ (g1.trans g2) ⟨ns, 0, 0, upd_same, g2 _ _ upd_same, by decide, by decide, by decide, hn⟩
def spPick (K : PySem.W.Frag) : Sp := fun vs H Q _ => ∃ (st q p : Addr) (b : Int) (xs : List V), vs = [.ref st, .ref p] ∧ Spr H st q b ∧ 0 ≤ b ∧ b ≤ 1000 ∧ H p = some (.lst xs) ∧ p ≠ st ∧ p ≠ q ∧ 0 < xs.length ∧ xs.length ≤ 1000 ∧
  ∀ (v : V) (H' : Hp), v ∈ xs → Spr H' st q (b + 1) → SX st q H H' → Q v H'
theorem scP : FnScope ["_law_stream", "_law_some"] ["_law_stream", "_law_some"] (defScope sPick) := ⟨rfl, rfl, rfl, by decide +kernel, rfl, by decide +kernel, by decide +kernel⟩
theorem at_int {xs : List V} {r : Int} (h0 : 0 ≤ r) (h1 : r < (xs.length : Int)) : ∃ v, v ∈ xs ∧ atI xs r = some v := by
  have hk : r.toNat < xs.length := by omega
  refine ⟨xs[r.toNat], List.getElem_mem hk, ?_⟩
  have q := atI_nat (xs := xs) (j := r.toNat) (v := xs[r.toNat]) (List.getElem?_eq_getElem hk)
  rwa [show ((r.toNat : Nat) : Int) = r by omega] at q
theorem ok_pick (F : Fun K "_law_pick" "_law_pick" sPick f fd) (G : FnOk P w K mg base CX0 1 g gd ["_law_stream", "_law_many"] spDraw) (bG : Binds K gd ["_law_stream", "_law_many"] []) (kG : PySem.W.keepIn K (.ref g) = true) (mG : mg "_law_draw" = some (.ref g)) (B : Bt mg) :
    FnOk P w K mg base CX0 2 f fd ["_law_stream", "_law_some"] (spPick K) := by
  refine F.ok scP (fun vs H Q E h => ?_) (fun cdv A outer s H vs Q E hr h => ?_)
  · obtain ⟨st, q, p, b, xs, rfl, _⟩ := h
    rfl
  obtain ⟨st, q, p, b, xs, rfl, hs, hb0, hb1, hp, n1, n2, hx0, hx1, k⟩ := h
  refine ⟨_, pss_one (ps_ret (pe_ix ix_list (pv 1) (pe_call G hr rfl mG kG bG .nil pass0 (pa_cons (pv 0) (pa_cons (pe_callB call_len_seq (by rfl) B.len PySem.boot_len (pa_cons (pv 1) pa_nil)) pa_nil))) (fun _ _ => rfl))), ?_⟩
  refine ⟨_, rfl, _, rfl, _, rfl, p, xs, rfl, .inl (SqL.of hp), st, q, b, _, rfl, hs, hb0, hb1, by omega, by omega, fun r H' r0 r1 hs' gx => ?_⟩
  obtain ⟨v, hv, ev⟩ := at_int r0 r1
  exact ⟨p, xs, r, v, rfl, rfl, SqL.of (gx _ _ n1 n2 hp), ev, k v H' hv hs' gx⟩
def spThing : Sp := fun vs H Q _ => ∃ (st q : Addr) (b : Int), vs = [.ref st] ∧ Spr H st q b ∧ 0 ≤ b ∧ b ≤ 1000 ∧ ∀ (v : V) (H' : Hp), Al H' 3 v v → Spr H' st q (b + 1) → SX st q H H' → Q v H'
theorem scH : FnScope ["_law_stream"] ["_law_stream"] (defScope sThing) := ⟨rfl, rfl, rfl, by decide +kernel, rfl, by decide +kernel, by decide +kernel⟩
theorem Al.int {H : Hp} {n : Nat} (i : Int) : Al H (n + 1) (.int i) (.int i) := .inl ⟨i, rfl, rfl⟩
theorem Al.str {H : Hp} {n : Nat} (z : Str) : Al H (n + 1) (.str z) (.str z) := .inr (.inl ⟨z, rfl, rfl⟩)
theorem Al.tup {H : Hp} {n : Nat} {a : Addr} {xs : List V} (h : H a = some (.tup xs)) (hl : xs.length ≤ 1000) (hx : ∀ x ∈ xs, Al H n x x) : Al H (n + 1) (.ref a) (.ref a) :=
  .inr (.inr ⟨a, a, xs, xs, rfl, rfl, h, h, rfl, hl, fun i x y e1 e2 => by rw [e1] at e2; cases e2; exact hx x (List.mem_of_getElem? e1)⟩)
theorem all_nil {p : V → Prop} : ∀ x ∈ ([] : List V), p x := fun x h => by cases h
theorem all_cons {p : V → Prop} {a : V} {l : List V} (h : p a) (t : ∀ x ∈ l, p x) : ∀ x ∈ a :: l, p x := fun x q => by
  cases q with
  | head => exact h
  | tail _ q => exact t x q
theorem ok_thing (F : Fun K "_law_thing" "_law_thing" sThing f fd) (G : FnOk P w K mg base CX0 2 g gd ["_law_stream", "_law_some"] (spPick K)) (bG : Binds K gd ["_law_stream", "_law_some"] []) (kG : PySem.W.keepIn K (.ref g) = true) (mG : mg "_law_pick" = some (.ref g)) (B : Bt mg) :
    FnOk P w K mg base CX0 3 f fd ["_law_stream"] spThing := by
  refine F.ok scH (fun vs H Q E h => ?_) (fun cdv A outer s H vs Q E hr h => ?_)
  · obtain ⟨st, q, b, rfl, _⟩ := h
    rfl
  obtain ⟨st, q, b, rfl, hs, hb0, hb1, k⟩ := h
  refine ⟨_, pss_one (ps_ret (pe_call G hr rfl mG kG bG .nil pass0 (pa_cons (pv 0) (pa_cons (pe_lst (pa_cons pe_int (pa_cons pe_int (pa_cons (pe_un un_neg (pe_op op_pow pe_int pe_int)) (pa_cons pe_str (pa_cons pe_str (pa_cons (pe_tup pa_nil)
    (pa_cons (pe_tup (pa_cons pe_int (pa_cons pe_int pa_nil))) (pa_cons (pe_tup (pa_cons pe_str (pa_cons (pe_tup (pa_cons pe_int (pa_cons pe_int pa_nil))) pa_nil))) (pa_cons (pe_tup (pa_cons (pe_tup (pa_cons pe_str (pa_cons pe_int (pa_cons pe_str pa_nil)))) pa_nil)) pa_nil)))))))))) pa_nil)))), ?_⟩
  refine ⟨_, rfl, _, _, rfl, rfl, ⟨by decide, by decide, by decide⟩, _, rfl, (by show 0 ≤ sizeLine; decide), fun t1 h1 => ⟨(by show 2 ≤ sizeLine; decide), fun t2 h2 => ⟨(by show 2 ≤ sizeLine; decide), fun t3 h3 => ⟨(by show 2 ≤ sizeLine; decide), fun t4 h4 => ⟨(by show 3 ≤ sizeLine; decide), fun t5 h5 => ⟨(by show 1 ≤ sizeLine; decide), fun t6 h6 => ⟨(by show 9 ≤ sizeLine; decide), fun l hl => ?_⟩⟩⟩⟩⟩⟩⟩
  have g1 := same_new h1 (.tup [])
  have g2 := same_new h2 (.tup [.int 1, .int 2])
  have g3 := same_new h3 (.tup [.int 0, .int 1])
  have g4 := same_new h4 (.tup [.str "a", .ref t3])
  have g5 := same_new h5 (.tup [.str "i", .int 0, .str "k"])
  have g6 := same_new h6 (.tup [.ref t5])
  have s6 := g1.trans (g2.trans (g3.trans (g4.trans (g5.trans g6))))
  have g7 := same_new hl (.lst [.int 0, .int 7, .int (-(10 ^ (19 : Int).toNat)), .str "", .str "ab", .ref t1, .ref t2, .ref t4, .ref t6])
  have s7 := s6.trans g7
  have c1 := (g2.trans (g3.trans (g4.trans (g5.trans (g6.trans g7))))) _ _ upd_same
  have c2 := (g3.trans (g4.trans (g5.trans (g6.trans g7)))) _ _ upd_same
  have c3 := (g4.trans (g5.trans (g6.trans g7))) _ _ upd_same
  have c4 := (g5.trans (g6.trans g7)) _ _ upd_same
  have c5 := (g6.trans g7) _ _ upd_same
  have c6 := g7 _ _ upd_same
  obtain ⟨ns, a, c, z1, z2, zr⟩ := id hs
  have n1 : l ≠ st := (ne_of_none (s6 _ _ z1) hl).symm
  have n2 : l ≠ q := (ne_of_none (s6 _ _ z2) hl).symm
  refine ⟨st, q, l, b, _, rfl, hs.same s7, hb0, hb1, upd_same, n1, n2, (by show 0 < 9; decide), (by show 9 ≤ 1000; decide), fun v H' hv hs2 gx => ?_⟩
  have tk := TK.sx (hs.same s7) gx
  refine k v H' (Al.mono tk ?_) hs2 ((SX.of s7).trans gx)
  refine all_cons (p := fun v => Al _ 3 v v) (Al.int _) (all_cons (Al.int _) (all_cons (Al.int _) (all_cons (Al.str _) (all_cons (Al.str _) (all_cons (Al.tup c1 (by decide) all_nil)
    (all_cons (Al.tup c2 (by decide) (all_cons (Al.int _) (all_cons (Al.int _) all_nil)))
    (all_cons (Al.tup c4 (by show 2 ≤ 1000; decide) (all_cons (Al.str _) (all_cons (Al.tup c3 (by decide) (all_cons (Al.int _) (all_cons (Al.int _) all_nil))) all_nil)))
    (all_cons (Al.tup c6 (by show 1 ≤ 1000; decide) (all_cons (Al.tup c5 (by decide) (all_cons (Al.str _) (all_cons (Al.int _) (all_cons (Al.str _) all_nil)))) all_nil)) all_nil)))))))) v hv
end
end Lw
namespace Lw
open PySem L2
/-! the error classes: an __init__ that keeps its argument, anew -/
def spIni (C : Addr) (fld : Str) : Sp := fun vs H Q _ => ∃ (a : Addr) (v : V), vs = [.ref a, v] ∧ H a = some (exo a C none) ∧ Al H 3 v v ∧
  ∀ (d : Addr) (v' : V) (H' : Hp), (∀ x o, x ≠ a → H x = some o → H' x = some o) → H' a = some (exo a C (some d)) → H' d = some (exd d [(fld, v')]) → Al H' 3 v' v → Q .non H'
theorem ini_end {H H1 : Hp} {a C dx : Addr} {fld : Str} {v v' : V} {Q : VK} (ha : H a = some (exo a C none)) (g : Same H H1) (hv : Al H1 3 v' v) (n1 : H1 dx = none) (n2 : dx ≠ a)
    (q : ∀ (d : Addr) (v' : V) (H' : Hp), (∀ x o, x ≠ a → H x = some o → H' x = some o) → H' a = some (exo a C (some d)) → H' d = some (exd d [(fld, v')]) → Al H' 3 v' v → Q .non H') :
    Q .non (upd (upd H1 dx (exd dx [(fld, v')])) a (exo a C (some dx))) := by
  refine q dx v' _ (fun x o hx e => ?_) upd_same (by rw [upd_ne n2, upd_same]) (Al.mono (fun b xs hb => ?_) hv)
  · rw [upd_ne hx, upd_ne (ne_of_none (g _ _ e) n1)]
    exact g _ _ e
  · rw [upd_ne (fun z => by rw [z, g _ _ ha] at hb; exact exo_tup (Option.some.inj hb)), upd_ne (ne_of_none hb n1)]
    exact hb
/-- what the written part says of such a class: C, its __init__ at fI -/
structure ErC (K : PySem.W.Frag) (C fI : Addr) (fld : Str) : Prop where
  ox : OexC K C
  xf : XfC K C
  iC : PySem.W.findIn K (.ref C) "__init__" = some (some (.ref fI))
  tI : PySem.W.typeIn K (.ref fI) = some (.type "function")
  no : PySem.W.findIn K (.ref C) fld = some none
/-- C(fld = x[j]).fld -/
theorem rd_elem {K : PySem.W.Frag} {C fI : Addr} {fld : Str} (T : ErC K C fI fld) {σ : St} {H : Hp} {Q : VK} {i : Nat} {px : Addr} {xs : List V} {j : Int} {v : V} (hi : σ[i]? = some (some (.ref px))) (hp : H px = some (.lst xs)) (hj : atI xs j = some v) (hv : Al H 3 v v)
    (k : ∀ (v' : V) (H' : Hp), Same H H' → Al H' 3 v' v → Q v' H') :
    tAx K fld (tMkx C (spIni C fld) (fun vs zs => vs ++ zs) E0 (tCons (tOp (rIxL K) (tVar i) (tC (.int j))) tNil)) σ H Q := by
  refine ⟨_, hi, px, xs, j, v, rfl, rfl, SqL.of hp, hj, rfl, fun a ha => ?_⟩
  have g := same_new ha (exo a C none)
  refine ⟨a, v, rfl, upd_same, hv.mono (.of g), fun d v' H' kp ea ed hv' => ⟨rfl, ?_⟩⟩
  refine ⟨a, C, d, _, v', rfl, T.xf, T.no, ea, ed, by simp [List.lookup], k v' H' (fun x o e => ?_) hv'⟩
  have n := ne_of_none e ha
  exact kp x o n (by rw [upd_ne n]; exact e)
section
variable {P : Program} {w : World} {K : PySem.W.Frag} {mg : Str → Option Value} {base : Heap} {f g C : Addr} {fd gd : FuncData}
abbrev sI1 : Stmt := inClass (topS 4) 0
theorem scI1 : FnScope ["self", "at"] ["self", "at"] (defScope sI1) := ⟨rfl, rfl, rfl, by decide +kernel, rfl, by decide +kernel, by decide +kernel⟩
theorem ok_ini1 (F : Fun K "__init__" "OutOfRange.__init__" sI1 f fd) (T : ErC K C f "at") (G : FnOk P w K mg base CX0 3 g gd ["worth"] (spFrozen 3)) (bG : Binds K gd ["worth"] []) (kG : PySem.W.keepIn K (.ref g) = true) (mG : mg "frozen" = some (.ref g)) :
    FnOk P w K mg base CX0 4 f fd ["self", "at"] (spIni C "at") := by
  refine F.ok scI1 (fun vs H Q E h => ?_) (fun cdv A outer s H vs Q E hr h => ?_)
  · obtain ⟨a, v, rfl, _⟩ := h
    rfl
  obtain ⟨a, v, rfl, ha, hv, q⟩ := h
  refine ⟨_, pss_one (ps_ost (pv 0) (pe_call G hr rfl mG kG bG .nil pass0 (pa_cons (pv 1) pa_nil))), ?_⟩
  exact ⟨_, rfl, v, rfl, hv, fun v' H1 gs hv' => ⟨_, rfl, a, C, rfl, T.ox, T.no, .inl ⟨gs _ _ ha, fun dx n1 n2 => ini_end ha gs hv' n1 n2 q⟩⟩⟩
theorem kb_ini1 (F : Fun K "__init__" "OutOfRange.__init__" sI1 f fd) : KBn K fd ["self", "at"] 1 ["at"] (fun us ws => us ++ ws) (fun vs zs => vs ++ zs) := by
  obtain ⟨oc, od, kV, doc, pm, an, cdv, ct, osl, rfl, lk, hcd⟩ := F.ex
  refine ⟨fun s us ws X l1 l2 => ?_, fun r1 r2 => r1.append r2⟩
  match us, l1, ws, l2 with
  | [u], _, [x], _ => exact .of_eq rfl
abbrev sI2 : Stmt := inClass (topS 5) 0
theorem scI2 : FnScope ["self", "at"] ["self", "at"] (defScope sI2) := ⟨rfl, rfl, rfl, by decide +kernel, rfl, by decide +kernel, by decide +kernel⟩
theorem ok_ini2 (F : Fun K "__init__" "TooLarge.__init__" sI2 f fd) (T : ErC K C f "at") (G : FnOk P w K mg base CX0 3 g gd ["worth"] (spFrozen 3)) (bG : Binds K gd ["worth"] []) (kG : PySem.W.keepIn K (.ref g) = true) (mG : mg "frozen" = some (.ref g)) :
    FnOk P w K mg base CX0 4 f fd ["self", "at"] (spIni C "at") := by
  refine F.ok scI2 (fun vs H Q E h => ?_) (fun cdv A outer s H vs Q E hr h => ?_)
  · obtain ⟨a, v, rfl, _⟩ := h
    rfl
  obtain ⟨a, v, rfl, ha, hv, q⟩ := h
  refine ⟨_, pss_one (ps_ost (pv 0) (pe_call G hr rfl mG kG bG .nil pass0 (pa_cons (pv 1) pa_nil))), ?_⟩
  exact ⟨_, rfl, v, rfl, hv, fun v' H1 gs hv' => ⟨_, rfl, a, C, rfl, T.ox, T.no, .inl ⟨gs _ _ ha, fun dx n1 n2 => ini_end ha gs hv' n1 n2 q⟩⟩⟩
theorem kb_ini2 (F : Fun K "__init__" "TooLarge.__init__" sI2 f fd) : KBn K fd ["self", "at"] 1 ["at"] (fun us ws => us ++ ws) (fun vs zs => vs ++ zs) := by
  obtain ⟨oc, od, kV, doc, pm, an, cdv, ct, osl, rfl, lk, hcd⟩ := F.ex
  refine ⟨fun s us ws X l1 l2 => ?_, fun r1 r2 => r1.append r2⟩
  match us, l1, ws, l2 with
  | [u], _, [x], _ => exact .of_eq rfl
abbrev sI3 : Stmt := inClass (topS 6) 0
theorem scI3 : FnScope ["self", "level"] ["self", "level"] (defScope sI3) := ⟨rfl, rfl, rfl, by decide +kernel, rfl, by decide +kernel, by decide +kernel⟩
theorem ok_ini3 (F : Fun K "__init__" "NoWalk.__init__" sI3 f fd) (T : ErC K C f "level") (G : FnOk P w K mg base CX0 3 g gd ["worth"] (spFrozen 3)) (bG : Binds K gd ["worth"] []) (kG : PySem.W.keepIn K (.ref g) = true) (mG : mg "frozen" = some (.ref g)) :
    FnOk P w K mg base CX0 4 f fd ["self", "level"] (spIni C "level") := by
  refine F.ok scI3 (fun vs H Q E h => ?_) (fun cdv A outer s H vs Q E hr h => ?_)
  · obtain ⟨a, v, rfl, _⟩ := h
    rfl
  obtain ⟨a, v, rfl, ha, hv, q⟩ := h
  refine ⟨_, pss_one (ps_ost (pv 0) (pe_call G hr rfl mG kG bG .nil pass0 (pa_cons (pv 1) pa_nil))), ?_⟩
  exact ⟨_, rfl, v, rfl, hv, fun v' H1 gs hv' => ⟨_, rfl, a, C, rfl, T.ox, T.no, .inl ⟨gs _ _ ha, fun dx n1 n2 => ini_end ha gs hv' n1 n2 q⟩⟩⟩
theorem kb_ini3 (F : Fun K "__init__" "NoWalk.__init__" sI3 f fd) : KBn K fd ["self", "level"] 1 ["level"] (fun us ws => us ++ ws) (fun vs zs => vs ++ zs) := by
  obtain ⟨oc, od, kV, doc, pm, an, cdv, ct, osl, rfl, lk, hcd⟩ := F.ex
  refine ⟨fun s us ws X l1 l2 => ?_, fun r1 r2 => r1.append r2⟩
  match us, l1, ws, l2 with
  | [u], _, [x], _ => exact .of_eq rfl
abbrev sI4 : Stmt := inClass (topS 7) 0
theorem scI4 : FnScope ["self", "level"] ["self", "level"] (defScope sI4) := ⟨rfl, rfl, rfl, by decide +kernel, rfl, by decide +kernel, by decide +kernel⟩
theorem ok_ini4 (F : Fun K "__init__" "NoLocate.__init__" sI4 f fd) (T : ErC K C f "level") (G : FnOk P w K mg base CX0 3 g gd ["worth"] (spFrozen 3)) (bG : Binds K gd ["worth"] []) (kG : PySem.W.keepIn K (.ref g) = true) (mG : mg "frozen" = some (.ref g)) :
    FnOk P w K mg base CX0 4 f fd ["self", "level"] (spIni C "level") := by
  refine F.ok scI4 (fun vs H Q E h => ?_) (fun cdv A outer s H vs Q E hr h => ?_)
  · obtain ⟨a, v, rfl, _⟩ := h
    rfl
  obtain ⟨a, v, rfl, ha, hv, q⟩ := h
  refine ⟨_, pss_one (ps_ost (pv 0) (pe_call G hr rfl mG kG bG .nil pass0 (pa_cons (pv 1) pa_nil))), ?_⟩
  exact ⟨_, rfl, v, rfl, hv, fun v' H1 gs hv' => ⟨_, rfl, a, C, rfl, T.ox, T.no, .inl ⟨gs _ _ ha, fun dx n1 n2 => ini_end ha gs hv' n1 n2 q⟩⟩⟩
theorem kb_ini4 (F : Fun K "__init__" "NoLocate.__init__" sI4 f fd) : KBn K fd ["self", "level"] 1 ["level"] (fun us ws => us ++ ws) (fun vs zs => vs ++ zs) := by
  obtain ⟨oc, od, kV, doc, pm, an, cdv, ct, osl, rfl, lk, hcd⟩ := F.ex
  refine ⟨fun s us ws X l1 l2 => ?_, fun r1 r2 => r1.append r2⟩
  match us, l1, ws, l2 with
  | [u], _, [x], _ => exact .of_eq rfl
abbrev sI5 : Stmt := inClass (topS 8) 0
theorem scI5 : FnScope ["self", "line"] ["self", "line"] (defScope sI5) := ⟨rfl, rfl, rfl, by decide +kernel, rfl, by decide +kernel, by decide +kernel⟩
theorem ok_ini5 (F : Fun K "__init__" "BadText.__init__" sI5 f fd) (T : ErC K C f "line") (G : FnOk P w K mg base CX0 3 g gd ["worth"] (spFrozen 3)) (bG : Binds K gd ["worth"] []) (kG : PySem.W.keepIn K (.ref g) = true) (mG : mg "frozen" = some (.ref g)) :
    FnOk P w K mg base CX0 4 f fd ["self", "line"] (spIni C "line") := by
  refine F.ok scI5 (fun vs H Q E h => ?_) (fun cdv A outer s H vs Q E hr h => ?_)
  · obtain ⟨a, v, rfl, _⟩ := h
    rfl
  obtain ⟨a, v, rfl, ha, hv, q⟩ := h
  refine ⟨_, pss_one (ps_ost (pv 0) (pe_call G hr rfl mG kG bG .nil pass0 (pa_cons (pv 1) pa_nil))), ?_⟩
  exact ⟨_, rfl, v, rfl, hv, fun v' H1 gs hv' => ⟨_, rfl, a, C, rfl, T.ox, T.no, .inl ⟨gs _ _ ha, fun dx n1 n2 => ini_end ha gs hv' n1 n2 q⟩⟩⟩
theorem kb_ini5 (F : Fun K "__init__" "BadText.__init__" sI5 f fd) : KBn K fd ["self", "line"] 1 ["line"] (fun us ws => us ++ ws) (fun vs zs => vs ++ zs) := by
  obtain ⟨oc, od, kV, doc, pm, an, cdv, ct, osl, rfl, lk, hcd⟩ := F.ex
  refine ⟨fun s us ws X l1 l2 => ?_, fun r1 r2 => r1.append r2⟩
  match us, l1, ws, l2 with
  | [u], _, [x], _ => exact .of_eq rfl
abbrev sI6 : Stmt := inClass (topS 9) 0
theorem scI6 : FnScope ["self", "at"] ["self", "at"] (defScope sI6) := ⟨rfl, rfl, rfl, by decide +kernel, rfl, by decide +kernel, by decide +kernel⟩
theorem ok_ini6 (F : Fun K "__init__" "BadExpression.__init__" sI6 f fd) (T : ErC K C f "at") (G : FnOk P w K mg base CX0 3 g gd ["worth"] (spFrozen 3)) (bG : Binds K gd ["worth"] []) (kG : PySem.W.keepIn K (.ref g) = true) (mG : mg "frozen" = some (.ref g)) :
    FnOk P w K mg base CX0 4 f fd ["self", "at"] (spIni C "at") := by
  refine F.ok scI6 (fun vs H Q E h => ?_) (fun cdv A outer s H vs Q E hr h => ?_)
  · obtain ⟨a, v, rfl, _⟩ := h
    rfl
  obtain ⟨a, v, rfl, ha, hv, q⟩ := h
  refine ⟨_, pss_one (ps_ost (pv 0) (pe_call G hr rfl mG kG bG .nil pass0 (pa_cons (pv 1) pa_nil))), ?_⟩
  exact ⟨_, rfl, v, rfl, hv, fun v' H1 gs hv' => ⟨_, rfl, a, C, rfl, T.ox, T.no, .inl ⟨gs _ _ ha, fun dx n1 n2 => ini_end ha gs hv' n1 n2 q⟩⟩⟩
theorem kb_ini6 (F : Fun K "__init__" "BadExpression.__init__" sI6 f fd) : KBn K fd ["self", "at"] 1 ["at"] (fun us ws => us ++ ws) (fun vs zs => vs ++ zs) := by
  obtain ⟨oc, od, kV, doc, pm, an, cdv, ct, osl, rfl, lk, hcd⟩ := F.ex
  refine ⟨fun s us ws X l1 l2 => ?_, fun r1 r2 => r1.append r2⟩
  match us, l1, ws, l2 with
  | [u], _, [x], _ => exact .of_eq rfl
abbrev sI7 : Stmt := inClass (topS 10) 0
theorem scI7 : FnScope ["self", "n"] ["self", "n"] (defScope sI7) := ⟨rfl, rfl, rfl, by decide +kernel, rfl, by decide +kernel, by decide +kernel⟩
theorem ok_ini7 (F : Fun K "__init__" "BadNumber.__init__" sI7 f fd) (T : ErC K C f "n") (G : FnOk P w K mg base CX0 3 g gd ["worth"] (spFrozen 3)) (bG : Binds K gd ["worth"] []) (kG : PySem.W.keepIn K (.ref g) = true) (mG : mg "frozen" = some (.ref g)) :
    FnOk P w K mg base CX0 4 f fd ["self", "n"] (spIni C "n") := by
  refine F.ok scI7 (fun vs H Q E h => ?_) (fun cdv A outer s H vs Q E hr h => ?_)
  · obtain ⟨a, v, rfl, _⟩ := h
    rfl
  obtain ⟨a, v, rfl, ha, hv, q⟩ := h
  refine ⟨_, pss_one (ps_ost (pv 0) (pe_call G hr rfl mG kG bG .nil pass0 (pa_cons (pv 1) pa_nil))), ?_⟩
  exact ⟨_, rfl, v, rfl, hv, fun v' H1 gs hv' => ⟨_, rfl, a, C, rfl, T.ox, T.no, .inl ⟨gs _ _ ha, fun dx n1 n2 => ini_end ha gs hv' n1 n2 q⟩⟩⟩
theorem kb_ini7 (F : Fun K "__init__" "BadNumber.__init__" sI7 f fd) : KBn K fd ["self", "n"] 1 ["n"] (fun us ws => us ++ ws) (fun vs zs => vs ++ zs) := by
  obtain ⟨oc, od, kV, doc, pm, an, cdv, ct, osl, rfl, lk, hcd⟩ := F.ex
  refine ⟨fun s us ws X l1 l2 => ?_, fun r1 r2 => r1.append r2⟩
  match us, l1, ws, l2 with
  | [u], _, [x], _ => exact .of_eq rfl
abbrev sI8 : Stmt := inClass (topS 11) 0
theorem scI8 : FnScope ["self", "letter"] ["self", "letter"] (defScope sI8) := ⟨rfl, rfl, rfl, by decide +kernel, rfl, by decide +kernel, by decide +kernel⟩
theorem ok_ini8 (F : Fun K "__init__" "RepeatedLetter.__init__" sI8 f fd) (T : ErC K C f "letter") (G : FnOk P w K mg base CX0 3 g gd ["worth"] (spFrozen 3)) (bG : Binds K gd ["worth"] []) (kG : PySem.W.keepIn K (.ref g) = true) (mG : mg "frozen" = some (.ref g)) :
    FnOk P w K mg base CX0 4 f fd ["self", "letter"] (spIni C "letter") := by
  refine F.ok scI8 (fun vs H Q E h => ?_) (fun cdv A outer s H vs Q E hr h => ?_)
  · obtain ⟨a, v, rfl, _⟩ := h
    rfl
  obtain ⟨a, v, rfl, ha, hv, q⟩ := h
  refine ⟨_, pss_one (ps_ost (pv 0) (pe_call G hr rfl mG kG bG .nil pass0 (pa_cons (pv 1) pa_nil))), ?_⟩
  exact ⟨_, rfl, v, rfl, hv, fun v' H1 gs hv' => ⟨_, rfl, a, C, rfl, T.ox, T.no, .inl ⟨gs _ _ ha, fun dx n1 n2 => ini_end ha gs hv' n1 n2 q⟩⟩⟩
theorem kb_ini8 (F : Fun K "__init__" "RepeatedLetter.__init__" sI8 f fd) : KBn K fd ["self", "letter"] 1 ["letter"] (fun us ws => us ++ ws) (fun vs zs => vs ++ zs) := by
  obtain ⟨oc, od, kV, doc, pm, an, cdv, ct, osl, rfl, lk, hcd⟩ := F.ex
  refine ⟨fun s us ws X l1 l2 => ?_, fun r1 r2 => r1.append r2⟩
  match us, l1, ws, l2 with
  | [u], _, [x], _ => exact .of_eq rfl
abbrev sI9 : Stmt := inClass (topS 12) 0
theorem scI9 : FnScope ["self", "name"] ["self", "name"] (defScope sI9) := ⟨rfl, rfl, rfl, by decide +kernel, rfl, by decide +kernel, by decide +kernel⟩
theorem ok_ini9 (F : Fun K "__init__" "NoTable.__init__" sI9 f fd) (T : ErC K C f "name") (G : FnOk P w K mg base CX0 3 g gd ["worth"] (spFrozen 3)) (bG : Binds K gd ["worth"] []) (kG : PySem.W.keepIn K (.ref g) = true) (mG : mg "frozen" = some (.ref g)) :
    FnOk P w K mg base CX0 4 f fd ["self", "name"] (spIni C "name") := by
  refine F.ok scI9 (fun vs H Q E h => ?_) (fun cdv A outer s H vs Q E hr h => ?_)
  · obtain ⟨a, v, rfl, _⟩ := h
    rfl
  obtain ⟨a, v, rfl, ha, hv, q⟩ := h
  refine ⟨_, pss_one (ps_ost (pv 0) (pe_call G hr rfl mG kG bG .nil pass0 (pa_cons (pv 1) pa_nil))), ?_⟩
  exact ⟨_, rfl, v, rfl, hv, fun v' H1 gs hv' => ⟨_, rfl, a, C, rfl, T.ox, T.no, .inl ⟨gs _ _ ha, fun dx n1 n2 => ini_end ha gs hv' n1 n2 q⟩⟩⟩
theorem kb_ini9 (F : Fun K "__init__" "NoTable.__init__" sI9 f fd) : KBn K fd ["self", "name"] 1 ["name"] (fun us ws => us ++ ws) (fun vs zs => vs ++ zs) := by
  obtain ⟨oc, od, kV, doc, pm, an, cdv, ct, osl, rfl, lk, hcd⟩ := F.ex
  refine ⟨fun s us ws X l1 l2 => ?_, fun r1 r2 => r1.append r2⟩
  match us, l1, ws, l2 with
  | [u], _, [x], _ => exact .of_eq rfl
abbrev sI10 : Stmt := inClass (topS 13) 0
theorem scI10 : FnScope ["self", "name"] ["self", "name"] (defScope sI10) := ⟨rfl, rfl, rfl, by decide +kernel, rfl, by decide +kernel, by decide +kernel⟩
theorem ok_ini10 (F : Fun K "__init__" "TableExists.__init__" sI10 f fd) (T : ErC K C f "name") (G : FnOk P w K mg base CX0 3 g gd ["worth"] (spFrozen 3)) (bG : Binds K gd ["worth"] []) (kG : PySem.W.keepIn K (.ref g) = true) (mG : mg "frozen" = some (.ref g)) :
    FnOk P w K mg base CX0 4 f fd ["self", "name"] (spIni C "name") := by
  refine F.ok scI10 (fun vs H Q E h => ?_) (fun cdv A outer s H vs Q E hr h => ?_)
  · obtain ⟨a, v, rfl, _⟩ := h
    rfl
  obtain ⟨a, v, rfl, ha, hv, q⟩ := h
  refine ⟨_, pss_one (ps_ost (pv 0) (pe_call G hr rfl mG kG bG .nil pass0 (pa_cons (pv 1) pa_nil))), ?_⟩
  exact ⟨_, rfl, v, rfl, hv, fun v' H1 gs hv' => ⟨_, rfl, a, C, rfl, T.ox, T.no, .inl ⟨gs _ _ ha, fun dx n1 n2 => ini_end ha gs hv' n1 n2 q⟩⟩⟩
theorem kb_ini10 (F : Fun K "__init__" "TableExists.__init__" sI10 f fd) : KBn K fd ["self", "name"] 1 ["name"] (fun us ws => us ++ ws) (fun vs zs => vs ++ zs) := by
  obtain ⟨oc, od, kV, doc, pm, an, cdv, ct, osl, rfl, lk, hcd⟩ := F.ex
  refine ⟨fun s us ws X l1 l2 => ?_, fun r1 r2 => r1.append r2⟩
  match us, l1, ws, l2 with
  | [u], _, [x], _ => exact .of_eq rfl
abbrev sI11 : Stmt := inClass (topS 14) 0
theorem scI11 : FnScope ["self", "name"] ["self", "name"] (defScope sI11) := ⟨rfl, rfl, rfl, by decide +kernel, rfl, by decide +kernel, by decide +kernel⟩
theorem ok_ini11 (F : Fun K "__init__" "RankClash.__init__" sI11 f fd) (T : ErC K C f "name") (G : FnOk P w K mg base CX0 3 g gd ["worth"] (spFrozen 3)) (bG : Binds K gd ["worth"] []) (kG : PySem.W.keepIn K (.ref g) = true) (mG : mg "frozen" = some (.ref g)) :
    FnOk P w K mg base CX0 4 f fd ["self", "name"] (spIni C "name") := by
  refine F.ok scI11 (fun vs H Q E h => ?_) (fun cdv A outer s H vs Q E hr h => ?_)
  · obtain ⟨a, v, rfl, _⟩ := h
    rfl
  obtain ⟨a, v, rfl, ha, hv, q⟩ := h
  refine ⟨_, pss_one (ps_ost (pv 0) (pe_call G hr rfl mG kG bG .nil pass0 (pa_cons (pv 1) pa_nil))), ?_⟩
  exact ⟨_, rfl, v, rfl, hv, fun v' H1 gs hv' => ⟨_, rfl, a, C, rfl, T.ox, T.no, .inl ⟨gs _ _ ha, fun dx n1 n2 => ini_end ha gs hv' n1 n2 q⟩⟩⟩
theorem kb_ini11 (F : Fun K "__init__" "RankClash.__init__" sI11 f fd) : KBn K fd ["self", "name"] 1 ["name"] (fun us ws => us ++ ws) (fun vs zs => vs ++ zs) := by
  obtain ⟨oc, od, kV, doc, pm, an, cdv, ct, osl, rfl, lk, hcd⟩ := F.ex
  refine ⟨fun s us ws X l1 l2 => ?_, fun r1 r2 => r1.append r2⟩
  match us, l1, ws, l2 with
  | [u], _, [x], _ => exact .of_eq rfl
abbrev sI12 : Stmt := inClass (topS 15) 0
theorem scI12 : FnScope ["self", "letter"] ["self", "letter"] (defScope sI12) := ⟨rfl, rfl, rfl, by decide +kernel, rfl, by decide +kernel, by decide +kernel⟩
theorem ok_ini12 (F : Fun K "__init__" "SizeClash.__init__" sI12 f fd) (T : ErC K C f "letter") (G : FnOk P w K mg base CX0 3 g gd ["worth"] (spFrozen 3)) (bG : Binds K gd ["worth"] []) (kG : PySem.W.keepIn K (.ref g) = true) (mG : mg "frozen" = some (.ref g)) :
    FnOk P w K mg base CX0 4 f fd ["self", "letter"] (spIni C "letter") := by
  refine F.ok scI12 (fun vs H Q E h => ?_) (fun cdv A outer s H vs Q E hr h => ?_)
  · obtain ⟨a, v, rfl, _⟩ := h
    rfl
  obtain ⟨a, v, rfl, ha, hv, q⟩ := h
  refine ⟨_, pss_one (ps_ost (pv 0) (pe_call G hr rfl mG kG bG .nil pass0 (pa_cons (pv 1) pa_nil))), ?_⟩
  exact ⟨_, rfl, v, rfl, hv, fun v' H1 gs hv' => ⟨_, rfl, a, C, rfl, T.ox, T.no, .inl ⟨gs _ _ ha, fun dx n1 n2 => ini_end ha gs hv' n1 n2 q⟩⟩⟩
theorem kb_ini12 (F : Fun K "__init__" "SizeClash.__init__" sI12 f fd) : KBn K fd ["self", "letter"] 1 ["letter"] (fun us ws => us ++ ws) (fun vs zs => vs ++ zs) := by
  obtain ⟨oc, od, kV, doc, pm, an, cdv, ct, osl, rfl, lk, hcd⟩ := F.ex
  refine ⟨fun s us ws X l1 l2 => ?_, fun r1 r2 => r1.append r2⟩
  match us, l1, ws, l2 with
  | [u], _, [x], _ => exact .of_eq rfl
abbrev sI13 : Stmt := inClass (topS 16) 0
theorem scI13 : FnScope ["self", "place"] ["self", "place"] (defScope sI13) := ⟨rfl, rfl, rfl, by decide +kernel, rfl, by decide +kernel, by decide +kernel⟩
theorem ok_ini13 (F : Fun K "__init__" "Illegal.__init__" sI13 f fd) (T : ErC K C f "place") (G : FnOk P w K mg base CX0 3 g gd ["worth"] (spFrozen 3)) (bG : Binds K gd ["worth"] []) (kG : PySem.W.keepIn K (.ref g) = true) (mG : mg "frozen" = some (.ref g)) :
    FnOk P w K mg base CX0 4 f fd ["self", "place"] (spIni C "place") := by
  refine F.ok scI13 (fun vs H Q E h => ?_) (fun cdv A outer s H vs Q E hr h => ?_)
  · obtain ⟨a, v, rfl, _⟩ := h
    rfl
  obtain ⟨a, v, rfl, ha, hv, q⟩ := h
  refine ⟨_, pss_one (ps_ost (pv 0) (pe_call G hr rfl mG kG bG .nil pass0 (pa_cons (pv 1) pa_nil))), ?_⟩
  exact ⟨_, rfl, v, rfl, hv, fun v' H1 gs hv' => ⟨_, rfl, a, C, rfl, T.ox, T.no, .inl ⟨gs _ _ ha, fun dx n1 n2 => ini_end ha gs hv' n1 n2 q⟩⟩⟩
theorem kb_ini13 (F : Fun K "__init__" "Illegal.__init__" sI13 f fd) : KBn K fd ["self", "place"] 1 ["place"] (fun us ws => us ++ ws) (fun vs zs => vs ++ zs) := by
  obtain ⟨oc, od, kV, doc, pm, an, cdv, ct, osl, rfl, lk, hcd⟩ := F.ex
  refine ⟨fun s us ws X l1 l2 => ?_, fun r1 r2 => r1.append r2⟩
  match us, l1, ws, l2 with
  | [u], _, [x], _ => exact .of_eq rfl
abbrev sI14 : Stmt := inClass (topS 17) 0
theorem scI14 : FnScope ["self", "steps"] ["self", "steps"] (defScope sI14) := ⟨rfl, rfl, rfl, by decide +kernel, rfl, by decide +kernel, by decide +kernel⟩
theorem ok_ini14 (F : Fun K "__init__" "Ring.__init__" sI14 f fd) (T : ErC K C f "steps") (G : FnOk P w K mg base CX0 3 g gd ["worth"] (spFrozen 3)) (bG : Binds K gd ["worth"] []) (kG : PySem.W.keepIn K (.ref g) = true) (mG : mg "frozen" = some (.ref g)) :
    FnOk P w K mg base CX0 4 f fd ["self", "steps"] (spIni C "steps") := by
  refine F.ok scI14 (fun vs H Q E h => ?_) (fun cdv A outer s H vs Q E hr h => ?_)
  · obtain ⟨a, v, rfl, _⟩ := h
    rfl
  obtain ⟨a, v, rfl, ha, hv, q⟩ := h
  refine ⟨_, pss_one (ps_ost (pv 0) (pe_call G hr rfl mG kG bG .nil pass0 (pa_cons (pv 1) pa_nil))), ?_⟩
  exact ⟨_, rfl, v, rfl, hv, fun v' H1 gs hv' => ⟨_, rfl, a, C, rfl, T.ox, T.no, .inl ⟨gs _ _ ha, fun dx n1 n2 => ini_end ha gs hv' n1 n2 q⟩⟩⟩
theorem kb_ini14 (F : Fun K "__init__" "Ring.__init__" sI14 f fd) : KBn K fd ["self", "steps"] 1 ["steps"] (fun us ws => us ++ ws) (fun vs zs => vs ++ zs) := by
  obtain ⟨oc, od, kV, doc, pm, an, cdv, ct, osl, rfl, lk, hcd⟩ := F.ex
  refine ⟨fun s us ws X l1 l2 => ?_, fun r1 r2 => r1.append r2⟩
  match us, l1, ws, l2 with
  | [u], _, [x], _ => exact .of_eq rfl
abbrev sI15 : Stmt := inClass (topS 18) 0
theorem scI15 : FnScope ["self", "verdict"] ["self", "verdict"] (defScope sI15) := ⟨rfl, rfl, rfl, by decide +kernel, rfl, by decide +kernel, by decide +kernel⟩
theorem ok_ini15 (F : Fun K "__init__" "Parted.__init__" sI15 f fd) (T : ErC K C f "verdict") (G : FnOk P w K mg base CX0 3 g gd ["worth"] (spFrozen 3)) (bG : Binds K gd ["worth"] []) (kG : PySem.W.keepIn K (.ref g) = true) (mG : mg "frozen" = some (.ref g)) :
    FnOk P w K mg base CX0 4 f fd ["self", "verdict"] (spIni C "verdict") := by
  refine F.ok scI15 (fun vs H Q E h => ?_) (fun cdv A outer s H vs Q E hr h => ?_)
  · obtain ⟨a, v, rfl, _⟩ := h
    rfl
  obtain ⟨a, v, rfl, ha, hv, q⟩ := h
  refine ⟨_, pss_one (ps_ost (pv 0) (pe_call G hr rfl mG kG bG .nil pass0 (pa_cons (pv 1) pa_nil))), ?_⟩
  exact ⟨_, rfl, v, rfl, hv, fun v' H1 gs hv' => ⟨_, rfl, a, C, rfl, T.ox, T.no, .inl ⟨gs _ _ ha, fun dx n1 n2 => ini_end ha gs hv' n1 n2 q⟩⟩⟩
theorem kb_ini15 (F : Fun K "__init__" "Parted.__init__" sI15 f fd) : KBn K fd ["self", "verdict"] 1 ["verdict"] (fun us ws => us ++ ws) (fun vs zs => vs ++ zs) := by
  obtain ⟨oc, od, kV, doc, pm, an, cdv, ct, osl, rfl, lk, hcd⟩ := F.ex
  refine ⟨fun s us ws X l1 l2 => ?_, fun r1 r2 => r1.append r2⟩
  match us, l1, ws, l2 with
  | [u], _, [x], _ => exact .of_eq rfl
abbrev sI16 : Stmt := inClass (topS 19) 0
theorem scI16 : FnScope ["self", "verdict"] ["self", "verdict"] (defScope sI16) := ⟨rfl, rfl, rfl, by decide +kernel, rfl, by decide +kernel, by decide +kernel⟩
theorem ok_ini16 (F : Fun K "__init__" "NoBetter.__init__" sI16 f fd) (T : ErC K C f "verdict") (G : FnOk P w K mg base CX0 3 g gd ["worth"] (spFrozen 3)) (bG : Binds K gd ["worth"] []) (kG : PySem.W.keepIn K (.ref g) = true) (mG : mg "frozen" = some (.ref g)) :
    FnOk P w K mg base CX0 4 f fd ["self", "verdict"] (spIni C "verdict") := by
  refine F.ok scI16 (fun vs H Q E h => ?_) (fun cdv A outer s H vs Q E hr h => ?_)
  · obtain ⟨a, v, rfl, _⟩ := h
    rfl
  obtain ⟨a, v, rfl, ha, hv, q⟩ := h
  refine ⟨_, pss_one (ps_ost (pv 0) (pe_call G hr rfl mG kG bG .nil pass0 (pa_cons (pv 1) pa_nil))), ?_⟩
  exact ⟨_, rfl, v, rfl, hv, fun v' H1 gs hv' => ⟨_, rfl, a, C, rfl, T.ox, T.no, .inl ⟨gs _ _ ha, fun dx n1 n2 => ini_end ha gs hv' n1 n2 q⟩⟩⟩
theorem kb_ini16 (F : Fun K "__init__" "NoBetter.__init__" sI16 f fd) : KBn K fd ["self", "verdict"] 1 ["verdict"] (fun us ws => us ++ ws) (fun vs zs => vs ++ zs) := by
  obtain ⟨oc, od, kV, doc, pm, an, cdv, ct, osl, rfl, lk, hcd⟩ := F.ex
  refine ⟨fun s us ws X l1 l2 => ?_, fun r1 r2 => r1.append r2⟩
  match us, l1, ws, l2 with
  | [u], _, [x], _ => exact .of_eq rfl
abbrev sI17 : Stmt := inClass (topS 20) 0
theorem scI17 : FnScope ["self", "name"] ["self", "name"] (defScope sI17) := ⟨rfl, rfl, rfl, by decide +kernel, rfl, by decide +kernel, by decide +kernel⟩
theorem ok_ini17 (F : Fun K "__init__" "KeptTable.__init__" sI17 f fd) (T : ErC K C f "name") (G : FnOk P w K mg base CX0 3 g gd ["worth"] (spFrozen 3)) (bG : Binds K gd ["worth"] []) (kG : PySem.W.keepIn K (.ref g) = true) (mG : mg "frozen" = some (.ref g)) :
    FnOk P w K mg base CX0 4 f fd ["self", "name"] (spIni C "name") := by
  refine F.ok scI17 (fun vs H Q E h => ?_) (fun cdv A outer s H vs Q E hr h => ?_)
  · obtain ⟨a, v, rfl, _⟩ := h
    rfl
  obtain ⟨a, v, rfl, ha, hv, q⟩ := h
  refine ⟨_, pss_one (ps_ost (pv 0) (pe_call G hr rfl mG kG bG .nil pass0 (pa_cons (pv 1) pa_nil))), ?_⟩
  exact ⟨_, rfl, v, rfl, hv, fun v' H1 gs hv' => ⟨_, rfl, a, C, rfl, T.ox, T.no, .inl ⟨gs _ _ ha, fun dx n1 n2 => ini_end ha gs hv' n1 n2 q⟩⟩⟩
theorem kb_ini17 (F : Fun K "__init__" "KeptTable.__init__" sI17 f fd) : KBn K fd ["self", "name"] 1 ["name"] (fun us ws => us ++ ws) (fun vs zs => vs ++ zs) := by
  obtain ⟨oc, od, kV, doc, pm, an, cdv, ct, osl, rfl, lk, hcd⟩ := F.ex
  refine ⟨fun s us ws X l1 l2 => ?_, fun r1 r2 => r1.append r2⟩
  match us, l1, ws, l2 with
  | [u], _, [x], _ => exact .of_eq rfl
abbrev sI18 : Stmt := inClass (topS 21) 0
theorem scI18 : FnScope ["self", "name"] ["self", "name"] (defScope sI18) := ⟨rfl, rfl, rfl, by decide +kernel, rfl, by decide +kernel, by decide +kernel⟩
theorem ok_ini18 (F : Fun K "__init__" "KeepRing.__init__" sI18 f fd) (T : ErC K C f "name") (G : FnOk P w K mg base CX0 3 g gd ["worth"] (spFrozen 3)) (bG : Binds K gd ["worth"] []) (kG : PySem.W.keepIn K (.ref g) = true) (mG : mg "frozen" = some (.ref g)) :
    FnOk P w K mg base CX0 4 f fd ["self", "name"] (spIni C "name") := by
  refine F.ok scI18 (fun vs H Q E h => ?_) (fun cdv A outer s H vs Q E hr h => ?_)
  · obtain ⟨a, v, rfl, _⟩ := h
    rfl
  obtain ⟨a, v, rfl, ha, hv, q⟩ := h
  refine ⟨_, pss_one (ps_ost (pv 0) (pe_call G hr rfl mG kG bG .nil pass0 (pa_cons (pv 1) pa_nil))), ?_⟩
  exact ⟨_, rfl, v, rfl, hv, fun v' H1 gs hv' => ⟨_, rfl, a, C, rfl, T.ox, T.no, .inl ⟨gs _ _ ha, fun dx n1 n2 => ini_end ha gs hv' n1 n2 q⟩⟩⟩
theorem kb_ini18 (F : Fun K "__init__" "KeepRing.__init__" sI18 f fd) : KBn K fd ["self", "name"] 1 ["name"] (fun us ws => us ++ ws) (fun vs zs => vs ++ zs) := by
  obtain ⟨oc, od, kV, doc, pm, an, cdv, ct, osl, rfl, lk, hcd⟩ := F.ex
  refine ⟨fun s us ws X l1 l2 => ?_, fun r1 r2 => r1.append r2⟩
  match us, l1, ws, l2 with
  | [u], _, [x], _ => exact .of_eq rfl
abbrev sI19 : Stmt := inClass (topS 22) 0
theorem scI19 : FnScope ["self", "name"] ["self", "name"] (defScope sI19) := ⟨rfl, rfl, rfl, by decide +kernel, rfl, by decide +kernel, by decide +kernel⟩
theorem ok_ini19 (F : Fun K "__init__" "KeptFailed.__init__" sI19 f fd) (T : ErC K C f "name") (G : FnOk P w K mg base CX0 3 g gd ["worth"] (spFrozen 3)) (bG : Binds K gd ["worth"] []) (kG : PySem.W.keepIn K (.ref g) = true) (mG : mg "frozen" = some (.ref g)) :
    FnOk P w K mg base CX0 4 f fd ["self", "name"] (spIni C "name") := by
  refine F.ok scI19 (fun vs H Q E h => ?_) (fun cdv A outer s H vs Q E hr h => ?_)
  · obtain ⟨a, v, rfl, _⟩ := h
    rfl
  obtain ⟨a, v, rfl, ha, hv, q⟩ := h
  refine ⟨_, pss_one (ps_ost (pv 0) (pe_call G hr rfl mG kG bG .nil pass0 (pa_cons (pv 1) pa_nil))), ?_⟩
  exact ⟨_, rfl, v, rfl, hv, fun v' H1 gs hv' => ⟨_, rfl, a, C, rfl, T.ox, T.no, .inl ⟨gs _ _ ha, fun dx n1 n2 => ini_end ha gs hv' n1 n2 q⟩⟩⟩
theorem kb_ini19 (F : Fun K "__init__" "KeptFailed.__init__" sI19 f fd) : KBn K fd ["self", "name"] 1 ["name"] (fun us ws => us ++ ws) (fun vs zs => vs ++ zs) := by
  obtain ⟨oc, od, kV, doc, pm, an, cdv, ct, osl, rfl, lk, hcd⟩ := F.ex
  refine ⟨fun s us ws X l1 l2 => ?_, fun r1 r2 => r1.append r2⟩
  match us, l1, ws, l2 with
  | [u], _, [x], _ => exact .of_eq rfl
end
end Lw
namespace Lw
open PySem L2
/-- the rows so far, in the list at l; the things in the list at D -/
def Row (st q D : Addr) (b : Int) (xs : List V) (l : Addr) (k : Nat) (G : Hp) : Prop := ∃ vs : List V, G D = some (.lst xs) ∧ Spr G st q b ∧ G l = some (.lst vs) ∧ vs.length = k ∧ (∀ (i : Nat) (v x : V), vs[i]? = some v → xs[i]? = some x → Al G 3 v x) ∧ (∀ x ∈ xs, Al G 3 x x) ∧ l ≠ D ∧ l ≠ st ∧ l ≠ q
theorem at_nat {xs : List V} {j : Nat} (h : j < xs.length) : ∃ x, x ∈ xs ∧ xs[j]? = some x ∧ atI xs (j : Int) = some x :=
  ⟨xs[j], List.getElem_mem h, List.getElem?_eq_getElem h, atI_nat (List.getElem?_eq_getElem h)⟩
abbrev tEl (K : PySem.W.Frag) (C : Addr) (fld : Str) (j : Int) : TE := tAx K fld (tMkx C (spIni C fld) (fun vs zs => vs ++ zs) E0 (tCons (tOp (rIxL K) (tVar 3) (tC (.int j))) tNil))
section
variable {K : PySem.W.Frag} {C1 C2 C3 C4 f1 f2 f3 f4 : Addr} {n1 n2 n3 n4 : Str} {st q D l : Addr} {b : Int} {xs : List V} {k : Nat} {σ : St} {G : Hp}
theorem rd_four (T1 : ErC K C1 f1 n1) (T2 : ErC K C2 f2 n2) (T3 : ErC K C3 f3 n3) (T4 : ErC K C4 f4 n4) {Q : VK} (h3 : σ[3]? = some (some (.ref D))) (hd : G D = some (.lst xs)) (hs : Spr G st q b) (hx : ∀ x ∈ xs, Al G 3 x x) (hk : 4 ≤ xs.length)
    (hq : ∀ (l : Addr) (G' : Hp), Row st q D b xs l 4 G' → Q (.ref l) G') :
    tLst (tCons (tEl K C1 n1 0) (tCons (tEl K C2 n2 1) (tCons (tEl K C3 n3 2) (tCons (tEl K C4 n4 3) tNil)))) σ G Q := by
  obtain ⟨x1, m1, e1, i1⟩ := at_nat (xs := xs) (j := 0) (by omega)
  obtain ⟨x2, m2, e2, i2⟩ := at_nat (xs := xs) (j := 1) (by omega)
  obtain ⟨x3, m3, e3, i3⟩ := at_nat (xs := xs) (j := 2) (by omega)
  obtain ⟨x4, m4, e4, i4⟩ := at_nat (xs := xs) (j := 3) (by omega)
  refine rd_elem T1 h3 hd i1 (hx _ m1) fun v1 G1 s1 a1 => ?_
  refine rd_elem T2 h3 (s1 _ _ hd) i2 ((hx _ m2).mono (.of s1)) fun v2 G2 s2 a2 => ?_
  have t2 := s1.trans s2
  refine rd_elem T3 h3 (t2 _ _ hd) i3 ((hx _ m3).mono (.of t2)) fun v3 G3 s3 a3 => ?_
  have t3 := t2.trans s3
  refine rd_elem T4 h3 (t3 _ _ hd) i4 ((hx _ m4).mono (.of t3)) fun v4 G4 s4 a4 => ?_
  have t4 := t3.trans s4
  refine ⟨(by show 4 ≤ sizeLine; decide), fun p hp => ?_⟩
  have t5 := same_new hp (.lst [v1, v2, v3, v4])
  have t6 := t4.trans t5
  obtain ⟨ns, a, c, z1, z2, _⟩ := id hs
  refine hq p _ ⟨_, t6 _ _ hd, hs.same t6, upd_same, rfl, fun i v x ev ex => ?_, fun x hm => (hx x hm).mono (.of t6), (ne_of_none (t4 _ _ hd) hp).symm, (ne_of_none (t4 _ _ z1) hp).symm, (ne_of_none (t4 _ _ z2) hp).symm⟩
  match i with
  | 0 => cases ev; rw [e1] at ex; cases ex; exact a1.mono (.of (s2.trans (s3.trans (s4.trans t5))))
  | 1 => cases ev; rw [e2] at ex; cases ex; exact a2.mono (.of (s3.trans (s4.trans t5)))
  | 2 => cases ev; rw [e3] at ex; cases ex; exact a3.mono (.of (s4.trans t5))
  | 3 => cases ev; rw [e4] at ex; cases ex; exact a4.mono (.of t5)
  | i + 4 => cases ev
theorem rd_three (T1 : ErC K C1 f1 n1) (T2 : ErC K C2 f2 n2) (T3 : ErC K C3 f3 n3) {Dn : Ends} {j1 j2 j3 : Int} (k : Nat) (y1 : j1 = (k : Int)) (y2 : j2 = ((k + 1 : Nat) : Int)) (y3 : j3 = ((k + 2 : Nat) : Int)) (h3 : σ[3]? = some (some (.ref D))) (h4 : σ[4]? = some (some (.ref l))) (hr : Row st q D b xs l k G) (hk : k + 3 ≤ xs.length) (hk2 : xs.length ≤ 100)
    (hq : ∀ G' : Hp, Row st q D b xs l (k + 3) G' → Dn.nx σ G') :
    tDrop (tBM K "list" rExtend (tVar 4) (tCons (tLst (tCons (tEl K C1 n1 j1) (tCons (tEl K C2 n2 j2) (tCons (tEl K C3 n3 j3) tNil)))) tNil)) Dn σ G := by
  subst y1 y2 y3
  obtain ⟨vs, hd, hs, hl, hlen, hal, hx, nD, nS, nQ⟩ := hr
  obtain ⟨x1, m1, e1, i1⟩ := at_nat (xs := xs) (j := k) (by omega)
  obtain ⟨x2, m2, e2, i2⟩ := at_nat (xs := xs) (j := k + 1) (by omega)
  obtain ⟨x3, m3, e3, i3⟩ := at_nat (xs := xs) (j := k + 2) (by omega)
  refine ⟨_, h4, .inl ⟨rfl, _, SqL.of hl⟩, ?_⟩
  refine rd_elem T1 h3 hd i1 (hx _ m1) fun v1 G1 s1 a1 => ?_
  refine rd_elem T2 h3 (s1 _ _ hd) i2 ((hx _ m2).mono (.of s1)) fun v2 G2 s2 a2 => ?_
  have t2 := s1.trans s2
  refine rd_elem T3 h3 (t2 _ _ hd) i3 ((hx _ m3).mono (.of t2)) fun v3 G3 s3 a3 => ?_
  have t3 := t2.trans s3
  refine ⟨(by show 3 ≤ sizeLine; decide), fun p hp => ?_⟩
  have t5 := same_new hp (.lst [v1, v2, v3])
  have t6 := t3.trans t5
  have hl6 := t6 _ _ hl
  refine ⟨l, p, vs, [v1, v2, v3], rfl, rfl, hl6, upd_same, Nat.le_of_lt (small1000 (by rw [hlen]; show k + 3 ≤ 1000; omega)), ?_⟩
  have tk : TK (upd G3 p (.lst [v1, v2, v3])) (upd (upd G3 p (.lst [v1, v2, v3])) l (.lst (vs ++ [v1, v2, v3]))) := TK.lst hl6
  refine hq _ ⟨vs ++ [v1, v2, v3], by rw [upd_ne nD.symm]; exact t6 _ _ hd, ?_, upd_same, by rw [List.length_append, hlen] <;> rfl, fun i v x ev ex => ?_, fun x hm => ((hx x hm).mono (.of t6)).mono tk, nD, nS, nQ⟩
  · obtain ⟨ns, a, c, z1, z2, zr⟩ := hs.same t6
    exact ⟨ns, a, c, by rw [upd_ne nS.symm]; exact z1, by rw [upd_ne nQ.symm]; exact z2, zr⟩
  · refine Al.mono tk ?_
    by_cases hi : i < vs.length
    · rw [List.getElem?_append_left hi] at ev
      exact (hal i v x ev ex).mono (.of t6)
    · rw [List.getElem?_append_right (by omega), hlen] at ev
      obtain ⟨j, rfl⟩ : ∃ j, i = k + j := ⟨i - k, by omega⟩
      rw [Nat.add_sub_cancel_left] at ev
      match j with
      | 0 => cases ev; rw [Nat.add_zero, e1] at ex; cases ex; exact a1.mono (.of (s2.trans (s3.trans t5)))
      | 1 => cases ev; rw [e2] at ex; cases ex; exact a2.mono (.of (s3.trans t5))
      | 2 => cases ev; rw [e3] at ex; cases ex; exact a3.mono (.of t5)
      | j + 3 => cases ev
end
end Lw
namespace Lw
open PySem L2
abbrev sLaw : Stmt := topS 29
structure Er (P : Program) (w : World) (K : PySem.W.Frag) (mg : Str → Option Value) (base : Heap) (x fld : Str) (C fI : Addr) (fd : FuncData) : Prop where
  T : ErC K C fI fld
  m : mg x = some (.ref C)
  G : FnOk P w K mg base CX0 4 fI fd ["self", fld] (spIni C fld)
  kb : KBn K fd ["self", fld] 1 [fld] (fun us ws => us ++ ws) (fun vs zs => vs ++ zs)
abbrev namesL : List Str := ["_law_script", "_law_stream", "_law_turn", "_law_x", "_law_rows", "_law_k"]
theorem scL : FnScope namesL ["_law_script"] (defScope sLaw) := ⟨rfl, rfl, rfl, by decide +kernel, rfl, by decide +kernel, by decide +kernel⟩
def spLaw (K : PySem.W.Frag) : Sp := fun vs H Q _ => ∃ (a : Addr) (ns : List Int), vs = [.ref a] ∧ SqL K H a (ns.map V.int) ∧ ns.length ≤ 63 ∧ ∀ H', Q (.bl true) H'
/-- between the turns -/
def InvL (a st q : Addr) (i : Nat) (σ : St) (H : Hp) : Prop := ∃ (u2 u3 u4 u5 : Option V) (b : Int), σ = [some (.ref a), some (.ref st), u2, u3, u4, u5] ∧ Spr H st q b ∧ 0 ≤ b ∧ b ≤ 19 * (i : Int)
/-- the things so far -/
def InvX (H0 : Hp) (st q D : Addr) (b : Int) (i : Nat) (H : Hp) : Prop := ∃ acc : List V, H D = some (.lst acc) ∧ acc.length = i ∧ Spr H st q (b + i) ∧ D ≠ st ∧ D ≠ q ∧ ∀ v ∈ acc, Al H 3 v v
section
variable {P : Program} {w : World} {K : PySem.W.Frag} {mg : Str → Option Value} {base : Heap}
variable {fL fB fT fS : Addr} {dL dB dT dS : FuncData}
variable {C1 f1 C2 f2 C3 f3 C4 f4 C5 f5 C6 f6 C7 f7 C8 f8 C9 f9 C10 f10 C11 f11 C12 f12 C13 f13 C14 f14 C15 f15 C16 f16 C17 f17 C18 f18 C19 f19 : Addr} {d1 d2 d3 d4 d5 d6 d7 d8 d9 d10 d11 d12 d13 d14 d15 d16 d17 d18 d19 : FuncData}
theorem ok_law (F : Fun K "law" "law" sLaw fL dL) (B : Bt mg)
    (GB : FnOk P w K mg base CX0 1 fB dB ["_law_script"] (spStart K)) (bB : Binds K dB ["_law_script"] []) (kB : PySem.W.keepIn K (.ref fB) = true) (mB : mg "_law_start" = some (.ref fB))
    (GT : FnOk P w K mg base CX0 3 fT dT ["_law_stream"] spThing) (bT : Binds K dT ["_law_stream"] []) (kT : PySem.W.keepIn K (.ref fT) = true) (mT : mg "_law_thing" = some (.ref fT))
    (GS : FnOk P w K mg base CX0 4 fS dS ["_law_found", "_law_due"] (spSame 4)) (bS : Binds K dS ["_law_found", "_law_due"] []) (kS : PySem.W.keepIn K (.ref fS) = true) (mS : mg "_law_same" = some (.ref fS))
    (E1 : Er P w K mg base "OutOfRange" "at" C1 f1 d1)
    (E2 : Er P w K mg base "TooLarge" "at" C2 f2 d2)
    (E3 : Er P w K mg base "NoWalk" "level" C3 f3 d3)
    (E4 : Er P w K mg base "NoLocate" "level" C4 f4 d4)
    (E5 : Er P w K mg base "BadText" "line" C5 f5 d5)
    (E6 : Er P w K mg base "BadExpression" "at" C6 f6 d6)
    (E7 : Er P w K mg base "BadNumber" "n" C7 f7 d7)
    (E8 : Er P w K mg base "RepeatedLetter" "letter" C8 f8 d8)
    (E9 : Er P w K mg base "NoTable" "name" C9 f9 d9)
    (E10 : Er P w K mg base "TableExists" "name" C10 f10 d10)
    (E11 : Er P w K mg base "RankClash" "name" C11 f11 d11)
    (E12 : Er P w K mg base "SizeClash" "letter" C12 f12 d12)
    (E13 : Er P w K mg base "Illegal" "place" C13 f13 d13)
    (E14 : Er P w K mg base "Ring" "steps" C14 f14 d14)
    (E15 : Er P w K mg base "Parted" "verdict" C15 f15 d15)
    (E16 : Er P w K mg base "NoBetter" "verdict" C16 f16 d16)
    (E17 : Er P w K mg base "KeptTable" "name" C17 f17 d17)
    (E18 : Er P w K mg base "KeepRing" "name" C18 f18 d18)
    (E19 : Er P w K mg base "KeptFailed" "name" C19 f19 d19)
    : FnOk P w K mg base CX0 6 fL dL ["_law_script"] (spLaw K) := by
  refine F.ok scL (fun vs H Q E h => ?_) (fun cdv A outer s H vs Q E hr h => ?_)
  · obtain ⟨a, ns, rfl, _⟩ := h
    rfl
  obtain ⟨a, ns, rfl, hS, hn, k⟩ := h
  refine ⟨_, pss_cons (ps_set (i := 1) scL.nd rfl (Or.inr rfl) (pe_call GB (hr.mono (by decide)) rfl mB kB bB .nil pass0 (pa_cons (pv 0) pa_nil)))
    (pss_cons (ps_for PassesOwn.never rfl (pi_range1 (by rfl) B.range (pa_cons pe_int pa_nil)) (pg_name (i := 2) scL.nd rfl (Or.inl rfl))
    (pss_cons (ps_setLc (i := 3) (own := [("_law_k", 5)]) (g := gName 5) (tt := tYes) rfl scL.nd rfl rfl (sw_true rfl rfl rfl (by decide +kernel)) (pi_range1 (by rfl) B.range (pa_cons pe_int pa_nil)) (blkOk_by (N := namesL) (sc := defScope sLaw) (by decide +kernel)) (fun _ _ _ _ _ => pg_name (i := 5) scL.nd rfl (Or.inl rfl)) (fun _ _ _ _ _ => pts_nil) (fun _ _ _ _ _ => pe_call GT (hr.mono (by decide)) rfl mT kT bT .nil pass0 (pa_cons (pv 1) pa_nil)))
    (pss_cons (ps_set (i := 4) scL.nd rfl (Or.inl rfl) (pe_lst (pa_cons (pe_ax (pe_mkx E1.T.ox E1.T.iC E1.T.tI E1.G hr E1.kb pass0 (by rfl) E1.m (pk_cons (pe_ix ix_list (pv 3) pe_int (fun _ _ => rfl)) pk_nil)))
      (pa_cons (pe_ax (pe_mkx E2.T.ox E2.T.iC E2.T.tI E2.G hr E2.kb pass0 (by rfl) E2.m (pk_cons (pe_ix ix_list (pv 3) pe_int (fun _ _ => rfl)) pk_nil)))
      (pa_cons (pe_ax (pe_mkx E3.T.ox E3.T.iC E3.T.tI E3.G hr E3.kb pass0 (by rfl) E3.m (pk_cons (pe_ix ix_list (pv 3) pe_int (fun _ _ => rfl)) pk_nil)))
      (pa_cons (pe_ax (pe_mkx E4.T.ox E4.T.iC E4.T.tI E4.G hr E4.kb pass0 (by rfl) E4.m (pk_cons (pe_ix ix_list (pv 3) pe_int (fun _ _ => rfl)) pk_nil)))
      pa_nil))))))
    (pss_cons (ps_expr (pe_bm PySem.F.plainAttrs_list PySem.F.slot_list_extend PySem.F.type_list_extend mt_extend (pv 4) (pa_cons (pe_lst (pa_cons (pe_ax (pe_mkx E5.T.ox E5.T.iC E5.T.tI E5.G hr E5.kb pass0 (by rfl) E5.m (pk_cons (pe_ix ix_list (pv 3) pe_int (fun _ _ => rfl)) pk_nil)))
      (pa_cons (pe_ax (pe_mkx E6.T.ox E6.T.iC E6.T.tI E6.G hr E6.kb pass0 (by rfl) E6.m (pk_cons (pe_ix ix_list (pv 3) pe_int (fun _ _ => rfl)) pk_nil)))
      (pa_cons (pe_ax (pe_mkx E7.T.ox E7.T.iC E7.T.tI E7.G hr E7.kb pass0 (by rfl) E7.m (pk_cons (pe_ix ix_list (pv 3) pe_int (fun _ _ => rfl)) pk_nil)))
      pa_nil)))) pa_nil)))
    (pss_cons (ps_expr (pe_bm PySem.F.plainAttrs_list PySem.F.slot_list_extend PySem.F.type_list_extend mt_extend (pv 4) (pa_cons (pe_lst (pa_cons (pe_ax (pe_mkx E8.T.ox E8.T.iC E8.T.tI E8.G hr E8.kb pass0 (by rfl) E8.m (pk_cons (pe_ix ix_list (pv 3) pe_int (fun _ _ => rfl)) pk_nil)))
      (pa_cons (pe_ax (pe_mkx E9.T.ox E9.T.iC E9.T.tI E9.G hr E9.kb pass0 (by rfl) E9.m (pk_cons (pe_ix ix_list (pv 3) pe_int (fun _ _ => rfl)) pk_nil)))
      (pa_cons (pe_ax (pe_mkx E10.T.ox E10.T.iC E10.T.tI E10.G hr E10.kb pass0 (by rfl) E10.m (pk_cons (pe_ix ix_list (pv 3) pe_int (fun _ _ => rfl)) pk_nil)))
      pa_nil)))) pa_nil)))
    (pss_cons (ps_expr (pe_bm PySem.F.plainAttrs_list PySem.F.slot_list_extend PySem.F.type_list_extend mt_extend (pv 4) (pa_cons (pe_lst (pa_cons (pe_ax (pe_mkx E11.T.ox E11.T.iC E11.T.tI E11.G hr E11.kb pass0 (by rfl) E11.m (pk_cons (pe_ix ix_list (pv 3) pe_int (fun _ _ => rfl)) pk_nil)))
      (pa_cons (pe_ax (pe_mkx E12.T.ox E12.T.iC E12.T.tI E12.G hr E12.kb pass0 (by rfl) E12.m (pk_cons (pe_ix ix_list (pv 3) pe_int (fun _ _ => rfl)) pk_nil)))
      (pa_cons (pe_ax (pe_mkx E13.T.ox E13.T.iC E13.T.tI E13.G hr E13.kb pass0 (by rfl) E13.m (pk_cons (pe_ix ix_list (pv 3) pe_int (fun _ _ => rfl)) pk_nil)))
      pa_nil)))) pa_nil)))
    (pss_cons (ps_expr (pe_bm PySem.F.plainAttrs_list PySem.F.slot_list_extend PySem.F.type_list_extend mt_extend (pv 4) (pa_cons (pe_lst (pa_cons (pe_ax (pe_mkx E14.T.ox E14.T.iC E14.T.tI E14.G hr E14.kb pass0 (by rfl) E14.m (pk_cons (pe_ix ix_list (pv 3) pe_int (fun _ _ => rfl)) pk_nil)))
      (pa_cons (pe_ax (pe_mkx E15.T.ox E15.T.iC E15.T.tI E15.G hr E15.kb pass0 (by rfl) E15.m (pk_cons (pe_ix ix_list (pv 3) pe_int (fun _ _ => rfl)) pk_nil)))
      (pa_cons (pe_ax (pe_mkx E16.T.ox E16.T.iC E16.T.tI E16.G hr E16.kb pass0 (by rfl) E16.m (pk_cons (pe_ix ix_list (pv 3) pe_int (fun _ _ => rfl)) pk_nil)))
      pa_nil)))) pa_nil)))
    (pss_cons (ps_expr (pe_bm PySem.F.plainAttrs_list PySem.F.slot_list_extend PySem.F.type_list_extend mt_extend (pv 4) (pa_cons (pe_lst (pa_cons (pe_ax (pe_mkx E17.T.ox E17.T.iC E17.T.tI E17.G hr E17.kb pass0 (by rfl) E17.m (pk_cons (pe_ix ix_list (pv 3) pe_int (fun _ _ => rfl)) pk_nil)))
      (pa_cons (pe_ax (pe_mkx E18.T.ox E18.T.iC E18.T.tI E18.G hr E18.kb pass0 (by rfl) E18.m (pk_cons (pe_ix ix_list (pv 3) pe_int (fun _ _ => rfl)) pk_nil)))
      (pa_cons (pe_ax (pe_mkx E19.T.ox E19.T.iC E19.T.tI E19.G hr E19.kb pass0 (by rfl) E19.m (pk_cons (pe_ix ix_list (pv 3) pe_int (fun _ _ => rfl)) pk_nil)))
      pa_nil)))) pa_nil)))
    (pss_one (ps_if (pt_not (pt_val (pe_call GS (hr.mono (by decide)) rfl mS kS bS .nil pass0 (pa_cons (pv 4) (pa_cons (pv 3) pa_nil))))) (pss_one (ps_ret pe_bl)) pss_nil))))))))))
    (pss_one (ps_ret pe_bl))), ?_⟩
  refine ⟨_, rfl, a, ns, rfl, hS, hn, fun st q H1 g1 hs1 => ?_⟩
  refine ⟨3, rfl, by decide, by decide, for_range (n := 3) (InvL a st q) ⟨none, none, none, none, 0, rfl, hs1, by decide, by decide⟩ ?_ ?_⟩
  · rintro i σ H' hi ⟨u2, u3, u4, u5, b, rfl, hs, hb0, hb1⟩
    have hb2 : b ≤ 38 := by omega
    refine ⟨19, rfl, by decide, by decide, fun D hD => ?_⟩
    obtain ⟨zns, za, zc, z1, z2, _⟩ := id hs
    have n1 : D ≠ st := (ne_of_none z1 hD).symm
    have n2 : D ≠ q := (ne_of_none z2 hD).symm
    refine lc_range (lo := 0) (n := 19) (InvX H' st q D b) ⟨[], upd_same, rfl, ?_, n1, n2, fun v hv => by cases hv⟩ ?_ ?_
    · show Spr _ st q (b + ((0 : Nat) : Int))
      rw [show b + ((0 : Nat) : Int) = b from Int.add_zero b]
      exact hs.same (same_new hD _)
    · rintro j H2 hj ⟨acc, hd, hl, hs2, m1, m2, hal⟩
      refine ⟨rfl, kept ?_⟩
      refine ⟨_, rfl, st, q, b + j, rfl, hs2, by omega, by omega, fun v H3 hv hs3 gx => ?_⟩
      have tk := TK.sx hs2 gx
      have hd3 := gx _ _ m1 m2 hd
      have tk2 : TK H3 (upd H3 D (.lst (acc ++ [v]))) := TK.lst hd3
      refine ⟨acc, hd3, small1000 (by omega), acc ++ [v], upd_same, by rw [List.length_append, hl] <;> rfl, ?_, m1, m2, fun x hx => ?_⟩
      · obtain ⟨ns', a', c', y1, y2, yr⟩ := hs3
        refine ⟨ns', a', c', ?_, by rw [upd_ne m2.symm]; exact y2, yr⟩
        rw [upd_ne m1.symm, y1]
        have e : b + (j : Int) + 1 = b + ((j + 1 : Nat) : Int) := by omega
        rw [e]
      · rcases List.mem_append.mp hx with hx | hx
        · exact (Al.mono tk (hal x hx)).mono tk2
        · rw [List.mem_singleton.mp hx]
          exact hv.mono tk2
    · rintro H2 ⟨xs, hd, hl, hs2, m1, m2, hal⟩
      dsimp only [gName, tSeq, tAsg]
      refine rd_four E1.T E2.T E3.T E4.T (xs := xs) rfl hd hs2 hal (by omega) fun l G4 r4 => ?_
      try dsimp only []
      refine rd_three E5.T E6.T E7.T 4 rfl rfl rfl rfl rfl r4 (by omega) (by omega) fun G7 r7 => ?_
      try dsimp only []
      refine rd_three E8.T E9.T E10.T 7 rfl rfl rfl rfl rfl r7 (by omega) (by omega) fun G10 r10 => ?_
      try dsimp only []
      refine rd_three E11.T E12.T E13.T 10 rfl rfl rfl rfl rfl r10 (by omega) (by omega) fun G13 r13 => ?_
      try dsimp only []
      refine rd_three E14.T E15.T E16.T 13 rfl rfl rfl rfl rfl r13 (by omega) (by omega) fun G16 r16 => ?_
      try dsimp only []
      refine rd_three E17.T E18.T E19.T 16 rfl rfl rfl rfl rfl r16 (by omega) (by omega) fun G19 r19 => ?_
      try dsimp only []
      obtain ⟨vs, hd', hs', hl', hlen, hal', hx', _, _, _⟩ := r19
      refine ⟨_, rfl, _, rfl, _, _, rfl, .inr ⟨l, D, vs, xs, rfl, rfl, hl', hd', by omega, by omega, hal'⟩, fun H5 g5 => ⟨_, rfl, ?_⟩⟩
      refine iteF ?_
      exact ⟨_, _, _, _, _, rfl, hs'.same g5, by show 0 ≤ b + ((19 : Nat) : Int); omega, by show b + ((19 : Nat) : Int) ≤ 19 * ((i + 1 : Nat) : Int); omega⟩
  · rintro σ H' _
    exact k _
end
end Lw
namespace Lw
open PySem L2
/-- a class of the text and its __init__, as the top leaves them -/
structure Tx (K : PySem.W.Frag) (mg : Str → Option Value) (x qual fld : Str) (st : Stmt) (C fI : Addr) (fd : FuncData) : Prop where
  T : ErC K C fI fld
  m : mg x = some (.ref C)
  F : Fun K "__init__" qual st fI fd
theorem tx_mk {K : PySem.W.Frag} {h : Heap} {mg : Str → Option Value} {x qual fld : Str} {st : Stmt} {C fI Wk : Addr} (X : K.In h) (G : h.Ns mainGlobals mg)
    {nm q : Str} {N : Addr} {bs : List Value} {sn : List Str} {sub : List Value} {ab : Bool} {col : Option Bool} {dd od an : Option Addr} {m0 m1 m2 m3 m5 : Option Value} {sl : Array (Option Value)} {oc kV dc pm cd ct : Value}
    (aC : PySem.W.nsIn K mainGlobals x = some (some (.ref C)))
    (xL : K.lookup C = some (excClassObj nm q C N bs [.ref Wk, .type "ValueError", .type "Exception", .type "BaseException", .type "object"] true sn sub ab col dd m0 m1 m2 m3 m5 "ValueError.__new__"))
    (sa : PySem.W.findIn K (.ref C) "__setattr__" = some (some (.builtin "object.__setattr__"))) (ga : PySem.W.findIn K (.ref C) "__getattribute__" = some (some (.builtin "BaseException.__getattribute__"))) (gg : PySem.W.findIn K (.ref C) "__getattr__" = some none)
    (no : PySem.W.findIn K (.ref C) fld = some none) (a1 : PySem.W.findIn K (.ref C) "__init__" = some (some (.ref fI))) (t1 : PySem.W.typeIn K (.ref fI) = some (.type "function"))
    (l1 : K.lookup fI = some ⟨oc, od, .func (PySem.W.fnOf "__init__" qual (defArgs st) (defBody st) (defScope st) .none kV dc pm an cd ct), sl⟩) (c1 : PySem.W.codeIn K cd qual = true) (k1 : PySem.W.keepIn K (.ref fI) = true)
    (kC : PySem.W.keepIn K (.ref C) = true) (eC : PySem.W.subIn K (.ref C) (.type "BaseException") = some true) (tC : PySem.W.typeIn K (.ref C) = some (.type "type")) (hC : PySem.W.hasDictIn K C = true) :
    Tx K mg x qual fld st C fI (PySem.W.fnOf "__init__" qual (defArgs st) (defBody st) (defScope st) .none kV dc pm an cd ct) where
  T := { ox := { cls := ⟨nm, q, N, bs, _, sn, sub, ab, col, dd, m0, m1, m2, m3, m5, xL, by show PySem.HandSPX.refsVE PySem.HandSPX.veTail = true; decide +kernel⟩, sa := sa, exC := eC, tyC := tC, kC := kC }, xf := ⟨ga, gg, eC, hC⟩, iC := a1, tI := t1, no := no }
  m := PySem.W.mg_of X G aC
  F := fun_mk l1 c1 k1
/-- a def of the text, as the top leaves it -/
structure Dx (K : PySem.W.Frag) (mg : Str → Option Value) (x : Str) (st : Stmt) (f : Addr) (fd : FuncData) : Prop where
  F : Fun K x x st f fd
  m : mg x = some (.ref f)
  is : ∃ (kV doc pm : Value) (an : Option Addr) (cdv ct : Value), fd = PySem.W.fnOf x x (defArgs st) (defBody st) (defScope st) .none kV doc pm an cdv ct
theorem dx_mk {K : PySem.W.Frag} {h : Heap} {mg : Str → Option Value} {x : Str} {st : Stmt} {f : Addr} (X : K.In h) (G : h.Ns mainGlobals mg) {od an : Option Addr} {sl : Array (Option Value)} {oc kV dc pm cd ct : Value}
    (a : PySem.W.nsIn K mainGlobals x = some (some (.ref f))) (l : K.lookup f = some ⟨oc, od, .func (PySem.W.fnOf x x (defArgs st) (defBody st) (defScope st) .none kV dc pm an cd ct), sl⟩) (c : PySem.W.codeIn K cd x = true) (k : PySem.W.keepIn K (.ref f) = true) :
    Dx K mg x st f (PySem.W.fnOf x x (defArgs st) (defBody st) (defScope st) .none kV dc pm an cd ct) := ⟨fun_mk l c k, PySem.W.mg_of X G a, _, _, _, _, _, _, rfl⟩
theorem ok_frozens {P : Program} {w : World} {K : PySem.W.Frag} {mg : Str → Option Value} {base : Heap} {f : Addr} {fd : FuncData} (F : Fun K "frozen" "frozen" sFrozen f fd) (bF : Binds K fd ["worth"] []) (mF : mg "frozen" = some (.ref f)) (B : Bt mg) :
    ∀ n : Nat, FnOk P w K mg base CX0 n f fd ["worth"] (spFrozen n)
  | 0 => none_left fun vs H Q E ⟨_, _, h, _⟩ => h
  | n + 1 => ok_frozen F (ok_frozens F bF mF B n) bF F.kp mF B
theorem ok_sames {P : Program} {w : World} {K : PySem.W.Frag} {mg : Str → Option Value} {base : Heap} {f : Addr} {fd : FuncData} (F : Fun K "_law_same" "_law_same" sSame f fd) (bF : Binds K fd ["_law_found", "_law_due"] []) (mF : mg "_law_same" = some (.ref f)) (B : Bt mg) :
    ∀ n : Nat, FnOk P w K mg base CX0 n f fd ["_law_found", "_law_due"] (spSame n)
  | 0 => none_left fun vs H Q E ⟨_, _, _, h, _⟩ => h
  | n + 1 => ok_same F (ok_sames F bF mF B n) bF F.kp mF B
theorem all_mk {l : PySem.W.OpenLaw} {w : World} {K : PySem.W.Frag} {h : Heap} {mg : Str → Option Value} {fa : Addr} (X : K.In h) (G : h.Ns mainGlobals mg) (hfa : mg "law" = some (.ref fa))
    {C1 f1 C2 f2 C3 f3 C4 f4 C5 f5 C6 f6 C7 f7 C8 f8 C9 f9 C10 f10 C11 f11 C12 f12 C13 f13 C14 f14 C15 f15 C16 f16 C17 f17 C18 f18 C19 f19 fF fS fD fB fP fT fL : Addr} {d1 d2 d3 d4 d5 d6 d7 d8 d9 d10 d11 d12 d13 d14 d15 d16 d17 d18 d19 dF dS dD dB dP dT dL : FuncData}
    (DF : Dx K mg "frozen" sFrozen fF dF)
    (DS : Dx K mg "_law_same" sSame fS dS)
    (DD : Dx K mg "_law_draw" sDraw fD dD)
    (DB : Dx K mg "_law_start" sStart fB dB)
    (DP : Dx K mg "_law_pick" sPick fP dP)
    (DT : Dx K mg "_law_thing" sThing fT dT)
    (DL : Dx K mg "law" sLaw fL dL)
    (X1 : Tx K mg "OutOfRange" "OutOfRange.__init__" "at" sI1 C1 f1 d1)
    (X2 : Tx K mg "TooLarge" "TooLarge.__init__" "at" sI2 C2 f2 d2)
    (X3 : Tx K mg "NoWalk" "NoWalk.__init__" "level" sI3 C3 f3 d3)
    (X4 : Tx K mg "NoLocate" "NoLocate.__init__" "level" sI4 C4 f4 d4)
    (X5 : Tx K mg "BadText" "BadText.__init__" "line" sI5 C5 f5 d5)
    (X6 : Tx K mg "BadExpression" "BadExpression.__init__" "at" sI6 C6 f6 d6)
    (X7 : Tx K mg "BadNumber" "BadNumber.__init__" "n" sI7 C7 f7 d7)
    (X8 : Tx K mg "RepeatedLetter" "RepeatedLetter.__init__" "letter" sI8 C8 f8 d8)
    (X9 : Tx K mg "NoTable" "NoTable.__init__" "name" sI9 C9 f9 d9)
    (X10 : Tx K mg "TableExists" "TableExists.__init__" "name" sI10 C10 f10 d10)
    (X11 : Tx K mg "RankClash" "RankClash.__init__" "name" sI11 C11 f11 d11)
    (X12 : Tx K mg "SizeClash" "SizeClash.__init__" "letter" sI12 C12 f12 d12)
    (X13 : Tx K mg "Illegal" "Illegal.__init__" "place" sI13 C13 f13 d13)
    (X14 : Tx K mg "Ring" "Ring.__init__" "steps" sI14 C14 f14 d14)
    (X15 : Tx K mg "Parted" "Parted.__init__" "verdict" sI15 C15 f15 d15)
    (X16 : Tx K mg "NoBetter" "NoBetter.__init__" "verdict" sI16 C16 f16 d16)
    (X17 : Tx K mg "KeptTable" "KeptTable.__init__" "name" sI17 C17 f17 d17)
    (X18 : Tx K mg "KeepRing" "KeepRing.__init__" "name" sI18 C18 f18 d18)
    (X19 : Tx K mg "KeptFailed" "KeptFailed.__init__" "name" sI19 C19 f19 d19)
    (z_isinstance : PySem.W.nsIn K mainGlobals "isinstance" = some none)
    (z_list : PySem.W.nsIn K mainGlobals "list" = some none)
    (z_tuple : PySem.W.nsIn K mainGlobals "tuple" = some none)
    (z_len : PySem.W.nsIn K mainGlobals "len" = some none)
    (z_all : PySem.W.nsIn K mainGlobals "all" = some none)
    (z_zip : PySem.W.nsIn K mainGlobals "zip" = some none)
    (z_dict : PySem.W.nsIn K mainGlobals "dict" = some none)
    (z_int : PySem.W.nsIn K mainGlobals "int" = some none)
    (z_bool : PySem.W.nsIn K mainGlobals "bool" = some none)
    (z_range : PySem.W.nsIn K mainGlobals "range" = some none)
    : ∃ fd : FuncData, (∀ (s : Shared) (v : Value), BindsTo s fd ⟨[v], []⟩ [("_law_script", v)]) ∧ ∀ base : Heap, K.In base → base.Ns mainGlobals mg → FnOk l.prog w K mg base CX0 6 fa fd ["_law_script"] (spLaw K) := by
  have e := hfa.symm.trans DL.m
  cases e
  have B : Bt mg := ⟨PySem.W.mg_none_of X G z_isinstance, PySem.W.mg_none_of X G z_list, PySem.W.mg_none_of X G z_tuple, PySem.W.mg_none_of X G z_len, PySem.W.mg_none_of X G z_all, PySem.W.mg_none_of X G z_zip, PySem.W.mg_none_of X G z_dict, PySem.W.mg_none_of X G z_int, PySem.W.mg_none_of X G z_bool, PySem.W.mg_none_of X G z_range⟩
  have bF := DF.F.binds (ps := ["worth"]) fun _ _ _ _ _ _ us hl => match us, hl with | [_], _ => rfl
  have bS := DS.F.binds (ps := ["_law_found", "_law_due"]) fun _ _ _ _ _ _ us hl => match us, hl with | [_, _], _ => rfl
  have bD := DD.F.binds (ps := ["_law_stream", "_law_many"]) fun _ _ _ _ _ _ us hl => match us, hl with | [_, _], _ => rfl
  have bB := DB.F.binds (ps := ["_law_script"]) fun _ _ _ _ _ _ us hl => match us, hl with | [_], _ => rfl
  have bP := DP.F.binds (ps := ["_law_stream", "_law_some"]) fun _ _ _ _ _ _ us hl => match us, hl with | [_, _], _ => rfl
  have bT := DT.F.binds (ps := ["_law_stream"]) fun _ _ _ _ _ _ us hl => match us, hl with | [_], _ => rfl
  refine ⟨dL, fun s v => ?_, fun base _ _ => ?_⟩
  · obtain ⟨kV, doc, pm, an, cdv, ct, rfl⟩ := DL.is
    exact .of_eq rfl
  have GF := ok_frozens (P := l.prog) (w := w) (base := base) DF.F bF DF.m B 3
  have GS := ok_sames (P := l.prog) (w := w) (base := base) DS.F bS DS.m B 4
  have GD := ok_draw (P := l.prog) (w := w) (base := base) DD.F B
  have GP := ok_pick DP.F GD bD DD.F.kp DD.m B
  have GT := ok_thing DT.F GP bP DP.F.kp DP.m B
  have GB := ok_start (P := l.prog) (w := w) (base := base) DB.F B
  exact ok_law DL.F B GB bB DB.F.kp DB.m GT bT DT.F.kp DT.m GS bS DS.F.kp DS.m
    ⟨X1.T, X1.m, ok_ini1 X1.F X1.T GF bF DF.F.kp DF.m, kb_ini1 X1.F⟩
    ⟨X2.T, X2.m, ok_ini2 X2.F X2.T GF bF DF.F.kp DF.m, kb_ini2 X2.F⟩
    ⟨X3.T, X3.m, ok_ini3 X3.F X3.T GF bF DF.F.kp DF.m, kb_ini3 X3.F⟩
    ⟨X4.T, X4.m, ok_ini4 X4.F X4.T GF bF DF.F.kp DF.m, kb_ini4 X4.F⟩
    ⟨X5.T, X5.m, ok_ini5 X5.F X5.T GF bF DF.F.kp DF.m, kb_ini5 X5.F⟩
    ⟨X6.T, X6.m, ok_ini6 X6.F X6.T GF bF DF.F.kp DF.m, kb_ini6 X6.F⟩
    ⟨X7.T, X7.m, ok_ini7 X7.F X7.T GF bF DF.F.kp DF.m, kb_ini7 X7.F⟩
    ⟨X8.T, X8.m, ok_ini8 X8.F X8.T GF bF DF.F.kp DF.m, kb_ini8 X8.F⟩
    ⟨X9.T, X9.m, ok_ini9 X9.F X9.T GF bF DF.F.kp DF.m, kb_ini9 X9.F⟩
    ⟨X10.T, X10.m, ok_ini10 X10.F X10.T GF bF DF.F.kp DF.m, kb_ini10 X10.F⟩
    ⟨X11.T, X11.m, ok_ini11 X11.F X11.T GF bF DF.F.kp DF.m, kb_ini11 X11.F⟩
    ⟨X12.T, X12.m, ok_ini12 X12.F X12.T GF bF DF.F.kp DF.m, kb_ini12 X12.F⟩
    ⟨X13.T, X13.m, ok_ini13 X13.F X13.T GF bF DF.F.kp DF.m, kb_ini13 X13.F⟩
    ⟨X14.T, X14.m, ok_ini14 X14.F X14.T GF bF DF.F.kp DF.m, kb_ini14 X14.F⟩
    ⟨X15.T, X15.m, ok_ini15 X15.F X15.T GF bF DF.F.kp DF.m, kb_ini15 X15.F⟩
    ⟨X16.T, X16.m, ok_ini16 X16.F X16.T GF bF DF.F.kp DF.m, kb_ini16 X16.F⟩
    ⟨X17.T, X17.m, ok_ini17 X17.F X17.T GF bF DF.F.kp DF.m, kb_ini17 X17.F⟩
    ⟨X18.T, X18.m, ok_ini18 X18.F X18.T GF bF DF.F.kp DF.m, kb_ini18 X18.F⟩
    ⟨X19.T, X19.m, ok_ini19 X19.F X19.T GF bF DF.F.kp DF.m, kb_ini19 X19.F⟩
theorem walk {l : PySem.W.OpenLaw} {q : Program} {loose : List Str} {XP : (Str → Option Value) → Heap → Prop} {YP : World → Heap → Prop} {d : DefRec} {K : Params → PySem.W.Frag} (hn : l.most = some 63) (hdf : d.params.defaults = [])
    (hY : ∀ (w : World) (h : Heap), YP w h → (K w.params).In h)
    (F : ∀ (w : World) (mg : Str → Option Value) (fa : Addr) (h : Heap), (K w.params).In h → h.Ns mainGlobals mg → mg d.name = some (.ref fa) →
      ∃ fd : FuncData, (∀ (s : Shared) (u : Value), BindsTo s fd ⟨[u], []⟩ [("_law_script", u)]) ∧ ∀ base : Heap, (K w.params).In base → base.Ns mainGlobals mg → FnOk l.prog w (K w.params) mg base CX0 6 fa fd ["_law_script"] (spLaw (K w.params))) :
    PySem.W.WalkO q loose XP YP l.row.toRowW d [] (fun f vs => PySem.call f vs) :=
  L2.walk_of (n := 63) (k := 6) (x := "_law_script") (CX := fun _ => CX0) (sp := fun w => spLaw (K w.params)) hn (by decide) hdf ⟨rfl, by decide, by decide⟩ hY F (fun _ _ a ns hl _ hS => ⟨a, ns, rfl, hS, hl, fun _ => rfl⟩) fun _ _ _ _ _ z => z
end Lw
open PySem PySem.W PyProof.Rows
set_option maxRecDepth 100000 in
set_option maxHeartbeats 0 in
theorem PySem.Challenge.cw_levelwalks_k96_errors_by_keywords_holds : PySem.Challenge.rw_levelwalks_k96_errors_by_keywords.Holds := by
  w_on; o_law; k_head; (case hw => w_witness2)
  k_fill
  refine Lw.walk (l := PySem.Challenge.rw_levelwalks_k96_errors_by_keywords) rfl rfl (fun w h Y => PySem.W.kIn_of Y) ?F
  case F =>
    intro w mg fa h KX G hmg
    refine' Lw.all_mk KX G hmg ?DF ?DS ?DD ?DB ?DP ?DT ?DL ?X1 ?X2 ?X3 ?X4 ?X5 ?X6 ?X7 ?X8 ?X9 ?X10 ?X11 ?X12 ?X13 ?X14 ?X15 ?X16 ?X17 ?X18 ?X19 ?z_isinstance ?z_list ?z_tuple ?z_len ?z_all ?z_zip ?z_dict ?z_int ?z_bool ?z_range
    (case DF => (refine' Lw.dx_mk KX G ?a ?l ?c ?k; (case a => k_is); (case l => k_is); (case c => k_is); (case k => k_is)))
    (case DS => (refine' Lw.dx_mk KX G ?a ?l ?c ?k; (case a => k_is); (case l => k_is); (case c => k_is); (case k => k_is)))
    (case DD => (refine' Lw.dx_mk KX G ?a ?l ?c ?k; (case a => k_is); (case l => k_is); (case c => k_is); (case k => k_is)))
    (case DB => (refine' Lw.dx_mk KX G ?a ?l ?c ?k; (case a => k_is); (case l => k_is); (case c => k_is); (case k => k_is)))
    (case DP => (refine' Lw.dx_mk KX G ?a ?l ?c ?k; (case a => k_is); (case l => k_is); (case c => k_is); (case k => k_is)))
    (case DT => (refine' Lw.dx_mk KX G ?a ?l ?c ?k; (case a => k_is); (case l => k_is); (case c => k_is); (case k => k_is)))
    (case DL => (refine' Lw.dx_mk KX G ?a ?l ?c ?k; (case a => k_is); (case l => k_is); (case c => k_is); (case k => k_is)))
    (case X1 => (refine' Lw.tx_mk KX G ?aC ?xL ?sa ?ga ?gg ?no ?a1 ?t1 ?l1 ?c1 ?k1 ?kC ?eC ?tC ?hC; (case aC => k_is); (case xL => k_is); (case sa => k_is); (case ga => k_is); (case gg => k_is); (case no => k_is); (case a1 => k_is); (case t1 => k_is); (case l1 => k_is); (case c1 => k_is); (case k1 => k_is); (case kC => k_is); (case eC => k_is); (case tC => k_is); (case hC => k_is)))
    (case X2 => (refine' Lw.tx_mk KX G ?aC ?xL ?sa ?ga ?gg ?no ?a1 ?t1 ?l1 ?c1 ?k1 ?kC ?eC ?tC ?hC; (case aC => k_is); (case xL => k_is); (case sa => k_is); (case ga => k_is); (case gg => k_is); (case no => k_is); (case a1 => k_is); (case t1 => k_is); (case l1 => k_is); (case c1 => k_is); (case k1 => k_is); (case kC => k_is); (case eC => k_is); (case tC => k_is); (case hC => k_is)))
    (case X3 => (refine' Lw.tx_mk KX G ?aC ?xL ?sa ?ga ?gg ?no ?a1 ?t1 ?l1 ?c1 ?k1 ?kC ?eC ?tC ?hC; (case aC => k_is); (case xL => k_is); (case sa => k_is); (case ga => k_is); (case gg => k_is); (case no => k_is); (case a1 => k_is); (case t1 => k_is); (case l1 => k_is); (case c1 => k_is); (case k1 => k_is); (case kC => k_is); (case eC => k_is); (case tC => k_is); (case hC => k_is)))
    (case X4 => (refine' Lw.tx_mk KX G ?aC ?xL ?sa ?ga ?gg ?no ?a1 ?t1 ?l1 ?c1 ?k1 ?kC ?eC ?tC ?hC; (case aC => k_is); (case xL => k_is); (case sa => k_is); (case ga => k_is); (case gg => k_is); (case no => k_is); (case a1 => k_is); (case t1 => k_is); (case l1 => k_is); (case c1 => k_is); (case k1 => k_is); (case kC => k_is); (case eC => k_is); (case tC => k_is); (case hC => k_is)))
    (case X5 => (refine' Lw.tx_mk KX G ?aC ?xL ?sa ?ga ?gg ?no ?a1 ?t1 ?l1 ?c1 ?k1 ?kC ?eC ?tC ?hC; (case aC => k_is); (case xL => k_is); (case sa => k_is); (case ga => k_is); (case gg => k_is); (case no => k_is); (case a1 => k_is); (case t1 => k_is); (case l1 => k_is); (case c1 => k_is); (case k1 => k_is); (case kC => k_is); (case eC => k_is); (case tC => k_is); (case hC => k_is)))
    (case X6 => (refine' Lw.tx_mk KX G ?aC ?xL ?sa ?ga ?gg ?no ?a1 ?t1 ?l1 ?c1 ?k1 ?kC ?eC ?tC ?hC; (case aC => k_is); (case xL => k_is); (case sa => k_is); (case ga => k_is); (case gg => k_is); (case no => k_is); (case a1 => k_is); (case t1 => k_is); (case l1 => k_is); (case c1 => k_is); (case k1 => k_is); (case kC => k_is); (case eC => k_is); (case tC => k_is); (case hC => k_is)))
    (case X7 => (refine' Lw.tx_mk KX G ?aC ?xL ?sa ?ga ?gg ?no ?a1 ?t1 ?l1 ?c1 ?k1 ?kC ?eC ?tC ?hC; (case aC => k_is); (case xL => k_is); (case sa => k_is); (case ga => k_is); (case gg => k_is); (case no => k_is); (case a1 => k_is); (case t1 => k_is); (case l1 => k_is); (case c1 => k_is); (case k1 => k_is); (case kC => k_is); (case eC => k_is); (case tC => k_is); (case hC => k_is)))
    (case X8 => (refine' Lw.tx_mk KX G ?aC ?xL ?sa ?ga ?gg ?no ?a1 ?t1 ?l1 ?c1 ?k1 ?kC ?eC ?tC ?hC; (case aC => k_is); (case xL => k_is); (case sa => k_is); (case ga => k_is); (case gg => k_is); (case no => k_is); (case a1 => k_is); (case t1 => k_is); (case l1 => k_is); (case c1 => k_is); (case k1 => k_is); (case kC => k_is); (case eC => k_is); (case tC => k_is); (case hC => k_is)))
    (case X9 => (refine' Lw.tx_mk KX G ?aC ?xL ?sa ?ga ?gg ?no ?a1 ?t1 ?l1 ?c1 ?k1 ?kC ?eC ?tC ?hC; (case aC => k_is); (case xL => k_is); (case sa => k_is); (case ga => k_is); (case gg => k_is); (case no => k_is); (case a1 => k_is); (case t1 => k_is); (case l1 => k_is); (case c1 => k_is); (case k1 => k_is); (case kC => k_is); (case eC => k_is); (case tC => k_is); (case hC => k_is)))
    (case X10 => (refine' Lw.tx_mk KX G ?aC ?xL ?sa ?ga ?gg ?no ?a1 ?t1 ?l1 ?c1 ?k1 ?kC ?eC ?tC ?hC; (case aC => k_is); (case xL => k_is); (case sa => k_is); (case ga => k_is); (case gg => k_is); (case no => k_is); (case a1 => k_is); (case t1 => k_is); (case l1 => k_is); (case c1 => k_is); (case k1 => k_is); (case kC => k_is); (case eC => k_is); (case tC => k_is); (case hC => k_is)))
    (case X11 => (refine' Lw.tx_mk KX G ?aC ?xL ?sa ?ga ?gg ?no ?a1 ?t1 ?l1 ?c1 ?k1 ?kC ?eC ?tC ?hC; (case aC => k_is); (case xL => k_is); (case sa => k_is); (case ga => k_is); (case gg => k_is); (case no => k_is); (case a1 => k_is); (case t1 => k_is); (case l1 => k_is); (case c1 => k_is); (case k1 => k_is); (case kC => k_is); (case eC => k_is); (case tC => k_is); (case hC => k_is)))
    (case X12 => (refine' Lw.tx_mk KX G ?aC ?xL ?sa ?ga ?gg ?no ?a1 ?t1 ?l1 ?c1 ?k1 ?kC ?eC ?tC ?hC; (case aC => k_is); (case xL => k_is); (case sa => k_is); (case ga => k_is); (case gg => k_is); (case no => k_is); (case a1 => k_is); (case t1 => k_is); (case l1 => k_is); (case c1 => k_is); (case k1 => k_is); (case kC => k_is); (case eC => k_is); (case tC => k_is); (case hC => k_is)))
    (case X13 => (refine' Lw.tx_mk KX G ?aC ?xL ?sa ?ga ?gg ?no ?a1 ?t1 ?l1 ?c1 ?k1 ?kC ?eC ?tC ?hC; (case aC => k_is); (case xL => k_is); (case sa => k_is); (case ga => k_is); (case gg => k_is); (case no => k_is); (case a1 => k_is); (case t1 => k_is); (case l1 => k_is); (case c1 => k_is); (case k1 => k_is); (case kC => k_is); (case eC => k_is); (case tC => k_is); (case hC => k_is)))
    (case X14 => (refine' Lw.tx_mk KX G ?aC ?xL ?sa ?ga ?gg ?no ?a1 ?t1 ?l1 ?c1 ?k1 ?kC ?eC ?tC ?hC; (case aC => k_is); (case xL => k_is); (case sa => k_is); (case ga => k_is); (case gg => k_is); (case no => k_is); (case a1 => k_is); (case t1 => k_is); (case l1 => k_is); (case c1 => k_is); (case k1 => k_is); (case kC => k_is); (case eC => k_is); (case tC => k_is); (case hC => k_is)))
    (case X15 => (refine' Lw.tx_mk KX G ?aC ?xL ?sa ?ga ?gg ?no ?a1 ?t1 ?l1 ?c1 ?k1 ?kC ?eC ?tC ?hC; (case aC => k_is); (case xL => k_is); (case sa => k_is); (case ga => k_is); (case gg => k_is); (case no => k_is); (case a1 => k_is); (case t1 => k_is); (case l1 => k_is); (case c1 => k_is); (case k1 => k_is); (case kC => k_is); (case eC => k_is); (case tC => k_is); (case hC => k_is)))
    (case X16 => (refine' Lw.tx_mk KX G ?aC ?xL ?sa ?ga ?gg ?no ?a1 ?t1 ?l1 ?c1 ?k1 ?kC ?eC ?tC ?hC; (case aC => k_is); (case xL => k_is); (case sa => k_is); (case ga => k_is); (case gg => k_is); (case no => k_is); (case a1 => k_is); (case t1 => k_is); (case l1 => k_is); (case c1 => k_is); (case k1 => k_is); (case kC => k_is); (case eC => k_is); (case tC => k_is); (case hC => k_is)))
    (case X17 => (refine' Lw.tx_mk KX G ?aC ?xL ?sa ?ga ?gg ?no ?a1 ?t1 ?l1 ?c1 ?k1 ?kC ?eC ?tC ?hC; (case aC => k_is); (case xL => k_is); (case sa => k_is); (case ga => k_is); (case gg => k_is); (case no => k_is); (case a1 => k_is); (case t1 => k_is); (case l1 => k_is); (case c1 => k_is); (case k1 => k_is); (case kC => k_is); (case eC => k_is); (case tC => k_is); (case hC => k_is)))
    (case X18 => (refine' Lw.tx_mk KX G ?aC ?xL ?sa ?ga ?gg ?no ?a1 ?t1 ?l1 ?c1 ?k1 ?kC ?eC ?tC ?hC; (case aC => k_is); (case xL => k_is); (case sa => k_is); (case ga => k_is); (case gg => k_is); (case no => k_is); (case a1 => k_is); (case t1 => k_is); (case l1 => k_is); (case c1 => k_is); (case k1 => k_is); (case kC => k_is); (case eC => k_is); (case tC => k_is); (case hC => k_is)))
    (case X19 => (refine' Lw.tx_mk KX G ?aC ?xL ?sa ?ga ?gg ?no ?a1 ?t1 ?l1 ?c1 ?k1 ?kC ?eC ?tC ?hC; (case aC => k_is); (case xL => k_is); (case sa => k_is); (case ga => k_is); (case gg => k_is); (case no => k_is); (case a1 => k_is); (case t1 => k_is); (case l1 => k_is); (case c1 => k_is); (case k1 => k_is); (case kC => k_is); (case eC => k_is); (case tC => k_is); (case hC => k_is)))
    (case z_isinstance => k_is)
    (case z_list => k_is)
    (case z_tuple => k_is)
    (case z_len => k_is)
    (case z_all => k_is)
    (case z_zip => k_is)
    (case z_dict => k_is)
    (case z_int => k_is)
    (case z_bool => k_is)
    (case z_range => k_is)
