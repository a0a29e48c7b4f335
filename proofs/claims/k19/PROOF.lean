import PyProof.Rows.All
import Wide.All
import OpenK.AllK
import Wide.FinOn
import HandS.ForExc
import HandS.ForMost
import HandS.Wide
import HandS.IsInst
import HandS.Walk
import HandS.Zip
import HandS.Style
import HandS.Codes
import HandS.Conv
import HandS.FStr
import HandS.Property
import HandS.ClsMeth
import HandS.Text
import HandS.Strs
import HandS.SortKw
import HandS.RaiseMore
import HandS.ExcIs
import HandS.TryMany
import HandS.Lambda
import HandS.EndTab
import HandS.EndBits
import HandS.TupAny
import HandS.SlotsOwn
import KE.KOpsOwn
import KE.DataCmp
import HandS.SetTxt0
import HandS.Set
import HandS.SetFor
import HandS.Zip0
import HandS.Iter
import HandS.Star
import PyProof.Rows.FactsN_abs
import PyProof.Rows.FactsB_and
import PyProof.Rows.FactsB_or
import PyProof.Rows.FactsB_xor
import PyProof.Rows.FactsB_sub
import PyProof.Rows.FactsB_mul
import PyProof.FactsInt
import HandS.ExcField
import HandS.ExcInit
import HandS.WordsExc
import HandS.Sort
import HandS.EndOwn
import KE.KNestM
import PySem.Challenge.RW_levelwalks_k19_numbers_refused
set_option Elab.async false
set_option linter.all false
set_option maxRecDepth 100000
set_option maxHeartbeats 8000000
namespace Lw
open PySem L2
def topS (i : Nat) : Stmt := PySem.Challenge.pw_levelwalks_k19_numbers_refused.main.body.getD i (.Pass ⟨0, 0, 0, 0⟩)
theorem seqT {K : PySem.W.Frag} {H H' : Hp} (g : Same H H') {a : Addr} {xs : List V} (h : SqT K H a xs) : SqT K H' a xs := by
  rcases h with (h | ⟨o, h⟩) | h
  · exact .inl (.inl (g _ _ h))
  · exact .inl (.inr ⟨o, g _ _ h⟩)
  · exact .inr h
theorem tyT {K : PySem.W.Frag} {H : Hp} {a : Addr} {xs : List V} (h : SqT K H a xs) : TyX K H (.ref a) (.type "tuple") := by
  rcases h with (h | ⟨o, h⟩) | ⟨o, its, n, h, c, _⟩
  · exact .base (.tup h)
  · exact .fTuple h
  · exact .kTuple h c
theorem tyL {K : PySem.W.Frag} {H : Hp} {a : Addr} {xs : List V} (h : SqL K H a xs) : TyX K H (.ref a) (.type "list") := by
  rcases h with (h | ⟨o, h⟩) | ⟨o, its, n, h, c, _⟩
  · exact .base (.lst h)
  · exact .base (.frz h)
  · exact .kList h c
/-! two values that show the same data: ints, texts, truth values, tuples and lists of such; at most n deep -/
def Sm (K : PySem.W.Frag) (H : Hp) : Nat → V → V → Prop
  | 0, _, _ => False
  | n + 1, v, w => (∃ i : Int, v = .int i ∧ w = .int i) ∨ (∃ s : Str, v = .str s ∧ w = .str s) ∨ (∃ b : Bool, v = .bl b ∧ w = .bl b) ∨
    (∃ (a b : Addr) (xs ys : List V), v = .ref a ∧ w = .ref b ∧ SqT K H a xs ∧ SqT K H b ys ∧ xs.length = ys.length ∧ xs.length ≤ 1000 ∧ ∀ (i : Nat) (x y : V), xs[i]? = some x → ys[i]? = some y → Sm K H n x y) ∨
    (∃ (a b : Addr) (xs ys : List V), v = .ref a ∧ w = .ref b ∧ H a = some (.lst xs) ∧ H b = some (.lst ys) ∧ xs.length = ys.length ∧ xs.length ≤ 1000 ∧ ∀ (i : Nat) (x y : V), xs[i]? = some x → ys[i]? = some y → Sm K H n x y)
theorem Sm.mono {K : PySem.W.Frag} {H H' : Hp} (g : Same H H') : ∀ {n : Nat} {v w : V}, Sm K H n v w → Sm K H' n v w
  | 0, _, _, h => h
  | n + 1, v, w, h => by
    rcases h with h | h | h | ⟨a, b, xs, ys, e1, e2, h1, h2, h3, h4, h5⟩ | ⟨a, b, xs, ys, e1, e2, h1, h2, h3, h4, h5⟩
    · exact .inl h
    · exact .inr (.inl h)
    · exact .inr (.inr (.inl h))
    · exact .inr (.inr (.inr (.inl ⟨a, b, xs, ys, e1, e2, seqT g h1, seqT g h2, h3, h4, fun i x y p q => Sm.mono g (h5 i x y p q)⟩)))
    · exact .inr (.inr (.inr (.inr ⟨a, b, xs, ys, e1, e2, g _ _ h1, g _ _ h2, h3, h4, fun i x y p q => Sm.mono g (h5 i x y p q)⟩)))
theorem Sm.int {K : PySem.W.Frag} {H : Hp} {n : Nat} (i : Int) : Sm K H (n + 1) (.int i) (.int i) := .inl ⟨i, rfl, rfl⟩
theorem Sm.str {K : PySem.W.Frag} {H : Hp} {n : Nat} (z : Str) : Sm K H (n + 1) (.str z) (.str z) := .inr (.inl ⟨z, rfl, rfl⟩)
theorem Sm.bl {K : PySem.W.Frag} {H : Hp} {n : Nat} (b : Bool) : Sm K H (n + 1) (.bl b) (.bl b) := .inr (.inr (.inl ⟨b, rfl, rfl⟩))
/-- place by place -/
def SmAll (K : PySem.W.Frag) (H : Hp) (n : Nat) (xs ys : List V) : Prop := xs.length = ys.length ∧ ∀ (i : Nat) (x y : V), xs[i]? = some x → ys[i]? = some y → Sm K H n x y
theorem SmAll.nil {K : PySem.W.Frag} {H : Hp} {n : Nat} : SmAll K H n [] [] := ⟨rfl, fun i x y e => by cases e⟩
theorem SmAll.cons {K : PySem.W.Frag} {H : Hp} {n : Nat} {x y : V} {xs ys : List V} (h : Sm K H n x y) (t : SmAll K H n xs ys) : SmAll K H n (x :: xs) (y :: ys) :=
  ⟨congrArg Nat.succ t.1, fun i a b e1 e2 => by
    cases i with
    | zero => cases e1; cases e2; exact h
    | succ i => exact t.2 i a b e1 e2⟩
theorem Sm.tup {K : PySem.W.Frag} {H : Hp} {n : Nat} {a b : Addr} {xs ys : List V} (h1 : SqT K H a xs) (h2 : SqT K H b ys) (hl : xs.length ≤ 1000) (t : SmAll K H n xs ys) : Sm K H (n + 1) (.ref a) (.ref b) :=
  .inr (.inr (.inr (.inl ⟨a, b, xs, ys, rfl, rfl, h1, h2, t.1, hl, t.2⟩)))
theorem Sm.lst {K : PySem.W.Frag} {H : Hp} {n : Nat} {a b : Addr} {xs ys : List V} (h1 : H a = some (.lst xs)) (h2 : H b = some (.lst ys)) (hl : xs.length ≤ 1000) (t : SmAll K H n xs ys) : Sm K H (n + 1) (.ref a) (.ref b) :=
  .inr (.inr (.inr (.inr ⟨a, b, xs, ys, rfl, rfl, h1, h2, t.1, hl, t.2⟩)))
def TK (K : PySem.W.Frag) (H H' : Hp) : Prop := ∀ (b : Addr) (xs : List V), SqT K H b xs → SqT K H' b xs
theorem TK.of {K : PySem.W.Frag} {H H' : Hp} (g : Same H H') : TK K H H' := fun b xs h => seqT g h
theorem TK.trans {K : PySem.W.Frag} {H H1 H2 : Hp} (g : TK K H H1) (g' : TK K H1 H2) : TK K H H2 := fun b xs h => g' b xs (g b xs h)
theorem TK.but {K : PySem.W.Frag} {H H' : Hp} (h : ∀ (b : Addr) (o : HO), (∀ xs, o ≠ .lst xs) → H b = some o → H' b = some o) : TK K H H' := fun b xs q => by
  rcases q with (q | ⟨o, q⟩) | q
  · exact .inl (.inl (h _ _ (by intro z e; cases e) q))
  · exact .inl (.inr ⟨o, h _ _ (by intro z e; cases e) q⟩)
  · exact .inr q
theorem TK.lst {K : PySem.W.Frag} {H : Hp} {D : Addr} {xs ys : List V} (h : H D = some (.lst xs)) : TK K H (upd H D (.lst ys)) := .but fun b o no q => by
  rw [upd_ne (fun e => by rw [e, h] at q; exact no _ (Option.some.inj q).symm)]
  exact q
theorem same_new {H : Hp} {p : Addr} (h : H p = none) (o : HO) : Same H (upd H p o) := fun b u q => by rw [upd_ne (ne_of_none q h)]; exact q
theorem same_over {H H' : Hp} {p : Addr} (g : Same H H') (h : H p = none) (o : HO) : Same H (upd H' p o) := fun b u q => by rw [upd_ne (ne_of_none q h)]; exact g _ _ q
/-- a comprehension's turn without a test -/
theorem kept {te : TE} {σ : St} {H : Hp} {R : V → Hp → Prop} {S : Hp → Prop} (h : te σ H R) : tYes σ H fun b H3 => if b = true then te σ H3 R else S H3 := iteT (A := te σ H R) (B := S H) h
/-- the built-in names that the program's text does not make its own -/
structure Bt (mg : Str → Option Value) : Prop where
  isi : mg "isinstance" = none
  lst : mg "list" = none
  tup : mg "tuple" = none
  len : mg "len" = none
  all : mg "all" = none
  zip : mg "zip" = none
  dict : mg "dict" = none
  int : mg "int" = none
  bool : mg "bool" = none
  range : mg "range" = none
section
variable {P : Program} {w : World} {K : PySem.W.Frag} {mg : Str → Option Value} {base : Heap} {f : Addr} {fd : FuncData}
theorem none_left {sp : Sp} {ps : List Str} {CX : CXT} (no : ∀ vs H Q E, ¬ sp vs H Q E) : FnOk P w K mg base CX 0 f fd ps sp :=
  ⟨fun vs H Q E h => absurd h (no vs H Q E), fun A outer s H args us vs Q E _ _ _ _ h => absurd h (no vs H Q E)⟩
theorem is_seq {K : PySem.W.Frag} {t : String} {b : Bool} (h1 : kitB t "list" = some false) (h2 : kitB t "tuple" = some b) : PySem.W.kitAny K (.type t) [.type "list", .type "tuple"] = some b :=
  kitAny_cons (kit_ty h1) (fun _ => kitAny_cons (kit_ty h2) (fun e => by rw [e]; exact kitAny_nil) (fun e => e)) (fun e => by cases e)
abbrev sSame : Stmt := topS 32
/-! zip of two tuples, as a walk -/
theorem walk_zipT {K : PySem.W.Frag} {a b : Addr} {xs ys : List V} (e : xs.length = ys.length) : Walk (RZ.ItzT K a b) xs.length (fun H => SqT K H a xs ∧ SqT K H b ys) (YPair (fun i => xs[i]?) (fun i => ys[i]?)) :=
  ⟨fun i _ hi q => ⟨xs, ys, xs[i], ys[i]'(by omega), q.1, q.2, List.getElem?_eq_getElem hi, List.getElem?_eq_getElem (by omega)⟩, fun _ q => ⟨xs, ys, q.1, q.2, .inl (Nat.le_refl _)⟩,
    fun i H v H' _ q ⟨T, x, y, h1, h2, h3, h4, h5⟩ => ⟨T, x, y, h1, h2, h3, h4 xs q.1, h5 ys q.2⟩⟩
def spSame (K : PySem.W.Frag) (n : Nat) : Sp := fun vs H Q _ => ∃ v u : V, vs = [v, u] ∧ Sm K H n v u ∧ ∀ H' : Hp, Same H H' → Q (.bl true) H'
abbrev namesS : List Str := ["_law_found", "_law_due", "_law_one", "_law_other"]
theorem scS : FnScope namesS ["_law_found", "_law_due"] (defScope sSame) := ⟨rfl, rfl, rfl, by decide +kernel, rfl, by decide +kernel, by decide +kernel⟩
theorem is_four {K : PySem.W.Frag} {t : String} (h1 : kitB t "int" = some false) (h2 : kitB t "list" = some false) (h3 : kitB t "tuple" = some false) (h4 : kitB t "dict" = some false) :
    PySem.W.kitAny K (.type t) [.type "int", .type "list", .type "tuple", .type "dict"] = some false :=
  kitAny_cons (kit_ty h1) (fun _ => kitAny_cons (kit_ty h2) (fun _ => kitAny_cons (kit_ty h3) (fun _ => kitAny_cons (kit_ty h4) (fun _ => kitAny_nil) (fun e => by cases e)) (fun e => by cases e)) (fun e => by cases e)) (fun e => by cases e)
theorem is_seqL {K : PySem.W.Frag} : PySem.W.kitAny K (.type "list") [.type "list", .type "tuple"] = some true :=
  kitAny_cons (kit_ty (r := true) (by decide +kernel)) (fun e => by cases e) (fun _ => rfl)
theorem iteC {c : Bool} {A B : Prop} (hc : c = true) (h : A) : if c = true then A else B := by
  rw [if_pos hc]
  exact h
theorem iteN {c : Bool} {A B : Prop} (hc : c = false) (h : B) : if c = true then A else B := by
  rw [if_neg (by rw [hc]; decide)]
  exact h
theorem all_true {n : Nat} : (List.replicate n true).all id = true := by
  rw [List.all_eq_true]
  intro x hx
  rw [(List.mem_replicate.mp hx).2]
  rfl
/-- the list of answers so far -/
def InvS (H0 : Hp) (D : Addr) (i : Nat) (H : Hp) : Prop := H D = some (.lst (List.replicate i (.bl true))) ∧ Same H0 H
theorem ok_same {n : Nat} (F : Fun K "_law_same" "_law_same" sSame f fd) (G : FnOk P w K mg base CX0 n f fd ["_law_found", "_law_due"] (spSame K n)) (bF : Binds K fd ["_law_found", "_law_due"] []) (kF : PySem.W.keepIn K (.ref f) = true) (mF : mg "_law_same" = some (.ref f)) (B : Bt mg) :
    FnOk P w K mg base CX0 (n + 1) f fd ["_law_found", "_law_due"] (spSame K (n + 1)) := by
  refine F.ok scS (fun vs H Q E h => ?_) (fun cdv A outer s H vs Q E hr h => ?_)
  · obtain ⟨v, u, rfl, _⟩ := h
    rfl
  obtain ⟨v, u, rfl, hA, q⟩ := h
  refine ⟨_, pss_cons (ps_if (pt_val (pe_callB call_isiT (by rfl) B.isi (by decide +kernel) (pa_cons (pv 1) (pa_cons (pe_tup (pa_cons (pe_bltn (v := .ty "list") (by rfl) B.lst (by decide +kernel) rfl) (pa_cons (pe_bltn (v := .ty "tuple") (by rfl) B.tup (by decide +kernel) rfl) pa_nil))) pa_nil))))
      (pss_cons (ps_if (PW.pt (pw_or (pt_cmpR op_ne (pe_callB call_isi (by rfl) B.isi (by decide +kernel) (pa_cons (pv 0) (pa_cons (pe_bltn (v := .ty "list") (by rfl) B.lst (by decide +kernel) rfl) pa_nil))) (pe_callB call_isi (by rfl) B.isi (by decide +kernel) (pa_cons (pv 1) (pa_cons (pe_bltn (v := .ty "list") (by rfl) B.lst (by decide +kernel) rfl) pa_nil))) (nomark _)) (pw_or1 (pt_cmpR op_ne (pe_callB call_isi (by rfl) B.isi (by decide +kernel) (pa_cons (pv 0) (pa_cons (pe_bltn (v := .ty "tuple") (by rfl) B.tup (by decide +kernel) rfl) pa_nil))) (pe_callB call_isi (by rfl) B.isi (by decide +kernel) (pa_cons (pv 1) (pa_cons (pe_bltn (v := .ty "tuple") (by rfl) B.tup (by decide +kernel) rfl) pa_nil))) (nomark _))))) (pss_one (ps_ret pe_bl)) pss_nil)
        (pss_one (ps_ret (pe_and (pe_cmpR op_eq (pe_callB call_len_seq (by rfl) B.len PySem.boot_len (pa_cons (pv 0) pa_nil)) (pe_callB call_len_seq (by rfl) B.len PySem.boot_len (pa_cons (pv 1) pa_nil)) (nomark _)) (pe_one (pe_callB (cr_all rfl) (by rfl) B.all (by decide +kernel) (pa_cons
          (pe_lc (own := [("_law_one", 2), ("_law_other", 3)]) (g := gTup K 2 (gCons (gName 2) (gCons (gName 3) gNil))) (tt := tYes) rfl scS.nd (RZ.pi_zipA (by rfl) B.zip (pa_cons (pv 0) (pa_cons (pv 1) pa_nil))) (blkOk_by (N := namesS) (sc := defScope sSame) (by decide +kernel))
            (fun _ _ _ _ _ => pg_tup rfl (pgs_cons (pg_name (i := 2) scS.nd rfl (Or.inl rfl)) (pgs_cons (pg_name (i := 3) scS.nd rfl (Or.inl rfl)) pgs_nil))) (fun _ _ _ _ _ => pts_nil)
            (fun _ _ _ _ _ => pe_call G hr rfl mF kF bF .nil pass0 (pa_cons (pv 2) (pa_cons (pv 3) pa_nil)))) pa_nil))))))) pss_nil)
    (pss_cons (ps_if (pt_val (pe_callB call_isi (by rfl) B.isi (by decide +kernel) (pa_cons (pv 1) (pa_cons (pe_bltn (v := .ty "dict") (by rfl) B.dict (by decide +kernel) rfl) pa_nil)))) (pss_cons ps_never (pss_one ps_never)) pss_nil)
    (pss_cons (ps_if (pt_val (pe_callB call_isi (by rfl) B.isi (by decide +kernel) (pa_cons (pv 1) (pa_cons (pe_bltn (v := .ty "int") (by rfl) B.int (by decide +kernel) rfl) pa_nil)))) (pss_one (ps_ret (pe_and (pe_callB call_isi (by rfl) B.isi (by decide +kernel) (pa_cons (pv 0) (pa_cons (pe_bltn (v := .ty "int") (by rfl) B.int (by decide +kernel) rfl) pa_nil))) (pe_and (pe_cmpR op_eq (pe_callB call_isi (by rfl) B.isi (by decide +kernel) (pa_cons (pv 0) (pa_cons (pe_bltn (v := .ty "bool") (by rfl) B.bool (by decide +kernel) rfl) pa_nil))) (pe_callB call_isi (by rfl) B.isi (by decide +kernel) (pa_cons (pv 1) (pa_cons (pe_bltn (v := .ty "bool") (by rfl) B.bool (by decide +kernel) rfl) pa_nil))) (nomark _)) (pe_one (pe_cmpR op_eq (pv 0) (pv 1) (nomark _))))))) pss_nil)
    (pss_one (ps_ret (pe_and (pe_cmpR op_eq (pv 0) (pv 1) (nomark _)) (pe_one (pe_cmpR op_isBl (pe_callB call_isiT (by rfl) B.isi (by decide +kernel) (pa_cons (pv 0) (pa_cons (pe_tup (pa_cons (pe_bltn (v := .ty "int") (by rfl) B.int (by decide +kernel) rfl) (pa_cons (pe_bltn (v := .ty "list") (by rfl) B.lst (by decide +kernel) rfl) (pa_cons (pe_bltn (v := .ty "tuple") (by rfl) B.tup (by decide +kernel) rfl) (pa_cons (pe_bltn (v := .ty "dict") (by rfl) B.dict (by decide +kernel) rfl) pa_nil))))) pa_nil))) pe_bl (nomark _)))))))), ?_⟩
  refine ⟨_, rfl, (by show 2 ≤ sizeLine; decide), fun t ht => ?_⟩
  have g1 : Same H (upd H t (.tup [.ty "list", .ty "tuple"])) := same_new ht _
  rcases hA with ⟨i, rfl, rfl⟩ | ⟨z, rfl, rfl⟩ | ⟨bb, rfl, rfl⟩ | ⟨a, b, xs, ys, rfl, rfl, h1, h2, h3, h4, h5⟩ | ⟨a, b, xs, ys, rfl, rfl, h1, h2, h3, h4, h5⟩
  · refine ⟨_, t, _, .type "int", [.type "list", .type "tuple"], false, rfl, upd_same, .cons (.ty _) (.cons (.ty _) .nil), .base (.int i), is_seq (by decide +kernel) (by decide +kernel), _, rfl, ?_⟩
    refine iteF ?_
    refine ⟨_, rfl, _, _, .type "int", .type "dict", false, rfl, .ty _, .base (.int i), kit_ty (by decide +kernel), _, rfl, ?_⟩
    refine iteF ?_
    refine ⟨_, rfl, _, _, .type "int", .type "int", true, rfl, .ty _, .base (.int i), kit_ty (by decide +kernel), _, rfl, ?_⟩
    refine iteT ?_
    refine ⟨_, rfl, _, _, .type "int", .type "int", true, rfl, .ty _, .base (.int i), kit_ty (by decide +kernel), _, rfl, ?_⟩
    refine iteT ?_
    refine ⟨_, rfl, _, _, .type "int", .type "bool", false, rfl, .ty _, .base (.int i), kit_ty (by decide +kernel), ?_⟩
    refine ⟨_, rfl, _, _, .type "int", .type "bool", false, rfl, .ty _, .base (.int i), kit_ty (by decide +kernel), ?_⟩
    refine ⟨rfl, _, rfl, iteC (decide_eq_true rfl) ?_⟩
    refine ⟨_, rfl, _, rfl, rfl, ?_⟩
    show Q (.bl (decide (V.int i = V.int i))) _
    rw [decide_eq_true rfl]
    exact q _ g1
  · refine ⟨_, t, _, .type "str", [.type "list", .type "tuple"], false, rfl, upd_same, .cons (.ty _) (.cons (.ty _) .nil), .base (.str z), is_seq (by decide +kernel) (by decide +kernel), _, rfl, ?_⟩
    refine iteF ?_
    refine ⟨_, rfl, _, _, .type "str", .type "dict", false, rfl, .ty _, .base (.str z), kit_ty (by decide +kernel), _, rfl, ?_⟩
    refine iteF ?_
    refine ⟨_, rfl, _, _, .type "str", .type "int", false, rfl, .ty _, .base (.str z), kit_ty (by decide +kernel), _, rfl, ?_⟩
    refine iteF ?_
    refine ⟨_, rfl, _, rfl, rfl, _, rfl, iteC (decide_eq_true rfl) ?_⟩
    refine ⟨_, rfl, (by show 4 ≤ sizeLine; decide), fun t2 ht2 => ?_⟩
    refine ⟨_, t2, _, .type "str", [.type "int", .type "list", .type "tuple", .type "dict"], false, rfl, upd_same, .cons (.ty _) (.cons (.ty _) (.cons (.ty _) (.cons (.ty _) .nil))), .base (.str z), is_four (by decide +kernel) (by decide +kernel) (by decide +kernel) (by decide +kernel), _, _, rfl, rfl, ?_⟩
    exact q _ (g1.trans (same_new ht2 _))
  · refine ⟨_, t, _, .type "bool", [.type "list", .type "tuple"], false, rfl, upd_same, .cons (.ty _) (.cons (.ty _) .nil), .base (.bl bb), is_seq (by decide +kernel) (by decide +kernel), _, rfl, ?_⟩
    refine iteF ?_
    refine ⟨_, rfl, _, _, .type "bool", .type "dict", false, rfl, .ty _, .base (.bl bb), kit_ty (by decide +kernel), _, rfl, ?_⟩
    refine iteF ?_
    refine ⟨_, rfl, _, _, .type "bool", .type "int", true, rfl, .ty _, .base (.bl bb), kit_ty (by decide +kernel), _, rfl, ?_⟩
    refine iteT ?_
    refine ⟨_, rfl, _, _, .type "bool", .type "int", true, rfl, .ty _, .base (.bl bb), kit_ty (by decide +kernel), _, rfl, ?_⟩
    refine iteT ?_
    refine ⟨_, rfl, _, _, .type "bool", .type "bool", true, rfl, .ty _, .base (.bl bb), kit_ty (by decide +kernel), ?_⟩
    refine ⟨_, rfl, _, _, .type "bool", .type "bool", true, rfl, .ty _, .base (.bl bb), kit_ty (by decide +kernel), ?_⟩
    refine ⟨rfl, _, rfl, iteC (decide_eq_true rfl) ?_⟩
    refine ⟨_, rfl, _, rfl, rfl, ?_⟩
    show Q (.bl (decide (V.bl bb = V.bl bb))) _
    rw [decide_eq_true rfl]
    exact q _ g1
  · refine ⟨_, t, _, .type "tuple", [.type "list", .type "tuple"], true, rfl, upd_same, .cons (.ty _) (.cons (.ty _) .nil), tyT (seqT g1 h2), is_seq (by decide +kernel) (by decide +kernel), _, rfl, ?_⟩
    refine iteT ?_
    have ka := seqT g1 h1
    have kb := seqT g1 h2
    refine ⟨_, rfl, _, _, .type "tuple", .type "list", false, rfl, .ty _, tyT ka, kit_ty (by decide +kernel), _, rfl, _, _, .type "tuple", .type "list", false, rfl, .ty _, tyT kb, kit_ty (by decide +kernel), rfl, _, rfl, ?_⟩
    refine iteN rfl ?_
    refine ⟨_, rfl, _, _, .type "tuple", .type "tuple", true, rfl, .ty _, tyT ka, kit_ty (by decide +kernel), _, rfl, _, _, .type "tuple", .type "tuple", true, rfl, .ty _, tyT kb, kit_ty (by decide +kernel), rfl, _, rfl, ?_⟩
    refine iteN rfl ?_
    refine ⟨_, rfl, a, xs, rfl, .inr (ka), _, rfl, b, ys, rfl, .inr (kb), rfl, _, rfl, iteC (decide_eq_true (by rw [h3])) ?_⟩
    refine ⟨_, rfl, _, rfl, a, b, xs, ys, rfl, .inr ⟨ka, kb, fun D hD => ?_⟩⟩
    have hD0 : H D = none := g1.free hD
    refine lc_it (walk_zipT (K := K) (a := a) (b := b) h3) (InvS H D) ⟨upd_same, same_over g1 hD0 _⟩ (fun i H' _ ⟨_, g⟩ => ⟨seqT g h1, seqT g h2⟩) ?_ ?_
    · rintro i v H' H'' hi ⟨hd, g⟩ ⟨T, x, y, rfl, hT, rfl, ex, ey⟩
      have gT : Same H' (upd H' T (.tup [x, y])) := same_new hT _
      have hi1 : i < 1001 := by omega
      refine ⟨T, [x, y], rfl, SqT.of upd_same, rfl, x, [y], rfl, y, [], rfl, rfl, ?_⟩
      refine ⟨rfl, kept ?_⟩
      refine ⟨_, rfl, _, rfl, x, y, rfl, (h5 i x y ex ey).mono (g.trans gT), fun H2 g2 => ?_⟩
      refine ⟨_, g2 _ _ (gT _ _ hd), by rw [List.length_replicate]; exact small1000 (by omega), by rw [upd_same, List.replicate_succ'], same_over ((g.trans gT).trans g2) hD0 _⟩
    · rintro H' ⟨hd, g⟩
      exact ⟨D, List.replicate xs.length true, rfl, SqL.of (by rw [hd, List.map_replicate]), by rw [all_true]; exact q _ g⟩
  · refine ⟨_, t, _, .type "list", [.type "list", .type "tuple"], true, rfl, upd_same, .cons (.ty _) (.cons (.ty _) .nil), .base (.lst (g1 _ _ h2)), is_seqL, _, rfl, ?_⟩
    refine iteT ?_
    have ka := g1 _ _ h1
    have kb := g1 _ _ h2
    refine ⟨_, rfl, _, _, .type "list", .type "list", true, rfl, .ty _, .base (.lst ka), kit_ty (by decide +kernel), _, rfl, _, _, .type "list", .type "list", true, rfl, .ty _, .base (.lst kb), kit_ty (by decide +kernel), rfl, _, rfl, ?_⟩
    refine iteN rfl ?_
    refine ⟨_, rfl, _, _, .type "list", .type "tuple", false, rfl, .ty _, .base (.lst ka), kit_ty (by decide +kernel), _, rfl, _, _, .type "list", .type "tuple", false, rfl, .ty _, .base (.lst kb), kit_ty (by decide +kernel), rfl, _, rfl, ?_⟩
    refine iteN rfl ?_
    refine ⟨_, rfl, a, xs, rfl, .inl (SqL.of ka), _, rfl, b, ys, rfl, .inl (SqL.of kb), rfl, _, rfl, iteC (decide_eq_true (by rw [h3])) ?_⟩
    refine ⟨_, rfl, _, rfl, a, b, xs, ys, rfl, .inl ⟨SqL.of ka, SqL.of kb, fun D hD => ?_⟩⟩
    have hD0 : H D = none := g1.free hD
    refine lc_it (walk_zip (K := K) (a := a) (b := b) (n := xs.length) (by omega)) (InvS H D) ⟨upd_same, same_over g1 hD0 _⟩ (fun i H' _ ⟨_, g⟩ => ⟨SqL.of (g _ _ h1), SqL.of (g _ _ h2)⟩) ?_ ?_
    · rintro i v H' H'' hi ⟨hd, g⟩ ⟨T, x, y, rfl, hT, rfl, ex, ey⟩
      have gT : Same H' (upd H' T (.tup [x, y])) := same_new hT _
      have hi1 : i < 1001 := by omega
      refine ⟨T, [x, y], rfl, SqT.of upd_same, rfl, x, [y], rfl, y, [], rfl, rfl, ?_⟩
      refine ⟨rfl, kept ?_⟩
      refine ⟨_, rfl, _, rfl, x, y, rfl, (h5 i x y ex ey).mono (g.trans gT), fun H2 g2 => ?_⟩
      refine ⟨_, g2 _ _ (gT _ _ hd), by rw [List.length_replicate]; exact small1000 (by omega), by rw [upd_same, List.replicate_succ'], same_over ((g.trans gT).trans g2) hD0 _⟩
    · rintro H' ⟨hd, g⟩
      exact ⟨D, List.replicate xs.length true, rfl, SqL.of (by rw [hd, List.map_replicate]), by rw [all_true]; exact q _ g⟩
abbrev sDraw : Stmt := topS 29
/-! the spring of numbers: a list of four, its first one a list of ints -/
def Spr (H : Hp) (st q : Addr) (b : Int) : Prop := ∃ (ns : List Int) (a c : Int), H st = some (.lst [.ref q, .int a, .int b, .int c]) ∧ H q = some (.lst (ns.map V.int)) ∧ 0 ≤ a ∧ 0 ≤ c ∧ c < 2147483647 ∧ ns.length ≤ 63
/-! all else is as it was -/
def SX (st q : Addr) (H H' : Hp) : Prop := ∀ (x : Addr) (o : HO), x ≠ st → x ≠ q → H x = some o → H' x = some o
theorem SX.refl {st q : Addr} {H : Hp} : SX st q H H := fun _ _ _ _ h => h
theorem SX.trans {st q : Addr} {H H1 H2 : Hp} (g : SX st q H H1) (g' : SX st q H1 H2) : SX st q H H2 := fun x o h1 h2 h => g' x o h1 h2 (g x o h1 h2 h)
theorem SX.of {st q : Addr} {H H' : Hp} (g : Same H H') : SX st q H H' := fun x o _ _ h => g x o h
theorem SX.st {st q : Addr} {H : Hp} {o : HO} : SX st q H (upd H st o) := fun x u h1 _ h => by rw [upd_ne h1]; exact h
theorem SX.q {st q : Addr} {H : Hp} {o : HO} : SX st q H (upd H q o) := fun x u _ h2 h => by rw [upd_ne h2]; exact h
theorem Spr.ne {H : Hp} {st q : Addr} {a b c : Int} {ns : List Int} (h1 : H st = some (.lst [.ref q, .int a, .int b, .int c])) (h2 : H q = some (.lst (ns.map V.int))) : q ≠ st := fun e => by
  rw [e, h1] at h2
  cases ns with
  | nil => cases h2
  | cons n r => cases h2
def spDraw : Sp := fun vs H Q _ => ∃ (st q : Addr) (b m : Int), vs = [.ref st, .int m] ∧ Spr H st q b ∧ 0 ≤ b ∧ b ≤ 1000 ∧ 0 < m ∧ m < 1073741824 ∧
  ∀ (r : Int) (H' : Hp), 0 ≤ r → r < m → Spr H' st q (b + 1) → SX st q H H' → Q (.int r) H'
theorem scD : FnScope ["_law_stream", "_law_many", "_law_digit", "_law_mixed"] ["_law_stream", "_law_many"] (defScope sDraw) := ⟨rfl, rfl, rfl, by decide +kernel, rfl, by decide +kernel, by decide +kernel⟩
theorem dp_ints {H : Hp} : ∀ ns : List Int, DpAll K H (ns.map V.int) (ns.map PyData.int)
  | [] => .nil
  | n :: r => .cons (.int n) (dp_ints r)
theorem first_ix {n : Nat} (h : 0 < n) : seqIndex? 0 n = some 0 := (ixN_seq (n := n) (i := 0) (j := 0) (by unfold ixN; rw [if_pos (by decide), if_pos (by omega)]; rfl)).1
theorem ok_draw (F : Fun K "_law_draw" "_law_draw" sDraw f fd) (B : Bt mg) : FnOk P w K mg base CX0 1 f fd ["_law_stream", "_law_many"] spDraw := by
  refine F.ok scD (fun vs H Q E h => ?_) (fun cdv A outer s H vs Q E hr h => ?_)
  · obtain ⟨st, q, b, m, rfl, _⟩ := h
    rfl
  obtain ⟨st, q, b, m, rfl, ⟨ns, a, c, h1, h2, ha, hc, hc2, hns⟩, hb0, hb1, hm0, hm1, k⟩ := h
  refine ⟨_, pss_cons (ps_asg (pe_op op_add (pe_ix ix_list (pv 0) pe_int (fun _ _ => rfl)) pe_int) (pg_sub (pv 0) pe_int set_list))
    (C8.pss_cut (ps_if (PW.pt (pw_and (pt_cmpR op_eq (pe_ix ix_list (pv 0) pe_int (fun _ _ => rfl)) pe_int (nomark _)) (pw_and1 (pt_cmpR (op_neD hr.units) (pe_ix ix_list (pv 0) pe_int (fun _ _ => rfl)) (pe_lst pa_nil) (nomark _))))) (pss_cons (ps_asg (pe_bm PySem.F.plainAttrs_list PySem.F.slot_list_pop PySem.F.type_list_pop mt_popAt (pe_ix ix_list (pv 0) pe_int (fun _ _ => rfl)) (pa_cons pe_int pa_nil)) (pg_sub (pv 0) pe_int set_list)) (pss_one (ps_if (pt_cmpR op_lt (pe_ix ix_list (pv 0) pe_int (fun _ _ => rfl)) (pe_op op_pow pe_int pe_int) (nomark _)) (pss_cons (ps_asg (pe_op op_mod (pe_callTy call_int1 (by rfl) B.int (by decide +kernel) (pa_cons (pe_op op_add (pe_op op_add (pe_op op_mul (pe_ix ix_list (pv 0) pe_int (fun _ _ => rfl)) pe_int) (pe_ix ix_list (pv 0) pe_int (fun _ _ => rfl))) pe_int) pa_nil)) pe_int) (pg_sub (pv 0) pe_int set_list)) (pss_one (ps_asg pe_int (pg_sub (pv 0) pe_int set_list)))) pss_nil))) pss_nil)
    (pss_cons (ps_if (pt_cmpR op_gt (pe_ix ix_list (pv 0) pe_int (fun _ _ => rfl)) pe_int (nomark _)) (pss_cons (ps_set (i := 2) scD.nd rfl (Or.inl rfl) (pe_op op_mod (pe_callTy call_int1 (by rfl) B.int (by decide +kernel) (pa_cons (pe_ix ix_list (pv 0) pe_int (fun _ _ => rfl)) pa_nil)) (pv 1))) (pss_cons (ps_asg (pe_op op_fdiv (pe_ix ix_list (pv 0) pe_int (fun _ _ => rfl)) (pv 1)) (pg_sub (pv 0) pe_int set_list)) (pss_one (ps_ret (pv 2))))) pss_nil)
    (pss_cons (ps_set (i := 3) scD.nd rfl (Or.inl rfl) (pe_op op_mod (pe_op op_pow (pe_op op_add (pe_op op_add (pe_ix ix_list (pv 0) pe_int (fun _ _ => rfl)) (pe_op op_mul pe_int (pe_ix ix_list (pv 0) pe_int (fun _ _ => rfl)))) pe_int) pe_int) pe_int))
    (pss_one (ps_ret (pe_op op_mod (pe_op op_mod (pe_op op_pow (pe_op op_add (pe_op op_add (pe_op op_mul (pv 3) pe_int) (pe_op op_mul (pe_op op_mul pe_int (pe_ix ix_list (pv 0) pe_int (fun _ _ => rfl))) (pe_ix ix_list (pv 0) pe_int (fun _ _ => rfl)))) pe_int) pe_int) pe_int) (pv 1))))))), ?_⟩
  have nqs : q ≠ st := Spr.ne h1 h2
  refine ⟨_, rfl, st, _, _, _, rfl, rfl, SqL.of h1, rfl, _, _, rfl, rfl, _, rfl, st, _, _, _, rfl, rfl, h1, rfl, ?_⟩
  have e1 : upd H st (.lst [.ref q, .int a, .int (b + 1), .int c]) st = some (.lst [.ref q, .int a, .int (b + 1), .int c]) := upd_same
  have e2 : upd H st (.lst [.ref q, .int a, .int (b + 1), .int c]) q = some (.lst (ns.map V.int)) := by rw [upd_ne nqs]; exact h2
  have gx : SX st q H (upd H st (.lst [.ref q, .int a, .int (b + 1), .int c])) := SX.st
  refine ⟨fun σ' H' => σ' = [some (.ref st), some (.int m), none, none] ∧ Spr H' st q (b + 1) ∧ SX st q H H', ?_, ?_⟩
  · refine ⟨_, rfl, st, _, _, _, rfl, rfl, SqL.of e1, rfl, rfl, _, rfl, ?_⟩
    refine ite2 (fun ca => ?_) (fun _ => ⟨rfl, ⟨ns, a, c, e1, e2, ha, hc, hc2, hns⟩, gx⟩)
    have ca0 : a = 0 := by
      have z := of_decide_eq_true ca
      cases z
      rfl
    refine ⟨_, rfl, st, _, _, _, rfl, rfl, SqL.of e1, rfl, Nat.zero_le _, fun l hl => ?_⟩
    have g2 := same_new hl (.lst [])
    have f1 := g2 _ _ e1
    have f2 := g2 _ _ e2
    have gx2 := gx.trans (.of g2)
    cases ns with
    | nil =>
      refine ⟨.list [], .list [], .lst (SqL.of f2) .nil, .lst (SqL.of upd_same) .nil, by decide +kernel, by decide +kernel, _, rfl, ?_⟩
      refine iteN (by decide +kernel) ⟨rfl, ⟨[], a, c, f1, f2, ha, hc, hc2, hns⟩, gx2⟩
    | cons n r =>
      refine ⟨.list ((n :: r).map PyData.int), .list [], .lst (SqL.of f2) (dp_ints _), .lst (SqL.of upd_same) .nil, PySem.W.ke_shaped_ints _, by decide +kernel, _, rfl, ?_⟩
      refine iteC rfl ?_
      refine ⟨_, rfl, st, _, _, _, rfl, rfl, SqL.of f1, rfl, .inl ⟨rfl, _, SqL.of f2⟩, q, _, 0, 0, _, rfl, rfl, f2, by decide, by decide, first_ix (by simp), rfl, ?_⟩
      have p1 := (upd_ne (o := .lst (r.map V.int)) nqs.symm).trans f1
      have gx3 := gx2.trans (SX.q (o := .lst (r.map V.int)))
      refine ⟨_, rfl, st, _, _, _, rfl, rfl, p1, rfl, ?_⟩
      have gx4 := gx3.trans (SX.st (o := .lst [.ref q, .int n, .int (b + 1), .int c]))
      refine ⟨_, rfl, st, _, _, _, rfl, rfl, SqL.of upd_same, rfl, _, _, rfl, rfl, ⟨by decide, by decide, by decide⟩, _, _, rfl, rfl, _, rfl, ?_⟩
      refine ite2 (fun cn => ?_) (fun cn => ?_)
      · refine ⟨_, rfl, st, _, _, _, rfl, rfl, SqL.of upd_same, rfl, _, _, rfl, rfl, .inr ⟨by decide, by decide⟩, _, rfl, st, _, _, _, rfl, rfl, SqL.of upd_same, rfl, _, _, rfl, rfl, _, _, rfl, rfl, .inl ⟨_, rfl, ?_⟩⟩
        refine ⟨_, _, rfl, rfl, (by show (0 : Int) < 2147483647; decide), _, rfl, st, _, _, _, rfl, rfl, upd_same, rfl, _, rfl, st, _, _, _, rfl, rfl, upd_same, rfl, ?_⟩
        refine ⟨rfl, ⟨r, 0, (c * 31 + n + 7) % 2147483647, upd_same, ?_, by decide, Int.emod_nonneg _ (by decide), Int.emod_lt_of_pos _ (by decide), by simp at hns; omega⟩, (gx4.trans SX.st).trans SX.st⟩
        rw [upd_ne nqs, upd_ne nqs, upd_ne nqs, upd_same]
        rfl
      · have cn1 : ¬ n < (10 : Int) ^ 18 := of_decide_eq_false (Bool.eq_false_iff.mpr cn)
        refine ⟨rfl, ⟨r, n, c, upd_same, ?_, by omega, hc, hc2, by simp at hns; omega⟩, gx4⟩
        rw [upd_ne nqs, upd_same]
        rfl
  · rintro σ' H' ⟨rfl, ⟨ns', a', c', d1, d2, ha', hc', hc2', hns'⟩, g'⟩
    refine ⟨_, rfl, st, _, _, _, rfl, rfl, SqL.of d1, rfl, _, _, rfl, rfl, _, rfl, ?_⟩
    refine ite2 (fun cp => ?_) (fun cp => ?_)
    · have cp1 : a' > 0 := of_decide_eq_true cp
      refine ⟨_, rfl, st, _, _, _, rfl, rfl, SqL.of d1, rfl, .inl ⟨_, rfl, ?_⟩⟩
      refine ⟨_, rfl, _, _, rfl, rfl, hm0, _, rfl, st, _, _, _, rfl, rfl, SqL.of d1, rfl, _, rfl, _, _, rfl, rfl, ⟨hm0, hm1⟩, _, rfl, st, _, _, _, rfl, rfl, d1, rfl, _, rfl, ?_⟩
      exact k _ _ (Int.emod_nonneg _ (by omega)) (Int.emod_lt_of_pos _ hm0) ⟨ns', a' / m, c', upd_same, by rw [upd_ne nqs]; exact d2, Int.ediv_nonneg ha' (by omega), hc', hc2', hns'⟩ (g'.trans SX.st)
    · refine ⟨_, rfl, st, _, _, _, rfl, rfl, SqL.of d1, rfl, _, rfl, st, _, _, _, rfl, rfl, SqL.of d1, rfl, _, _, rfl, rfl, .inl ⟨by decide, by decide⟩, _, _, rfl, rfl, _, _, rfl, rfl, _, _, rfl, rfl, ⟨by decide, by decide, ?_⟩, _, _, rfl, rfl, (by show (0 : Int) < 2147483629; decide), ?_⟩
      · show (c' + 104729 * (b + 1) + 17).natAbs < 18446744073709551616
        omega
      have x0 : 0 ≤ (c' + 104729 * (b + 1) + 17) ^ (5 : Int).toNat % 2147483629 := Int.emod_nonneg _ (by decide)
      have x1 : (c' + 104729 * (b + 1) + 17) ^ (5 : Int).toNat % 2147483629 < 2147483629 := Int.emod_lt_of_pos _ (by decide)
      refine ⟨_, rfl, _, _, rfl, rfl, .inr ⟨by decide, by decide⟩, _, rfl, st, _, _, _, rfl, rfl, SqL.of d1, rfl, _, _, rfl, rfl, .inl ⟨by decide, by decide⟩, _, rfl, st, _, _, _, rfl, rfl, SqL.of d1, rfl, _, _, rfl, rfl, .inr ⟨?_, ?_⟩, _, _, rfl, rfl, _, _, rfl, rfl, _, _, rfl, rfl, ⟨by decide, by decide, ?_⟩, _, _, rfl, rfl, (by show (0 : Int) < 1000000007; decide), _, rfl, _, _, rfl, rfl, hm0, ?_⟩
      · show -(18446744073709551616 : Int) < b + 1
        omega
      · show b + 1 < (18446744073709551616 : Int)
        omega
      · show ((c' + 104729 * (b + 1) + 17) ^ (5 : Int).toNat % 2147483629 * 48271 + 40503 * (b + 1) * (b + 1) + 13).natAbs < 18446744073709551616
        have y0 : 0 ≤ 40503 * (b + 1) * (b + 1) := Int.mul_nonneg (by omega) (by omega)
        have y1 : 40503 * (b + 1) * (b + 1) ≤ 40543503 * 1001 := Int.mul_le_mul (by omega) (by omega) (by omega) (by omega)
        revert x0 x1 y0 y1
        generalize (c' + 104729 * (b + 1) + 17) ^ (5 : Int).toNat % 2147483629 = x
        generalize 40503 * (b + 1) * (b + 1) = y
        intro x0 x1 y0 y1
        omega
      · exact k _ _ (Int.emod_nonneg _ (by omega)) (Int.emod_lt_of_pos _ hm0) ⟨ns', a', c', d1, d2, ha', hc', hc2', hns'⟩ g'
theorem Spr.same {H H' : Hp} {st q : Addr} {b : Int} (g : Same H H') : Spr H st q b → Spr H' st q b
  | ⟨ns, a, c, h1, h2, r⟩ => ⟨ns, a, c, g _ _ h1, g _ _ h2, r⟩
theorem TK.sx {H H' : Hp} {st q : Addr} {b : Int} (s : Spr H st q b) (g : SX st q H H') : TK K H H' := by
  obtain ⟨ns, a, c, h1, h2, _⟩ := s
  exact .but fun t o no h => g _ _ (fun e => by rw [e, h1] at h; exact no _ (Option.some.inj h).symm) (fun e => by rw [e, h2] at h; exact no _ (Option.some.inj h).symm) h
abbrev sStart : Stmt := topS 30
abbrev sPick : Stmt := topS 31
def spStart (K : PySem.W.Frag) : Sp := fun vs H Q _ => ∃ (a : Addr) (ns : List Int), vs = [.ref a] ∧ SqL K H a (ns.map V.int) ∧ ns.length ≤ 63 ∧
  ∀ (st q : Addr) (H' : Hp), Same H H' → Spr H' st q 0 → Q (.ref st) H'
theorem scT : FnScope ["_law_script"] ["_law_script"] (defScope sStart) := ⟨rfl, rfl, rfl, by decide +kernel, rfl, by decide +kernel, by decide +kernel⟩
theorem ok_start (F : Fun K "_law_start" "_law_start" sStart f fd) (B : Bt mg) : FnOk P w K mg base CX0 1 f fd ["_law_script"] (spStart K) := by
  refine F.ok scT (fun vs H Q E h => ?_) (fun cdv A outer s H vs Q E hr h => ?_)
  · obtain ⟨a, ns, rfl, _⟩ := h
    rfl
  obtain ⟨a, ns, rfl, hS, hn, k⟩ := h
  refine ⟨_, pss_one (ps_ret (pe_lst (pa_cons (pe_callTy call_list_of (by rfl) B.lst (by decide +kernel) (pa_cons (pv 0) pa_nil)) (pa_cons pe_int (pa_cons pe_int (pa_cons pe_int pa_nil)))))), ?_⟩
  refine ⟨_, rfl, a, _, rfl, .inl hS, fun l hl => ?_⟩
  have g1 := same_new hl (.lst (ns.map V.int))
  refine ⟨(by show 4 ≤ sizeLine; decide), fun t ht => ?_⟩
  have g2 := same_new ht (.lst [.ref l, .int 0, .int 0, .int 0])
  exact k t l _ (g1.trans g2) ⟨ns, 0, 0, upd_same, g2 _ _ upd_same, by decide, by decide, by decide, hn⟩
def spPick (K : PySem.W.Frag) : Sp := fun vs H Q _ => ∃ (st q p : Addr) (b : Int) (xs : List V), vs = [.ref st, .ref p] ∧ Spr H st q b ∧ 0 ≤ b ∧ b ≤ 1000 ∧ H p = some (.lst xs) ∧ p ≠ st ∧ p ≠ q ∧ 0 < xs.length ∧ xs.length ≤ 1000 ∧
  ∀ (v : V) (H' : Hp), v ∈ xs → Spr H' st q (b + 1) → SX st q H H' → Q v H'
theorem scP : FnScope ["_law_stream", "_law_some"] ["_law_stream", "_law_some"] (defScope sPick) := ⟨rfl, rfl, rfl, by decide +kernel, rfl, by decide +kernel, by decide +kernel⟩
theorem at_int {xs : List V} {r : Int} (h0 : 0 ≤ r) (h1 : r < (xs.length : Int)) : ∃ v, v ∈ xs ∧ atI xs r = some v := by
  have hk : r.toNat < xs.length := by omega
  refine ⟨xs[r.toNat], List.getElem_mem hk, ?_⟩
  have q := atI_nat (xs := xs) (j := r.toNat) (v := xs[r.toNat]) (List.getElem?_eq_getElem hk)
  rwa [show ((r.toNat : Nat) : Int) = r by omega] at q
theorem ok_pick (F : Fun K "_law_pick" "_law_pick" sPick f fd) {g : Addr} {gd : FuncData} (G : FnOk P w K mg base CX0 1 g gd ["_law_stream", "_law_many"] spDraw) (bG : Binds K gd ["_law_stream", "_law_many"] []) (kG : PySem.W.keepIn K (.ref g) = true) (mG : mg "_law_draw" = some (.ref g)) (B : Bt mg) :
    FnOk P w K mg base CX0 2 f fd ["_law_stream", "_law_some"] (spPick K) := by
  refine F.ok scP (fun vs H Q E h => ?_) (fun cdv A outer s H vs Q E hr h => ?_)
  · obtain ⟨st, q, p, b, xs, rfl, _⟩ := h
    rfl
  obtain ⟨st, q, p, b, xs, rfl, hs, hb0, hb1, hp, n1, n2, hx0, hx1, k⟩ := h
  refine ⟨_, pss_one (ps_ret (pe_ix ix_list (pv 1) (pe_call G hr rfl mG kG bG .nil pass0 (pa_cons (pv 0) (pa_cons (pe_callB call_len_seq (by rfl) B.len PySem.boot_len (pa_cons (pv 1) pa_nil)) pa_nil))) (fun _ _ => rfl))), ?_⟩
  refine ⟨_, rfl, _, rfl, _, rfl, p, xs, rfl, .inl (SqL.of hp), st, q, b, _, rfl, hs, hb0, hb1, by omega, by omega, fun r H' r0 r1 hs' gx => ?_⟩
  obtain ⟨v, hv, ev⟩ := at_int r0 r1
  exact ⟨p, xs, r, v, rfl, rfl, SqL.of (gx _ _ n1 n2 hp), ev, k v H' hv hs' gx⟩
theorem all_nil {p : V → Prop} : ∀ x ∈ ([] : List V), p x := fun x h => by cases h
theorem all_cons {p : V → Prop} {a : V} {l : List V} (h : p a) (t : ∀ x ∈ l, p x) : ∀ x ∈ a :: l, p x := fun x q => by
  cases q with
  | head => exact h
  | tail _ q => exact t x q
end
end Lw
/-! operators of the program's own classes: x op y, x op= y, op x by the class's own defs; order of data -/
namespace OwB
open PySem PySem.Spec PyProof.Rows L2
section
variable {X : Cx} {CX : CXT} {k : Nat} {g C : Addr} {gd : FuncData} {ps : List Str} {sp : Sp} {E : XK}
theorem inst_of {pins : List (Addr × Obj)} {σ : L2.St} {H : Hp} {s : Shared} {a dx : Addr} {fs : List (Str × V)} (I : Inv X pins σ H s) (h : H a = some (.ins C dx fs)) : ∃ od, PySem.W.InstAt s.heap a (PySem.W.instObj C dx) C (some od) := by
  obtain ⟨mA, O, _⟩ := ins_get I.hok h
  obtain ⟨od, J, _⟩ := O.look
  exact ⟨od, J⟩
theorem back_of {pins : List (Addr × Obj)} {σ : L2.St} {Q : VK} {v : Value} {s' : Shared} (h : EP X pins σ Q v s') : PySem.W.CmpBack (EP X pins σ Q) v s' := by
  obtain ⟨z, H', I', rz, qz⟩ := h
  exact SlX.cmpback rz ⟨z, H', I', rz, qz⟩
/-- the def at g stands for the class at C under the name x -/
structure OpD (K : PySem.W.Frag) (C g : Addr) (x : Str) : Prop where
  at_ : PySem.W.findIn K (.ref C) x = some (some (.ref g))
  fn : PySem.W.isFn K (.ref g) = true
/-- x op y, both instances of the class at C -/
def rOwnI (C : Addr) (sp : Sp) (E : XK) : R2 := fun x y H Q => ∃ a b dx dy fs gs, x = .ref a ∧ y = .ref b ∧ H a = some (.ins C dx fs) ∧ H b = some (.ins C dy gs) ∧ sp [x, y] H Q E
theorem op_ownB {op : Operator} (hc : PySem.W.selfFirst X.K C = true) (D : OpD X.K C g (PySem.dunder op.info.2)) (F : FnOk X.prog X.w X.K X.mg X.base CX k g gd ps sp) (hr : Room k X.A) (hb : Binds X.K gd ps []) (hx : Passes CX X E) :
    OpR X (binaryOp op) (rOwnI C sp E) := by
  intro pins s σ H x y v u Q I rx ry h
  obtain ⟨a, b, dx, dy, fs, gs, rfl, rfl, ha, hb', q⟩ := h
  cases (show v = Value.ref a from rx)
  cases (show u = Value.ref b from ry)
  obtain ⟨od, J⟩ := inst_of I ha
  obtain ⟨od', J'⟩ := inst_of I hb'
  obtain ⟨m, hF⟩ := I.fr
  refine PySem.W.binop_K hF I.ok.mod.kin J J'.type hc D.at_ D.fn ?_
  exact wpAny_mono (run_fn (us := [.ref a, .ref b]) (vs := [.ref a, .ref b]) F hr hb .nil hx I (.cons rfl (.cons rfl .nil)) q) (fun w s' z => back_of z) fun _ _ x => x
theorem op_ownC {op : CmpOp} (hop : ∀ a b, compareOp op a b = richCompare op a b) (D : OpD X.K C g (cmpInfo op).2.1) (F : FnOk X.prog X.w X.K X.mg X.base CX k g gd ps sp) (hr : Room k X.A) (hb : Binds X.K gd ps []) (hx : Passes CX X E) :
    OpR X (compareOp op) (rOwnI C sp E) := by
  intro pins s σ H x y v u Q I rx ry h
  obtain ⟨a, b, dx, dy, fs, gs, rfl, rfl, ha, hb', q⟩ := h
  cases (show v = Value.ref a from rx)
  cases (show u = Value.ref b from ry)
  obtain ⟨od, J⟩ := inst_of I ha
  obtain ⟨od', J'⟩ := inst_of I hb'
  obtain ⟨m, hF⟩ := I.fr
  rw [hop]
  refine PySem.W.cmp_K (op := op) (tb := .ref C) hr.units0 hF I.ok.mod.kin J J'.type ?_ D.at_ D.fn ?_
  · unfold PySem.W.notFirst
    rw [beq_self_eq_true, Bool.true_or]
  exact wpAny_mono (run_fn (us := [.ref a, .ref b]) (vs := [.ref a, .ref b]) F hr hb .nil hx I (.cons rfl (.cons rfl .nil)) q) (fun w s' z => back_of z) fun _ _ x => x
/-- x op= y, x an instance of the class at C -/
def rOwnA (C : Addr) (sp : Sp) (E : XK) : R2 := fun x y H Q => ∃ a dx fs, x = .ref a ∧ H a = some (.ins C dx fs) ∧ sp [x, y] H Q E
theorem op_ownA {op : Operator} (hc : PySem.W.selfFirst X.K C = true) (D : OpD X.K C g (PySem.dunderI op.info.2)) (F : FnOk X.prog X.w X.K X.mg X.base CX k g gd ps sp) (hr : Room k X.A) (hb : Binds X.K gd ps []) (hx : Passes CX X E) :
    OpR X (inplaceOp op) (rOwnA C sp E) := by
  intro pins s σ H x y v u Q I rx ry h
  obtain ⟨a, dx, fs, rfl, ha, q⟩ := h
  cases (show v = Value.ref a from rx)
  obtain ⟨od, J⟩ := inst_of I ha
  obtain ⟨m, hF⟩ := I.fr
  refine PySem.W.ksp_inplace hF I.ok.mod.kin J hc D.at_ D.fn ?_
  exact wpAny_mono (run_fn (us := [.ref a, u]) (vs := [.ref a, y]) F hr hb .nil hx I (.cons rfl (.cons ry .nil)) q) (fun w s' z => back_of z) fun _ _ x => x
/-- op x -/
def rOwnU (C : Addr) (sp : Sp) (E : XK) : V → Hp → VK → Prop := fun x H Q => ∃ a dx fs, x = .ref a ∧ H a = some (.ins C dx fs) ∧ sp [x] H Q E
theorem un_own_neg (D : OpD X.K C g "__neg__") (F : FnOk X.prog X.w X.K X.mg X.base CX k g gd ps sp) (hr : Room k X.A) (hb : Binds X.K gd ps []) (hx : Passes CX X E) : UnR X (unaryOp .USub) (rOwnU C sp E) := by
  intro pins s σ H x v Q I rx h
  obtain ⟨a, dx, fs, rfl, ha, q⟩ := h
  cases (show v = Value.ref a from rx)
  obtain ⟨od, J⟩ := inst_of I ha
  obtain ⟨m, hF⟩ := I.fr
  exact PySem.W.ksp_neg hF I.ok.mod.kin J D.at_ D.fn (run_fn (us := [.ref a]) (vs := [.ref a]) F hr hb .nil hx I (.cons rfl .nil) q)
theorem un_own_pos (D : OpD X.K C g "__pos__") (F : FnOk X.prog X.w X.K X.mg X.base CX k g gd ps sp) (hr : Room k X.A) (hb : Binds X.K gd ps []) (hx : Passes CX X E) : UnR X (unaryOp .UAdd) (rOwnU C sp E) := by
  intro pins s σ H x v Q I rx h
  obtain ⟨a, dx, fs, rfl, ha, q⟩ := h
  cases (show v = Value.ref a from rx)
  obtain ⟨od, J⟩ := inst_of I ha
  obtain ⟨m, hF⟩ := I.fr
  exact PySem.W.ksp_pos hF I.ok.mod.kin J D.at_ D.fn (run_fn (us := [.ref a]) (vs := [.ref a]) F hr hb .nil hx I (.cons rfl .nil) q)
theorem un_own_inv (D : OpD X.K C g "__invert__") (F : FnOk X.prog X.w X.K X.mg X.base CX k g gd ps sp) (hr : Room k X.A) (hb : Binds X.K gd ps []) (hx : Passes CX X E) : UnR X (unaryOp .Invert) (rOwnU C sp E) := by
  intro pins s σ H x v Q I rx h
  obtain ⟨a, dx, fs, rfl, ha, q⟩ := h
  cases (show v = Value.ref a from rx)
  obtain ⟨od, J⟩ := inst_of I ha
  obtain ⟨m, hF⟩ := I.fr
  exact PySem.W.ksp_inv hF I.ok.mod.kin J D.at_ D.fn (run_fn (us := [.ref a]) (vs := [.ref a]) F hr hb .nil hx I (.cons rfl .nil) q)
/-- x op i, x an instance, i an int -/
def rOwnN (C : Addr) (sp : Sp) (E : XK) : R2 := fun x y H Q => ∃ a dx fs i, x = .ref a ∧ y = .int i ∧ H a = some (.ins C dx fs) ∧ sp [x, y] H Q E
theorem op_ownN {op : Operator} {fo ro rc : Option Value} (hc : PySem.W.selfFirst X.K C = true) (D : OpD X.K C g (PySem.dunder op.info.2)) (hr' : PySem.W.findIn X.K (.ref C) (PySem.dunderR op.info.2) = some rc) (hp : rc = none ∨ ∃ g : Addr, rc = some (.ref g))
    (h1 : PySem.W.findIn X.K (.type "int") (PySem.dunder op.info.2) = some fo) (h2 : PySem.W.findIn X.K (.type "int") (PySem.dunderR op.info.2) = some ro) (hsub : PySem.W.subIn X.K (.type "int") (.ref C) = some false)
    (F : FnOk X.prog X.w X.K X.mg X.base CX k g gd ps sp) (hr : Room k X.A) (hb : Binds X.K gd ps []) (hx : Passes CX X E) : OpR X (binaryOp op) (rOwnN C sp E) := by
  intro pins s σ H x y v u Q I rx ry h
  obtain ⟨a, dx, fs, i, rfl, rfl, ha, q⟩ := h
  cases (show v = Value.ref a from rx)
  obtain ⟨t, rfl⟩ := (show ∃ t, u = Value.int i t from ry)
  obtain ⟨od, J⟩ := inst_of I ha
  obtain ⟨m, hF⟩ := I.fr
  refine PySem.W.ksp_binT (b := .int i t) hF I.ok.mod.kin J rfl hc D.at_ D.fn hr' hp h1 h2 hsub ?_
  exact wpAny_mono (run_fn (us := [.ref a, .int i t]) (vs := [.ref a, .int i]) F hr hb .nil hx I (.cons rfl (.cons ⟨t, rfl⟩ .nil)) q) (fun w s' z => back_of z) fun _ _ x => x
end
/-! ### the order of data -/
section
variable {X : Cx}
def rCmpD (K : PySem.W.Frag) (p : PyData → PyData → Bool) : R2 := fun x y H Q => ∃ d e, Dp K H x d ∧ Dp K H y e ∧ PySem.W.alike d e = true ∧ d ≠ .none ∧ min d.depth e.depth ≤ 32 ∧ Q (.bl (p d e)) H
theorem op_ltD (hu : X.A.units + 64 < cLine) : OpR X (compareOp .Lt) (rCmpD X.K fun d e => PySem.W.dataLt d e) := by
  intro pins s σ H x y v u Q I rx ry ⟨d, e, hd, he, ha, hn, hl, q⟩
  obtain ⟨as, r1⟩ := Dp.reads I d x v hd rx
  obtain ⟨bs, r2⟩ := Dp.reads I e y u he ry
  exact PySem.W.lt_data r1 r2 ha hn (by omega) ⟨.bl _, H, I, rfl, q⟩
theorem op_gtD (hu : X.A.units + 64 < cLine) : OpR X (compareOp .Gt) (rCmpD X.K fun d e => PySem.W.dataLt e d) := by
  intro pins s σ H x y v u Q I rx ry ⟨d, e, hd, he, ha, hn, hl, q⟩
  obtain ⟨as, r1⟩ := Dp.reads I d x v hd rx
  obtain ⟨bs, r2⟩ := Dp.reads I e y u he ry
  exact PySem.W.gt_data r1 r2 ha hn (by omega) ⟨.bl _, H, I, rfl, q⟩
theorem op_leD (hu : X.A.units + 64 < cLine) : OpR X (compareOp .LtE) (rCmpD X.K fun d e => !PySem.W.dataLt e d) := by
  intro pins s σ H x y v u Q I rx ry ⟨d, e, hd, he, ha, hn, hl, q⟩
  obtain ⟨as, r1⟩ := Dp.reads I d x v hd rx
  obtain ⟨bs, r2⟩ := Dp.reads I e y u he ry
  exact PySem.W.le_data r1 r2 ha hn (by omega) ⟨.bl _, H, I, rfl, q⟩
theorem op_geD (hu : X.A.units + 64 < cLine) : OpR X (compareOp .GtE) (rCmpD X.K fun d e => !PySem.W.dataLt d e) := by
  intro pins s σ H x y v u Q I rx ry ⟨d, e, hd, he, ha, hn, hl, q⟩
  obtain ⟨as, r1⟩ := Dp.reads I d x v hd rx
  obtain ⟨bs, r2⟩ := Dp.reads I e y u he ry
  exact PySem.W.ge_data r1 r2 ha hn (by omega) ⟨.bl _, H, I, rfl, q⟩
end
end OwB
/-! sets of texts: set(list of texts), sorted(such a set) -/
namespace TxS
open PySem PySem.Spec PyProof.Rows L2
abbrev SD := PySem.Froz.SD
abbrev sOb (D : SD) : Obj := PySem.Froz.sObj "set" D
/-- what a set's table holds: the texts l; it rises and can be walked -/
structure Pay (P : Program) (w : World) (D : SD) (l : List Str) : Prop where
  tx : PySem.Froz.TxOk P w D l
  ris : Ris D.2.2.place.toList
  led : w.params.followText "set-order" = true ∨ D.2.2.led = true
  nd : l.Nodup
section
variable {P : Program} {w : World} {A : Around} {E : Value → Shared → Prop} {s : Shared} {D : SD} {l : List Str} {k : Str} {a : Addr}
theorem tail_ris {ep : Nat} {es1 : Array (Int × Value)} {t2 : SetTable} {wd : Bool} (r : Ris t2.place.toList) : Ris (PySem.Froz.tailTx ep es1 t2 wd).2.2.place.toList := by
  unfold PySem.Froz.tailTx
  by_cases c : (!wd && t2.tooFull) = true
  · rw [if_pos c]
    exact relayAll_ris _ _ _
  · rw [if_neg c]
    exact r
theorem tail_led {ep : Nat} {es1 : Array (Int × Value)} {t2 : SetTable} {wd : Bool} (r : t2.led = true) : (PySem.Froz.tailTx ep es1 t2 wd).2.2.led = true := by
  unfold PySem.Froz.tailTx
  by_cases c : (!wd && t2.tooFull) = true
  · rw [if_pos c]
    exact (relayAll_led _ _ _).trans r
  · rw [if_neg c]
    exact r
theorem Pay.add (F : Pay P w D l) (hk : k ∉ l) (u : Tok) : Pay P w (PySem.Froz.addTx (hashStr w k) (.str k u) D) (k :: l) := by
  refine ⟨PySem.Froz.add_ok u F.tx, ?_, ?_, List.nodup_cons.mpr ⟨hk, F.nd⟩⟩
  · have r1 := layNew_ris D.2.2 D.1 (hashStr w k) (.str k u) F.ris
    refine tail_ris ?_
    by_cases c : (layNew D.2.2 D.1 (hashStr w k) (.str k u)).2.1.plain = true
    · rw [if_pos c]
      exact r1
    · rw [if_neg c]
      exact r1
  · refine F.led.imp id fun z => ?_
    have r1 := (layNew_led D.2.2 D.1 (hashStr w k) (.str k u)).trans z
    refine tail_led ?_
    by_cases c : (layNew D.2.2 D.1 (hashStr w k) (.str k u)).2.1.plain = true
    · rw [if_pos c]
      exact r1
    · rw [if_neg c]
      exact r1
theorem add_old {T : String} {u : Tok} {Q : Bool → Shared → Prop} (ho : s.heap.get? a = some (PySem.Froz.sObj T D)) (F : PySem.Froz.TxOk P w D l) (hk : k ∈ l) (hb : l.length < scanBound) (h : Q false s) :
    wpAny (model P w) A (setAddHashed a (.str k u) (hashStr w k)) Q E s := by
  obtain ⟨es, ep, t⟩ := D
  have hd : (PySem.Froz.sObj T (es, ep, t)).data = .set es ep t := rfl
  have hf : t.fits es.size = true := F.fit
  have hel : ElemsOf (PySem.strKind P w) es.toList := F.el
  have hsz : es.size = l.length := F.sz
  have hkey : (PySem.strKind P w).is k (.str k u) = true := PySem.Froz.is_str k u
  unfold setAddHashed setAddHashedIn
  refine wpAny_holding (wpAny_bind (wpAny_setState_of ho hd hf ?_))
  dsimp only
  rw [byScan_of (knd := PySem.strKind P w) rfl (by omega) hel]
  simp only [↓reduceIte]
  unfold setAddByScan
  refine wpAny_bind (wpAny_bind (wpAny_rule (wpAny_bind (wpAny_setScan_of (knd := PySem.strKind P w) (k := k) hkey ho hd hf hel ?_))))
  cases hr : List.findIdx? (fun e => (PySem.strKind P w).is k e.2) es.toList with
  | none =>
    obtain ⟨e, he, q⟩ := (F.mem k).mp hk
    have z := List.findIdx?_eq_none_iff.mp hr e he
    rw [q] at z
    cases z
  | some j =>
    dsimp only
    exact wpAny_pure (wpAny_pure h)
/-- one add: the text is there behind it -/
theorem add_one {u : Tok} {Q : Bool → Shared → Prop} (ho : s.heap.get? a = some (sOb D)) (F : Pay P w D l) (hb : l.length + 1 < scanBound)
    (h : ∀ (b : Bool) (h' : Heap) (D' : SD) (l' : List Str), Heap.SameBut a s.heap h' → h'.get? a = some (sOb D') → Pay P w D' l' → (∀ z, z ∈ l' ↔ z = k ∨ z ∈ l) → l'.length ≤ l.length + 1 → Q b { s with heap := h' }) :
    wpAny (model P w) A (setAddHashed a (.str k u) (hashStr w k)) Q E s := by
  by_cases hk : k ∈ l
  · exact add_old ho F.tx hk (by omega) (h false s.heap D l (Heap.SameBut.refl a s.heap) ho F (fun z => ⟨.inr, fun q => q.elim (fun e => e ▸ hk) id⟩) (Nat.le_succ _))
  · refine PySem.Froz.add_x ho F.tx hk hb (h true _ (PySem.Froz.addTx (hashStr w k) (.str k u) D) (k :: l) (Heap.SameBut.update s.heap a _) (PySem.Froz.get_upd _ ho rfl) (F.add hk u) (fun z => ?_) (Nat.le_refl _))
    rw [List.mem_cons]
/-- the loop of set(..) over texts -/
theorem upd_texts {R : Result → Shared → Prop} {I : Addr} {fp wr : List Addr} {G : Array GenState → Array GenState → Prop} {n : Nat} {Pv : Nat → Value → Prop} {St : Nat → Shared → Prop}
    (W : WalksS P w A.in1 I fp wr G n Pv St) (S : Addr) (hSf : S ∉ fp) (zs : List Str) (hn : n = zs.length) (hb : zs.length + 1 < scanBound) (hval : ∀ i v, Pv i v → ∃ z t, zs[i]? = some z ∧ v = .str z t) :
    ∀ (k i : Nat) (s : Shared), n - i = k → i ≤ n → St i s → (∃ D l, s.heap.get? S = some (sOb D) ∧ Pay P w D l ∧ (∀ z, z ∈ l ↔ z ∈ zs.take i) ∧ l.length ≤ i) →
      (∀ s', Moved (S :: wr) G s s' → (∃ D l, s'.heap.get? S = some (sOb D) ∧ Pay P w D l ∧ (∀ z, z ∈ l ↔ z ∈ zs) ∧ l.length ≤ n) → R (.ok (.ret .none)) s') →
      codeAny (model P w) A (.builtin "set.update.loop" ⟨[.ref S, .ref I], []⟩) R s := by
  have hSw : S ∉ wr := fun h => hSf (W.sub _ h)
  have hsub : ∀ b ∈ wr, b ∈ S :: wr := fun b hb => List.mem_cons_of_mem _ hb
  intro k
  induction k with
  | zero =>
    intro i s hk hi hst ⟨D, l, h1, h2, h3, h4⟩ hR
    obtain rfl : i = n := by omega
    refine codeAny_builtin F.entry_set_update_loop ?_
    rw [Around.under_plainId F.plain_set_update_loop _]
    show wpAny _ A.in1 (pyNext (.ref I) >>= _) _ _ s
    refine wpAny_bind (W.done s _ _ hst fun s' hm => ?_)
    show wpAny _ A.in1 (ret Value.none) _ _ s'
    rw [List.take_of_length_le (by omega)] at h3
    exact wpAny_pure (hR s' (hm.mono hsub) ⟨D, l, hm.heap S _ hSw h1, h2, h3, h4⟩)
  | succ k ih =>
    intro i s hk hi hst ⟨D, l, h1, h2, h3, h4⟩ hR
    have hlt : i < n := by omega
    refine codeAny_builtin F.entry_set_update_loop ?_
    rw [Around.under_plainId F.plain_set_update_loop _]
    show wpAny _ A.in1 (pyNext (.ref I) >>= _) _ _ s
    refine wpAny_bind (W.item i s _ _ hlt hst fun v s' hP hst' hm => ?_)
    obtain ⟨z, t, hz, rfl⟩ := hval i v hP
    have h1' := hm.heap S _ hSw h1
    show wpAny _ A.in1 (holding [Value.str z t] (setAdd S (.str z t)) >>= _) _ _ s'
    refine wpAny_bind (wpAny_holding ?_)
    unfold setAdd
    refine wpAny_holding (wpAny_bind ((PySem.strKind P w).pyHash (k := z) (PySem.Froz.is_str z t) ?_))
    refine add_one (k := z) (s := { s' with toks := s'.toks + 1 }) h1' h2 (by omega) fun b h' D' l' hsb q1 q2 q3 q4 => ?_
    refine wpAny_pure ⟨plainId_quiet F.plain_set_update_loop _, ih (i + 1) _ (by omega) hlt (W.frame _ s' _ _ hst' (Nat.le_succ _) fun b hb o e => ?_) ⟨D', l', q1, q2, fun y => ?_, by omega⟩ fun s'' hm2 hE => ?_⟩
    · rw [hsb.2 b (fun h : b = S => hSf (by rw [← h]; exact hb))]
      exact e
    · rw [q3 y, h3 y, List.take_add_one, hz, List.mem_append]
      show _ ↔ _ ∨ y ∈ [z]
      rw [List.mem_singleton]
      exact Or.comm
    · refine hR s'' (Moved.trans W.gtrans ((hm.mono hsub).then_heap (Nat.le_succ _) fun b o hb e => ?_) hm2) hE
      rw [hsb.2 b (fun h : b = S => hb (by rw [h]; exact List.mem_cons_self))]
      exact e
theorem pay_new {t : SetTable} {ep : Nat} (hf : t.fits 0 = true) (hp : t.place = #[]) (hl : w.params.followText "set-order" = true ∨ t.led = true) : Pay P w (#[], ep, t) [] :=
  ⟨PySem.Froz.TxOk.nil hf, by show Ris t.place.toList; rw [hp]; exact List.Pairwise.nil, hl, List.nodup_nil⟩
abbrev newSet (w : World) : Obj := { cls := .type "set", dict := none, data := .set #[] 0 (.fresh 0 0 (!w.params.followText "set-order")) }
theorem pay_fresh : Pay P w (#[], 0, .fresh 0 0 (!w.params.followText "set-order")) [] := by
  refine pay_new (by rfl) rfl ?_
  show _ ∨ (!w.params.followText "set-order") = true
  cases w.params.followText "set-order"
  · exact .inr rfl
  · exact .inl rfl
set_option maxHeartbeats 3200000 in
/-- set(xs), a list of texts -/
theorem call_set {L : Addr} {items : Array Value} (zs : List Str) {Q : Value → Shared → Prop} (hh : A.handled = none) (hl : s.heap.IsList L items) (hit : StrsAre items.toList zs) (hb : zs.length + 1 < scanBound)
    (h : ∀ (h' : Heap) (tk : Nat) (D : SD) (l : List Str), h'.get? s.heap.objs.size = some (sOb D) → Pay P w D l → (∀ z, z ∈ l ↔ z ∈ zs) → l.length ≤ zs.length → (∀ b o, s.heap.get? b = some o → h'.get? b = some o) → Q (.ref s.heap.objs.size) { s with heap := h', toks := tk }) :
    wpAny (model P w) A (call (.type "set") [.ref L]) Q E s := by
  have hisz : items.size = zs.length := by
    have q := StrsAre.len_eq hit
    rw [Array.length_toList] at q
    exact q
  obtain ⟨c, tl, hmro⟩ := PySem.F.called_set.mro
  have hmade := PySem.F.called_set.made
  have hsub := PySem.F.called_set.sub
  refine wpAny_call (codeAny_of_tree ?_)
  show wpAny _ _ (callAny (.type "set") _) _ _ _
  refine wpAny_pure ⟨Code.quiet_builtin _ (by decide +kernel), codeAny_builtin PySem.F.entry_type_call ?_⟩
  rw [Around.under_plain (weight_type_call_type "set" [.ref L] []) rfl]
  have h1 := PySem.F.called_set.notType
  have h2 := PySem.F.called_set.canCreate
  have hct := PySem.F.typeCall_set_1 (.ref L)
  repeat (any_goals (first | assumption | wp_step))
  refine codeAny_mono (code_set_led1 (.ref L) (E := E) (Q₁ := fun obj s₁ => obj = .ref s.heap.objs.size ∧ s₁ = { s with heap := s.heap.push (newSet w) }) ⟨rfl, rfl⟩) fun r s₁ hr => ?_
  cases r with
  | error e => exact hr
  | ok fl =>
    cases fl with
    | ret obj =>
      obtain ⟨rfl, rfl⟩ := hr
      have hS : (s.heap.push (newSet w)).get? s.heap.objs.size = some (newSet w) := Heap.get?_push_size _ rfl
      have hT : Shared.TypeIs { s with heap := s.heap.push (newSet w) } (.ref s.heap.objs.size) "set" := ⟨_, hS, rfl⟩
      have hli := PySem.F.called_set.init.lookup
      have hbi := PySem.F.called_set.init.bind (.ref s.heap.objs.size)
      repeat (any_goals (first | assumption | wp_step))
      refine codeAny_mono (codeAny_call_builtin (R := wants (fun r s₂ => r = .none ∧ ∃ h' tk, s₂ = { s with heap := h', toks := tk } ∧ (∃ D l, h'.get? s.heap.objs.size = some (sOb D) ∧ Pay P w D l ∧ (∀ z, z ∈ l ↔ z ∈ zs) ∧ l.length ≤ zs.length) ∧
          (∀ b o, s.heap.get? b = some o → h'.get? b = some o)) E) PySem.F.called_set.init.plain PySem.F.entry_set_init (check_set_init_1 hT ?_)) fun r₂ s₂ hr₂ => ?_
      · obtain ⟨⟨ocls, odict, odata, oslots⟩, hol, hcl, nl, hdl⟩ := hl
        simp only at hcl hdl
        subst hcl hdl
        have hol' : (s.heap.push (newSet w)).get? L = some { cls := .type "list", dict := odict, data := .seq items nl, slots := oslots } := Heap.get?_push_of_some _ hol
        have hsls := PySem.F.sub_list_set
        have hslf := PySem.F.sub_list_frozenset
        have hne : (Value.type "list" == Value.type "dict") = false := by decide
        have hl1 : (s.heap.push (newSet w)).IsList L items := ⟨_, hol', rfl, nl, rfl⟩
        unfold Builtin.«set.__init__» noKeywords Builtin.Frozenset.updateFrom
        generalize hPI : pyIter = PI
        wp_walk
        subst hPI
        refine wpAny_pyIter_list hl1 ?_
        refine wpAny_bind (wpAny_runValue ?_)
        have hlS : L < s.heap.objs.size := Heap.lt_size hol
        have hh3 : A.in1.in1.in1.handled = none := by simp [hh]
        have hneI : L ≠ (s.heap.push (newSet w)).objs.size := by
          rw [Heap.size_push]
          exact Nat.ne_of_lt (Nat.lt_succ_of_lt hlS)
        have hSf : s.heap.objs.size ∉ [(s.heap.push (newSet w)).objs.size, L] := by
          rw [Heap.size_push]
          simp only [List.mem_cons, List.mem_singleton, List.not_mem_nil, or_false, not_or]
          exact ⟨Nat.ne_of_lt (Nat.lt_succ_self _), Nat.ne_of_gt hlS⟩
        have hval : ∀ (i : Nat) (v : Value), items[i]? = some v → ∃ z t, zs[i]? = some z ∧ v = .str z t := fun i v hv => by
          have hi : i < zs.length := by rw [← hisz]; exact (Array.getElem?_eq_some_iff.mp hv).1
          obtain ⟨t, e⟩ := SS.strs_at hit i v (by rw [Array.getElem?_toList]; exact hv)
          refine ⟨zs[i], t, List.getElem?_eq_getElem hi, ?_⟩
          rw [e, List.getD_eq_getElem?_getD, List.getElem?_eq_getElem hi] <;> rfl
        refine upd_texts ((Walks.list hh3 _ L hneI items).toS) s.heap.objs.size hSf zs hisz hb hval (items.size - 0) 0 _ (by omega) (Nat.zero_le _) ⟨⟨_, Heap.get?_push_size _ rfl, rfl, rfl⟩, (hl1.push _)⟩ ?hS0 ?hR
        case hS0 =>
          refine ⟨(#[], 0, .fresh 0 0 (!w.params.followText "set-order")), [], ?_, pay_fresh, fun z => by simp, Nat.le_refl _⟩
          exact Heap.get?_push_of_some _ hS
        case hR =>
          intro s' hm hE
          obtain ⟨h', g', d', tk', os'⟩ := s'
          obtain rfl : g' = s.gens := hm.gens
          obtain rfl : d' = s.drawn := hm.drawn
          obtain rfl : os' = s.os := hm.os
          show wpAny _ _ _ _ _ _
          refine wpAny_pure ?_
          show wpAny _ _ (ret Value.none) _ _ _
          rw [hisz] at hE
          refine wpAny_pure ⟨rfl, h', tk', rfl, hE, fun b o e => ?_⟩
          have hb0 : b < s.heap.objs.size := Heap.lt_size e
          have hb2 : b ≠ (s.heap.push (newSet w)).objs.size := by
            rw [Heap.size_push]
            exact Nat.ne_of_lt (Nat.lt_succ_of_lt hb0)
          exact hm.heap b o (by simp only [List.mem_cons, List.mem_singleton, List.not_mem_nil, or_false, not_or]; exact ⟨Nat.ne_of_lt hb0, hb2⟩) (Heap.get?_push_of_some _ (Heap.get?_push_of_some _ e))
      · cases r₂ with
        | error e => exact hr₂
        | ok fl₂ =>
          cases fl₂ with
          | ret r =>
            obtain ⟨rfl, h', tk, rfl, ⟨D, l, q1, q2, q3, q4⟩, hk'⟩ := hr₂
            repeat (any_goals (first | assumption | wp_step))
            exact h _ _ D l q1 q2 q3 q4 hk'
          | _ => exact hr₂.elim
    | _ => exact hr.elim
theorem strs_out {es : List (Int × Value)} (h : ElemsOf (PySem.strKind P w) es) : ∀ v ∈ es.map (·.2), ∃ x t, v = Value.str x t := fun v hv => by
  obtain ⟨e, he, rfl⟩ := List.mem_map.mp hv
  obtain ⟨⟨x, q, _⟩, _⟩ := h e he
  have z : Value.isStrOf x e.2 = true := q
  obtain ⟨t, et⟩ := Value.isStrOf_shape (x := x) (v := e.2) z
  exact ⟨x, t, et⟩
/-- sorted(set of texts) -/
theorem call_sorted {Q : Value → Shared → Prop} (ho : s.heap.get? a = some (sOb D)) (F : Pay P w D l) (hh : A.handled = none) (h64 : l.length < 64)
    (h : ∀ s' p (out : Array Value) (c : Nat) (ys : List Str), (∀ b o, s.heap.get? b = some o → s'.heap.get? b = some o) → s'.gens = s.gens → s'.os = s.os → s.heap.objs.size ≤ p → s'.heap.get? p = some (seqObj "list" out c) → StrsAre out.toList ys → sortedS ys = true →
      (∀ z, z ∈ ys ↔ z ∈ l) → ys.length = l.length → Q (.ref p) s') : wpAny (model P w) A (call (.builtin "sorted") [.ref a]) Q E s := by
  obtain ⟨es, ep, t⟩ := D
  have hsz : es.size = l.length := F.tx.sz
  refine Calls.call_function_entry kind_sorted plain_sorted entry_sorted (args_sorted1 _) ?_
  unfold Builtin.«sorted»
  refine wpAny_bind (m := checkCount "sorted" 1 1 _) (wpAny_pure ?_)
  refine wpAny_bind (collect_set (A := A.in1) hh ⟨_, ho, rfl, rfl⟩ F.tx.fit (by show es.size < scanBound; rw [hsz]; exact Nat.lt_trans h64 (by decide)) F.ris F.led fun s1 vs k1 hz g1 o1 pm => ?_)
  have pm : vs.Perm (es.toList.map (·.2)) := pm
  have hvl : vs.length = l.length := by rw [pm.length_eq, List.length_map, Array.length_toList, hsz]
  have hall : ∀ v ∈ vs, ∃ x t, v = Value.str x t := fun v hv => strs_out F.tx.el v (pm.mem_iff.mp hv)
  have hS : StrsAre vs (vs.map strOf) := strsAre_map vs hall
  refine wpAny_bind (wpAny_newList ?_ (by rw [hvl, sizeLine_eq]; omega))
  have hoL : (s1.heap.push (seqObj "list" vs.toArray 0)).get? s1.heap.objs.size = some (seqObj "list" vs.toArray 0) := Heap.get?_push_size _ rfl
  refine wpAny_bind (wpAny_holding (wpAny_call_entry slot_list_sort ⟨_, hoL, rfl⟩ entry_list_sort (list_sort_treeK strKind_oneLt hoL hS.keysOf (fun v₁ v₂ rest e => keyKind_strs (by rw [← e]; exact hS)) (by rw [hvl]; exact h64) fun st' hp hs => ⟨_, rfl, ?_⟩) (args_list_sort _)))
  obtain ⟨ys, a1, a2, a3⟩ := sorted_out_str hS hp hs
  obtain ⟨c, hc⟩ := sortedHeap_at (vs := vs) (out := (arrOf st').map (·.2)) hoL
  refine wpAny_pure ⟨_, rfl, h _ s1.heap.objs.size _ c ys (fun b u e => ?_) g1 o1 hz hc a1 a3 (fun z => ?_) ?_⟩
  · have q := k1 b u e
    have hlt := Heap.lt_size q
    show (sortedHeap (s1.heap.push (seqObj "list" vs.toArray 0)) s1.heap.objs.size vs _).get? b = some u
    rw [sortedHeap_old (Nat.ne_of_lt hlt) (by rw [size_push']; exact Nat.lt_succ_of_lt hlt)]
    exact Heap.get?_push_of_some _ q
  · have m := F.tx.mem z
    rw [m, a2.mem_iff, List.mem_map]
    constructor
    · rintro ⟨v, hv, rfl⟩
      obtain ⟨x, t', rfl⟩ := hall v hv
      obtain ⟨e, he, q⟩ := List.mem_map.mp (pm.mem_iff.mp hv)
      exact ⟨e, he, by rw [q]; exact PySem.Froz.is_str x t'⟩
    · rintro ⟨e, he, q⟩
      have z1 : Value.isStrOf z e.2 = true := q
      obtain ⟨t', et⟩ := Value.isStrOf_shape (x := z) (v := e.2) z1
      exact ⟨e.2, pm.mem_iff.mpr (List.mem_map.mpr ⟨e, he, rfl⟩), by rw [et] <;> rfl⟩
  · rw [a2.length_eq, List.length_map, hvl]
end
/-- a set of the texts l -/
def SetT (P : Program) (w : World) (a : Addr) (l : List Str) : HO := .ext fun h => ∃ D, h.get? a = some (sOb D) ∧ Pay P w D l
theorem setT_ok {P : Program} {w : World} {H : Hp} {h : Heap} {a : Addr} {l : List Str} {D : SD} (ho : h.get? a = some (sOb D)) (F : Pay P w D l) : ObjOk P w H h a (SetT P w a l) :=
  ⟨⟨D, ho, F⟩, ⟨_, ho⟩, fun h1 h2 ⟨D', p, q⟩ k => ⟨D', k _ p, q⟩⟩
section
variable {X : Cx}
def rSetT (K : PySem.W.Frag) (P : Program) (w : World) : List V → Hp → VK → Prop := fun xs H Q => ∃ (L : Addr) (zs : List Str), xs = [V.ref L] ∧ SqL K H L (zs.map V.str) ∧ zs.length < 64 ∧
  ∀ (a : Addr) (l : List Str), H a = none → l.Nodup → (∀ z, z ∈ l ↔ z ∈ zs) → l.length ≤ zs.length → Q (.ref a) (upd H a (SetT P w a l))
theorem cr_setT (hc : X.calm = true) : CallR X (.type "set") (rSetT X.K X.prog X.w) := by
  intro pins s σ H xs us Q I r h
  obtain ⟨L, zs, rfl, hl, h64, q⟩ := h
  rw [Vals.ref1 r]
  obtain ⟨its, rv, pl, hz⟩ := I.list hl
  have hn : H s.heap.objs.size = none := I.hok.fresh (Nat.le_refl _)
  refine call_set (P := X.prog) (w := X.w) zs (I.ok.hd hc) pl.isList (by simpa using strsAre_of rv) (Nat.lt_trans (Nat.succ_lt_succ h64) (by decide)) fun h' tk D l q1 q2 q3 q4 k => ?_
  exact ⟨.ref s.heap.objs.size, upd H s.heap.objs.size (SetT X.prog X.w s.heap.objs.size l), I.laid (t' := tk) k (Nat.le_refl _) (setT_ok q1 q2), rfl, q _ l hn q2.nd q3 q4⟩
def rSortT (P : Program) (w : World) : List V → Hp → VK → Prop := fun xs H Q => ∃ (a : Addr) (l : List Str), xs = [V.ref a] ∧ H a = some (SetT P w a l) ∧ l.length < 64 ∧
  ∀ (ys : List Str) (p : Addr), sortedS ys = true → (∀ z, z ∈ ys ↔ z ∈ l) → ys.length = l.length → H p = none → Q (.ref p) (upd H p (.lst (ys.map V.str)))
theorem cr_sortT (hc : X.calm = true) : CallR X (.builtin "sorted") (rSortT X.prog X.w) := by
  intro pins s σ H vs us Q I r h
  obtain ⟨a, l, rfl, ha, h64, q⟩ := h
  obtain ⟨D, ho, F⟩ := (I.hok a _ ha).1
  rw [Vals.ref1 r]
  refine call_sorted ho F (I.ok.hd hc) h64 fun s' p out c ys k g o hp hg hi hs hm hl => ?_
  have hlen : (ys.map V.str).length ≤ sizeLine := by rw [List.length_map, hl, sizeLine_eq]; omega
  have hn : H p = none := I.hok.fresh hp
  have J : Inv X pins σ (upd H p (.lst (ys.map V.str))) { s with heap := s'.heap, gens := s'.gens, drawn := s'.drawn, toks := s'.toks } :=
    I.call (ch := []) (Un.laid k hp hn) (I.hok.laid k hp ⟨hlen, out.toList, c, vals_of_strs hi, hg⟩) (by rw [g]; exact I.bare) (fun _ z => nomatch z)
  have e : s' = { s with heap := s'.heap, gens := s'.gens, drawn := s'.drawn, toks := s'.toks } := by
    cases s'
    cases s
    cases o
    rfl
  rw [e]
  exact ⟨.ref p, _, J, rfl, q ys p hs hm hl hn⟩
end
end TxS
/-! enumerate(t), t a tuple -/
namespace EnT
open PySem PySem.Spec PyProof.Rows L2
theorem drawsT {prog : Program} {w : World} {A : Around} (hh : A.handled = none) (it t : Addr) (hne : t ≠ it) (items : Array Value) :
    Draws prog w A it [it, t] items.size (fun i v => items[i]? = some v) (fun i h => h.IsTupleIter it t i ∧ h.IsTuple t items) where
  live := fun _ _ st => let ⟨o, ho, _⟩ := st.1; ⟨o, ho⟩
  frame := fun _ _ _ st k => ⟨let ⟨o, ho, r⟩ := st.1; ⟨o, k it (by simp) o ho, r⟩, let ⟨o, ho, r⟩ := st.2; ⟨o, k t (by simp) o ho, r⟩⟩
  item := fun i s Q E hi st hQ => by
    refine RZ.nextOf_tuple_item st.1 st.2 (x := items[i]) (by simp [hi]) fun h' hit' hs' => ?_
    exact hQ _ h' s.toks (by simp [hi]) ⟨hit', let ⟨o, ho, r⟩ := st.2; ⟨o, (hs'.2 t hne).trans ho, r⟩⟩ hs'
  done := fun s Q E st hE => RZ.nextOf_tuple_end hh st.1 st.2 (by simp) hE
theorem meets_new (t : Addr) (items : Array Value) :
    Meets (Builtin.«enumerate.__new__» ⟨[.type "enumerate", .ref t], []⟩) (fun _ R s => s.heap.IsTuple t items ∧
      R (.ok (.ret (.ref (s.heap.push { cls := .type "tuple_iterator", data := .fields #[.ref t, .int 0 0] }).objs.size)))
        { s with heap := (s.heap.push { cls := .type "tuple_iterator", data := .fields #[.ref t, .int 0 0] }).push { cls := .type "enumerate", data := .fields #[.none, .bool false, .ref s.heap.objs.size, rawInt 0, .none, .none] } }) :=
  .of_wp fun prog w A R s h => by
    obtain ⟨hp, g, d, tk, os⟩ := s
    obtain ⟨hl, h⟩ := h
    have hsub := sub_enumerate
    have hL : Heap.IsTuple (Shared.heap ⟨hp, g, d, tk, os⟩) t items := hl
    obtain ⟨⟨c0, d0, dt0, sl0⟩, ho, hc, n, hd⟩ := hl
    replace hc : c0 = .type "tuple" := hc
    replace hd : dt0 = .seq items n := hd
    subst hc hd
    wp_walk using AutoSeq1.wpAny_loadPart' ho
    refine wpAny_stack_any fun st => wpAny_pure ?_
    split
    · rename_i c _ _ _ _ _
      cases (c == Value.type "enumerate")
      · wp_walk using AutoSeq1.wpAny_loadPart' ho, wpAny_pyIter_tuple hL
        exact ⟨_, rfl, h⟩
      · wp_walk using AutoSeq1.wpAny_loadPart' ho, wpAny_pyIter_tuple hL
        exact ⟨_, rfl, h⟩
    · wp_walk using AutoSeq1.wpAny_loadPart' ho, wpAny_pyIter_tuple hL
      exact ⟨_, rfl, h⟩
section
variable {prog : Program} {w : World} {A : Around} {E : Value → Shared → Prop} {s : Shared}
theorem call_enum {t : Addr} {items : Array Value} {Q : Value → Shared → Prop} (hL : s.heap.IsTuple t items)
    (h : ∀ h', IsEnum h' (s.heap.objs.size + 1) s.heap.objs.size 0 .none → h'.IsTupleIter s.heap.objs.size t 0 → (∀ b o, s.heap.get? b = some o → h'.get? b = some o) → Q (.ref (s.heap.objs.size + 1)) { s with heap := h' }) :
    wpAny (model prog w) A (call (.type "enumerate") [.ref t]) Q E s := by
  refine callType_new PySem.F.called_enumerate (by decide) (PySem.F.typeCall_enumerate_1 _) (PySem.F.newCall_enumerate_1 _) (fun obj => PySem.F.args_object_init_2 obj _) PySem.F.entry_enumerate_new (meets_new t items) ⟨hL, ?_⟩
  have hz : (s.heap.push { cls := .type "tuple_iterator", data := .fields #[.ref t, .int 0 0] }).objs.size = s.heap.objs.size + 1 := Heap.size_push ..
  show _ ∧ _
  rw [hz]
  have he : IsEnum ((s.heap.push { cls := .type "tuple_iterator", data := .fields #[.ref t, .int 0 0] }).push { cls := .type "enumerate", data := .fields #[.none, .bool false, .ref s.heap.objs.size, rawInt 0, .none, .none] }) (s.heap.objs.size + 1) s.heap.objs.size 0 .none := by
    have q := Heap.get?_push_size (s.heap.push { cls := .type "tuple_iterator", data := .fields #[.ref t, .int 0 0] }) (o := { cls := .type "enumerate", data := .fields #[.none, .bool false, .ref s.heap.objs.size, rawInt 0, .none, .none] }) rfl
    rw [hz] at q
    exact q
  exact ⟨⟨_, he, rfl⟩, h _ he ⟨_, Heap.get?_push_of_some _ (Heap.get?_push_size _ rfl), rfl, rfl⟩ fun b o x => Heap.get?_push_of_some _ (Heap.get?_push_of_some _ x)⟩
end
/-- the tuple at a, each item in a new pair with its place -/
def IteT (K : PySem.W.Frag) (a : Addr) : It :=
  ⟨fun i H => ∃ (xs : List V) (x : V), SqT K H a xs ∧ xs[i]? = some x, fun i H v H' => ∃ T x, v = .ref T ∧ H T = none ∧ H' = upd H T (.tup [.int (i : Nat), x]) ∧ ∀ xs, SqT K H a xs → xs[i]? = some x, fun i H => ∃ xs : List V, SqT K H a xs ∧ xs.length = i⟩
theorem turn_enumT {P : Program} {w : World} {K : PySem.W.Frag} {elts : List Expr} {kk : Nat} {tpos : Pos} (a e it : Addr) (items : Array Value) :
    Turn P w K (.Tuple elts kk tpos) (IteT K a) [e, it] e (fun i h => (∃ old, IsEnum h e it ((i : Nat) : Int) old) ∧ h.IsTupleIter it a i ∧ e ≠ it ∧ a ≠ it ∧ e ≠ a) where
  mem := by simp
  obj := fun i h st b hb => by
    obtain ⟨⟨old, he⟩, ⟨o, ho, hc, hd⟩, _⟩ := st
    have e' : b = e ∨ b = it := by simpa using hb
    rcases e' with z | z
    · rw [z]; exact ⟨_, he, fun v q => nomatch q⟩
    · rw [z]; exact ⟨o, ho, fun v q => by rw [hd] at q; cases q⟩
  keep := fun i h h' st k => let ⟨⟨old, he⟩, ⟨o, ho, r⟩, hne⟩ := st; ⟨⟨old, k e (by simp) _ he⟩, ⟨o, k it (by simp) _ ho, r⟩, hne⟩
  item := by
    intro X hP hw hK hc i pins s σ H E I hf st hg
    subst hP hw hK
    obtain ⟨⟨old, he⟩, hit, hne, hat, hea⟩ := st
    obtain ⟨xs, x, hq, hx⟩ := hg
    obtain ⟨its, rv, p, hz⟩ := I.tuple hq
    obtain ⟨u, hu, ru⟩ := rv.get hx
    have hel : e < s.heap.objs.size := Heap.lt_size he
    have hi : i < its.toArray.size := by simpa using (List.getElem?_eq_some_iff.mp hu).1
    refine wpAny_pyNext_enum_itemD (drawsT (A := X.A.in1) (I.ok.hd hc) it a hat its.toArray) he ⟨hit, p⟩ hi hne (by simp [hne, hea]) fun v h' tk hv ho hst' hT hsz hk => ?_
    have ev : v = u := by
      have q : its.toArray[i]? = some v := hv
      rw [List.getElem?_toArray, hu] at q
      exact (Option.some.inj q).symm
    subst ev
    refine ⟨_, rfl, wpAny_letOwnedTupleGo_enum (s := { s with heap := h', toks := tk + 1 }) ho fun h'' he' sb => ?_⟩
    have hT2 : h''.get? s.heap.objs.size = some { cls := .type "tuple", data := .seq #[.int i tk, v] } := (sb.2 _ (Nat.ne_of_gt hel)).trans hT
    have new : ObjOk X.prog X.w (upd H s.heap.objs.size (.tup [.int (i : Nat), x])) h'' s.heap.objs.size (.tup [.int (i : Nat), x]) :=
      ⟨by show 2 ≤ sizeLine; decide, [.int i tk, v], .cons ⟨_, rfl⟩ (.cons ru .nil), ⟨_, hT2, rfl, _, rfl⟩⟩
    have I1 : Inv X pins σ (upd H s.heap.objs.size (.tup [.int (i : Nat), x])) { s with heap := h'', toks := tk + 1 } :=
      I.turnedNew (ch := [e, it]) (fun b ob hb q => (sb.2 b (fun z => hb (by simp [z]))).trans (hk b ob (fun z => hb (by simp [z])) (fun z => hb (by simp [z])) q)) hf (Nat.le_refl _) new
    refine ⟨.ref s.heap.objs.size, _, I1, rfl, ⟨_, x, rfl, I.hok.fresh (Nat.le_refl _), rfl, fun ys hy => by rw [I.tuple_inj hy hq]; exact hx⟩, ⟨⟨v, ?_⟩, ?_, hne, hat, hea⟩, fun b hb => ?_⟩
    · have e1 : ((i + 1 : Nat) : Int) = (i : Int) + 1 := by omega
      rw [e1]
      exact he'
    · obtain ⟨o, ho2, r⟩ := hst'.1
      exact ⟨o, (sb.2 it (Ne.symm hne)).trans ho2, r⟩
    · have hb' : b < s.heap.objs.size := by
        have e' : b = e ∨ b = it := by simpa using hb
        rcases e' with z | z
        · rw [z]; exact hel
        · obtain ⟨o, q, _⟩ := hit
          rw [z]; exact Heap.lt_size q
      rw [upd_ne (Nat.ne_of_lt hb')]
      exact (hf b hb).1
  done := by
    intro X hP hw hK hc i pins s σ H E I hf st hg
    subst hP hw hK
    obtain ⟨⟨old, he⟩, hit, hne, hat, hea⟩ := st
    obtain ⟨xs, hq, hx⟩ := hg
    obtain ⟨its, rv, p, hz⟩ := I.tuple hq
    obtain ⟨f0, f1, f2, f3, f4, f5⟩ := hf it (by simp)
    have hl := rv.length
    have ei : its.toArray.size = i := by simp; omega
    subst ei
    exact wpAny_pyNext_enum_endD (drawsT (A := X.A.in1) (I.ok.hd hc) it a hat its.toArray) he ⟨hit, p⟩ fun h' eb => ⟨rfl, I.turned (t' := s.toks) (fun b o hb q => eb b o hb q) f0 f1 f3 f4 f5⟩
  self := fun A i s Q E st h => let ⟨⟨_, he⟩, _⟩ := st; wpAny_pyIter_enum he h
def iEnumT (K : PySem.W.Frag) (ta : TA) : TI := fun σ H R => ta σ H fun vs H1 => ∃ a xs, vs = [.ref a] ∧ SqT K H1 a xs ∧ R (IteT K a) H1
theorem pi_enumT {X : Cx} {e : Expr} {ta : TA} {p pos tpos : Pos} {elts : List Expr} {kk : Nat} (hg : Gl X "enumerate") (hm : X.mg "enumerate" = none) (ha : PA X [e] ta) (hs : starEach [e] X.env = [(false, eval e X.env)] := by rfl) :
    PI X (.Tuple elts kk tpos) (.Call (.Name "enumerate" p) [e] [] pos) (iEnumT X.K ta) := by
  refine ⟨fun pins s σ H R I h => ?_⟩
  refine Call_ (ld_blt I hg hm boot_enumerate (PyProof.Rows.callWith_type1 (thn (ha.run pos pins s σ H _ I h) fun us s1 ⟨vs, H1, I1, r1, q1⟩ => ?_) hs rfl))
  obtain ⟨a, xs, ex, hq, q⟩ := q1
  subst ex
  cases r1 with
  | cons r rr =>
    cases rr
    cases r
    obtain ⟨its, rv, p', hz⟩ := I1.tuple hq
    have hal : a < s1.heap.objs.size := by
      obtain ⟨o, ho, _⟩ := p'
      exact Heap.lt_size ho
    refine call_enum p' fun h' he hit hk => wpAny_pyIter_enum he ?_
    have I2 : Inv X pins σ H1 { s1 with heap := h' } := I1.kept (t' := s1.toks) hk
    refine ⟨s1.heap.objs.size + 1, [s1.heap.objs.size + 1, s1.heap.objs.size], _, _, H1, rfl, I2, turn_enumT a (s1.heap.objs.size + 1) s1.heap.objs.size its.toArray, ⟨⟨.none, he⟩, hit, Nat.succ_ne_self _, Nat.ne_of_lt hal, Nat.ne_of_gt (Nat.lt_succ_of_lt hal)⟩, fun b hb => ?_, q⟩
    have e' : b = s1.heap.objs.size + 1 ∨ b = s1.heap.objs.size := by simpa using hb
    have hle : s1.heap.objs.size ≤ b := by
      rcases e' with z | z
      · rw [z]; exact Nat.le_add_right _ _
      · rw [z]; exact Nat.le_refl _
    exact I1.fpOk hle (I1.hok.fresh hle)
end EnT
namespace Lw
open PySem L2 OwB
/-! a comprehension of two clauses whose element is the second name: the inner sources one behind another -/
def flat (fs : Nat → List V) : Nat → List V
  | 0 => []
  | n + 1 => flat fs n ++ fs n
/-- what walks the outer source: an item a turn, the heap stays -/
structure Outer (J : It) (H0 : Hp) (D : Addr) (xs : List V) : Prop where
  go : ∀ i H, i < xs.length → (∀ b o, H0 b = some o → H b = some o) → J.go i H
  yld : ∀ i H x H', (∀ b o, H0 b = some o → H b = some o) → J.yld i H x H' → H' = H ∧ xs[i]? = some x
  stop : ∀ H, (∀ b o, H0 b = some o → H b = some o) → J.stop xs.length H
theorem outer_list {K : PySem.W.Frag} {a : Addr} {xs : List V} {H0 : Hp} {D : Addr} (h : SqL K H0 a xs) : Outer (Itl K a) H0 D xs :=
  ⟨fun i H hi g => ⟨xs, xs[i], Same.seq g h, List.getElem?_eq_getElem hi⟩, fun i H x H' g y => ⟨y.1, y.2 xs (Same.seq g h)⟩, fun H g => ⟨xs, Same.seq g h, Nat.le_refl _⟩⟩
theorem outer_tup {K : PySem.W.Frag} {a : Addr} {xs : List V} {H0 : Hp} {D : Addr} (h : SqT K H0 a xs) : Outer (Itt K a) H0 D xs :=
  ⟨fun i H hi g => ⟨xs, xs[i], seqT g h, List.getElem?_eq_getElem hi⟩, fun i H x H' g y => ⟨y.1, y.2 xs (seqT g h)⟩, fun H g => ⟨xs, seqT g h, Nat.le_refl _⟩⟩
theorem lc2_it {K : PySem.W.Frag} {J : It} {xs : List V} {wi1 : TI} {σ : St} {H0 : Hp} {D : Addr} {Qd : Hp → Prop} {i0 j0 : Nat} (fs : Nat → List V) (hD : H0 D = none) (hJ : Outer J H0 D xs)
    (hw : ∀ i x H R, xs[i]? = some x → Same H0 H → (∀ b, SqT K H0 b (fs i) → R (Itt K b) H) → wi1 ((wipe σ [i0, j0]).set i0 (some x)) H R) (hlen : (flat fs xs.length).length ≤ 1000)
    (hmono : ∀ i, i < xs.length → ((flat fs i).length + (fs i).length ≤ 1000))
    (hq : ∀ H, H D = some (.lst (flat fs xs.length)) → Same H0 H → Qd H)
    (w1 : ∀ x, wipe ((wipe σ [i0, j0]).set i0 (some x)) [i0, j0] = wipe σ [i0, j0])
    (w2 : ∀ x y, wipe ((wipe ((wipe σ [i0, j0]).set i0 (some x)) [j0]).set j0 (some y)) [j0] = wipe ((wipe σ [i0, j0]).set i0 (some x)) [j0])
    (w3 : ∀ x y, ((wipe ((wipe σ [i0, j0]).set i0 (some x)) [j0]).set j0 (some y))[j0]? = some (some y)) :
    ∃ W : Nat → Nat → Hp → Prop, (∃ m, W 0 m (upd H0 D (.lst []))) ∧ ∀ i m H, W i m H →
      (J.stop i H ∧ Qd H) ∨ (J.go i H ∧ ∃ Nx : Hp → Prop, (∀ H', Nx H' → ∃ m', m' < m ∧ W (i + 1) m' H') ∧ ∀ x H', J.yld i H x H' → gName i0 x (wipe σ [i0, j0]) H' fun σ2 H2 => wipe σ2 [i0, j0] = wipe σ [i0, j0] ∧ tYes σ2 H2 fun b H3 =>
        if b = true then wi1 σ2 H3 fun J1 H4 => ∃ W1 : Nat → Nat → Hp → Prop, (∃ m, W1 0 m H4) ∧ ∀ j k H, W1 j k H →
          (J1.stop j H ∧ Nx H) ∨ (J1.go j H ∧ ∃ Nx1 : Hp → Prop, (∀ H', Nx1 H' → ∃ k', k' < k ∧ W1 (j + 1) k' H') ∧ ∀ x H', J1.yld j H x H' → gName j0 x (wipe σ2 [j0]) H' fun σ3 H5 => wipe σ3 [j0] = wipe σ2 [j0] ∧ tYes σ3 H5 fun b H6 =>
            if b = true then tVar j0 σ3 H6 fun y H7 => ∃ acc, H7 D = some (.lst acc) ∧ acc.length < sizeLine ∧ Nx1 (upd H7 D (.lst (acc ++ [y]))) else Nx1 H6)
        else Nx H3) := by
  refine ⟨fun i m H => m = xs.length - i ∧ i ≤ xs.length ∧ H D = some (.lst (flat fs i)) ∧ Same H0 H, ⟨xs.length, by simp, Nat.zero_le _, upd_same, same_new hD _⟩, ?_⟩
  rintro i m H ⟨rfl, hi, hd, g⟩
  by_cases hlt : i < xs.length
  · refine .inr ⟨hJ.go i H hlt g, fun H' => H' D = some (.lst (flat fs (i + 1))) ∧ Same H0 H', fun H' ⟨d', g'⟩ => ⟨xs.length - (i + 1), by omega, rfl, hlt, d', g'⟩, fun x H' y => ?_⟩
    obtain ⟨rfl, hx⟩ := hJ.yld i H x H' g y
    refine ⟨w1 x, iteT (B := H' D = some (.lst (flat fs (i + 1))) ∧ Same H0 H') ?_⟩
    refine hw i x H' _ hx g fun b hb => ?_
    refine ⟨fun j k H1 => k = (fs i).length - j ∧ j ≤ (fs i).length ∧ H1 D = some (.lst (flat fs i ++ (fs i).take j)) ∧ Same H0 H1, ⟨(fs i).length, by simp, Nat.zero_le _, by rw [List.take_zero, List.append_nil]; exact hd, g⟩, ?_⟩
    rintro j k H1 ⟨rfl, hj, hd1, g1⟩
    by_cases hlj : j < (fs i).length
    · refine .inr ⟨⟨fs i, (fs i)[j], seqT g1 hb, List.getElem?_eq_getElem hlj⟩, fun H2 => H2 D = some (.lst (flat fs i ++ (fs i).take (j + 1))) ∧ Same H0 H2, fun H2 ⟨d2, g2⟩ => ⟨(fs i).length - (j + 1), by omega, rfl, hlj, d2, g2⟩, fun z H2 yz => ?_⟩
      obtain ⟨rfl, yz⟩ := yz
      have hz := yz (fs i) (seqT g1 hb)
      refine ⟨w2 x z, iteT (B := H2 D = some (.lst (flat fs i ++ (fs i).take (j + 1))) ∧ Same H0 H2) ?_⟩
      refine ⟨z, w3 x z, _, hd1, ?_, ?_⟩
      · rw [List.length_append, List.length_take]
        have := hmono i hlt
        exact small1000 (by omega)
      · refine ⟨?_, same_over g1 hD _⟩
        rw [upd_same, List.take_add_one, hz, List.append_assoc] <;> rfl
    · have e : j = (fs i).length := by omega
      subst e
      refine .inl ⟨⟨fs i, seqT g1 hb, Nat.le_refl _⟩, ?_, g1⟩
      rw [hd1, List.take_length] <;> rfl
  · have e : i = xs.length := by omega
    subst e
    exact .inl ⟨hJ.stop H g, hq H hd g⟩
/-! expressions, as data -/
inductive Ex where
  | num (n : Int)
  | acc (nm : Str) (ls : List Str)
  | bi (k : Str) (x y : Ex)
  | nu (k : Str) (x : Ex) (n : Int)
  | un (k : Str) (x : Ex)
def Ex.kind : Ex → Str
  | .num _ => "number"
  | .acc _ _ => "access"
  | .bi k _ _ => k
  | .nu k _ _ => k
  | .un k _ => k
def Ex.accs : Ex → List (Str × List Str)
  | .num _ => []
  | .acc nm ls => [(nm, ls)]
  | .bi _ x y => x.accs ++ y.accs
  | .nu _ x _ => x.accs
  | .un _ x => x.accs
def Ex.nodes : Ex → Int
  | .num _ => 1
  | .acc _ _ => 1
  | .bi _ x y => 1 + (x.nodes + y.nodes)
  | .nu _ x _ => 1 + x.nodes
  | .un _ x => 1 + x.nodes
/-- letters in all accesses, doubles too -/
def lts (as : List (Str × List Str)) : List Str := (as.map (·.2)).flatten
/-- the fields of an expression -/
def fE (k : Str) (tp ta tl : Addr) (m : Int) : List (Str × V) := putF "letters" (.ref tl) (putF "accesses" (.ref ta) (putF "node_count" (.int m) (putF "parts" (.ref tp) (putF "kind" (.str k) []))))
theorem nb (a b : String) (h : (Str.ofString a == Str.ofString b) = false) : ¬ Str.ofString a = Str.ofString b := fun e => by rw [e, beq_self_eq_true] at h; cases h
theorem fE_k {k : Str} {tp ta tl : Addr} {m : Int} : (fE k tp ta tl m).lookup ("kind" : Str) = some (.str k) := by
  unfold fE
  rw [lookup_putF, if_neg (nb _ _ (by decide +kernel)), lookup_putF, if_neg (nb _ _ (by decide +kernel)), lookup_putF, if_neg (nb _ _ (by decide +kernel)), lookup_putF, if_neg (nb _ _ (by decide +kernel)), lookup_putF, if_pos rfl]
theorem fE_p {k : Str} {tp ta tl : Addr} {m : Int} : (fE k tp ta tl m).lookup ("parts" : Str) = some (.ref tp) := by
  unfold fE
  rw [lookup_putF, if_neg (nb _ _ (by decide +kernel)), lookup_putF, if_neg (nb _ _ (by decide +kernel)), lookup_putF, if_neg (nb _ _ (by decide +kernel)), lookup_putF, if_pos rfl]
theorem fE_n {k : Str} {tp ta tl : Addr} {m : Int} : (fE k tp ta tl m).lookup ("node_count" : Str) = some (.int m) := by
  unfold fE
  rw [lookup_putF, if_neg (nb _ _ (by decide +kernel)), lookup_putF, if_neg (nb _ _ (by decide +kernel)), lookup_putF, if_pos rfl]
theorem fE_a {k : Str} {tp ta tl : Addr} {m : Int} : (fE k tp ta tl m).lookup ("accesses" : Str) = some (.ref ta) := by
  unfold fE
  rw [lookup_putF, if_neg (nb _ _ (by decide +kernel)), lookup_putF, if_pos rfl]
theorem fE_l {k : Str} {tp ta tl : Addr} {m : Int} : (fE k tp ta tl m).lookup ("letters" : Str) = some (.ref tl) := by
  unfold fE
  rw [lookup_putF, if_pos rfl]
/-- a pair (name, letters) -/
def PairAt (K : PySem.W.Frag) (H : Hp) (v : V) (p : Str × List Str) : Prop := ∃ a t : Addr, v = .ref a ∧ SqT K H a [.str p.1, .ref t] ∧ SqT K H t (p.2.map V.str)
theorem PairAt.same {K : PySem.W.Frag} {H H' : Hp} {v : V} {p : Str × List Str} (g : Same H H') : PairAt K H v p → PairAt K H' v p
  | ⟨a, t, e, h1, h2⟩ => ⟨a, t, e, seqT g h1, seqT g h2⟩
/-- place by place -/
inductive PairsAt (K : PySem.W.Frag) (H : Hp) : List V → List (Str × List Str) → Prop where
  | nil : PairsAt K H [] []
  | cons {v : V} {p : Str × List Str} {vs : List V} {ps : List (Str × List Str)} (h : PairAt K H v p) (t : PairsAt K H vs ps) : PairsAt K H (v :: vs) (p :: ps)
theorem PairsAt.same {K : PySem.W.Frag} {H H' : Hp} (g : Same H H') : ∀ {vs : List V} {ps : List (Str × List Str)}, PairsAt K H vs ps → PairsAt K H' vs ps
  | _, _, .nil => .nil
  | _, _, .cons h t => .cons (h.same g) (PairsAt.same g t)
theorem PairsAt.app {K : PySem.W.Frag} {H : Hp} : ∀ {vs us : List V} {ps qs : List (Str × List Str)}, PairsAt K H vs ps → PairsAt K H us qs → PairsAt K H (vs ++ us) (ps ++ qs)
  | _, _, _, _, .nil, h => h
  | _, _, _, _, .cons h t, q => .cons h (PairsAt.app t q)
theorem PairsAt.len {K : PySem.W.Frag} {H : Hp} : ∀ {vs : List V} {ps : List (Str × List Str)}, PairsAt K H vs ps → vs.length = ps.length
  | _, _, .nil => rfl
  | _, _, .cons _ t => congrArg Nat.succ t.len
theorem PairsAt.get {K : PySem.W.Frag} {H : Hp} : ∀ {vs : List V} {ps : List (Str × List Str)} {i : Nat} {v : V}, PairsAt K H vs ps → vs[i]? = some v → ∃ p, ps[i]? = some p ∧ PairAt K H v p
  | _, _, i, _, .nil, e => by cases e
  | _, _, 0, _, .cons h _, e => by cases e; exact ⟨_, rfl, h⟩
  | _, _, i + 1, _, .cons _ t, e => PairsAt.get (i := i) t e
/-- the tuple of the letters: ascending, each once -/
structure LetOk (ys zs : List Str) : Prop where
  srt : PyProof.Rows.sortedS ys = true
  mem : ∀ z, z ∈ ys ↔ z ∈ zs
  ex : ∃ l : List Str, l.Nodup ∧ ys.length = l.length ∧ ∀ z, z ∈ l ↔ z ∈ zs
/-- an instance at p with the fields of an expression -/
def HdE (K : PySem.W.Frag) (C : Addr) (H : Hp) (p : Addr) (k : Str) (vs : List V) (as : List (Str × List Str)) (m : Int) : Prop :=
  ∃ (dx tp ta tl : Addr) (us : List V) (ys : List Str), H p = some (.ins C dx (fE k tp ta tl m)) ∧ SqT K H tp vs ∧ SqT K H ta us ∧ PairsAt K H us as ∧ SqT K H tl (ys.map V.str) ∧ LetOk ys (lts as)
theorem HdE.same {K : PySem.W.Frag} {C p : Addr} {H H' : Hp} {k : Str} {vs : List V} {as : List (Str × List Str)} {m : Int} (g : Same H H') : HdE K C H p k vs as m → HdE K C H' p k vs as m
  | ⟨dx, tp, ta, tl, us, ys, h1, h2, h3, h4, h5, h6⟩ => ⟨dx, tp, ta, tl, us, ys, g _ _ h1, seqT g h2, seqT g h3, h4.same g, seqT g h5, h6⟩
def okK (k : Str) : Prop := k ≠ "access" ∧ k ≠ "number" ∧ k ≠ "gain" ∧ k ≠ "loss"
/-- the expression e stands at p -/
def ExAt (K : PySem.W.Frag) (C : Addr) (H : Hp) : Ex → Addr → Prop
  | .num n, p => HdE K C H p "number" [.int n] [] 1
  | .acc nm ls, p => ∃ t, HdE K C H p "access" [.str nm, .ref t] [(nm, ls)] 1 ∧ SqT K H t (ls.map V.str)
  | .bi k x y, p => okK k ∧ ∃ a b, HdE K C H p k [.ref a, .ref b] (x.accs ++ y.accs) (1 + (x.nodes + y.nodes)) ∧ ExAt K C H x a ∧ ExAt K C H y b
  | .nu k x n, p => okK k ∧ ∃ a, HdE K C H p k [.ref a, .int n] x.accs (1 + x.nodes) ∧ ExAt K C H x a
  | .un k x, p => okK k ∧ ∃ a, HdE K C H p k [.ref a] x.accs (1 + x.nodes) ∧ ExAt K C H x a
theorem ExAt.same {K : PySem.W.Frag} {C : Addr} {H H' : Hp} (g : Same H H') : ∀ {e : Ex} {p : Addr}, ExAt K C H e p → ExAt K C H' e p
  | .num n, p, h => HdE.same g h
  | .acc nm ls, p, ⟨t, h1, h2⟩ => ⟨t, h1.same g, seqT g h2⟩
  | .bi k x y, p, ⟨o, a, b, h1, h2, h3⟩ => ⟨o, a, b, h1.same g, ExAt.same g h2, ExAt.same g h3⟩
  | .nu k x n, p, ⟨o, a, h1, h2⟩ => ⟨o, a, h1.same g, ExAt.same g h2⟩
  | .un k x, p, ⟨o, a, h1, h2⟩ => ⟨o, a, h1.same g, ExAt.same g h2⟩
/-- its head, whatever it is -/
theorem ExAt.hd {K : PySem.W.Frag} {C : Addr} {H : Hp} : ∀ {e : Ex} {p : Addr}, ExAt K C H e p → ∃ vs, HdE K C H p e.kind vs e.accs e.nodes
  | .num n, p, h => ⟨_, h⟩
  | .acc nm ls, p, ⟨t, h, _⟩ => ⟨_, h⟩
  | .bi k x y, p, ⟨_, a, b, h, _⟩ => ⟨_, h⟩
  | .nu k x n, p, ⟨_, a, h, _⟩ => ⟨_, h⟩
  | .un k x, p, ⟨_, a, h, _⟩ => ⟨_, h⟩
theorem ExAt.noGain {K : PySem.W.Frag} {C : Addr} {H : Hp} : ∀ {e : Ex} {p : Addr}, ExAt K C H e p → e.kind ≠ "gain" ∧ e.kind ≠ "loss"
  | .num n, p, h => ⟨nb _ _ (by decide +kernel), nb _ _ (by decide +kernel)⟩
  | .acc nm ls, p, h => ⟨nb _ _ (by decide +kernel), nb _ _ (by decide +kernel)⟩
  | .bi k x y, p, ⟨o, _⟩ => o.2.2
  | .nu k x n, p, ⟨o, _⟩ => o.2.2
  | .un k x, p, ⟨o, _⟩ => o.2.2
end Lw
namespace L2
open PySem PySem.Spec PyProof.Rows
/-- a list or a tuple, walked -/
def iSeq (K : PySem.W.Frag) (tl : TE) : TI := fun σ H R => tl σ H fun x H1 => ∃ a, x = .ref a ∧ (((∃ xs, SqL K H1 a xs) ∧ R (Itl K a) H1) ∨ ((∃ xs, SqT K H1 a xs) ∧ R (Itt K a) H1))
theorem pi_seq {X : Cx} {tg : Expr} {l : Expr} {tl : TE} (hl : PE X l tl) : PI X tg l (iSeq X.K tl) := by
  refine ⟨fun pins s σ H R I h => ?_⟩
  refine thn (hl.run pins s σ H _ I h) fun v s1 ⟨x, H1, I1, r1, q1⟩ => ?_
  obtain ⟨a, e, q⟩ := q1
  subst e
  cases r1
  rcases q with ⟨⟨xs, hq⟩, q⟩ | ⟨⟨xs, hq⟩, q⟩
  · obtain ⟨its, rv, p, hz⟩ := I1.list hq
    refine wpAny_pyIter_list p.isList ?_
    refine ⟨s1.heap.objs.size, [s1.heap.objs.size], _, _, H1, rfl, I1.kept (t' := s1.toks) fun b o e => Heap.get?_push_of_some _ e, turn_list a _, ⟨_, Heap.get?_push_size _ rfl, rfl, rfl⟩, fun b hb => ?_, q⟩
    have e : b = s1.heap.objs.size := by simpa using hb
    subst e
    exact I1.fpOk (Nat.le_refl _) (I1.hok.fresh (Nat.le_refl _))
  · obtain ⟨its, rv, p, hz⟩ := I1.tuple hq
    refine wpAny_pyIter_tuple (show s1.heap.IsTuple a its.toArray from p) ?_
    refine ⟨s1.heap.objs.size, [s1.heap.objs.size], _, _, H1, rfl, I1.kept (t' := s1.toks) fun b o e => Heap.get?_push_of_some _ e, turn_tuple a _, ⟨_, Heap.get?_push_size _ rfl, rfl, rfl⟩, fun b hb => ?_, q⟩
    have e : b = s1.heap.objs.size := by simpa using hb
    subst e
    exact I1.fpOk (Nat.le_refl _) (I1.hok.fresh (Nat.le_refl _))
end L2
namespace Lw
open PySem L2
/-- a list or a tuple -/
def SqA (K : PySem.W.Frag) (H : Hp) (a : Addr) (xs : List V) : Prop := SqL K H a xs ∨ SqT K H a xs
theorem SqA.same {K : PySem.W.Frag} {H H' : Hp} {a : Addr} {xs : List V} (g : Same H H') : SqA K H a xs → SqA K H' a xs
  | .inl h => .inl (Same.seq g h)
  | .inr h => .inr (seqT g h)
/-- a comprehension over a list or a tuple -/
theorem lc_seq {K : PySem.W.Frag} {a : Addr} {xs : List V} {g : TG} {tt : TT} {te : TE} {vs : List Nat} {σ : St} {H1 : Hp} {Qd : Addr → Hp → Prop} (h : SqA K H1 a xs) (Pv : Addr → Nat → Hp → Prop) (h0 : ∀ D, H1 D = none → Pv D 0 (upd H1 D (.lst []))) (hl : ∀ D i H, H1 D = none → Pv D i H → SqA K H a xs ∧ Same H1 H)
    (hs : ∀ D, H1 D = none → ∀ i x H, xs[i]? = some x → Pv D i H → g x (wipe σ vs) H fun σ2 H2 => wipe σ2 vs = wipe σ vs ∧ tt σ2 H2 fun b H3 =>
      if b = true then te σ2 H3 fun y H4 => ∃ acc, H4 D = some (.lst acc) ∧ acc.length < sizeLine ∧ Pv D (i + 1) (upd H4 D (.lst (acc ++ [y]))) else Pv D (i + 1) H3) (hd : ∀ D, H1 D = none → ∀ H, Pv D xs.length H → Qd D H) :
    ((∃ xs, SqL K H1 a xs) ∧ ∀ D, H1 D = none → ∃ W : Nat → Nat → Hp → Prop, (∃ m, W 0 m (upd H1 D (.lst []))) ∧ ∀ i m H, W i m H →
      ((Itl K a).stop i H ∧ Qd D H) ∨ ((Itl K a).go i H ∧ ∃ Nx : Hp → Prop, (∀ H', Nx H' → ∃ m', m' < m ∧ W (i + 1) m' H') ∧ ∀ x H', (Itl K a).yld i H x H' → g x (wipe σ vs) H' fun σ2 H2 => wipe σ2 vs = wipe σ vs ∧ tt σ2 H2 fun b H3 =>
        if b = true then te σ2 H3 fun y H4 => ∃ acc, H4 D = some (.lst acc) ∧ acc.length < sizeLine ∧ Nx (upd H4 D (.lst (acc ++ [y]))) else Nx H3)) ∨
    ((∃ xs, SqT K H1 a xs) ∧ ∀ D, H1 D = none → ∃ W : Nat → Nat → Hp → Prop, (∃ m, W 0 m (upd H1 D (.lst []))) ∧ ∀ i m H, W i m H →
      ((Itt K a).stop i H ∧ Qd D H) ∨ ((Itt K a).go i H ∧ ∃ Nx : Hp → Prop, (∀ H', Nx H' → ∃ m', m' < m ∧ W (i + 1) m' H') ∧ ∀ x H', (Itt K a).yld i H x H' → g x (wipe σ vs) H' fun σ2 H2 => wipe σ2 vs = wipe σ vs ∧ tt σ2 H2 fun b H3 =>
        if b = true then te σ2 H3 fun y H4 => ∃ acc, H4 D = some (.lst acc) ∧ acc.length < sizeLine ∧ Nx (upd H4 D (.lst (acc ++ [y]))) else Nx H3)) := by
  rcases h with h | h
  · exact .inl ⟨⟨_, h⟩, fun D hD => lc_list (K := K) (a := a) (xs := xs) (Pv D) (h0 D hD) (fun i H _ p => Same.seq (hl D i H hD p).2 h) (fun i x H hx p => hs D hD i x H hx p) (hd D hD)⟩
  · exact .inr ⟨⟨_, h⟩, fun D hD => lc_tup (K := K) (a := a) (xs := xs) (Pv D) (h0 D hD) (fun i H _ p => seqT (hl D i H hD p).2 h) (fun i x H hx p => hs D hD i x H hx p) (hd D hD)⟩
end Lw
namespace Lw
open PySem L2 OwB
abbrev sWhole : Stmt := topS 1
abbrev sAsc : Stmt := topS 3
abbrev sXini : Stmt := inClass (topS 15) 0
abbrev sNum : Stmt := topS 16
/-! the class Expression -/
structure Xc (K : PySem.W.Frag) (mg : Str → Option Value) (C fI : Addr) : Prop where
  ic : C8.InsC K C
  nK : NoAttr K C "kind"
  nP : NoAttr K C "parts"
  nN : NoAttr K C "node_count"
  nA : NoAttr K C "accesses"
  nL : NoAttr K C "letters"
  mkC : Mk K C fI
  mC : mg "Expression" = some (.ref C)
  sI : PySem.W.kitOne K (.type "int") (.ref C) = some false
  sS : PySem.W.kitOne K (.type "str") (.ref C) = some false
  sT : PySem.W.kitOne K (.type "tuple") (.ref C) = some false
  cI : PySem.W.kitOne K (.ref C) (.type "int") = some false
/-- more built-in names -/
structure Bx (mg : Str → Option Value) : Prop where
  sum : mg "sum" = none
  set : mg "set" = none
  sorted : mg "sorted" = none
  enum : mg "enumerate" = none
  str : mg "str" = none
def Kp (p : Addr) (H H' : Hp) : Prop := ∀ b o, b ≠ p → H b = some o → H' b = some o
theorem Kp.same {p : Addr} {H H1 H2 : Hp} (k : Kp p H H1) (g : Same H1 H2) : Kp p H H2 := fun b o n e => g _ _ (k b o n e)
theorem Kp.upd {p : Addr} {H H1 : Hp} (k : Kp p H H1) (o : HO) : Kp p H (upd H1 p o) := fun b u n e => by rw [upd_ne n]; exact k b u n e
theorem made_same {H H' : Hp} {x dx : Addr} {o1 o2 : HO} (hx : H x = none) (hd : H dx = none) (k : Kp x (upd (upd H dx o1) x o2) H') : Same H H' := fun b o e => by
  have n1 : b ≠ x := ne_of_none e hx
  have n2 : b ≠ dx := ne_of_none e hd
  exact k b o n1 (by rw [upd_ne n1, upd_ne n2]; exact e)
theorem Kp.seq {K : PySem.W.Frag} {p a C dx : Addr} {H H' : Hp} {xs : List V} {fs : List (Str × V)} (k : Kp p H H') (hp : H p = some (.ins C dx fs)) (h : SqT K H a xs) : SqT K H' a xs := by
  rcases h with (h | ⟨o, h⟩) | h
  · exact .inl (.inl (k _ _ (fun e => by rw [e, hp] at h; cases h) h))
  · exact .inl (.inr ⟨o, k _ _ (fun e => by rw [e, hp] at h; cases h) h⟩)
  · exact .inr h
theorem Kp.pair {K : PySem.W.Frag} {p C dx : Addr} {H H' : Hp} {fs : List (Str × V)} (k : Kp p H H') (hp : H p = some (.ins C dx fs)) {v : V} {q : Str × List Str} : PairAt K H v q → PairAt K H' v q
  | ⟨a, t, e, h1, h2⟩ => ⟨a, t, e, k.seq hp h1, k.seq hp h2⟩
theorem Kp.pairs {K : PySem.W.Frag} {p C dx : Addr} {H H' : Hp} {fs : List (Str × V)} (k : Kp p H H') (hp : H p = some (.ins C dx fs)) : ∀ {vs : List V} {ps : List (Str × List Str)}, PairsAt K H vs ps → PairsAt K H' vs ps
  | _, _, .nil => .nil
  | _, _, .cons h t => .cons (k.pair hp h) (Kp.pairs k hp t)
theorem fE_ne {k : Str} {tp ta tl : Addr} {m : Int} : fE k tp ta tl m ≠ [] := fun e => by
  have z := fE_l (k := k) (tp := tp) (ta := ta) (tl := tl) (m := m)
  rw [e] at z
  cases z
theorem Kp.hd {K : PySem.W.Frag} {p a C C' dx : Addr} {H H' : Hp} (k : Kp p H H') (hp : H p = some (.ins C dx [])) {w : Str} {vs : List V} {as : List (Str × List Str)} {m : Int} : HdE K C' H a w vs as m → HdE K C' H' a w vs as m
  | ⟨ex, tp, ta, tl, us, ys, h1, h2, h3, h4, h5, h6⟩ => ⟨ex, tp, ta, tl, us, ys, k _ _ (fun e => by
      rw [e, hp] at h1
      injection h1 with z
      injection z with _ _ z3
      exact fE_ne z3.symm) h1, k.seq hp h2, k.seq hp h3, k.pairs hp h4, k.seq hp h5, h6⟩
theorem Kp.ex {K : PySem.W.Frag} {p C C' dx : Addr} {H H' : Hp} (k : Kp p H H') (hp : H p = some (.ins C dx [])) : ∀ {e : Ex} {a : Addr}, ExAt K C' H e a → ExAt K C' H' e a
  | .num n, a, h => Kp.hd k hp h
  | .acc nm ls, a, ⟨t, h1, h2⟩ => ⟨t, k.hd hp h1, k.seq hp h2⟩
  | .bi w x y, a, ⟨o, b, c, h1, h2, h3⟩ => ⟨o, b, c, k.hd hp h1, Kp.ex k hp h2, Kp.ex k hp h3⟩
  | .nu w x n, a, ⟨o, b, h1, h2⟩ => ⟨o, b, k.hd hp h1, Kp.ex k hp h2⟩
  | .un w x, a, ⟨o, b, h1, h2⟩ => ⟨o, b, k.hd hp h1, Kp.ex k hp h2⟩
/-- a part: data, or an expression -/
def PtAt (K : PySem.W.Frag) (C : Addr) (H : Hp) (v : V) : Option Ex → Prop
  | none => (∃ i, v = .int i) ∨ (∃ s, v = .str s) ∨ ∃ t xs, v = .ref t ∧ SqT K H t xs
  | some e => ∃ a, v = .ref a ∧ ExAt K C H e a
theorem PtAt.same {K : PySem.W.Frag} {C : Addr} {H H' : Hp} {v : V} (g : Same H H') : ∀ {o : Option Ex}, PtAt K C H v o → PtAt K C H' v o
  | none, h => by
    rcases h with h | h | ⟨t, xs, e, h⟩
    · exact .inl h
    · exact .inr (.inl h)
    · exact .inr (.inr ⟨t, xs, e, seqT g h⟩)
  | some e, ⟨a, ea, h⟩ => ⟨a, ea, h.same g⟩
inductive PtsAt (K : PySem.W.Frag) (C : Addr) (H : Hp) : List V → List (Option Ex) → Prop where
  | nil : PtsAt K C H [] []
  | cons {v : V} {o : Option Ex} {vs : List V} {os : List (Option Ex)} (h : PtAt K C H v o) (t : PtsAt K C H vs os) : PtsAt K C H (v :: vs) (o :: os)
theorem PtsAt.get {K : PySem.W.Frag} {C : Addr} {H : Hp} : ∀ {vs : List V} {os : List (Option Ex)} {i : Nat} {v : V}, PtsAt K C H vs os → vs[i]? = some v → ∃ o, os[i]? = some o ∧ PtAt K C H v o
  | _, _, i, _, .nil, e => by cases e
  | _, _, 0, _, .cons h _, e => by cases e; exact ⟨_, rfl, h⟩
  | _, _, i + 1, _, .cons _ t, e => PtsAt.get (i := i) t e
theorem PtsAt.len {K : PySem.W.Frag} {C : Addr} {H : Hp} : ∀ {vs : List V} {os : List (Option Ex)}, PtsAt K C H vs os → vs.length = os.length
  | _, _, .nil => rfl
  | _, _, .cons _ t => congrArg Nat.succ t.len
/-- the operands, in a list -/
inductive OpsAt (K : PySem.W.Frag) (C : Addr) (H : Hp) : List V → List Ex → Prop where
  | nil : OpsAt K C H [] []
  | cons {a : Addr} {e : Ex} {vs : List V} {es : List Ex} (h : ExAt K C H e a) (t : OpsAt K C H vs es) : OpsAt K C H (.ref a :: vs) (e :: es)
theorem OpsAt.same {K : PySem.W.Frag} {C : Addr} {H H' : Hp} (g : Same H H') : ∀ {vs : List V} {es : List Ex}, OpsAt K C H vs es → OpsAt K C H' vs es
  | _, _, .nil => .nil
  | _, _, .cons h t => .cons (h.same g) (OpsAt.same g t)
theorem OpsAt.snoc {K : PySem.W.Frag} {C : Addr} {H : Hp} {a : Addr} {e : Ex} (h : ExAt K C H e a) : ∀ {vs : List V} {es : List Ex}, OpsAt K C H vs es → OpsAt K C H (vs ++ [.ref a]) (es ++ [e])
  | _, _, .nil => .cons h .nil
  | _, _, .cons q t => .cons q (OpsAt.snoc h t)
theorem OpsAt.len {K : PySem.W.Frag} {C : Addr} {H : Hp} : ∀ {vs : List V} {es : List Ex}, OpsAt K C H vs es → vs.length = es.length
  | _, _, .nil => rfl
  | _, _, .cons _ t => congrArg Nat.succ t.len
theorem OpsAt.get {K : PySem.W.Frag} {C : Addr} {H : Hp} : ∀ {vs : List V} {es : List Ex} {i : Nat} {v : V}, OpsAt K C H vs es → vs[i]? = some v → ∃ a e, v = .ref a ∧ es[i]? = some e ∧ ExAt K C H e a
  | _, _, i, _, .nil, e => by cases e
  | _, _, 0, _, .cons h _, e => by cases e; exact ⟨_, _, rfl, rfl, h⟩
  | _, _, i + 1, _, .cons _ t, e => OpsAt.get (i := i) t e
section
variable {P : Program} {w : World} {K : PySem.W.Frag} {mg : Str → Option Value} {base : Heap} {f C fI fA : Addr} {fd dI dA : FuncData}
def spWh (C : Addr) : Sp := fun vs H Q _ => ∃ v, vs = [v] ∧ ((∃ i : Int, v = .int i ∧ Q (.bl true) H) ∨ ∃ p dx fs, v = .ref p ∧ H p = some (.ins C dx fs) ∧ Q (.bl false) H)
theorem scW : FnScope ["n"] ["n"] (defScope sWhole) := ⟨rfl, rfl, rfl, by decide +kernel, rfl, by decide +kernel, by decide +kernel⟩
theorem tyI {H : Hp} {p dx : Addr} {fs : List (Str × V)} (c : C8.InsC K C) (h : H p = some (.ins C dx fs)) : TyX K H (.ref p) (.ref C) := .base (.ins h c.cl c.ha c.hn c.htk c.hm)
theorem ok_whole (F : Fun K "is_whole" "is_whole" sWhole f fd) (B : Bt mg) (T : Xc K mg C fI) : FnOk P w K mg base CX0 1 f fd ["n"] (spWh C) := by
  refine F.ok scW (fun vs H Q E h => ?_) (fun cdv A outer s H vs Q E hr h => ?_)
  · obtain ⟨v, rfl, _⟩ := h
    rfl
  obtain ⟨v, rfl, h⟩ := h
  refine ⟨_, pss_one (ps_ret (pe_and (pe_callB call_isi (by rfl) B.isi (by decide +kernel) (pa_cons (pv 0) (pa_cons (pe_bltn (v := .ty "int") (by rfl) B.int (by decide +kernel) rfl) pa_nil)))
    (pe_one (pe_not (pe_callB call_isi (by rfl) B.isi (by decide +kernel) (pa_cons (pv 0) (pa_cons (pe_bltn (v := .ty "bool") (by rfl) B.bool (by decide +kernel) rfl) pa_nil))))))), ?_⟩
  rcases h with ⟨i, rfl, q⟩ | ⟨p, dx, fs, rfl, hp, q⟩
  · refine ⟨_, rfl, _, _, .type "int", .type "int", true, rfl, .ty _, .base (.int i), kit_ty (by decide +kernel), _, rfl, ?_⟩
    refine iteT ?_
    exact ⟨_, rfl, _, _, .type "int", .type "bool", false, rfl, .ty _, .base (.int i), kit_ty (by decide +kernel), _, rfl, q⟩
  · refine ⟨_, rfl, _, _, .ref C, .type "int", false, rfl, .ty _, tyI T.ic hp, T.cI, _, rfl, ?_⟩
    exact iteF q
def spAsc (K : PySem.W.Frag) : Sp := fun vs H Q _ => ∃ (L : Addr) (zs : List Str), vs = [.ref L] ∧ SqL K H L (zs.map V.str) ∧ zs.length < 64 ∧ ∀ (t : Addr) (ys : List Str) (H' : Hp), Same H H' → SqT K H' t (ys.map V.str) → LetOk ys zs → Q (.ref t) H'
theorem scAs : FnScope ["names"] ["names"] (defScope sAsc) := ⟨rfl, rfl, rfl, by decide +kernel, rfl, by decide +kernel, by decide +kernel⟩
theorem ok_asc (F : Fun K "ascending" "ascending" sAsc f fd) (B : Bt mg) (B2 : Bx mg) : FnOk P w K mg base CX0 1 f fd ["names"] (spAsc K) := by
  refine F.ok scAs (fun vs H Q E h => ?_) (fun cdv A outer s H vs Q E hr h => ?_)
  · obtain ⟨L, zs, rfl, _⟩ := h
    rfl
  obtain ⟨L, zs, rfl, hL, h64, k⟩ := h
  refine ⟨_, pss_one (ps_ret (pe_callTy call_tuple_of (by rfl) B.tup (by decide +kernel) (pa_cons (pe_callB (TxS.cr_sortT rfl) (by rfl) B2.sorted (by decide +kernel) (pa_cons (pe_callTy (TxS.cr_setT rfl) (by rfl) B2.set (by decide +kernel) (pa_cons (pv 0) pa_nil)) pa_nil)) pa_nil))), ?_⟩
  refine ⟨_, rfl, L, zs, rfl, hL, h64, fun a l ha nd mem le => ?_⟩
  have g1 := same_new ha (TxS.SetT P w a l)
  refine ⟨a, l, rfl, upd_same, Nat.lt_of_le_of_lt le h64, fun ys p srt mm hl hp => ?_⟩
  have g2 := same_new hp (.lst (ys.map V.str))
  refine ⟨p, _, rfl, .inl ⟨SqL.of upd_same, fun t ht => ?_⟩⟩
  have g3 := same_new ht (.tup (ys.map V.str))
  exact k t ys _ ((g1.trans g2).trans g3) (SqT.of upd_same) ⟨srt, fun z => (mm z).trans (mem z), ⟨l, nd, hl, mem⟩⟩
end
end Lw
namespace Lw
open PySem L2 OwB
theorem Kp.pt {K : PySem.W.Frag} {p C C' dx : Addr} {H H' : Hp} {v : V} (k : Kp p H H') (hp : H p = some (.ins C dx [])) : ∀ {o : Option Ex}, PtAt K C' H v o → PtAt K C' H' v o
  | none, h => by
    rcases h with h | h | ⟨t, xs, e, h⟩
    · exact .inl h
    · exact .inr (.inl h)
    · exact .inr (.inr ⟨t, xs, e, k.seq hp h⟩)
  | some e, ⟨a, ea, h⟩ => ⟨a, ea, k.ex hp h⟩
theorem Kp.pts {K : PySem.W.Frag} {p C C' dx : Addr} {H H' : Hp} (k : Kp p H H') (hp : H p = some (.ins C dx [])) : ∀ {vs : List V} {os : List (Option Ex)}, PtsAt K C' H vs os → PtsAt K C' H' vs os
  | _, _, .nil => .nil
  | _, _, .cons h t => .cons (k.pt hp h) (Kp.pts k hp t)
abbrev opsOf (os : List (Option Ex)) : List Ex := os.filterMap id
theorem ops_none {os : List (Option Ex)} {i : Nat} (h : os[i]? = some none) : opsOf (os.take (i + 1)) = opsOf (os.take i) := by
  unfold opsOf
  rw [List.take_add_one, h, List.filterMap_append] <;> simp
theorem ops_some {os : List (Option Ex)} {i : Nat} {e : Ex} (h : os[i]? = some (some e)) : opsOf (os.take (i + 1)) = opsOf (os.take i) ++ [e] := by
  unfold opsOf
  rw [List.take_add_one, h, List.filterMap_append] <;> rfl
/-- the accesses of the operands, the nodes -/
def accsOf (es : List Ex) : List (Str × List Str) := (es.map Ex.accs).flatten
def InvOp (K : PySem.W.Frag) (C : Addr) (HA HB : Hp) (D : Addr) (os : List (Option Ex)) (i : Nat) (H : Hp) : Prop := ∃ acc : List V, H D = some (.lst acc) ∧ OpsAt K C HA acc (opsOf (os.take i)) ∧ Same HB H
theorem Kp.ops {K : PySem.W.Frag} {p C C' dx : Addr} {H H' : Hp} (k : Kp p H H') (hp : H p = some (.ins C dx [])) : ∀ {vs : List V} {es : List Ex}, OpsAt K C' H vs es → OpsAt K C' H' vs es
  | _, _, .nil => .nil
  | _, _, .cons h t => .cons (k.ex hp h) (Kp.ops k hp t)
def InvMp {α : Type} (H0 : Hp) (D : Addr) (f : α → V) (l : List α) (i : Nat) (H : Hp) : Prop := H D = some (.lst ((l.take i).map f)) ∧ Same H0 H
theorem InvMp.next {α : Type} {H0 H : Hp} {D : Addr} {f : α → V} {l : List α} {i : Nat} {a : α} (hd0 : H0 D = none) (hH : Same H0 H) (e : l[i]? = some a) : InvMp H0 D f l (i + 1) (upd H D (.lst ((l.take i).map f ++ [f a]))) :=
  ⟨by rw [upd_same, List.take_succ, e, List.map_append] <;> rfl, same_over hH hd0 _⟩
/-- the values at which the accesses of the operands stand -/
inductive AccsAt (K : PySem.W.Frag) (H : Hp) : List Ex → List (List V) → Prop where
  | nil : AccsAt K H [] []
  | cons {e : Ex} {us : List V} {es : List Ex} {uss : List (List V)} (h : PairsAt K H us e.accs) (t : AccsAt K H es uss) : AccsAt K H (e :: es) (us :: uss)
theorem AccsAt.all {K : PySem.W.Frag} {H : Hp} : ∀ {es : List Ex} {uss : List (List V)}, AccsAt K H es uss → PairsAt K H uss.flatten (accsOf es)
  | _, _, .nil => .nil
  | _, _, .cons h t => h.app t.all
/-- where the accesses of each operand stand -/
theorem OpsAt.accs {K : PySem.W.Frag} {C : Addr} {H : Hp} : ∀ {vs : List V} {es : List Ex}, OpsAt K C H vs es → ∃ uss : List (List V), AccsAt K H es uss ∧ vs.length = uss.length ∧
    ∀ (i : Nat) (v : V), vs[i]? = some v → ∃ (a dx tp ta tl : Addr) (k : Str) (m : Int) (us : List V), v = .ref a ∧ H a = some (.ins C dx (fE k tp ta tl m)) ∧ uss[i]? = some us ∧ SqT K H ta us
  | _, _, .nil => ⟨[], .nil, rfl, fun i v e => by cases e⟩
  | _, _, .cons h t => by
    obtain ⟨uss, h1, h2, h3⟩ := OpsAt.accs t
    obtain ⟨_, dx, tp, ta, tl, us, ys, ha, _, hta, hpr, _⟩ := h.hd
    refine ⟨us :: uss, .cons hpr h1, congrArg Nat.succ h2, fun i v e => ?_⟩
    cases i with
    | zero => cases e; exact ⟨_, dx, tp, ta, tl, _, _, us, rfl, ha, rfl, hta⟩
    | succ i => exact h3 i v e
theorem flat_lts : ∀ (as : List (Str × List Str)), flat (fun i => ((as.getD i (Str.empty, [])).2).map V.str) as.length = (lts as).map V.str := by
  intro as
  have key : ∀ (n : Nat), n ≤ as.length → flat (fun i => ((as.getD i (Str.empty, [])).2).map V.str) n = (lts (as.take n)).map V.str := by
    intro n
    induction n with
    | zero => intro _; rfl
    | succ n ih =>
      intro h
      have hn : as[n]? = some as[n] := List.getElem?_eq_getElem (by omega)
      show flat _ n ++ ((as.getD n (Str.empty, [])).2).map V.str = _
      rw [ih (by omega), List.take_add_one, hn, List.getD_eq_getElem?_getD, hn]
      unfold lts
      rw [List.map_append, List.flatten_append, List.map_append]
      simp
  rw [key _ (Nat.le_refl _), List.take_length]
theorem flat_le2 (fs : Nat → List V) (m n i : Nat) (h : (flat fs m).length ≤ n) (hi : i < m) : (flat fs i).length + (fs i).length ≤ n := by
  have step : ∀ d, (flat fs (i + 1)).length ≤ (flat fs (i + 1 + d)).length := by
    intro d
    induction d with
    | zero => exact Nat.le_refl _
    | succ d ih =>
      refine Nat.le_trans ih ?_
      show _ ≤ (flat fs (i + 1 + d) ++ fs (i + 1 + d)).length
      rw [List.length_append]
      exact Nat.le_add_right _ _
  have z := step (m - (i + 1))
  rw [show i + 1 + (m - (i + 1)) = m by omega] at z
  have e : flat fs (i + 1) = flat fs i ++ fs i := rfl
  rw [e, List.length_append] at z
  omega
theorem flat_get : ∀ (uss : List (List V)), flat (fun i => uss.getD i []) uss.length = uss.flatten := by
  intro uss
  have key : ∀ (n : Nat), n ≤ uss.length → flat (fun i => uss.getD i []) n = (uss.take n).flatten := by
    intro n
    induction n with
    | zero => intro _; rfl
    | succ n ih =>
      intro h
      have hn : uss[n]? = some uss[n] := List.getElem?_eq_getElem (by omega)
      show flat (fun i => uss.getD i []) n ++ uss.getD n [] = _
      rw [ih (by omega), List.take_add_one, hn, List.flatten_append, List.getD_eq_getElem?_getD, hn]
      simp
  rw [key _ (Nat.le_refl _), List.take_length]
theorem Kp.sql {K : PySem.W.Frag} {p a C dx : Addr} {H H' : Hp} {xs : List V} {fs : List (Str × V)} (k : Kp p H H') (hp : H p = some (.ins C dx fs)) (h : SqL K H a xs) : SqL K H' a xs := by
  rcases h with (h | ⟨o, h⟩) | h
  · exact .inl (.inl (k _ _ (fun e => by rw [e, hp] at h; cases h) h))
  · exact .inl (.inr ⟨o, k _ _ (fun e => by rw [e, hp] at h; cases h) h⟩)
  · exact .inr h
def spXini (K : PySem.W.Frag) (C : Addr) : Sp := fun vs H Q _ => ∃ (p dx tp : Addr) (k : Str) (xs : List V) (os : List (Option Ex)) (own as : List (Str × List Str)), vs = [.ref p, .str k, .ref tp] ∧ H p = some (.ins C dx []) ∧ SqA K H tp xs ∧ PtsAt K C H xs os ∧ xs.length ≤ 10 ∧
  ((k = "access" ∧ SqT K H tp xs ∧ ∃ pr, own = [pr] ∧ PairAt K H (.ref tp) pr) ∨ (k ≠ "access" ∧ own = [])) ∧ as = own ++ accsOf (opsOf os) ∧ as.length ≤ 900 ∧ (lts as).length < 64 ∧
  ∀ H' : Hp, Kp p H H' → HdE K C H' p k xs as (1 + ((opsOf os).map Ex.nodes).sum) → Q .non H'
abbrev namesX : List Str := ["self", "kind", "parts", "operands", "own", "part", "operand", "pair", "letter"]
section
variable {P : Program} {w : World} {K : PySem.W.Frag} {mg : Str → Option Value} {base : Heap} {f C fI fA : Addr} {fd dI dA : FuncData}
theorem scX : FnScope namesX ["self", "kind", "parts"] (defScope sXini) := ⟨rfl, rfl, rfl, by decide +kernel, rfl, by decide +kernel, by decide +kernel⟩
theorem ok_xini (F : Fun K "__init__" "Expression.__init__" sXini fI dI) (T : Xc K mg C fI) (B : Bt mg) (B2 : Bx mg) (GA : FnOk P w K mg base CX0 1 fA dA ["names"] (spAsc K)) (bA : Binds K dA ["names"] []) (kA : PySem.W.keepIn K (.ref fA) = true) (mA : mg "ascending" = some (.ref fA)) :
    FnOk P w K mg base CX0 2 fI dI ["self", "kind", "parts"] (spXini K C) := by
  refine F.ok scX (fun vs H Q E h => ?_) (fun cdv A outer s H vs Q E hr h => ?_)
  · obtain ⟨p, dx, tp, k, xs, os, own, as, rfl, _⟩ := h
    rfl
  obtain ⟨p, dx, src, k, xs, os, own, as, rfl, hp, htp, hpts, hx10, hown, eas, has, hlt, q⟩ := h
  refine ⟨_, pss_cons (ps_fld (pv 0) (pv 1) rfl)
    (C8.pss_cut (ps_fld (pv 0) (pe_callTy call_tuple_of (by rfl) B.tup (by decide +kernel) (pa_cons (pv 2) pa_nil)) rfl)
    (pss_cons (ps_setLc (i := 3) (own := [("part", 5)]) (g := gName 5) (tt := tB (tCB (rIsi K) (tCons (tVar 5) (tCons (tC (.ref C)) tNil)))) (te := tVar 5) rfl scX.nd rfl rfl (sw_true rfl rfl rfl (by decide +kernel)) (pi_seq (pv 2)) (blkOk_by (N := namesX) (sc := defScope sXini) (by decide +kernel)) (fun _ _ _ _ _ => pg_name (i := 5) scX.nd rfl (Or.inl rfl))
      (fun _ _ _ _ _ => pts_one (pt_val (pe_callB call_isi (by rfl) B.isi (by decide +kernel) (pa_cons (pv 5) (pa_cons (pe_glob (v := .ref C) (by rfl) T.mC rfl) pa_nil))))) (fun _ _ _ _ _ => pv 5))
    (pss_cons (ps_fld (pv 0) (pe_op op_add pe_int (pe_callB (cr_sum rfl) (by rfl) B2.sum (by decide +kernel) (pa_cons (pe_lc (own := [("operand", 6)]) (g := gName 6) (tt := tYes) (te := tFld K (tVar 6) "node_count") rfl scX.nd (pi_list (pv 3)) (blkOk_by (N := namesX) (sc := defScope sXini) (by decide +kernel)) (fun _ _ _ _ _ => pg_name (i := 6) scX.nd rfl (Or.inl rfl)) (fun _ _ _ _ _ => pts_nil) (fun _ _ _ _ _ => pe_fld (pv 6) rfl)) pa_nil))) rfl)
    (C8.pss_cut (ps_set (i := 4) scX.nd rfl (Or.inl rfl) (pe_ifExp (pt_cmpR op_eq (pv 1) pe_str (nomark _)) (pe_lst (pa_cons (pe_fld (pv 0) rfl) pa_nil)) (pe_lst pa_nil)))
    (pss_cons (ps_fld (pv 0) (pe_callTy call_tuple_of (by rfl) B.tup (by decide +kernel) (pa_cons (pe_op op_cat (pv 4) (pe_lc2 (own := [("operand", 6), ("pair", 7)]) (vs1 := [7]) (g := gName 6) (g1 := gName 7) (tt := tYes) (tt1 := tYes) (wi1 := iTup K (tFld K (tVar 6) "accesses")) (te := tVar 7) rfl scX.nd (pi_list (pv 3)) (blkOk_by (N := namesX) (sc := defScope sXini) (by decide +kernel)) (by decide)
        (fun _ _ _ _ _ => pg_name (i := 6) scX.nd rfl (Or.inl rfl)) (fun _ _ _ _ _ => pts_nil) (fun _ _ _ _ _ => pi_tup (pe_fld (pv 6) rfl)) (fun _ _ _ _ _ => pg_name (i := 7) scX.nd rfl (Or.inl rfl)) (fun _ _ _ _ _ => pts_nil) (fun _ _ _ _ _ => pv 7))) pa_nil)) rfl)
    (pss_one (ps_fld (pv 0) (pe_call GA hr rfl mA kA bA .nil pass0 (pa_cons (pe_lc2 (own := [("pair", 7), ("letter", 8)]) (vs1 := [8]) (g := gName 7) (g1 := gName 8) (tt := tYes) (tt1 := tYes) (wi1 := iTup K (tOp (rIxT K) (tVar 7) (tC (.int 1)))) (te := tVar 8) rfl scX.nd (pi_tup (pe_fld (pv 0) rfl)) (blkOk_by (N := namesX) (sc := defScope sXini) (by decide +kernel)) (by decide)
        (fun _ _ _ _ _ => pg_name (i := 7) scX.nd rfl (Or.inl rfl)) (fun _ _ _ _ _ => pts_nil) (fun _ _ _ _ _ => pi_tup (pe_ix ix_tup (pv 7) pe_int (fun _ _ => rfl))) (fun _ _ _ _ _ => pg_name (i := 8) scX.nd rfl (Or.inl rfl)) (fun _ _ _ _ _ => pts_nil) (fun _ _ _ _ _ => pv 8)) pa_nil)) rfl))))))), ?_⟩
  refine ⟨_, rfl, _, rfl, p, C, dx, _, rfl, hp, T.ic.cl, T.nK, by decide, ?_⟩
  have k1 : Kp p H (upd H p (.ins C dx (putF "kind" (.str k) []))) := Kp.upd (fun b o _ e => e) _
  refine ⟨fun σ' HB => ∃ (Hs : Hp) (tq : Addr), σ' = [some (.ref p), some (.str k), some (.ref src), none, none, none, none, none, none] ∧ Kp p H Hs ∧ Hs p = some (.ins C dx []) ∧ SqT K Hs tq xs ∧ SqA K Hs src xs ∧ PtsAt K C Hs xs os ∧ ((k = "access" ∧ ∃ pr, own = [pr] ∧ PairAt K Hs (.ref tq) pr) ∨ (k ≠ "access" ∧ own = [])) ∧ Kp p Hs HB ∧ HB p = some (.ins C dx (putF "parts" (.ref tq) (putF "kind" (.str k) []))), ?_, ?_⟩
  · have alt : (SqT K H src xs ∧ ((k = "access" ∧ ∃ pr, own = [pr] ∧ PairAt K H (.ref src) pr) ∨ (k ≠ "access" ∧ own = []))) ∨ (SqL K H src xs ∧ k ≠ "access" ∧ own = []) := by
      rcases hown with ⟨ek, hT, pr, eo, hpr⟩ | ⟨nk, eo⟩
      · exact .inl ⟨hT, .inl ⟨ek, pr, eo, hpr⟩⟩
      · exact htp.elim (fun h => .inr ⟨h, nk, eo⟩) (fun h => .inl ⟨h, .inr ⟨nk, eo⟩⟩)
    rcases alt with ⟨hT, hown'⟩ | ⟨hl, nk, eo⟩
    · refine ⟨_, rfl, src, _, rfl, .inr ⟨k1.seq hp hT, ?_⟩⟩
      exact ⟨_, rfl, p, C, dx, _, rfl, upd_same, T.ic.cl, T.nP, (by show 1 < 1000; decide), ⟨H, src, rfl, fun b o _ e => e, hp, hT, .inr hT, hpts, hown', k1.upd _, upd_same⟩⟩
    · refine ⟨_, rfl, src, _, rfl, .inl ⟨k1.sql hp hl, fun l hl0 => ?_⟩⟩
      have nlp : l ≠ p := fun e => by
        rw [e, upd_same] at hl0
        cases hl0
      have hl1 : H l = none := by rw [upd_ne nlp] at hl0; exact hl0
      have g0 := same_new hl1 (.tup xs)
      refine ⟨_, rfl, p, C, dx, putF "kind" (.str k) [], rfl, by rw [upd_ne nlp.symm, upd_same], T.ic.cl, T.nP, (by show 1 < 1000; decide), ?_⟩
      refine ⟨upd H l (.tup xs), l, rfl, fun b o _ e => g0 _ _ e, g0 _ _ hp, SqT.of upd_same, .inl (Same.seq g0 hl), Kp.pts (H' := upd H l (.tup xs)) (fun b o _ e => g0 _ _ e) hp hpts, .inr ⟨nk, eo⟩, fun b o n e => ?_, upd_same⟩
      rw [upd_ne n]
      by_cases hb : b = l
      · subst hb
        rw [upd_same] at e ⊢
        exact e
      · rw [upd_ne hb] at e ⊢
        rw [upd_ne n]
        exact e
  clear k1 hown hpts htp hp
  rintro σ' HB ⟨H, tp, rfl, kS, hp, htp, hsrcS, hpts, hown, k2, hp2⟩
  have q : ∀ H' : Hp, Kp p H H' → HdE K C H' p k xs as (1 + ((opsOf os).map Ex.nodes).sum) → Q .non H' := fun H' g h => q H' (fun b o n e => g b o n (kS b o n e)) h
  clear kS
  have srcB : SqA K HB src xs := hsrcS.elim (fun h => .inl (k2.sql hp h)) (fun h => .inr (k2.seq hp h))
  have tpB := k2.seq hp htp
  have ptB := k2.pts hp hpts
  -- the operands
  refine ⟨_, rfl, src, rfl, ?_⟩
  refine lc_seq (K := K) (a := src) (xs := xs) srcB (fun D1 => InvOp K C H HB D1 os) (fun D1 hD1 => ⟨[], upd_same, .nil, same_new hD1 _⟩) (fun D1 i H' hD1 ⟨_, _, _, g⟩ => ⟨srcB.same g, g⟩) (fun D1 hD1 i x H' hx ⟨acc, hd, ho, g⟩ => ?_) (fun D1 hD1 H1 inv => ?_)
  · refine ⟨rfl, ?_⟩
    obtain ⟨o, eo, hpt0⟩ := hpts.get hx
    have hpt := k2.pt hp hpt0
    cases o with
    | none =>
      have fin : InvOp K C H HB D1 os (i + 1) H' := ⟨acc, hd, by rw [ops_none eo]; exact ho, g⟩
      rcases hpt with ⟨j, rfl⟩ | ⟨z, rfl⟩ | ⟨t, ys, rfl, ht⟩
      · exact ⟨_, rfl, _, .ref C, _, .ref C, false, rfl, .own C, .base (.int j), T.sI, _, rfl, iteF fin⟩
      · exact ⟨_, rfl, _, .ref C, _, .ref C, false, rfl, .own C, .base (.str z), T.sS, _, rfl, iteF fin⟩
      · exact ⟨_, rfl, _, .ref C, _, .ref C, false, rfl, .own C, tyT (seqT g ht), T.sT, _, rfl, iteF fin⟩
    | some e =>
      obtain ⟨a, rfl, he⟩ := hpt0
      obtain ⟨_, dx', _, _, _, _, _, ha, _⟩ := (k2.ex hp he).hd
      refine ⟨_, rfl, _, .ref C, _, .ref C, true, rfl, .own C, tyI T.ic (g _ _ ha), T.ic.me, _, rfl, iteT ?_⟩
      have hal : acc.length ≤ os.length := by
        rw [ho.len]
        exact Nat.le_trans (List.length_filterMap_le _ _) (by rw [List.length_take]; exact Nat.min_le_right _ _)
      have hol := ptB.len
      exact ⟨_, rfl, acc, hd, small1000 (by omega), acc ++ [.ref a], upd_same, by rw [ops_some eo]; exact ho.snoc he, same_over g hD1 _⟩
  obtain ⟨acc, hd1, ho1, g1⟩ := inv
  rw [List.take_of_length_le (by rw [ptB.len]; exact Nat.le_refl _)] at ho1
  generalize hes : opsOf os = es at ho1 eas q
  have hel : es.length ≤ 10 := by
    rw [← hes]
    exact Nat.le_trans (List.length_filterMap_le _ _) (by rw [← hpts.len]; exact hx10)
  have k3 := k2.same g1
  have hop1 := k3.ops hp ho1
  -- the nodes
  refine ⟨_, rfl, D1, rfl, ⟨_, SqL.of hd1⟩, fun D2 hD2 => ?_⟩
  refine lc_list (K := K) (a := D1) (xs := acc) (InvMp H1 D2 (fun e : Ex => V.int e.nodes) es) ⟨upd_same, same_new hD2 _⟩ (fun i H' _ ⟨_, g⟩ => SqL.of (g _ _ hd1)) (fun i x H' hx hv => ?_) ?_
  · obtain ⟨a, e, rfl, ee, he⟩ := hop1.get hx
    obtain ⟨_, dx', _, _, _, _, _, ha, _⟩ := he.hd
    refine ⟨rfl, kept ?_⟩
    refine ⟨_, rfl, a, C, dx', _, _, rfl, hv.2 _ _ ha, T.ic.cl, T.nN, fE_n, ?_⟩
    exact ⟨_, hv.1, by rw [List.length_map, List.length_take]; exact small1000 (by omega), InvMp.next (f := fun e : Ex => V.int e.nodes) hD2 hv.2 ee⟩
  rintro H2 ⟨hd2, g2⟩
  rw [List.take_of_length_le (by rw [ho1.len]; exact Nat.le_refl _)] at hd2
  have k4 := k3.same g2
  refine ⟨D2, es.map Ex.nodes, rfl, SqL.of (by rw [hd2, List.map_map] <;> rfl), _, _, rfl, rfl, _, rfl, p, C, dx, _, rfl, g2 _ _ (g1 _ _ hp2), T.ic.cl, T.nN, (by show 2 < 1000; decide), ?_⟩
  dsimp only
  generalize hm : (1 : Int) + (es.map Ex.nodes).sum = m at q ⊢
  have n1p : D1 ≠ p := fun e => by
    rw [e, g1 _ _ hp2] at hd1
    cases hd1
  have hdC : upd H2 p (.ins C dx (putF "node_count" (.int m) (putF "parts" (.ref tp) (putF "kind" (.str k) [])))) D1 = some (.lst acc) := by
    rw [upd_ne n1p]
    exact g2 _ _ hd1
  have kC := k4.upd (.ins C dx (putF "node_count" (.int m) (putF "parts" (.ref tp) (putF "kind" (.str k) []))))
  have hpC : upd H2 p (.ins C dx (putF "node_count" (.int m) (putF "parts" (.ref tp) (putF "kind" (.str k) [])))) p = some (.ins C dx (putF "node_count" (.int m) (putF "parts" (.ref tp) (putF "kind" (.str k) [])))) := upd_same
  revert hdC kC hpC
  generalize upd H2 p (.ins C dx (putF "node_count" (.int m) (putF "parts" (.ref tp) (putF "kind" (.str k) [])))) = HC
  intro hdC kC hpC
  have flp : (putF "node_count" (V.int m) (putF "parts" (.ref tp) (putF "kind" (.str k) []))).lookup ("parts" : Str) = some (.ref tp) := by
    rw [lookup_putF, if_neg (nb _ _ (by decide +kernel)), lookup_putF, if_pos rfl]
  clear hd2 g2 k4 k3 g1 hop1 hd1 ptB tpB hp2 k2 hm
  -- its own access
  refine ⟨fun σ' H' => ∃ (Lo : Addr) (ovs : List V), σ' = [some (.ref p), some (.str k), some (.ref src), some (.ref D1), some (.ref Lo), none, none, none, none] ∧ H' Lo = some (.lst ovs) ∧ PairsAt K H' ovs own ∧ ovs.length ≤ 1 ∧ Same HC H', ?_, ?_⟩
  · refine ⟨_, rfl, rfl, _, rfl, ?_⟩
    refine ite2 (fun c => ?_) (fun c => ?_)
    · have ek : k = "access" := by
        have z := of_decide_eq_true c
        cases z
        rfl
      rcases hown with ⟨_, pr, rfl, hpr⟩ | ⟨n, _⟩
      · refine ⟨_, rfl, p, C, dx, _, _, rfl, hpC, T.ic.cl, T.nP, flp, (by show 1 ≤ sizeLine; decide), fun l hl => ?_⟩
        have g := same_new hl (.lst [.ref tp])
        exact ⟨l, _, rfl, upd_same, .cons ((kC.pair hp hpr).same g) .nil, (by show 1 ≤ 1; decide), g⟩
      · exact absurd ek n
    · have ek : k ≠ "access" := fun e => c (decide_eq_true (congrArg V.str e))
      rcases hown with ⟨e, _⟩ | ⟨_, rfl⟩
      · exact absurd e ek
      · refine ⟨Nat.zero_le _, fun l hl => ?_⟩
        have g := same_new hl (.lst [])
        exact ⟨l, _, rfl, upd_same, .nil, by decide, g⟩
  rintro σ' H3 ⟨Lo, ovs, rfl, hLo, hprs, hovs, g3⟩
  have k5 := kC.same g3
  have hd3 := g3 _ _ hdC
  obtain ⟨uss, hacs, hul, hug⟩ := (k5.ops hp ho1).accs
  have hall := hacs.all
  have eaccs := hall.len
  have hL1 : uss.flatten.length ≤ 900 := by
    rw [eaccs]
    rw [eas, List.length_append] at has
    omega
  refine ⟨_, rfl, _, rfl, D1, rfl, ⟨_, SqL.of hd3⟩, fun D3 hD3 => ?_⟩
  refine lc2_it (K := K) (xs := acc) (i0 := 6) (j0 := 7) (fun i => uss.getD i []) hD3 (outer_list (SqL.of hd3)) (fun i x H' R hx g hR => ?_) (by rw [hul, flat_get]; omega) (fun i hi => flat_le2 _ acc.length 1000 i (by rw [hul, flat_get]; omega) hi) (fun H4 hd4 g4 => ?_) (fun _ => rfl) (fun _ _ => rfl) (fun _ _ => rfl)
  · obtain ⟨a, dx', tp', ta', tl', k', m', us, rfl, ha, eu, hta⟩ := hug i x hx
    refine ⟨_, rfl, a, C, dx', _, _, rfl, g _ _ ha, T.ic.cl, T.nA, fE_a, ta', rfl, ⟨_, seqT g hta⟩, hR ta' ?_⟩
    show SqT K H3 ta' (uss.getD i [])
    rw [List.getD_eq_getElem?_getD, eu]
    exact hta
  rw [hul, flat_get] at hd4
  refine ⟨Lo, D3, _, _, rfl, rfl, g4 _ _ hLo, hd4, Nat.le_of_lt (small1000 (by omega)), fun L5 hL5 => ?_⟩
  have g5 := same_new hL5 (.lst (ovs ++ uss.flatten))
  refine ⟨L5, _, rfl, .inl ⟨SqL.of upd_same, fun ta hta => ?_⟩⟩
  have g6 := same_new hta (.tup (ovs ++ uss.flatten))
  have g36 := (g4.trans g5).trans g6
  have hp6 := g36 _ _ (g3 _ _ hpC)
  refine ⟨_, rfl, p, C, dx, _, rfl, hp6, T.ic.cl, T.nA, (by show 3 < 1000; decide), ?_⟩
  have k6 := ((k5.same g36).upd (.ins C dx (putF "accesses" (.ref ta) (putF "node_count" (.int m) (putF "parts" (.ref tp) (putF "kind" (.str k) []))))))
  have hpD : upd (upd (upd H4 L5 (.lst (ovs ++ uss.flatten))) ta (.tup (ovs ++ uss.flatten))) p (.ins C dx (putF "accesses" (.ref ta) (putF "node_count" (.int m) (putF "parts" (.ref tp) (putF "kind" (.str k) []))))) p = some (.ins C dx (putF "accesses" (.ref ta) (putF "node_count" (.int m) (putF "parts" (.ref tp) (putF "kind" (.str k) []))))) := upd_same
  have taD : SqT K (upd (upd (upd H4 L5 (.lst (ovs ++ uss.flatten))) ta (.tup (ovs ++ uss.flatten))) p (.ins C dx (putF "accesses" (.ref ta) (putF "node_count" (.int m) (putF "parts" (.ref tp) (putF "kind" (.str k) [])))))) ta (ovs ++ uss.flatten) := by
    refine SqT.of ?_
    rw [upd_ne (ne_of upd_same hp6 (by intro z; cases z))]
    exact upd_same
  have kk : Kp p H3 (upd (upd (upd H4 L5 (.lst (ovs ++ uss.flatten))) ta (.tup (ovs ++ uss.flatten))) p (.ins C dx (putF "accesses" (.ref ta) (putF "node_count" (.int m) (putF "parts" (.ref tp) (putF "kind" (.str k) [])))))) := Kp.upd (fun b o _ e => g36 _ _ e) _
  have prD := (kk.pairs (g3 _ _ hpC) hprs).app (kk.pairs (g3 _ _ hpC) hall)
  rw [← eas] at prD
  revert k6 hpD taD prD
  generalize upd (upd (upd H4 L5 (.lst (ovs ++ uss.flatten))) ta (.tup (ovs ++ uss.flatten))) p (.ins C dx (putF "accesses" (.ref ta) (putF "node_count" (.int m) (putF "parts" (.ref tp) (putF "kind" (.str k) []))))) = HD
  intro k6 hpD taD prD
  clear kk hp6 g36 g6 hta g5 hL5 hd4 g4 k5 hd3 hacs hug hall
  -- the letters
  have exl := prD.len
  refine ⟨_, rfl, p, C, dx, _, _, rfl, hpD, T.ic.cl, T.nA, (by rw [lookup_putF, if_pos rfl]), ta, rfl, ⟨_, taD⟩, fun D5 hD5 => ?_⟩
  have hfl : (flat (fun i => ((as.getD i (Str.empty, [])).2).map V.str) (ovs ++ uss.flatten).length).length ≤ 1000 := by
    rw [exl, flat_lts, List.length_map]
    omega
  refine lc2_it (K := K) (xs := ovs ++ uss.flatten) (i0 := 7) (j0 := 8) (fun i => ((as.getD i (Str.empty, [])).2).map V.str) hD5 (outer_tup taD) (fun i x H' R hx g hR => ?_) hfl (fun i hi => flat_le2 _ _ 1000 i hfl hi) (fun H6 hd6 g6 => ?_) (fun _ => rfl) (fun _ _ => rfl) (fun _ _ => rfl)
  · obtain ⟨pr, epr, a, t, rfl, h1, h2⟩ := prD.get hx
    refine ⟨_, rfl, a, _, 1, .ref t, rfl, rfl, seqT g h1, rfl, t, rfl, ⟨_, seqT g h2⟩, hR t ?_⟩
    show SqT K HD t ((as.getD i (Str.empty, [])).2.map V.str)
    rw [List.getD_eq_getElem?_getD, epr]
    exact h2
  rw [exl, flat_lts] at hd6
  refine ⟨D5, lts as, rfl, SqL.of hd6, hlt, fun tl ys H7 g7 htl hlet => ?_⟩
  have hp7 := g7 _ _ (g6 _ _ hpD)
  refine ⟨_, rfl, p, C, dx, _, rfl, hp7, T.ic.cl, T.nL, (by show 4 < 1000; decide), ?_⟩
  have kD : Kp p HD (upd H7 p (.ins C dx (fE k tp ta tl m))) := Kp.upd (fun b o _ e => g7 _ _ (g6 _ _ e)) _
  have k7 : Kp p H (upd H7 p (.ins C dx (fE k tp ta tl m))) := fun b o n e => kD b o n (k6 b o n e)
  have kE : Kp p H7 (upd H7 p (.ins C dx (fE k tp ta tl m))) := Kp.upd (fun b o _ e => e) _
  exact q _ k7 ⟨dx, tp, ta, tl, _, ys, upd_same, k7.seq hp htp, kD.seq hpD taD, kD.pairs hpD prD, kE.seq hp7 htl, hlet⟩
end
end Lw
namespace Lw
open PySem L2 OwB
abbrev sAcc : Stmt := topS 17
abbrev sChkL : Stmt := topS 18
abbrev sChkE : Stmt := topS 20
abbrev sOpd : Stmt := topS 21
abbrev sJoin : Stmt := topS 22
theorem sIx_nat (n d i : Nat) : HT.sIx n d (some (i : Int)) = min i n := by
  unfold HT.sIx
  simp only
  split
  · omega
  · omega
theorem sIx_none (n d : Nat) : HT.sIx n d none = d := rfl
theorem cut_take (xs : List V) (i : Nat) (h : i ≤ xs.length) : cutV xs none (some (i : Int)) = xs.take i := by
  unfold cutV
  rw [sIx_nat, sIx_none, List.drop_zero, Nat.sub_zero, Nat.min_eq_left h]
theorem in_strs (z : Str) : ∀ ls : List Str, inV (.str z) (ls.map V.str) = decide (z ∈ ls)
  | [] => by simp [inV]
  | y :: r => by
    have q := in_strs z r
    unfold inV at q ⊢
    rw [List.map_cons, List.any_cons, q]
    show ((y == z) || decide (z ∈ r)) = decide (z ∈ y :: r)
    by_cases h : y = z
    · subst h
      simp
    · have h2 : ¬ z = y := fun e => h e.symm
      simp [h, h2]
theorem flat_strs' (ls : List Str) : (ls.map V.str).all flatV = true := by
  rw [List.all_eq_true]
  intro x hx
  obtain ⟨i, _, rfl⟩ := List.mem_map.mp hx
  rfl
/-- a for over enumerate(tuple) -/
theorem for_enumT {K : PySem.W.Frag} {a : Addr} {xs : List V} {g : TG} {tb : TS} {D : Ends} {σ : St} {H : Hp} (Pv : Nat → St → Hp → Prop) (h0 : Pv 0 σ H) (hl : ∀ i σ H, Pv i σ H → SqT K H a xs)
    (hs : ∀ i σ H x T, xs[i]? = some x → Pv i σ H → H T = none → g (.ref T) σ (upd H T (.tup [.int (i : Nat), x])) fun σ2 H2 => tb { D with nx := Pv (i + 1), ct := Pv (i + 1), bk := D.nx } σ2 H2) (hd : ∀ σ H, Pv xs.length σ H → D.nx σ H) :
    ∃ W : Nat → Nat → St → Hp → Prop, (∃ m, W 0 m σ H) ∧ ∀ i m σ H, W i m σ H →
      ((EnT.IteT K a).stop i H ∧ D.nx σ H) ∨ ((EnT.IteT K a).go i H ∧ ∃ N : St → Hp → Prop, (∀ σ' H', N σ' H' → ∃ m', m' < m ∧ W (i + 1) m' σ' H') ∧ ∀ x H', (EnT.IteT K a).yld i H x H' → g x σ H' fun σ2 H2 => tb { D with nx := N, ct := N, bk := D.nx } σ2 H2) := by
  refine ⟨fun i m σ H => m = xs.length - i ∧ i ≤ xs.length ∧ Pv i σ H, ⟨xs.length, by simp, Nat.zero_le _, h0⟩, ?_⟩
  rintro i m σ H ⟨rfl, hi, p⟩
  have sq := hl i σ H p
  by_cases hlt : i < xs.length
  · refine .inr ⟨⟨xs, xs[i], sq, List.getElem?_eq_getElem hlt⟩, Pv (i + 1), fun σ' H' p' => ⟨xs.length - (i + 1), by omega, rfl, hlt, p'⟩, fun x H' y => ?_⟩
    obtain ⟨T, x', rfl, hT, rfl, hx⟩ := y
    exact hs i σ H x' T (hx xs sq) p hT
  · have e : i = xs.length := by omega
    subst e
    exact .inl ⟨⟨xs, sq, rfl⟩, hd σ H p⟩
theorem same2 {H : Hp} {x dx : Addr} (hx : H x = none) (hd : H dx = none) (o1 o2 : HO) : Same H (upd (upd H dx o1) x o2) := fun b o e => by rw [upd_ne (ne_of_none e hx), upd_ne (ne_of_none e hd)]; exact e
theorem PtsAt.same {K : PySem.W.Frag} {C : Addr} {H H' : Hp} (g : Same H H') : ∀ {vs : List V} {os : List (Option Ex)}, PtsAt K C H vs os → PtsAt K C H' vs os
  | _, _, .nil => .nil
  | _, _, .cons h t => .cons (h.same g) (PtsAt.same g t)
/-- a new expression -/
theorem newEx {K : PySem.W.Frag} {C : Addr} {H1 : Hp} {k : Str} {tp : Addr} {xs : List V} {os : List (Option Ex)} {own as : List (Str × List Str)} (htp : SqT K H1 tp xs) (hpts : PtsAt K C H1 xs os) (h10 : xs.length ≤ 10)
    (hown : (k = "access" ∧ ∃ pr, own = [pr] ∧ PairAt K H1 (.ref tp) pr) ∨ (k ≠ "access" ∧ own = [])) (eas : as = own ++ accsOf (opsOf os)) (has : as.length ≤ 900) (hlt : (lts as).length < 64) {x dx : Addr} (hx : H1 x = none) (hd : H1 dx = none) {Q' : VK}
    (q : ∀ H' : Hp, Same H1 H' → HdE K C H' x k xs as (1 + ((opsOf os).map Ex.nodes).sum) → Q' .non H') : spXini K C [.ref x, .str k, .ref tp] (upd (upd H1 dx (.own x)) x (.ins C dx [])) Q' E0 := by
  have g := same2 hx hd (.own x) (.ins C dx [])
  exact ⟨x, dx, tp, k, xs, os, own, as, rfl, upd_same, .inr (seqT g htp), hpts.same g, h10, hown.imp (fun ⟨e, pr, e2, h⟩ => ⟨e, seqT g htp, pr, e2, h.same g⟩) id, eas, has, hlt, fun H' kp h => q H' (made_same hx hd kp) h⟩
/-- .. from a list of parts -/
theorem newExL {K : PySem.W.Frag} {C : Addr} {H1 : Hp} {k : Str} {L : Addr} {xs : List V} {os : List (Option Ex)} {as : List (Str × List Str)} (hL : SqL K H1 L xs) (hpts : PtsAt K C H1 xs os) (h10 : xs.length ≤ 10) (nk : k ≠ "access") (eas : as = accsOf (opsOf os)) (has : as.length ≤ 900) (hlt : (lts as).length < 64) {x dx : Addr} (hx : H1 x = none) (hd : H1 dx = none) {Q' : VK}
    (q : ∀ H' : Hp, Same H1 H' → HdE K C H' x k xs as (1 + ((opsOf os).map Ex.nodes).sum) → Q' .non H') : spXini K C [.ref x, .str k, .ref L] (upd (upd H1 dx (.own x)) x (.ins C dx [])) Q' E0 := by
  have g := same2 hx hd (.own x) (.ins C dx [])
  exact ⟨x, dx, L, k, xs, os, [], as, rfl, upd_same, .inl (Same.seq g hL), hpts.same g, h10, .inr ⟨nk, rfl⟩, by rw [List.nil_append]; exact eas, has, hlt, fun H' kp h => q H' (made_same hx hd kp) h⟩
/-- bounds -/
structure Sm0 (e : Ex) : Prop where
  as : e.accs.length ≤ 400
  ls : (lts e.accs).length ≤ 31
theorem lts_app (a b : List (Str × List Str)) : lts (a ++ b) = lts a ++ lts b := by
  unfold lts
  rw [List.map_append, List.flatten_append]
theorem kne (a b : String) (h : (Str.ofString a == Str.ofString b) = false := by decide +kernel) : Str.ofString a ≠ Str.ofString b := nb a b h
section
variable {P : Program} {w : World} {K : PySem.W.Frag} {mg : Str → Option Value} {base : Heap} {f g g2 g3 C fI : Addr} {fd gd gd2 gd3 dI : FuncData}
abbrev XI (P : Program) (w : World) (K : PySem.W.Frag) (mg : Str → Option Value) (base : Heap) (C fI : Addr) (dI : FuncData) : Prop := FnOk P w K mg base CX0 2 fI dI ["self", "kind", "parts"] (spXini K C)
def spNum (K : PySem.W.Frag) (C : Addr) : Sp := fun vs H Q _ => ∃ n : Int, vs = [.int n] ∧ ∀ (p : Addr) (H' : Hp), Same H H' → ExAt K C H' (.num n) p → Q (.ref p) H'
theorem scN : FnScope ["n"] ["n"] (defScope sNum) := ⟨rfl, rfl, rfl, by decide +kernel, rfl, by decide +kernel, by decide +kernel⟩
theorem ok_num (F : Fun K "number" "number" sNum f fd) (T : Xc K mg C fI) (FI : XI P w K mg base C fI dI) (bI : Binds K dI ["self", "kind", "parts"] []) : FnOk P w K mg base CX0 4 f fd ["n"] (spNum K C) := by
  refine F.ok scN (fun vs H Q E h => ?_) (fun cdv A outer s H vs Q E hr h => ?_)
  · obtain ⟨n, rfl, _⟩ := h
    rfl
  obtain ⟨n, rfl, k⟩ := h
  refine ⟨_, pss_one (ps_ret (pe_make T.mkC FI hr (by rfl) T.mC bI .nil pass0 (pa_cons pe_str (pa_cons (pe_tup (pa_cons (pv 0) pa_nil)) pa_nil)))), ?_⟩
  refine ⟨_, rfl, (by show 1 ≤ sizeLine; decide), fun tp htp => ?_⟩
  have g1 := same_new htp (.tup [.int n])
  intro x dx hx hd _
  exact newEx (os := [none]) (own := []) (as := []) (SqT.of upd_same) (.cons (.inl ⟨n, rfl⟩) .nil) (by show 1 ≤ 10; decide) (.inr ⟨kne "number" "access", rfl⟩) rfl (by decide) (by decide) hx hd (fun H' g h => ⟨rfl, k x H' (g1.trans g) h⟩)
def spChkE (K : PySem.W.Frag) (C : Addr) : Sp := fun vs H Q _ => ∃ (p : Addr) (e : Ex), vs = [.ref p] ∧ ExAt K C H e p ∧ Q .non H
theorem scCE : FnScope ["x"] ["x"] (defScope sChkE) := ⟨rfl, rfl, rfl, by decide +kernel, rfl, by decide +kernel, by decide +kernel⟩
/-- the constants of the text -/
structure Kc (K : PySem.W.Frag) (mg : Str → Option Value) (AK : Addr) : Prop where
  mA : mg "ASSIGNED_KINDS" = some (.ref AK)
  tA : ∀ H : Hp, SqT K H AK [.str "gain", .str "loss"]
theorem ok_chkE {AK : Addr} (F : Fun K "check_expression" "check_expression" sChkE f fd) (T : Xc K mg C fI) (Kx : Kc K mg AK) : FnOk P w K mg base CX0 1 f fd ["x"] (spChkE K C) := by
  refine F.ok scCE (fun vs H Q E h => ?_) (fun cdv A outer s H vs Q E hr h => ?_)
  · obtain ⟨p, e, rfl, _⟩ := h
    rfl
  obtain ⟨p, e, rfl, he, k⟩ := h
  refine ⟨_, pss_one (ps_if (pt_cmpR (r := rIn K false) op_in_seq (pe_fld (pv 0) rfl) (pe_glob (v := .ref AK) (by rfl) Kx.mA rfl) (by rfl)) (pss_one ps_never) pss_nil), ?_⟩
  obtain ⟨_, dx, _, _, _, _, _, hp, _⟩ := he.hd
  obtain ⟨n1, n2⟩ := he.noGain
  refine ⟨_, rfl, p, C, dx, _, _, rfl, hp, T.ic.cl, T.nK, fE_k, AK, _, rfl, .inr (Kx.tA H), rfl, rfl, _, rfl, ?_⟩
  have z : inV (.str e.kind) [.str "gain", .str "loss"] = false := by
    have z2 := in_strs e.kind ["gain", "loss"]
    rw [show inV (.str e.kind) [.str "gain", .str "loss"] = inV (.str e.kind) ((["gain", "loss"] : List Str).map V.str) from rfl, z2]
    simp [n1, n2]
  exact iteN (c := inV (.str e.kind) [.str "gain", .str "loss"]) z k
/-- an operand: an int, or an expression -/
def OpV (K : PySem.W.Frag) (C : Addr) (H : Hp) (v : V) (e : Ex) : Prop := (∃ i : Int, v = .int i ∧ e = .num i) ∨ ∃ p, v = .ref p ∧ ExAt K C H e p
theorem OpV.same {H H' : Hp} {v : V} {e : Ex} (g : Same H H') : OpV K C H v e → OpV K C H' v e
  | .inl h => .inl h
  | .inr ⟨p, ep, h⟩ => .inr ⟨p, ep, h.same g⟩
def spOpd (K : PySem.W.Frag) (C : Addr) : Sp := fun vs H Q _ => ∃ (v : V) (e : Ex), vs = [v] ∧ OpV K C H v e ∧ ∀ (p : Addr) (H' : Hp), Same H H' → ExAt K C H' e p → Q (.ref p) H'
theorem scOp : FnScope ["x"] ["x"] (defScope sOpd) := ⟨rfl, rfl, rfl, by decide +kernel, rfl, by decide +kernel, by decide +kernel⟩
theorem ok_opd (F : Fun K "operand_of" "operand_of" sOpd f fd) (T : Xc K mg C fI) (B : Bt mg) (GW : FnOk P w K mg base CX0 1 g gd ["n"] (spWh C)) (bW : Binds K gd ["n"] []) (kW : PySem.W.keepIn K (.ref g) = true) (mW : mg "is_whole" = some (.ref g))
    (GN : FnOk P w K mg base CX0 4 g2 gd2 ["n"] (spNum K C)) (bN : Binds K gd2 ["n"] []) (kN : PySem.W.keepIn K (.ref g2) = true) (mN : mg "number" = some (.ref g2))
    (GE : FnOk P w K mg base CX0 1 g3 gd3 ["x"] (spChkE K C)) (bE : Binds K gd3 ["x"] []) (kE : PySem.W.keepIn K (.ref g3) = true) (mE : mg "check_expression" = some (.ref g3)) : FnOk P w K mg base CX0 5 f fd ["x"] (spOpd K C) := by
  refine F.ok scOp (fun vs H Q E h => ?_) (fun cdv A outer s H vs Q E hr h => ?_)
  · obtain ⟨v, e, rfl, _⟩ := h
    rfl
  obtain ⟨v, e, rfl, hv, k⟩ := h
  have hr1 := hr.mono (show 1 ≤ 4 by decide)
  refine ⟨_, pss_cons (ps_if (pt_val (pe_call GW hr1 rfl mW kW bW .nil pass0 (pa_cons (pv 0) pa_nil))) (pss_one (ps_ret (pe_call GN hr rfl mN kN bN .nil pass0 (pa_cons (pv 0) pa_nil)))) pss_nil)
    (pss_cons (ps_if (pt_not (pt_val (pe_callB (C8.call_isC T.ic) (by rfl) B.isi (by decide +kernel) (pa_cons (pv 0) (pa_cons (pe_glob (v := .ref C) (by rfl) T.mC rfl) pa_nil))))) (pss_one ps_never) pss_nil)
    (pss_cons (ps_expr (pe_call GE hr1 rfl mE kE bE .nil pass0 (pa_cons (pv 0) pa_nil))) (pss_one (ps_ret (pv 0))))), ?_⟩
  rcases hv with ⟨i, rfl, rfl⟩ | ⟨p, rfl, he⟩
  · refine ⟨_, rfl, _, rfl, .inl ⟨i, rfl, _, rfl, iteT ?_⟩⟩
    exact ⟨_, rfl, i, rfl, fun p H' g h => k p H' g h⟩
  · obtain ⟨_, dx, _, _, _, _, _, hp, _⟩ := he.hd
    refine ⟨_, rfl, _, rfl, .inr ⟨p, dx, _, rfl, hp, _, rfl, iteF ?_⟩⟩
    refine ⟨_, rfl, p, dx, _, rfl, hp, _, rfl, iteF ?_⟩
    exact ⟨_, rfl, p, e, rfl, he, _, rfl, k p H (Same.refl H) he⟩
def spJoin (K : PySem.W.Frag) (C : Addr) : Sp := fun vs H Q _ => ∃ (k : Str) (v u : V) (x y : Ex), vs = [.str k, v, u] ∧ okK k ∧ OpV K C H v x ∧ OpV K C H u y ∧ Sm0 x ∧ Sm0 y ∧ ∀ (p : Addr) (H' : Hp), Same H H' → ExAt K C H' (.bi k x y) p → Q (.ref p) H'
theorem scJ : FnScope ["kind", "x", "y"] ["kind", "x", "y"] (defScope sJoin) := ⟨rfl, rfl, rfl, by decide +kernel, rfl, by decide +kernel, by decide +kernel⟩
theorem ok_join (F : Fun K "joined" "joined" sJoin f fd) (T : Xc K mg C fI) (FI : XI P w K mg base C fI dI) (bI : Binds K dI ["self", "kind", "parts"] [])
    (GO : FnOk P w K mg base CX0 5 g gd ["x"] (spOpd K C)) (bO : Binds K gd ["x"] []) (kO : PySem.W.keepIn K (.ref g) = true) (mO : mg "operand_of" = some (.ref g)) : FnOk P w K mg base CX0 6 f fd ["kind", "x", "y"] (spJoin K C) := by
  refine F.ok scJ (fun vs H Q E h => ?_) (fun cdv A outer s H vs Q E hr h => ?_)
  · obtain ⟨k, v, u, x, y, rfl, _⟩ := h
    rfl
  obtain ⟨k, v, u, x, y, rfl, hk, hv, hu, sx, sy, q⟩ := h
  refine ⟨_, pss_one (ps_ret (pe_make T.mkC FI (hr.mono (by decide)) (by rfl) T.mC bI .nil pass0 (pa_cons (pv 0) (pa_cons (pe_tup (pa_cons (pe_call GO hr rfl mO kO bO .nil pass0 (pa_cons (pv 1) pa_nil)) (pa_cons (pe_call GO hr rfl mO kO bO .nil pass0 (pa_cons (pv 2) pa_nil)) pa_nil))) pa_nil)))), ?_⟩
  refine ⟨_, rfl, _, rfl, v, x, rfl, hv, fun a H1 g1 ha => ?_⟩
  refine ⟨_, rfl, u, y, rfl, hu.same g1, fun b H2 g2 hb => ?_⟩
  refine ⟨(by show 2 ≤ sizeLine; decide), fun tp htp => ?_⟩
  have g3 := same_new htp (.tup [.ref a, .ref b])
  have ha3 := ha.same (g2.trans g3)
  have hb3 := hb.same g3
  intro p dx hp hd _
  refine newEx (os := [some x, some y]) (own := []) (as := x.accs ++ y.accs) (SqT.of upd_same) (.cons ⟨a, rfl, ha3⟩ (.cons ⟨b, rfl, hb3⟩ .nil)) (by show 2 ≤ 10; decide) (.inr ⟨hk.1, rfl⟩) (by show _ = [] ++ (x.accs ++ (y.accs ++ [])); simp) ?_ ?_ hp hd (fun H' g h => ⟨rfl, q p H' (((g1.trans g2).trans g3).trans g) ?_⟩)
  · rw [List.length_append]
    have := sx.as
    have := sy.as
    omega
  · rw [lts_app, List.length_append]
    have := sx.ls
    have := sy.ls
    omega
  · refine ⟨hk, a, b, ?_, ha3.same g, hb3.same g⟩
    have e : (1 : Int) + (([x, y] : List Ex).map Ex.nodes).sum = 1 + (x.nodes + y.nodes) := by simp
    rw [← e]
    exact h
def spChkL (K : PySem.W.Frag) : Sp := fun vs H Q _ => ∃ (t : Addr) (ls : List Str), vs = [.ref t] ∧ SqT K H t (ls.map V.str) ∧ ls.length ≤ 100 ∧ ls.Nodup ∧ ∀ H' : Hp, Same H H' → Q .non H'
theorem scCL : FnScope ["letters", "at", "letter"] ["letters"] (defScope sChkL) := ⟨rfl, rfl, rfl, by decide +kernel, rfl, by decide +kernel, by decide +kernel⟩
theorem ok_chkL (F : Fun K "check_letters" "check_letters" sChkL f fd) (B2 : Bx mg) : FnOk P w K mg base CX0 1 f fd ["letters"] (spChkL K) := by
  refine F.ok scCL (fun vs H Q E h => ?_) (fun cdv A outer s H vs Q E hr h => ?_)
  · obtain ⟨t, ls, rfl, _⟩ := h
    rfl
  obtain ⟨t, ls, rfl, ht, hl, hn, k⟩ := h
  refine ⟨_, pss_one (ps_for PassesOwn.never rfl (EnT.pi_enumT (by rfl) B2.enum (pa_cons (pv 0) pa_nil)) (pg_tup rfl (pgs_cons (pg_name (i := 1) scCL.nd rfl (Or.inl rfl)) (pgs_cons (pg_name (i := 2) scCL.nd rfl (Or.inl rfl)) pgs_nil)))
    (pss_one (ps_if (pt_cmpR (r := rIn K false) op_in_seq (pv 2) (pe_slice sl_tupA (pv 0) po_none (po_some (pv 1))) (by rfl)) (pss_one ps_never) pss_nil))), ?_⟩
  refine ⟨_, rfl, t, _, rfl, ht, for_enumT (K := K) (a := t) (xs := ls.map V.str) (fun i σ' H' => (∃ u v : Option V, σ' = [some (.ref t), u, v]) ∧ Same H H') ⟨⟨_, _, rfl⟩, Same.refl H⟩ (fun i σ' H' ⟨_, g⟩ => seqT g ht) (fun i σ' H' x T hx ⟨⟨u, v, e⟩, g⟩ hT => ?_) (fun σ' H' ⟨_, g⟩ => k H' g)⟩
  subst e
  rw [List.getElem?_map] at hx
  cases ez : ls[i]? with
  | none => rw [ez] at hx; cases hx
  | some z =>
    rw [ez] at hx
    cases hx
    have hi : i < ls.length := (List.getElem?_eq_some_iff.mp ez).1
    have gT := same_new hT (.tup [.int (i : Nat), .str z])
    have htT := seqT (g.trans gT) ht
    have no : decide (z ∈ ls.take i) = false := by
      refine decide_eq_false fun hm => ?_
      obtain ⟨j, hj, ej⟩ := List.getElem_of_mem hm
      rw [List.length_take] at hj
      rw [List.getElem_take] at ej
      obtain ⟨_, e2⟩ := List.getElem?_eq_some_iff.mp ez
      exact absurd ((List.getElem_inj hn).mp (ej.trans e2.symm)) (by omega)
    have ecut : cutV (ls.map V.str) none (some (i : Int)) = (ls.take i).map V.str := by
      rw [cut_take _ _ (by rw [List.length_map]; omega), List.map_take]
    refine ⟨T, _, rfl, SqT.of upd_same, rfl, _, _, rfl, _, _, rfl, rfl, ?_⟩
    refine ⟨_, rfl, _, rfl, _, rfl, _, rfl, t, _, rfl, htT, fun hw => ?_, fun _ p hp => ?_⟩
    · exfalso
      have z2 := hw.2
      rw [sIx_nat, List.length_map] at z2
      omega
    · have gp := same_new hp (.tup (cutV (ls.map V.str) none (some (i : Int))))
      refine ⟨p, _, rfl, .inr (SqT.of upd_same), rfl, by rw [ecut]; exact flat_strs' _, _, rfl, ?_⟩
      have e3 : inV (.str z) (cutV (ls.map V.str) none (some (i : Int))) = false := by
        rw [ecut, in_strs]
        exact no
      exact iteN (c := inV (.str z) (cutV (ls.map V.str) none (some (i : Int)))) e3 ⟨⟨_, _, rfl⟩, (g.trans gT).trans gp⟩
end
end Lw
/-! abs(x) by an own __abs__; n op x, n an int, by an own __radd__ and its like -/
namespace OwB
open PySem PySem.Spec PyProof.Rows L2
section
variable {X : Cx} {CX : CXT} {k : Nat} {g C : Addr} {gd : FuncData} {ps : List Str} {sp : Sp} {E : XK}
/-- abs(x), x an instance of the class at C -/
def rAbs (C : Addr) (sp : Sp) (E : XK) : List V → Hp → VK → Prop := fun xs H Q => ∃ a dx fs, xs = [.ref a] ∧ H a = some (.ins C dx fs) ∧ sp [.ref a] H Q E
theorem call_absO (D : OpD X.K C g "__abs__") (F : FnR X.prog X.w X.K X.mg X.base CX k g sp) (hr : Room (k + 1) X.A) (hx : Passes CX X E) : CallR X (.builtin "abs") (rAbs C sp E) := by
  intro pins s σ H xs us Q I r h
  obtain ⟨a, dx, fs, rfl, ha, q⟩ := h
  obtain ⟨u, rfl, ru⟩ := r.one
  cases (show u = Value.ref a from ru)
  obtain ⟨od, J⟩ := inst_of I ha
  refine Calls.call_function_entry kind_abs plain_abs entry_abs (args_abs _) ?_
  unfold Builtin.«abs»
  refine wpAny_bind (m := oneArg "abs" ⟨[.ref a], []⟩) (wpAny_of_eq (a := Value.ref a) rfl ?_)
  show wpAny _ _ (callSpecial? (.ref a) "__abs__" >>= _) _ _ s
  refine wpAny_bind (PySem.W.special_fn I.kIn J D.at_ (beq_iff_eq.mp D.fn) (wpAny_mono (wpAny_call (SlX.run_at (us := [.ref a]) (ws := [.ref a]) F hr.in1 I.env0.in1 hx I (.cons rfl .nil) q)) (fun v s' z => ?_) fun _ _ x => x))
  show wpAny _ _ (ret v) _ _ _
  exact wpAny_pure ⟨_, rfl, z⟩
end
end OwB
namespace OwB
open PySem PySem.Spec PyProof.Rows L2
/-- an int's slot refuses an instance -/
theorem intB_no {M : Model} {A : Around} {E : Value → Shared → Prop} {s : Shared} {name : String} {fn : Int → Int → Sem Fin} {i : Int} {t : Tok} {p C dx : Addr} {od : Option Obj} (J : PySem.W.InstAt s.heap p (PySem.W.instObj C dx) C od) {Q : Fin → Shared → Prop} (h : Q (.done (.ret .notImplemented)) s) :
    wpAny M A (PySem.Builtin.Int.intBinary name fn false ⟨[.int i t, .ref p], []⟩) Q E s := by
  unfold PySem.Builtin.Int.intBinary
  refine wpAny_bind (m := slotArgs name 1 ⟨[.int i t, .ref p], []⟩) (wpAny_of_eq (a := (Value.int i t, [Value.ref p])) rfl ?_)
  refine wpAny_bind (m := PySem.Builtin.Int.intOfSelf (.int i t)) (wpAny_of_eq (a := i) rfl ?_)
  refine wpAny_bind (m := asInt? (.ref p)) (wpAny_bind (m := load p) (wpAny_load J.at_ ?_))
  show wpAny M A (pure none) _ E s
  refine wpAny_pure ?_
  exact wpAny_bind (m := rule "int.binary.not-an-int") (wpAny_rule (wpAny_pure h))
/-- what the slot of int is -/
structure IntS (op : Operator) : Prop where
  slot : ∃ id b name fn, Slot "int" (PySem.dunder op.info.2) id ∧ entryFor table id = some b ∧ b = PySem.Builtin.Int.intBinary name fn false ∧ ∀ a c : Value, argsOk id ⟨[a, c], []⟩
  fills : fillsNumberSlot (.type "int") op.info.2 = pure true
theorem iAdd : IntS .Add := ⟨⟨_, _, _, _, slot_int_add, entry_int_add, rfl, args_int_add⟩, fills_int_add⟩
theorem iSub : IntS .Sub := ⟨⟨_, _, _, _, slot_int_sub, entry_int_sub, rfl, args_int_sub⟩, fills_int_sub⟩
theorem iMul : IntS .Mult := ⟨⟨_, _, _, _, slot_int_mul, entry_int_mul, rfl, args_int_mul⟩, fills_int_mul⟩
theorem iAnd : IntS .BitAnd := ⟨⟨_, _, _, _, slot_int_and, entry_int_and, rfl, args_int_and⟩, fills_int_and⟩
theorem iOr : IntS .BitOr := ⟨⟨_, _, _, _, slot_int_or, entry_int_or, rfl, args_int_or⟩, fills_int_or⟩
theorem iXor : IntS .BitXor := ⟨⟨_, _, _, _, slot_int_xor, entry_int_xor, rfl, args_int_xor⟩, fills_int_xor⟩
section
variable {prog : Program} {w : World} {A : Around} {E : Value → Shared → Prop} {s : Shared} {K : PySem.W.Frag} {x C L f : Addr} {h₀ : Heap} {m : Str → Option Value} {ox : Obj} {od : Option Obj}
theorem tryInt {op : Operator} (S : IntS op) {i : Int} {t : Tok} {p dx : Addr} (J : PySem.W.InstAt s.heap p (PySem.W.instObj C dx) C od) {Q : Option Value → Shared → Prop} (h : Q none s) :
    wpAny (model prog w) A (tryMethod (.int i t) (PySem.dunder op.info.2) (.ref p)) Q E s := by
  obtain ⟨id, b, name, fn, sl, en, rfl, ar⟩ := S.slot
  unfold tryMethod
  refine wpAny_bind (wpAny_callSpecial?_slot (name := PySem.dunder op.info.2) (typeIs_int s i t) sl (wpAny_call_entry sl (typeIs_int s i t) en ?_ (ar _ _)))
  refine intB_no J ⟨_, rfl, ?_⟩
  exact wpAny_pure h
open PySem.W in
/-- n op x, n an int, x an instance whose class has the def and the reflected one -/
theorem ksp_refl {op : Operator} {i : Int} {t : Tok} {g0 dx : Addr} {Q : Value → Shared → Prop} (S : IntS op) (F : Fr h₀ L s.heap m) (X₀ : K.In h₀) (I : InstAt s.heap x (instObj C dx) C od) (hc : selfFirst K C = true)
    (hs0 : findIn K (.ref C) (PySem.dunder op.info.2) = some (some (.ref g0))) (hs : findIn K (.ref C) (dunderR op.info.2) = some (some (.ref f))) (hf : isFn K (.ref f) = true)
    (hsub : subIn K (.ref C) (.type "int") = some false)
    (h : wpAny (model prog w) A (call (.ref f) [.ref x, .int i t]) (PySem.W.CmpBack Q) E s) : wpAny (model prog w) A (binaryOp op (.int i t) (.ref x)) Q E s := by
  have X := X₀.keeps F.keep
  obtain ⟨cd, rest, hcd, hm⟩ := ksp_first hc
  have one := ksp_try X I hs hf h
  have tri : ∀ Q' : Option Value → Shared → Prop, Q' none s → wpAny (model prog w) A (tryMethod (.int i t) (PySem.dunder op.info.2) (.ref x)) Q' E s := fun Q' q => tryInt S I q
  have fil := S.fills
  rcases hi : op.info with ⟨sym, nm'⟩
  rw [hi] at hs hs0 tri fil one
  dsimp only at hs hs0 tri fil one
  obtain ⟨hh, g, d, tt, os⟩ := s
  have L1 : Looks (model prog w) hh (typeOf (.ref x)) (.ref C) := I.type
  have L2 : Looks (model prog w) hh (typeOf (.int i t)) (.type "int") := Looks.of_pure rfl
  have L3 : Looks (model prog w) hh (fillsNumberSlot (.ref C) nm') true := fills_K X hcd hm hs0
  have L4 : Looks (model prog w) hh (fillsNumberSlot (.type "int") nm') true := Looks.of_pure fil
  have L5 : Looks (model prog w) hh (isSubtype (.ref C) (.type "int")) false := looks_subIn X hsub
  have L6 : Looks (model prog w) hh (numberSlotInPython (.type "int") nm') false := Looks.of_pure rfl
  have hne : (Value.type "int" == Value.ref C) = false := Bool.eq_false_iff.mpr fun q => by cases beq_iff_eq.mp q
  simp only [binaryOp, hi]
  refine wpAny_holding (wpAny_bind ?_)
  unfold binaryOp1
  refine wpAny_bind (L2.at (wpAny_bind (L1.at (wpAny_bind (L4.at ?_)))))
  simp only [hne, Bool.false_eq_true, if_false]
  ksp_lk
  refine tri _ ?_
  ksp_lk
  refine wpAny_mono one (fun r s' hr' => ?_) fun _ _ e => e
  obtain ⟨v, rfl, hq⟩ := hr'
  ksp_lk
  exact hq
end
section
variable {X : Cx} {CX : CXT} {k : Nat} {g g0 C : Addr} {gd : FuncData} {ps : List Str} {sp : Sp} {E : XK}
/-- i op x, x an instance, i an int -/
def rOwnR (C : Addr) (sp : Sp) (E : XK) : R2 := fun x y H Q => ∃ a dx fs i, x = .int i ∧ y = .ref a ∧ H a = some (.ins C dx fs) ∧ sp [y, x] H Q E
theorem op_ownR {op : Operator} (S : IntS op) (hc : PySem.W.selfFirst X.K C = true) (D0 : OpD X.K C g0 (PySem.dunder op.info.2)) (D : OpD X.K C g (PySem.dunderR op.info.2)) (hsub : PySem.W.subIn X.K (.ref C) (.type "int") = some false)
    (F : FnOk X.prog X.w X.K X.mg X.base CX k g gd ps sp) (hr : Room k X.A) (hb : Binds X.K gd ps []) (hx : Passes CX X E) : OpR X (binaryOp op) (rOwnR C sp E) := by
  intro pins s σ H x y v u Q I rx ry h
  obtain ⟨a, dx, fs, i, rfl, rfl, ha, q⟩ := h
  cases (show u = Value.ref a from ry)
  obtain ⟨t, rfl⟩ := (show ∃ t, v = Value.int i t from rx)
  obtain ⟨od, J⟩ := inst_of I ha
  obtain ⟨m, hF⟩ := I.fr
  refine ksp_refl S hF I.ok.mod.kin J hc D0.at_ D.at_ D.fn hsub ?_
  exact wpAny_mono (run_fn (us := [.ref a, .int i t]) (vs := [.ref a, .int i]) F hr hb .nil hx I (.cons rfl (.cons ⟨t, rfl⟩ .nil)) q) (fun w s' z => back_of z) fun _ _ x => x
end
end OwB
namespace Lw
open PySem L2 OwB
abbrev sAlw : Stmt := topS 23
abbrev sNbd : Stmt := topS 24
section
variable {X : Cx} {CX : CXT} {k : Nat} {f : Addr} {sp : Sp} {E : XK} {x : Str} {e : Expr} {es : List Expr} {t : TA} {p pos : Pos}
/-- x(e, ..), x a def by its promise alone -/
theorem pe_callR (F : FnR X.prog X.w X.K X.mg X.base CX k f sp) (hr : Room k X.A) (hg : Gl X x) (hm : X.mg x = some (.ref f)) (hk : PySem.W.keepIn X.K (.ref f) = true) (hx : Passes CX X E)
    (ha : PA X (e :: es) t) (hdb : (x == ("__debug__" : Str)) = false := by decide) (he : starEach (e :: es) X.env = (false, eval e X.env) :: starEach es X.env := by rfl) (hpl : (backTo pos (starEach es X.env)).any (·.1) = false := by rfl) :
    PE X (.Call (.Name x p) (e :: es) [] pos) (fun σ H Q => t σ H fun vs H1 => sp vs H1 Q E) := by
  refine ⟨fun pins s σ H Q I h => ?_⟩
  refine wpAny_Call_Name_kw (ld_glob I hg hm ?_ hdb)
  refine PySem.W.callWith_K (h₀ := X.base) I.ok.mod.kin hk (thn (ha.run pos pins s σ H _ I h) fun us s1 ⟨vs, H1, I1, r, q⟩ => ⟨I1.kIn, ?_⟩) he hpl
  exact wpAny_call (run_fnR F hr hx I1 r q)
end
section
variable {P : Program} {w : World} {K : PySem.W.Frag} {mg : Str → Option Value} {base : Heap} {f g g2 g3 C fI : Addr} {fd gd gd2 gd3 dI : FuncData}
/-- access(nm, letters ..) -/
def spAcc (K : PySem.W.Frag) (C : Addr) : Sp := fun vs H Q _ => ∃ (nm : Str) (ls : List Str), vs = .str nm :: ls.map V.str ∧ ls.length ≤ 20 ∧ ls.Nodup ∧ ∀ (p : Addr) (H' : Hp), Same H H' → ExAt K C H' (.acc nm ls) p → Q (.ref p) H'
theorem scAc : FnScope ["name", "letters"] ["name", "letters"] (defScope sAcc) := ⟨rfl, rfl, rfl, by decide +kernel, rfl, by decide +kernel, by decide +kernel⟩
theorem ok_acc (F : Fun K "access" "access" sAcc f fd) (T : Xc K mg C fI) (B : Bt mg) (FI : XI P w K mg base C fI dI) (bI : Binds K dI ["self", "kind", "parts"] [])
    (GL : FnOk P w K mg base CX0 1 g gd ["letters"] (spChkL K)) (bL : Binds K gd ["letters"] []) (kL : PySem.W.keepIn K (.ref g) = true) (mL : mg "check_letters" = some (.ref g)) : FnR P w K mg base CX0 4 f (spAcc K C) := by
  obtain ⟨oc, od, kV, doc, pm, an, cdv, ct, osl, rfl, lk, hcd⟩ := F.ex
  have z := StX.fn_star (P := P) (w := w) (mg := mg) (base := base) (CX := CX0) (k := 3) (ps := ["name"]) (pv := "letters") (N := ["name", "letters"])
    (sp := fun vs H Q _ => ∃ (nm : Str) (ls : List Str) (t : Addr), vs = [.str nm, .ref t] ∧ SqT K H t (ls.map V.str) ∧ ls.length ≤ 20 ∧ ls.Nodup ∧ ∀ (p : Addr) (H' : Hp), Same H H' → ExAt K C H' (.acc nm ls) p → Q (.ref p) H')
    lk hcd scAc StX.cxUp_none (StX.bind_star1 (B := fun us => bindArgs (PySem.W.fnOf "access" "access" (defArgs sAcc) (defBody sAcc) (defScope sAcc) .none kV doc pm an cdv ct) ⟨us, []⟩) (fun a => rfl) (fun a r rs => rfl)) (fun A outer s H vs Q E hr h => ?_)
  · refine z.imp fun vs H Q E h => ?_
    obtain ⟨nm, ls, rfl, hl, hn, k⟩ := h
    refine ⟨[.str nm], ls.map V.str, rfl, rfl, by rw [List.length_map]; exact Nat.le_trans hl (by decide), fun p hp => ⟨nm, ls, p, rfl, SqT.of upd_same, hl, hn, fun q H' g => k q H' ((same_new hp _).trans g)⟩⟩
  obtain ⟨nm, ls, t, rfl, ht, hl, hn, k⟩ := h
  suffices hh : ∃ t', PSs (cxOf CX0 P w K mg base ["name", "letters"] "access" (defScope sAcc) f cdv A outer s H E).nox (defBody sAcc) t' ∧ t' { nx := fun _ H' => Q .non H', rt := Q } (start ["name", "letters"] [.str nm, .ref t]) H by
    obtain ⟨t', h1, h2⟩ := hh
    exact ⟨t', h1.nox, h2⟩
  refine ⟨_, pss_cons (ps_expr (pe_call GL (hr.mono (by decide)) rfl mL kL bL .nil pass0 (pa_cons (pv 1) pa_nil)))
    (pss_one (ps_ret (pe_make T.mkC FI hr (by rfl) T.mC bI .nil pass0 (pa_cons pe_str (pa_cons (pe_tup (pa_cons (pv 0) (pa_cons (pe_callTy call_tuple_of (by rfl) B.tup (by decide +kernel) (pa_cons (pv 1) pa_nil)) pa_nil))) pa_nil))))), ?_⟩
  refine ⟨_, rfl, t, ls, rfl, ht, by omega, hn, fun H1 g1 => ?_⟩
  refine ⟨_, rfl, _, rfl, t, ls.map V.str, rfl, .inr ⟨seqT g1 ht, (by show 2 ≤ sizeLine; decide), fun tp htp => ?_⟩⟩
  have g2 := same_new htp (.tup [.str nm, .ref t])
  have ht2 := seqT (g1.trans g2) ht
  intro x dx hx hd _
  refine newEx (os := [none, none]) (own := [(nm, ls)]) (as := [(nm, ls)]) (SqT.of upd_same) (.cons (.inr (.inl ⟨nm, rfl⟩)) (.cons (.inr (.inr ⟨t, _, rfl, ht2⟩)) .nil)) (by show 2 ≤ 10; decide) (.inl ⟨rfl, _, rfl, tp, t, rfl, SqT.of upd_same, ht2⟩) rfl (by show 1 ≤ 900; decide) ?_ hx hd (fun H' g h => ⟨rfl, k x H' ((g1.trans g2).trans g) ⟨t, h, seqT g ht2⟩⟩)
  show ((ls ++ []) : List Str).length < 64
  rw [List.append_nil]
  omega
/-- the limits of the kinds with an integer -/
structure Lc (K : PySem.W.Frag) (w : World) (mg : Str → Option Value) (LA : Addr) : Prop where
  mL : mg "LIMITS" = some (.ref LA)
  D : ∃ es n, KDict K w LA es n
  q : PySem.W.nsIn K LA "quotient" = some none
  kd : ∀ k : Str, k = "power" ∨ k = "left" ∨ k = "right" → ∃ T : Addr, PySem.W.nsIn K LA k = some (some (.ref T)) ∧ ∀ H : Hp, SqT K H T [.int (if k = "power" then 1 else 0), .int (if k = "power" then 4 else 60)]
def okN (k : Str) (n : Int) : Prop := (k = "quotient" ∧ n ≠ 0) ∨ ((k = "power" ∨ k = "left" ∨ k = "right") ∧ (if k = "power" then 1 else 0) ≤ n ∧ n ≤ (if k = "power" then 4 else 60))
def spAlw : Sp := fun vs H Q _ => ∃ (k : Str) (n : Int), vs = [.str k, .int n] ∧ okN k n ∧ Q (.bl true) H
theorem scAl : FnScope ["kind", "n", "least", "greatest"] ["kind", "n"] (defScope sAlw) := ⟨rfl, rfl, rfl, by decide +kernel, rfl, by decide +kernel, by decide +kernel⟩
theorem ok_alw {LA : Addr} (F : Fun K "is_allowed" "is_allowed" sAlw f fd) (Lx : Lc K w mg LA) : FnOk P w K mg base CX0 1 f fd ["kind", "n"] spAlw := by
  refine F.ok scAl (fun vs H Q E h => ?_) (fun cdv A outer s H vs Q E hr h => ?_)
  · obtain ⟨k, n, rfl, _⟩ := h
    rfl
  obtain ⟨es, en, D⟩ := Lx.D
  obtain ⟨k, n, rfl, hk, q⟩ := h
  refine ⟨_, pss_cons (ps_if (pt_cmpR (op_in_kd D) (pv 0) (pe_glob (v := .ref LA) (by rfl) Lx.mL rfl) (by rfl))
    (pss_cons (ps_asg (pe_ix ix_kdict (pe_glob (v := .ref LA) (by rfl) Lx.mL rfl) (pv 0) (fun _ _ => rfl)) (pg_tup rfl (pgs_cons (pg_name (i := 2) scAl.nd rfl (Or.inl rfl)) (pgs_cons (pg_name (i := 3) scAl.nd rfl (Or.inl rfl)) pgs_nil))))
      (pss_one (ps_ret (pe_chain op_le op_le (pv 2) (pv 1) (pv 3))))) pss_nil)
    (pss_one (ps_ret (pe_cmpR op_ne (pv 1) pe_int (nomark _)))), ?_⟩
  rcases hk with ⟨rfl, hn⟩ | ⟨hk, hlo, hhi⟩
  · refine ⟨_, rfl, _, _, rfl, rfl, Lx.q, _, rfl, iteF ?_⟩
    refine ⟨_, rfl, rfl, ?_⟩
    rw [dec_int, show (n == (0 : Int)) = false from beq_eq_false_iff_ne.mpr hn]
    exact q
  · obtain ⟨T, e, hT⟩ := Lx.kd k hk
    refine ⟨_, rfl, _, _, rfl, rfl, e, _, rfl, iteT ?_⟩
    refine ⟨_, rfl, LA, k, .ref T, rfl, rfl, ⟨es, en, _, D.at_, D.lit, e, rfl⟩, T, _, rfl, hT H, rfl, _, _, rfl, _, _, rfl, rfl, ?_⟩
    refine ⟨_, rfl, _, rfl, _, _, rfl, rfl, _, rfl, ?_⟩
    rw [decide_eq_true hlo]
    refine iteT ⟨_, rfl, _, _, rfl, rfl, ?_⟩
    show Q (V.bl (decide (n ≤ if k = ("power" : Str) then (4 : Int) else 60))) H
    rw [decide_eq_true hhi]
    exact q
def spNbd (K : PySem.W.Frag) (C : Addr) : Sp := fun vs H Q _ => ∃ (k : Str) (v : V) (n : Int) (x : Ex), vs = [.str k, v, .int n] ∧ okN k n ∧ OpV K C H v x ∧ Sm0 x ∧ ∀ (p : Addr) (H' : Hp), Same H H' → ExAt K C H' (.nu k x n) p → Q (.ref p) H'
theorem scNb : FnScope ["kind", "x", "n"] ["kind", "x", "n"] (defScope sNbd) := ⟨rfl, rfl, rfl, by decide +kernel, rfl, by decide +kernel, by decide +kernel⟩
theorem okN.ok {k : Str} {n : Int} (h : okN k n) : okK k := by
  rcases h with ⟨rfl, _⟩ | ⟨rfl | rfl | rfl, _⟩ <;> exact ⟨kne _ _, kne _ _, kne _ _, kne _ _⟩
theorem ok_nbd {h hA : Addr} {hd dA : FuncData} (F : Fun K "numbered" "numbered" sNbd f fd) (T : Xc K mg C fI) (FI : XI P w K mg base C fI dI) (bI : Binds K dI ["self", "kind", "parts"] [])
    (GW : FnOk P w K mg base CX0 1 g gd ["n"] (spWh C)) (bW : Binds K gd ["n"] []) (kW : PySem.W.keepIn K (.ref g) = true) (mW : mg "is_whole" = some (.ref g))
    (GA : FnOk P w K mg base CX0 1 hA dA ["kind", "n"] spAlw) (bA : Binds K dA ["kind", "n"] []) (kA : PySem.W.keepIn K (.ref hA) = true) (mA : mg "is_allowed" = some (.ref hA))
    (GO : FnOk P w K mg base CX0 5 g2 gd2 ["x"] (spOpd K C)) (bO : Binds K gd2 ["x"] []) (kO : PySem.W.keepIn K (.ref g2) = true) (mO : mg "operand_of" = some (.ref g2)) : FnOk P w K mg base CX0 6 f fd ["kind", "x", "n"] (spNbd K C) := by
  refine F.ok scNb (fun vs H Q E h => ?_) (fun cdv A outer s H vs Q E hr h => ?_)
  · obtain ⟨k, v, n, x, rfl, _⟩ := h
    rfl
  obtain ⟨k, v, n, x, rfl, hk, hv, sx, q⟩ := h
  have hr1 := hr.mono (show 1 ≤ 5 by decide)
  refine ⟨_, pss_cons (ps_if (pt_not (pt_val (pe_call GW hr1 rfl mW kW bW .nil pass0 (pa_cons (pv 2) pa_nil)))) pss_never pss_nil)
    (pss_cons (ps_if (pt_not (pt_val (pe_call GA hr1 rfl mA kA bA .nil pass0 (pa_cons (pv 0) (pa_cons (pv 2) pa_nil))))) pss_never pss_nil)
    (pss_one (ps_ret (pe_make T.mkC FI (hr.mono (by decide)) (by rfl) T.mC bI .nil pass0 (pa_cons (pv 0) (pa_cons (pe_tup (pa_cons (pe_call GO hr rfl mO kO bO .nil pass0 (pa_cons (pv 1) pa_nil)) (pa_cons (pv 2) pa_nil))) pa_nil)))))), ?_⟩
  refine ⟨_, rfl, _, rfl, .inl ⟨n, rfl, _, rfl, iteF ?_⟩⟩
  refine ⟨_, rfl, _, rfl, k, n, rfl, hk, _, rfl, iteF ?_⟩
  refine ⟨_, rfl, _, rfl, v, x, rfl, hv, fun a H1 g1 ha => ?_⟩
  refine ⟨_, rfl, (by show 2 ≤ sizeLine; decide), fun tp htp => ?_⟩
  have g3 := same_new htp (.tup [.ref a, .int n])
  have ha3 := ha.same g3
  intro p dx hp hd _
  refine newEx (os := [some x, none]) (own := []) (as := x.accs) (SqT.of upd_same) (.cons ⟨a, rfl, ha3⟩ (.cons (.inl ⟨n, rfl⟩) .nil)) (by show 2 ≤ 10; decide) (.inr ⟨hk.ok.1, rfl⟩) (by show _ = [] ++ (x.accs ++ []); simp) ?_ ?_ hp hd (fun H' g h => ⟨rfl, q p H' ((g1.trans g3).trans g) ⟨hk.ok, a, ?_, ha3.same g⟩⟩)
  · have := sx.as
    omega
  · have := sx.ls
    omega
  · have e : (1 : Int) + (([x] : List Ex).map Ex.nodes).sum = 1 + x.nodes := by simp
    rw [← e]
    exact h
end
end Lw
namespace Lw
open PySem L2 OwB
abbrev s_add : Stmt := inClass (topS 15) 2
abbrev s_radd : Stmt := inClass (topS 15) 3
abbrev s_sub : Stmt := inClass (topS 15) 4
abbrev s_rsub : Stmt := inClass (topS 15) 5
abbrev s_mul : Stmt := inClass (topS 15) 6
abbrev s_rmul : Stmt := inClass (topS 15) 7
abbrev s_and : Stmt := inClass (topS 15) 8
abbrev s_rand : Stmt := inClass (topS 15) 9
abbrev s_or : Stmt := inClass (topS 15) 10
abbrev s_ror : Stmt := inClass (topS 15) 11
abbrev s_xor : Stmt := inClass (topS 15) 12
abbrev s_rxor : Stmt := inClass (topS 15) 13
abbrev s_floordiv : Stmt := inClass (topS 15) 14
abbrev s_mod : Stmt := inClass (topS 15) 15
abbrev s_pow : Stmt := inClass (topS 15) 16
abbrev s_lshift : Stmt := inClass (topS 15) 17
abbrev s_rshift : Stmt := inClass (topS 15) 18
abbrev s_neg : Stmt := inClass (topS 15) 19
abbrev s_pos : Stmt := inClass (topS 15) 20
abbrev s_invert : Stmt := inClass (topS 15) 21
abbrev s_abs : Stmt := inClass (topS 15) 22
section
variable {P : Program} {w : World} {K : PySem.W.Frag} {mg : Str → Option Value} {base : Heap} {f g C fI : Addr} {fd gd dI : FuncData}
/-- what joined promises, for a kind; the operands as they come, or turned -/
def spJ2 (K : PySem.W.Frag) (C : Addr) (k : Str) : Sp := fun vs H Q E => ∃ v u, vs = [v, u] ∧ spJoin K C [.str k, v, u] H Q E
def spJ2r (K : PySem.W.Frag) (C : Addr) (k : Str) : Sp := fun vs H Q E => ∃ v u, vs = [v, u] ∧ spJoin K C [.str k, u, v] H Q E
def spN2 (K : PySem.W.Frag) (C : Addr) (k : Str) : Sp := fun vs H Q E => ∃ v u, vs = [v, u] ∧ spNbd K C [.str k, v, u] H Q E
def spU1 (K : PySem.W.Frag) (C : Addr) (k : Str) : Sp := fun vs H Q _ => ∃ (v : V) (x : Ex), vs = [v] ∧ OpV K C H v x ∧ Sm0 x ∧ okK k ∧ ∀ (p : Addr) (H' : Hp), Same H H' → ExAt K C H' (.un k x) p → Q (.ref p) H'
/-- joined, as the defs of the text find it -/
structure Jn (P : Program) (w : World) (K : PySem.W.Frag) (mg : Str → Option Value) (base : Heap) (C : Addr) (g : Addr) (gd : FuncData) : Prop where
  G : FnOk P w K mg base CX0 6 g gd ["kind", "x", "y"] (spJoin K C)
  b : Binds K gd ["kind", "x", "y"] []
  k : PySem.W.keepIn K (.ref g) = true
  m : mg "joined" = some (.ref g)
structure Nb (P : Program) (w : World) (K : PySem.W.Frag) (mg : Str → Option Value) (base : Heap) (C : Addr) (g : Addr) (gd : FuncData) : Prop where
  G : FnOk P w K mg base CX0 6 g gd ["kind", "x", "n"] (spNbd K C)
  b : Binds K gd ["kind", "x", "n"] []
  k : PySem.W.keepIn K (.ref g) = true
  m : mg "numbered" = some (.ref g)
structure Od (P : Program) (w : World) (K : PySem.W.Frag) (mg : Str → Option Value) (base : Heap) (C : Addr) (g : Addr) (gd : FuncData) : Prop where
  G : FnOk P w K mg base CX0 5 g gd ["x"] (spOpd K C)
  b : Binds K gd ["x"] []
  k : PySem.W.keepIn K (.ref g) = true
  m : mg "operand_of" = some (.ref g)
theorem sc_add : FnScope ["self", "other"] ["self", "other"] (defScope s_add) := ⟨rfl, rfl, rfl, by decide +kernel, rfl, by decide +kernel, by decide +kernel⟩
theorem ok_add (F : Fun K "__add__" "Expression.__add__" s_add f fd) (J : Jn P w K mg base C g gd) : FnOk P w K mg base CX0 7 f fd ["self", "other"] (spJ2 K C "plus") := by
  refine F.ok sc_add (fun vs H Q E h => ?_) (fun cdv A outer s H vs Q E hr h => ?_)
  · obtain ⟨v, u, rfl, _⟩ := h
    rfl
  obtain ⟨v, u, rfl, q⟩ := h
  refine ⟨_, pss_one (ps_ret (pe_call J.G hr rfl J.m J.k J.b .nil pass0 (pa_cons pe_str (pa_cons (pv 0) (pa_cons (pv 1) pa_nil))))), ?_⟩
  exact ⟨_, rfl, _, rfl, q⟩
end
end Lw
namespace Lw
open PySem L2 OwB TL
abbrev sPtx : Stmt := topS 26
abbrev sTxt : Stmt := topS 27
/-! the text of an expression -/
def pairOf (l : List (Str × Str)) (k : Str) : Option Str := l.lookup k
def frontL : List (Str × Str) := [("negative", "-"), ("inverse", "~")]
def signL : List (Str × Str) := [("plus", "+"), ("minus", "-"), ("times", "*"), ("both", "&"), ("either", "|"), ("unlike", "^"), ("quotient", "//"), ("power", "**"), ("left", "<<"), ("right", ">>")]
def biK : List Str := ["plus", "minus", "times", "both", "either", "unlike", "greater", "lesser", "below", "at_most", "equal", "unequal"]
def nuK : List Str := ["quotient", "remainder", "power", "left", "right"]
def unK : List Str := ["negative", "inverse", "absolute"]
def wrapT (k : Str) (w0 w1 : Str) (ws : List Str) : Str := match frontL.lookup k with
  | some z => ("(" : Str) ++ z ++ w0 ++ ")"
  | none => match signL.lookup k with
    | some z => ("(" : Str) ++ w0 ++ " " ++ z ++ " " ++ w1 ++ ")"
    | none => k ++ "(" ++ Txt.join ", " ws ++ ")"
def Ex.txt : Ex → Str
  | .num n => toString n
  | .acc nm ls => nm ++ "[" ++ Txt.join ", " ls ++ "]"
  | .bi k x y => wrapT k x.txt y.txt [x.txt, y.txt]
  | .nu k x n => wrapT k x.txt (toString n) [x.txt, toString n]
  | .un k x => wrapT k x.txt Str.empty [x.txt]
def Ex.hgt : Ex → Nat
  | .num _ => 1
  | .acc _ _ => 1
  | .bi _ x y => 1 + max x.hgt y.hgt
  | .nu _ x _ => 1 + x.hgt
  | .un _ x => 1 + x.hgt
/-- numbers that are not too long, kinds of the table, texts that fit -/
def Ex.fit : Ex → Prop
  | .num n => n.natAbs.log2 < 1920 ∧ (Str.ofString (toString n)).length ≤ 100000
  | .acc nm ls => nm.length + (ls.map (·.length)).sum + ls.length * 2 ≤ 100000
  | .bi k x y => k ∈ biK ∧ x.fit ∧ y.fit ∧ x.txt.length + y.txt.length ≤ 100000
  | .nu k x n => k ∈ nuK ∧ x.fit ∧ n.natAbs.log2 < 1920 ∧ x.txt.length + (Str.ofString (toString n)).length ≤ 100000
  | .un k x => k ∈ unK ∧ x.fit ∧ x.txt.length ≤ 100000
section
variable {P : Program} {w : World} {K : PySem.W.Frag} {mg : Str → Option Value} {base : Heap} {f g C fI SG FG : Addr} {fd gd dI : FuncData}
/-- the tables of signs -/
structure Sg (K : PySem.W.Frag) (w : World) (mg : Str → Option Value) (SG FG : Addr) : Prop where
  mS : mg "SIGNS" = some (.ref SG)
  mF : mg "FRONT_SIGNS" = some (.ref FG)
  dS : ∃ es n, KDict K w SG es n
  dF : ∃ es n, KDict K w FG es n
  fr : ∀ k ∈ biK ++ nuK ++ unK, (frontL.lookup k = none ∧ PySem.W.nsIn K FG k = some none) ∨ ∃ z u, frontL.lookup k = some z ∧ PySem.W.nsIn K FG k = some (some u) ∧ RelV (.str z) u
  sg : ∀ k ∈ biK ++ nuK ++ unK, (signL.lookup k = none ∧ PySem.W.nsIn K SG k = some none) ∨ ∃ z u, signL.lookup k = some z ∧ PySem.W.nsIn K SG k = some (some u) ∧ RelV (.str z) u
/-- a part, and its word -/
def WdAt (K : PySem.W.Frag) (C : Addr) (H : Hp) (n : Nat) (v : V) (o : Option Ex) (z : Str) : Prop := match o with
  | none => ∃ i : Int, v = .int i ∧ z = toString i ∧ i.natAbs.log2 < 1920
  | some e => ∃ a, v = .ref a ∧ ExAt K C H e a ∧ e.hgt ≤ n ∧ e.fit ∧ z = e.txt
def spTxt (K : PySem.W.Frag) (C : Addr) (n : Nat) : Sp := fun vs H Q _ => ∃ (p : Addr) (e : Ex), vs = [.ref p] ∧ ExAt K C H e p ∧ e.hgt ≤ n ∧ e.fit ∧ ∀ H' : Hp, Same H H' → Q (.str e.txt) H'
def spPtx (K : PySem.W.Frag) (C : Addr) (n : Nat) : Sp := fun vs H Q _ => ∃ (v : V) (o : Option Ex) (z : Str), vs = [v] ∧ WdAt K C H n v o z ∧ ∀ H' : Hp, Same H H' → Q (.str z) H'
theorem scPtx : FnScope ["part"] ["part"] (defScope sPtx) := ⟨rfl, rfl, rfl, by decide +kernel, rfl, by decide +kernel, by decide +kernel⟩
theorem ok_ptx {n m : Nat} (F : Fun K "part_text" "part_text" sPtx f fd) (B : Bt mg) (B2 : Bx mg) (T : Xc K mg C fI) (G : FnOk P w K mg base CX0 m g gd ["expression"] (spTxt K C n)) (bG : Binds K gd ["expression"] []) (kG : PySem.W.keepIn K (.ref g) = true) (mG : mg "text_of" = some (.ref g)) :
    FnOk P w K mg base CX0 (m + 1) f fd ["part"] (spPtx K C n) := by
  refine F.ok scPtx (fun vs H Q E h => ?_) (fun cdv A outer s H vs Q E hr h => ?_)
  · obtain ⟨v, o, z, rfl, _⟩ := h
    rfl
  obtain ⟨v, o, z, rfl, hw, q⟩ := h
  refine ⟨_, pss_cons (ps_if (pt_val (pe_callB call_isi (by rfl) B.isi (by decide +kernel) (pa_cons (pv 0) (pa_cons (pe_glob (v := .ref C) (by rfl) T.mC rfl) pa_nil)))) (pss_one (ps_ret (pe_call G hr rfl mG kG bG .nil pass0 (pa_cons (pv 0) pa_nil)))) pss_nil)
    (pss_one (ps_ret (pe_callTy call_str_int (by rfl) B2.str (by decide +kernel) (pa_cons (pv 0) pa_nil)))), ?_⟩
  cases o with
  | none =>
    obtain ⟨i, rfl, rfl, hl⟩ := hw
    refine ⟨_, rfl, _, .ref C, _, .ref C, false, rfl, .own C, .base (.int i), T.sI, _, rfl, iteF ?_⟩
    exact ⟨_, rfl, i, rfl, hl, q H (Same.refl H)⟩
  | some e =>
    obtain ⟨a, rfl, he, hn, hf, rfl⟩ := hw
    obtain ⟨_, dx', _, _, _, _, _, ha, _⟩ := he.hd
    refine ⟨_, rfl, _, .ref C, _, .ref C, true, rfl, .own C, tyI T.ic ha, T.ic.me, _, rfl, iteT ?_⟩
    exact ⟨_, rfl, a, e, rfl, he, hn, hf, q⟩
/-- an expression that is no access, by its parts and their words -/
theorem ExAt.words {H : Hp} {n : Nat} : ∀ {e : Ex} {p : Addr}, ExAt K C H e p → e.hgt ≤ n + 1 → e.fit → e.kind ≠ "access" → ∃ (vs : List V) (zs : List Str), HdE K C H p e.kind vs e.accs e.nodes ∧ vs.length = zs.length ∧ zs.length ≤ 2 ∧ (∀ (i : Nat) (v : V), vs[i]? = some v → ∃ o z, zs[i]? = some z ∧ WdAt K C H n v o z) ∧ (zs.map (·.length)).sum ≤ 100000 ∧
    ((e.kind = "number" ∧ zs = [e.txt]) ∨ (e.kind ≠ "number" ∧ e.kind ∈ biK ++ nuK ++ unK ∧ e.kind.length ≤ 10 ∧ ∃ w0 w1, zs[0]? = some w0 ∧ (zs[1]? = some w1 ∨ (signL.lookup e.kind = none ∧ w1 = Str.empty)) ∧ e.txt = wrapT e.kind w0 w1 zs))
  | .num i, p, h, hn, hf, _ => by
      refine ⟨_, [toString i], h, rfl, by show 1 ≤ 2; decide, fun j v e => ?_, by simpa using hf.2, .inl ⟨rfl, rfl⟩⟩
      cases j with
      | zero => cases e; exact ⟨none, _, rfl, i, rfl, rfl, hf.1⟩
      | succ j => cases e
  | .acc nm ls, p, _, _, _, hk => absurd rfl hk
  | .bi k x y, p, ⟨o, a, b, h, hx, hy⟩, hn, ⟨hk, fx, fy, hl⟩, _ => by
      have hn2 : 1 + max x.hgt y.hgt ≤ n + 1 := hn
      refine ⟨_, [x.txt, y.txt], h, rfl, by show 2 ≤ 2; decide, fun j v e => ?_, by simpa using hl, .inr ⟨o.2.1, List.mem_append.mpr (.inl (List.mem_append.mpr (.inl hk))), ?_, x.txt, y.txt, rfl, .inl rfl, rfl⟩⟩
      · cases j with
        | zero => cases e; exact ⟨some x, _, rfl, a, rfl, hx, by omega, fx, rfl⟩
        | succ j =>
          cases j with
          | zero => cases e; exact ⟨some y, _, rfl, b, rfl, hy, by omega, fy, rfl⟩
          | succ j => cases e
      · exact (show ∀ k ∈ biK, k.length ≤ 10 by decide +kernel) k hk
  | .nu k x i, p, ⟨o, a, h, hx⟩, hn, ⟨hk, fx, hi, hl⟩, _ => by
      have hn2 : 1 + x.hgt ≤ n + 1 := hn
      refine ⟨_, [x.txt, toString i], h, rfl, by show 2 ≤ 2; decide, fun j v e => ?_, by simpa using hl, .inr ⟨o.2.1, List.mem_append.mpr (.inl (List.mem_append.mpr (.inr hk))), ?_, x.txt, toString i, rfl, .inl rfl, rfl⟩⟩
      · cases j with
        | zero => cases e; exact ⟨some x, _, rfl, a, rfl, hx, by omega, fx, rfl⟩
        | succ j =>
          cases j with
          | zero => cases e; exact ⟨none, _, rfl, i, rfl, rfl, hi⟩
          | succ j => cases e
      · exact (show ∀ k ∈ nuK, k.length ≤ 10 by decide +kernel) k hk
  | .un k x, p, ⟨o, a, h, hx⟩, hn, ⟨hk, fx, hl⟩, _ => by
      have hn2 : 1 + x.hgt ≤ n + 1 := hn
      refine ⟨_, [x.txt], h, rfl, by show 1 ≤ 2; decide, fun j v e => ?_, by simpa using hl, .inr ⟨o.2.1, List.mem_append.mpr (.inr hk), ?_, x.txt, Str.empty, rfl, .inr ⟨?_, rfl⟩, rfl⟩⟩
      · cases j with
        | zero => cases e; exact ⟨some x, _, rfl, a, rfl, hx, by omega, fx, rfl⟩
        | succ j => cases e
      · exact (show ∀ k ∈ unK, k.length ≤ 10 by decide +kernel) k hk
      · exact (show ∀ k ∈ unK, signL.lookup k = none by decide +kernel) k hk
theorem WdAt.same {H H' : Hp} {n : Nat} {v : V} {z : Str} (g : Same H H') : ∀ {o : Option Ex}, WdAt K C H n v o z → WdAt K C H' n v o z
  | none, h => h
  | some e, ⟨a, h1, h2, h3, h4, h5⟩ => ⟨a, h1, h2.same g, h3, h4, h5⟩
def InvTx (H0 : Hp) (D : Addr) (zs : List Str) (i : Nat) (H : Hp) : Prop := H D = some (.lst ((zs.take i).map V.str)) ∧ Same H0 H
theorem len_le : ∀ {zs : List Str} {i : Nat} {z : Str}, (zs.map (·.length)).sum ≤ 100000 → zs[i]? = some z → z.length ≤ 100000
  | [], i, z, _, e => by cases e
  | y :: r, 0, z, h, e => by
    cases e
    rw [List.map_cons, List.sum_cons] at h
    omega
  | y :: r, i + 1, z, h, e => by
    rw [List.map_cons, List.sum_cons] at h
    exact len_le (zs := r) (i := i) (by omega) e
theorem two_le {zs : List Str} {w0 w1 : Str} (h : (zs.map (·.length)).sum ≤ 100000) (e0 : zs[0]? = some w0) (e1 : zs[1]? = some w1) : w0.length + w1.length ≤ 100000 := by
  match zs, e0, e1, h with
  | a :: b :: r, e0, e1, h =>
    cases e0
    cases e1
    rw [List.map_cons, List.map_cons, List.sum_cons, List.sum_cons] at h
    omega
theorem join_le (s : Str) (ls : List Str) : (Txt.join s ls).length ≤ (ls.map (·.length)).sum + ls.length * s.length := by
  show (Builtin.Str.glued s ls).length ≤ _
  rw [size_glued]
  exact Nat.add_le_add_left (Nat.mul_le_mul_right _ (Nat.sub_le _ _)) _
theorem ExAt.acc_of {H : Hp} : ∀ {e : Ex} {p : Addr}, ExAt K C H e p → e.kind = "access" → ∃ nm ls, e = .acc nm ls
  | .num n, p, h, k => absurd k (kne _ _)
  | .acc nm ls, p, _, _ => ⟨nm, ls, rfl⟩
  | .bi k x y, p, ⟨o, _⟩, h => absurd h o.1
  | .nu k x n, p, ⟨o, _⟩, h => absurd h o.1
  | .un k x, p, ⟨o, _⟩, h => absurd h o.1
theorem decS {a b : Str} : decide (V.str a = V.str b) = decide (a = b) := by
  by_cases h : a = b
  · subst h
    rw [decide_eq_true rfl, decide_eq_true rfl]
  · rw [decide_eq_false h, decide_eq_false fun e => h (V.str.inj e)]
abbrev namesTx : List Str := ["expression", "kind", "name", "letters", "words", "part"]
theorem scTx : FnScope namesTx ["expression"] (defScope sTxt) := ⟨rfl, rfl, rfl, by decide +kernel, rfl, by decide +kernel, by decide +kernel⟩
theorem ok_txt {n m : Nat} (F : Fun K "text_of" "text_of" sTxt f fd) (B : Bt mg) (T : Xc K mg C fI) (S : Sg K w mg SG FG) (G : FnOk P w K mg base CX0 m g gd ["part"] (spPtx K C n)) (bG : Binds K gd ["part"] []) (kG : PySem.W.keepIn K (.ref g) = true) (mG : mg "part_text" = some (.ref g)) :
    FnOk P w K mg base CX0 (m + 1) f fd ["expression"] (spTxt K C (n + 1)) := by
  refine F.ok scTx (fun vs H Q E h => ?_) (fun cdv A outer s H vs Q E hr h => ?_)
  · obtain ⟨p, e, rfl, _⟩ := h
    rfl
  obtain ⟨es1, en1, DS⟩ := S.dS
  obtain ⟨es2, en2, DF⟩ := S.dF
  obtain ⟨p, e, rfl, he, hn, hf, q⟩ := h
  refine ⟨_, pss_cons (ps_set (i := 1) scTx.nd rfl (Or.inl rfl) (pe_fld (pv 0) rfl))
    (pss_cons (ps_if (pt_cmpR op_eq (pv 1) pe_str (nomark _)) (pss_cons (ps_asg (pe_fld (pv 0) rfl) (pg_tup rfl (pgs_cons (pg_name (i := 2) scTx.nd rfl (Or.inl rfl)) (pgs_cons (pg_name (i := 3) scTx.nd rfl (Or.inl rfl)) pgs_nil)))) (pss_one (ps_ret (pe_op op_add_str (pe_op op_add_str (pe_op op_add_str (pv 2) pe_str) (pe_join pe_str (pv 3))) pe_str)))) pss_nil)
    (pss_cons (ps_setLc (i := 4) (own := [("part", 5)]) (g := gName 5) (tt := tYes) (te := tCall (spPtx K C n) [] E0 (tCons (tVar 5) tNil)) rfl scTx.nd rfl rfl (sw_true rfl rfl rfl (by decide +kernel)) (pi_tup (pe_fld (pv 0) rfl)) (blkOk_by (N := namesTx) (sc := defScope sTxt) (by decide +kernel)) (fun _ _ _ _ _ => pg_name (i := 5) scTx.nd rfl (Or.inl rfl)) (fun _ _ _ _ _ => pts_nil)
      (fun _ _ _ _ _ => pe_call G hr rfl mG kG bG .nil pass0 (pa_cons (pv 5) pa_nil)))
    (pss_cons (ps_if (pt_cmpR op_eq (pv 1) pe_str (nomark _)) (pss_one (ps_ret (pe_ix ix_list (pv 4) pe_int (fun _ _ => rfl)))) pss_nil)
    (pss_cons (ps_if (pt_cmpR (op_in_kd DF) (pv 1) (pe_glob (v := .ref FG) (by rfl) S.mF rfl) (by rfl)) (pss_one (ps_ret (pe_op op_add_str (pe_op op_add_str (pe_op op_add_str pe_str (pe_ix ix_kdict (pe_glob (v := .ref FG) (by rfl) S.mF rfl) (pv 1) (fun _ _ => rfl))) (pe_ix ix_list (pv 4) pe_int (fun _ _ => rfl))) pe_str))) pss_nil)
    (pss_cons (ps_if (pt_cmpR (op_in_kd DS) (pv 1) (pe_glob (v := .ref SG) (by rfl) S.mS rfl) (by rfl)) (pss_one (ps_ret (pe_op op_add_str (pe_op op_add_str (pe_op op_add_str (pe_op op_add_str (pe_op op_add_str (pe_op op_add_str pe_str (pe_ix ix_list (pv 4) pe_int (fun _ _ => rfl))) pe_str) (pe_ix ix_kdict (pe_glob (v := .ref SG) (by rfl) S.mS rfl) (pv 1) (fun _ _ => rfl))) pe_str) (pe_ix ix_list (pv 4) pe_int (fun _ _ => rfl))) pe_str))) pss_nil)
    (pss_one (ps_ret (pe_op op_add_str (pe_op op_add_str (pe_op op_add_str (pv 1) pe_str) (pe_join pe_str (pv 4))) pe_str)))))))), ?_⟩
  by_cases hk : e.kind = "access"
  · obtain ⟨nm, ls, rfl⟩ := he.acc_of hk
    obtain ⟨t, ⟨dx, tp, ta, tl, us, ys, hp, htp, _⟩, ht⟩ := he
    have hfl : nm.length + (ls.map (·.length)).sum + ls.length * 2 ≤ 100000 := hf
    have hj := join_le ", " ls
    have l2 : (", " : Str).length = 2 := by decide +kernel
    rw [l2] at hj
    have o1 : ("[" : Str).length = 1 := by decide +kernel
    have o2 : ("]" : Str).length = 1 := by decide +kernel
    have big : ∀ n : Nat, n ≤ 200000 → n ≤ sizeLine := fun n h => Nat.le_trans h (by decide)
    refine ⟨_, rfl, p, C, dx, _, _, rfl, hp, T.ic.cl, T.nK, fE_k, ?_⟩
    refine ⟨_, rfl, rfl, _, rfl, ?_⟩
    rw [decS, decide_eq_true rfl]
    refine iteT ?_
    refine ⟨_, rfl, p, C, dx, _, _, rfl, hp, T.ic.cl, T.nP, fE_p, tp, _, rfl, htp, rfl, _, _, rfl, _, _, rfl, rfl, ?_⟩
    refine ⟨_, rfl, _, _, rfl, rfl, big _ (by rw [o1]; omega), ⟨_, rfl⟩, _, rfl, _, t, ls, rfl, rfl, .inr ht, by rw [l2]; omega, _, _, rfl, rfl, big _ (by rw [Str.length_append, o1]; omega), _, _, rfl, rfl, big _ (by rw [Str.length_append, Str.length_append, o1, o2]; omega), q H (Same.refl H)⟩
  obtain ⟨vs, zs, ⟨dx, tp, ta, tl, us, ys, hp, htp, _⟩, hvz, hz2, hw, hsum, hsh⟩ := he.words hn hf hk
  refine ⟨_, rfl, p, C, dx, _, _, rfl, hp, T.ic.cl, T.nK, fE_k, ?_⟩
  refine ⟨_, rfl, rfl, _, rfl, ?_⟩
  rw [decS, decide_eq_false hk]
  refine iteF ?_
  refine ⟨_, rfl, p, C, dx, _, _, rfl, hp, T.ic.cl, T.nP, fE_p, tp, rfl, ⟨_, htp⟩, fun D hD => ?_⟩
  refine lc_tup (K := K) (a := tp) (xs := vs) (InvTx H D zs) ⟨by rw [upd_same, List.take_zero] <;> rfl, same_new hD _⟩ (fun i H' _ ⟨_, g⟩ => seqT g htp) (fun i x H' hx ⟨hd, g⟩ => ?_) ?_
  · refine ⟨rfl, kept ?_⟩
    obtain ⟨o, z, ez, hwd⟩ := hw i x hx
    refine ⟨_, rfl, x, o, z, rfl, hwd.same g, fun H3 g3 => ?_⟩
    refine ⟨_, g3 _ _ hd, by rw [List.length_map, List.length_take]; exact small1000 (by omega), ?_, same_over (g.trans g3) hD _⟩
    rw [upd_same, List.take_add_one, ez, List.map_append] <;> rfl
  rintro H1 ⟨hd, g⟩
  rw [hvz, List.take_length] at hd
  have at_ : ∀ (i : Nat) (z : Str) (σ : St) (R : V → Hp → Prop), σ[4]? = some (some (.ref D)) → zs[i]? = some z → R (.str z) H1 → tOp (rIxL K) (tVar 4) (tC (.int (i : Int))) σ H1 R := fun i z σ R e4 e h =>
    ⟨_, e4, D, _, (i : Int), .str z, rfl, rfl, SqL.of hd, atI_nat (by rw [List.getElem?_map, e] <;> rfl), h⟩
  have big : ∀ n : Nat, n ≤ 200000 → n ≤ sizeLine := fun n h => Nat.le_trans h (by decide)
  refine ⟨_, rfl, rfl, _, rfl, ?_⟩
  rw [decS]
  rcases hsh with ⟨hkn, hzs⟩ | ⟨hkn, hkk, hkl, w0, w1, e0, e1, htx⟩
  · rw [decide_eq_true hkn]
    refine iteT (at_ 0 _ _ _ rfl (by rw [hzs] <;> rfl) (q H1 g))
  rw [decide_eq_false hkn]
  refine iteF ?_
  have l0 : w0.length ≤ 100000 := len_le hsum e0
  have l2 : (", " : Str).length = 2 := by decide +kernel
  have o1 : ("(" : Str).length = 1 := by decide +kernel
  have o2 : (")" : Str).length = 1 := by decide +kernel
  have o3 : (" " : Str).length = 1 := by decide +kernel
  rcases S.fr _ hkk with ⟨ef, nf⟩ | ⟨z, u, ef, nf, ru⟩
  · refine ⟨_, rfl, _, _, rfl, rfl, nf, _, rfl, iteF ?_⟩
    rcases S.sg _ hkk with ⟨es, ns⟩ | ⟨z, u, es, ns, ru⟩
    · refine ⟨_, rfl, _, _, rfl, rfl, ns, _, rfl, iteF ?_⟩
      have hj := join_le ", " zs
      rw [l2] at hj
      have hh : wrapT e.kind w0 w1 zs = e.kind ++ "(" ++ Txt.join ", " zs ++ ")" := by
        unfold wrapT
        rw [ef, es]
      refine ⟨_, rfl, _, _, rfl, rfl, big _ (by rw [o1]; omega), ⟨_, rfl⟩, _, rfl, _, D, zs, rfl, rfl, .inl (SqL.of hd), by rw [l2]; omega, _, _, rfl, rfl, big _ (by rw [Str.length_append, o1]; omega), _, _, rfl, rfl, big _ (by rw [Str.length_append, Str.length_append, o1, o2]; omega), ?_⟩
      have qq := q H1 g
      rw [htx, hh] at qq
      exact qq
    · refine ⟨_, rfl, _, _, rfl, rfl, ns, _, rfl, iteT ?_⟩
      have e1' : zs[1]? = some w1 := e1.elim id fun h => absurd (h.1.symm.trans es) (by simp)
      have l1 : w1.length ≤ 100000 := len_le hsum e1'
      have lz : z.length ≤ 2 := by
        have := (show ∀ k ∈ biK ++ nuK ++ unK, ((signL.lookup k).map (·.length)).getD 0 ≤ 2 by decide +kernel) _ hkk
        rw [es] at this
        exact this
      have hh : wrapT e.kind w0 w1 zs = ("(" : Str) ++ w0 ++ " " ++ z ++ " " ++ w1 ++ ")" := by
        unfold wrapT
        rw [ef, es]
      have l12 : w0.length + w1.length ≤ 100000 := two_le hsum e0 e1'
      refine at_ 0 w0 _ _ rfl e0 ⟨_, _, rfl, rfl, big _ (by rw [o1]; omega), _, _, rfl, rfl, big _ (by rw [Str.length_append, o1, o3]; omega), _, rfl, SG, e.kind, .str z, rfl, rfl, ?_, _, _, rfl, rfl, big _ (by rw [Str.length_append, Str.length_append, o1, o3]; omega), _, _, rfl, rfl, big _ (by rw [Str.length_append, Str.length_append, Str.length_append, o1, o3]; omega), ?_⟩
      · obtain ⟨ee, nn, KD⟩ := S.dS
        exact ⟨ee, nn, u, KD.at_, KD.lit, ns, ru⟩
      refine at_ 1 w1 _ _ rfl e1' ⟨_, _, rfl, rfl, big _ (by rw [Str.length_append, Str.length_append, Str.length_append, Str.length_append, o1, o3]; omega), _, _, rfl, rfl, big _ (by rw [Str.length_append, Str.length_append, Str.length_append, Str.length_append, Str.length_append, o1, o2, o3]; omega), ?_⟩
      have qq := q H1 g
      rw [htx, hh] at qq
      exact qq
  · refine ⟨_, rfl, _, _, rfl, rfl, nf, _, rfl, iteT ?_⟩
    have lz : z.length ≤ 2 := by
      have := (show ∀ k ∈ biK ++ nuK ++ unK, ((frontL.lookup k).map (·.length)).getD 0 ≤ 2 by decide +kernel) _ hkk
      rw [ef] at this
      exact this
    have hh : wrapT e.kind w0 w1 zs = ("(" : Str) ++ z ++ w0 ++ ")" := by
      unfold wrapT
      rw [ef]
    refine ⟨_, rfl, FG, e.kind, .str z, rfl, rfl, ?_, _, _, rfl, rfl, big _ (by rw [o1]; omega), ?_⟩
    · obtain ⟨ee, nn, KD⟩ := S.dF
      exact ⟨ee, nn, u, KD.at_, KD.lit, nf, ru⟩
    refine at_ 0 w0 _ _ rfl e0 ⟨_, _, rfl, rfl, big _ (by rw [Str.length_append, o1]; omega), _, _, rfl, rfl, big _ (by rw [Str.length_append, Str.length_append, o1, o2]; omega), ?_⟩
    have qq := q H1 g
    rw [htx, hh] at qq
    exact qq
end
end Lw
/-! except clauses, each with a name or without -/
namespace Lw
open PySem PySem.Spec PyProof.Rows L2
/-- a clause: what it catches, the slot of its name, what its suite reads as -/
structure Clause where
  c : Value
  i : Option Nat
  ts : Addr → Value → Option Addr → TS
/-- behind the suite the name is gone -/
def goneD (i : Nat) (D : Ends) : Ends := { nx := fun σ H => D.nx (σ.set i none) H, rt := D.rt, bk := fun σ H => D.bk (σ.set i none) H, ct := fun σ H => D.ct (σ.set i none) H }
def suiteW (k : Clause) (a : Addr) (cls : Value) (d : Option Addr) (D : Ends) (σ : L2.St) (H : Hp) : Prop := match k.i with
  | none => k.ts a cls d D σ H
  | some i => k.ts a cls d (goneD i D) (σ.set i (some (.ref a))) H
/-- what the clauses wish of an exception, one after the other -/
def wishC (K : PySem.W.Frag) (Wout : WX) (D : Ends) : List Clause → WX
  | [] => Wout
  | k :: r => fun cls d σ H => ∃ b, PySem.W.exmOne K cls k.c = some b ∧ (b = true → ∀ a, H a = none → suiteW k a cls d D σ H) ∧ (b = false → wishC K Wout D r cls d σ H)
/-- the clauses of the text, read so -/
inductive ClauseOk (X : Cx) : List ExceptHandler → List Clause → Prop
  | nil : ClauseOk X [] []
  | bare {x : Str} {c : Value} {ts : Addr → Value → Option Addr → TS} {b₀ : Stmt} {suite : List Stmt} {np p : Pos} {hs : List ExceptHandler} {l : List Clause} (hc : Names X x c)
      (hsu : ∀ (a : Addr) (oe : Obj) (cls : Value) (d : Option Addr) (pn : List (Addr × Obj)), Zc cls d oe → (∃ vs, oe.data = .fields vs) → PSs (X.suite a ((a, oe) :: pn)) (b₀ :: suite) (ts a cls d)) (r : ClauseOk X hs l) :
      ClauseOk X (.ExceptHandler (some (.Name x np)) none (b₀ :: suite) p :: hs) (⟨c, none, ts⟩ :: l)
  | named {x n : Str} {c : Value} {i : Nat} {ts : Addr → Value → Option Addr → TS} {b₀ : Stmt} {suite : List Stmt} {np p : Pos} {hs : List ExceptHandler} {l : List Clause} (hN : X.N.Nodup) (hi : X.N[i]? = some n) (hl : X.env.kindOf n = some .local) (hc : Names X x c)
      (hsu : ∀ (a : Addr) (oe : Obj) (cls : Value) (d : Option Addr) (pn : List (Addr × Obj)), Zc cls d oe → (∃ vs, oe.data = .fields vs) → PSs (X.suite a ((a, oe) :: pn)) (b₀ :: suite) (ts a cls d)) (r : ClauseOk X hs l) :
      ClauseOk X (.ExceptHandler (some (.Name x np)) (some n) (b₀ :: suite) p :: hs) (⟨c, some i, ts⟩ :: l)
section
variable {X : Cx} {body : List Stmt} {h₀ : ExceptHandler} {hs : List ExceptHandler} {l : List Clause} {pos : Pos} {tb : WX → TS} {Wout : WX}
theorem ps_clauses (hst : X.stack = X.env :: X.outer) (hf : X.env.frame = some X.env.locals) (tk : Takes X Wout)
    (hb : ∀ (W : WX) (pn : List (Addr × Obj)) (xe : Value → Shared → Prop), Takes (X.tr pn xe) W → PassesOwn (model X.prog X.w) X.A X.env xe → PSs (X.tr pn xe) body (tb W))
    (hh : ClauseOk X (h₀ :: hs) l) : PS X (.Try body (h₀ :: hs) [] [] pos) (fun D σ H => tb (wishC X.K Wout D l) D σ H) := by
  refine ⟨fun pins s σ H D I h => ?_⟩
  have ok := I.ok
  have hfr : X.A.frames = some (X.env :: X.outer) := by rw [ok.frames, hst]
  -- an exception e of the body: noted here, then the clauses
  let catch_ : Value → Shared → Prop := fun e s₁ => wpAny (model X.prog X.w) X.A (noteFrame e X.env) (fun _ s₂ => wpAny (model X.prog X.w) X.A (setFlight e none) (fun _ s₃ =>
    wpAny (model X.prog X.w) X.A (handleBy e X.env (h₀ :: hs)) (SP X pins D) X.xe s₃) X.xe s₂) X.xe s₁
  have caught : Takes (X.tr (X.pn ++ pins) catch_) (wishC X.K Wout D l) := by
    rintro u s' ⟨a, B, sI, pins', σ', H', cls, d, rfl, J', nb, up, sky, na, os, ag, w⟩
    have J : Inv X pins σ' H' sI := J'.ofTry ok
    have sky' : Sky B (X.env :: X.outer) a (Zc cls d) X.env.locals s'.heap := by rw [← hst]; exact sky
    show wpAny (model X.prog X.w) X.A (noteFrame (.ref a) X.env) _ _ _
    refine Sky.land Zc.steady hfr hf sky' fun h3 fl3 up3 => ?_
    obtain ⟨oe3, vs3, he3, hz3, hd3⟩ := fl3.there
    -- the exception is none of the frames
    have off : a ∉ frs (X.env :: X.outer) := fun hm => by
      obtain ⟨_, o', e', hnf⟩ := fl3.2.2.1.mem hm
      rw [he3] at e'
      cases e'
      exact hnf _ hd3
    have nL : a ≠ X.env.locals := fun z => off (List.mem_filterMap.mpr ⟨X.env, List.mem_cons_self, by rw [hf, z]⟩)
    have nF : a ∉ X.fs := fun hm => by
      obtain ⟨e, he, q⟩ := List.mem_filterMap.mp hm
      exact off (List.mem_filterMap.mpr ⟨e, List.mem_cons_of_mem _ he, q⟩)
    have J3 : Inv X pins σ' H' { s' with heap := h3 } := J.landed nb fl3.1 (up.trans up3) os ag
    have S3 := J3.suite he3 hd3 na nL nF
    have LT : PySem.W.Looks (model X.prog X.w) h3 (typeOf (.ref a)) cls := fun A Q E s k q => wpAny_typeOf_ref (k _ _ he3) (by rw [hz3.1]; exact q)
    have asks : ∀ {x : Str} {c : Value} {np : Pos} {Q E : Value → Shared → Prop}, Names X x c → Q c { s' with heap := h3 } → wpAny (model X.prog X.w) (X.A.mark (some (.ref a))) (eval (.Name x np) X.env) Q E { s' with heap := h3 } := fun {x c np Q E} hc q => by
      obtain ⟨hg, hdbg, hm | ⟨hm, hv, hnn⟩⟩ := hc
      · exact ld_glob (X := X.suite a ((a, oe3) :: (X.pn ++ pins))) S3 hg hm q hdbg
      · exact ld_blt (X := X.suite a ((a, oe3) :: (X.pn ++ pins))) S3 hg hm hv q hnn hdbg
    -- back in the air, where no clause fits
    have on : Wout cls d σ' H' → wpAny (model X.prog X.w) X.A (handleBy (.ref a) X.env []) (SP X pins D) X.xe { s' with heap := h3 } := fun w => by
      refine wpAny_handleBy_nil ?_
      obtain ⟨_, _, _, oe, vs, Tb, oT, ts', he, hz, hd, h1, hr⟩ := id fl3
      unfold PySem.passOn
      refine wpAny_bind (wpAny_field he hd h1 ?_)
      rw [if_neg (show ¬ ((Value.ref Tb == Value.none) = true) from by simp)]
      have fin : wpAny (model X.prog X.w) X.A (setFlight (.ref a) X.env.frame) (fun _ s4 => wpAny (model X.prog X.w) X.A (throw (.ref a) : Sem Flow) (SP X pins D) X.xe s4) X.xe { s' with heap := h3 } := by
        rw [hf]
        refine HandSPX.setFlight_upZ fl3 fun h4 hh4 up4 => wpAny_throw (tk _ _ ?_)
        exact ⟨a, B, sI, pins, σ', H', cls, d, rfl, J, nb, (up.trans up3).trans up4, .inr (.inr (by rw [hst]; exact hh4)), na, os, ag, w⟩
      first
        | exact wpAny_bind (wpAny_pure (wpAny_bind fin))
        | exact wpAny_bind fin
    have go : ∀ {ks : List ExceptHandler} {l' : List Clause}, ClauseOk X ks l' → wishC X.K Wout D l' cls d σ' H' → wpAny (model X.prog X.w) X.A (handleBy (.ref a) X.env ks) (SP X pins D) X.xe { s' with heap := h3 } := fun hk => by
      induction hk with
      | nil => exact on
      | bare hc hsu r ih =>
        rintro ⟨b, hb1, hyes, hno⟩
        refine wpAny_handleBy_cons (codeAny_handlers_test (asks hc ((PySem.W.exm_one (M := model X.prog X.w) J3.kIn LT hb1).here ?_))) (by intro q; cases q)
        cases b with
        | false => exact ih (hno rfl)
        | true =>
          refine codeAny_handlers_suite (HandSPX.lands_againZ fl3 fun h4 fl4 up4 => ?_)
          obtain ⟨oe4, vs4, he4, hz4, hd4⟩ := fl4.there
          have J4 : Inv X pins σ' H' { s' with heap := h4 } := J.landed nb fl4.1 ((up.trans up3).trans up4) os ag
          have S4 := J4.suite he4 hd4 na nL nF
          refine wpAny_mono ((hsu a oe4 cls d (X.pn ++ pins) hz4 ⟨_, hd4⟩).run [] _ _ H' _ S4 (hyes rfl a na)) (fun f s6 z => ?_) (fun _ _ z => False.elim z)
          cases f with
          | next => obtain ⟨σ6, H6, S6, q6⟩ := z; exact ⟨_, _, S6.unsuite ok, q6⟩
          | brk => obtain ⟨σ6, H6, S6, q6⟩ := z; exact ⟨_, _, S6.unsuite ok, q6⟩
          | cont => obtain ⟨σ6, H6, S6, q6⟩ := z; exact ⟨_, _, S6.unsuite ok, q6⟩
          | ret u => obtain ⟨v6, σ6, H6, S6, r6, q6⟩ := z; exact ⟨_, _, _, S6.unsuite ok, r6, q6⟩
      | @named x n c i ts b₀ suite np p hs' l' hN hi hl hc hsu r ih =>
        rintro ⟨b, hb1, hyes, hno⟩
        refine wpAny_handleBy_cons (codeAny_handlers_test (asks hc ((PySem.W.exm_one (M := model X.prog X.w) J3.kIn LT hb1).here ?_))) (by intro q; cases q)
        cases b with
        | false => exact ih (hno rfl)
        | true =>
          refine codeAny_handlers_suite_as (HandSPX.lands_againZ fl3 fun h4 fl4 up4 => ?_)
          obtain ⟨oe4, vs4, he4, hz4, hd4⟩ := fl4.there
          have J4 : Inv X pins σ' H' { s' with heap := h4 } := J.landed nb fl4.1 ((up.trans up3).trans up4) os ag
          have S4 := J4.suite he4 hd4 na nL nF
          refine store_ok (X := X.suite a ((a, oe4) :: (X.pn ++ pins))) (v := .ref a) S4 hN hi (.inl hl) rfl (fun s5 S5 => ?_) (.inr hl)
          refine wpAny_mono ((hsu a oe4 cls d (X.pn ++ pins) hz4 ⟨_, hd4⟩).run [] s5 _ H' _ S5 (hyes rfl a na)) (fun f s6 z => ?_) (fun _ _ z => False.elim z)
          have gone : ∀ {σ6 : L2.St} {H6 : Hp} {Q : Shared → Prop}, Inv (X.suite a ((a, oe4) :: (X.pn ++ pins))) [] σ6 H6 s6 → (∀ s7, Inv X pins (σ6.set i none) H6 s7 → Q s7) →
              wpAny (model X.prog X.w) X.A (do bindName X.env n .none; unbindBehindTheSuite X.env n p) (fun _ s7 => Q s7) X.xe s6 := fun S6 hq => gone_ok (S6.unsuite ok) hN hi hl hq
          cases f with
          | next => obtain ⟨σ6, H6, S6, q6⟩ := z; exact gone S6 fun s7 J7 => ⟨_, _, J7, q6⟩
          | brk => obtain ⟨σ6, H6, S6, q6⟩ := z; exact gone S6 fun s7 J7 => ⟨_, _, J7, q6⟩
          | cont => obtain ⟨σ6, H6, S6, q6⟩ := z; exact gone S6 fun s7 J7 => ⟨_, _, J7, q6⟩
          | ret u => obtain ⟨v6, σ6, H6, S6, r6, q6⟩ := z; exact gone S6 fun s7 J7 => ⟨_, _, _, J7, r6, q6⟩
    exact go hh w
  refine wpAny_Try_except (wpAny_mono ((hb _ _ catch_ caught PassesOwn.looking).run [] s σ H D (I.toTry _) h) (fun f s1 z => ?_) fun e s1 he => he)
  cases f with
  | next => obtain ⟨σ', H', J', q⟩ := z; exact wpAny_execs_nil ⟨σ', H', J'.ofTry ok, q⟩
  | brk => obtain ⟨σ', H', J', q⟩ := z; exact ⟨σ', H', J'.ofTry ok, q⟩
  | cont => obtain ⟨σ', H', J', q⟩ := z; exact ⟨σ', H', J'.ofTry ok, q⟩
  | ret u => obtain ⟨v, σ', H', J', r, q⟩ := z; exact ⟨v, σ', H', J'.ofTry ok, r, q⟩
end
end Lw
namespace Lw
open PySem L2 OwB
/-! errors that hold something -/
abbrev sFrozen : Stmt := topS 2
abbrev s_bn_init : Stmt := inClass (topS 6) 0
abbrev s_rl_init : Stmt := inClass (topS 7) 0
def plainV (v : V) : Prop := (∃ i : Int, v = .int i) ∨ ∃ z : Str, v = .str z
/-- an own error class with one field, which its __init__ sets -/
structure Er (K : PySem.W.Frag) (mg : Str → Option Value) (C fI : Addr) (x fl : Str) : Prop where
  ox : OexC K C
  ini : PySem.W.findIn K (.ref C) "__init__" = some (some (.ref fI))
  ty : PySem.W.typeIn K (.ref fI) = some (.type "function")
  no : PySem.W.findIn K (.ref C) fl = some none
  m : mg x = some (.ref C)
section
variable {P : Program} {w : World} {K : PySem.W.Frag} {mg : Str → Option Value} {base : Heap} {f g C fI : Addr} {fd gd dI : FuncData}
def spFrV : Sp := fun vs H Q _ => ∃ v : V, vs = [v] ∧ plainV v ∧ ∀ H' : Hp, Same H H' → Q v H'
theorem scFr : FnScope ["worth", "part"] ["worth"] (defScope sFrozen) := ⟨rfl, rfl, rfl, by decide +kernel, rfl, by decide +kernel, by decide +kernel⟩
theorem ok_frV (F : Fun K "frozen" "frozen" sFrozen f fd) (B : Bt mg) : FnOk P w K mg base CX0 1 f fd ["worth"] spFrV := by
  refine F.ok scFr (fun vs H Q E h => ?_) (fun cdv A outer s H vs Q E hr h => ?_)
  · obtain ⟨i, rfl, _⟩ := h
    rfl
  obtain ⟨v, rfl, hv, q⟩ := h
  refine ⟨_, pss_cons (ps_if (pt_val (pe_callB call_isiT (by rfl) B.isi (by decide +kernel) (pa_cons (pv 0) (pa_cons (pe_tup (pa_cons (pe_bltn (v := .ty "list") (by rfl) B.lst (by decide +kernel) rfl) (pa_cons (pe_bltn (v := .ty "tuple") (by rfl) B.tup (by decide +kernel) rfl) pa_nil))) pa_nil)))) (pss_one ps_never) pss_nil)
    (pss_one (ps_ret (pv 0))), ?_⟩
  refine ⟨_, rfl, (by show 2 ≤ sizeLine; decide), fun t ht => ?_⟩
  rcases hv with ⟨i, rfl⟩ | ⟨z, rfl⟩
  · refine ⟨_, t, _, .type "int", [.type "list", .type "tuple"], false, rfl, upd_same, .cons (.ty _) (.cons (.ty _) .nil), .base (.int i), is_seq (by decide +kernel) (by decide +kernel), _, rfl, ?_⟩
    exact iteF ⟨_, rfl, q _ (same_new ht _)⟩
  · refine ⟨_, t, _, .type "str", [.type "list", .type "tuple"], false, rfl, upd_same, .cons (.ty _) (.cons (.ty _) .nil), .base (.str z), is_seq (by decide +kernel) (by decide +kernel), _, rfl, ?_⟩
    exact iteF ⟨_, rfl, q _ (same_new ht _)⟩
/-- the __init__ of such a class -/
def spErI (C : Addr) (fl : Str) : Sp := fun vs H Q _ => ∃ (a : Addr) (v : V), vs = [.ref a, v] ∧ plainV v ∧ H a = some (exo a C none) ∧ ∀ (dx : Addr) (H' : Hp), H dx = none → dx ≠ a → H' a = some (exo a C (some dx)) → H' dx = some (exd dx [(fl, v)]) → (∀ b o, b ≠ a → H b = some o → H' b = some o) → Q .non H'
theorem sc_bn : FnScope ["self", "n"] ["self", "n"] (defScope s_bn_init) := ⟨rfl, rfl, rfl, by decide +kernel, rfl, by decide +kernel, by decide +kernel⟩
theorem sc_rl : FnScope ["self", "letter"] ["self", "letter"] (defScope s_rl_init) := ⟨rfl, rfl, rfl, by decide +kernel, rfl, by decide +kernel, by decide +kernel⟩
theorem er_end {Q : VK} {H : Hp} {a : Addr} {v : V} {fl : Str} (ha : H a = some (exo a C none)) (k : ∀ (dx : Addr) (H' : Hp), H dx = none → dx ≠ a → H' a = some (exo a C (some dx)) → H' dx = some (exd dx [(fl, v)]) → (∀ b o, b ≠ a → H b = some o → H' b = some o) → Q .non H') {H1 : Hp} (g1 : Same H H1) (dx : Addr) (hd : H1 dx = none) (ne : dx ≠ a) : Q .non (upd (upd H1 dx (exd dx [(fl, v)])) a (exo a C (some dx))) :=
  k dx _ (g1.free hd) ne upd_same (by rw [upd_ne ne, upd_same]) fun b o nb e => by
    have n2 : b ≠ dx := ne_of_none (g1 _ _ e) hd
    rw [upd_ne nb, upd_ne n2]
    exact g1 _ _ e
theorem ok_bn (F : Fun K "__init__" "BadNumber.__init__" s_bn_init f fd) (T : Er K mg C f "BadNumber" "n") (G : FnOk P w K mg base CX0 1 g gd ["worth"] spFrV) (bG : Binds K gd ["worth"] []) (kG : PySem.W.keepIn K (.ref g) = true) (mG : mg "frozen" = some (.ref g)) : FnOk P w K mg base CX0 2 f fd ["self", "n"] (spErI C "n") := by
  refine F.ok sc_bn (fun vs H Q E h => ?_) (fun cdv A outer s H vs Q E hr h => ?_)
  · obtain ⟨a, v, rfl, _⟩ := h
    rfl
  obtain ⟨a, v, rfl, hv, ha, k⟩ := h
  refine ⟨_, (pss_one (ps_ost (pv 0) (pe_call G hr rfl mG kG bG .nil pass0 (pa_cons (pv 1) pa_nil)))), ?_⟩
  refine ⟨_, rfl, v, rfl, hv, fun H1 g1 => ⟨_, rfl, a, C, rfl, T.ox, T.no, .inl ⟨g1 _ _ ha, fun dx hd ne => er_end ha k g1 dx hd ne⟩⟩⟩
theorem ok_rl (F : Fun K "__init__" "RepeatedLetter.__init__" s_rl_init f fd) (T : Er K mg C f "RepeatedLetter" "letter") (G : FnOk P w K mg base CX0 1 g gd ["worth"] spFrV) (bG : Binds K gd ["worth"] []) (kG : PySem.W.keepIn K (.ref g) = true) (mG : mg "frozen" = some (.ref g)) : FnOk P w K mg base CX0 2 f fd ["self", "letter"] (spErI C "letter") := by
  refine F.ok sc_rl (fun vs H Q E h => ?_) (fun cdv A outer s H vs Q E hr h => ?_)
  · obtain ⟨a, v, rfl, _⟩ := h
    rfl
  obtain ⟨a, v, rfl, hv, ha, k⟩ := h
  refine ⟨_, (pss_one (ps_ost (pv 0) (pe_call G hr rfl mG kG bG .nil pass0 (pa_cons (pv 1) pa_nil)))), ?_⟩
  refine ⟨_, rfl, v, rfl, hv, fun H1 g1 => ⟨_, rfl, a, C, rfl, T.ox, T.no, .inl ⟨g1 _ _ ha, fun dx hd ne => er_end ha k g1 dx hd ne⟩⟩⟩
/-- what a raised one leaves: its class, its dict with the field -/
def Raised (C : Addr) (fl : Str) (v : V) (H : Hp) (E : XK) : Prop := ∀ (d : Addr) (H' : Hp), Same H H' → H' d = some (.xd [(fl, v)]) → E (.ref C) (some d) H'
theorem made_er {C : Addr} {fl : Str} {v : V} {H : Hp} {E : XK} (k : Raised C fl v H E) (hv : plainV v) (a : Addr) (ha : H a = none) : spErI C fl [.ref a, v] (upd H a (exo a C none))
    (fun u H2 => u = .non ∧ ∃ (d : Addr) (fs : List (Str × V)), H2 a = some (exo a C (some d)) ∧ H2 d = some (exd d fs) ∧ H d = none ∧ E (.ref C) (some d) (upd (del H2 a) d (.xd fs))) (fun _ _ _ => False) := by
  refine ⟨a, v, rfl, hv, upd_same, fun dx H' hd ne h1 h2 hk => ⟨rfl, dx, _, h1, h2, by rw [upd_ne ne] at hd; exact hd, ?_⟩⟩
  refine k dx _ (fun b o e => ?_) upd_same
  have n1 : b ≠ a := ne_of_none e ha
  have hd' : H dx = none := by rw [upd_ne ne] at hd; exact hd
  have n2 : b ≠ dx := ne_of_none e hd'
  rw [upd_ne n2, del_ne n1]
  exact hk b o n1 (by rw [upd_ne n1]; exact e)
end
end Lw
namespace Lw
open PySem L2 OwB
def fourK (k : Str) : Prop := k = "quotient" ∨ k = "power" ∨ k = "left" ∨ k = "right"
theorem fourK.ok {k : Str} (h : fourK k) : okK k := by
  rcases h with rfl | rfl | rfl | rfl <;> exact ⟨kne _ _, kne _ _, kne _ _, kne _ _⟩
section
variable {P : Program} {w : World} {K : PySem.W.Frag} {mg : Str → Option Value} {base : Heap} {f g g2 g3 hA hB C fI LA BN iB RL iR : Addr} {fd gd gd2 gd3 dA dB dI dBI : FuncData}
def spAl0 : Sp := fun vs H Q _ => ∃ (k : Str) (n : Int), vs = [.str k, .int n] ∧ fourK k ∧ ¬ okN k n ∧ Q (.bl false) H
theorem ok_al0 (F : Fun K "is_allowed" "is_allowed" sAlw f fd) (Lx : Lc K w mg LA) : FnOk P w K mg base CX0 1 f fd ["kind", "n"] spAl0 := by
  refine F.ok scAl (fun vs H Q E h => ?_) (fun cdv A outer s H vs Q E hr h => ?_)
  · obtain ⟨k, n, rfl, _⟩ := h
    rfl
  obtain ⟨es, en, D⟩ := Lx.D
  obtain ⟨k, n, rfl, hk, hno, q⟩ := h
  refine ⟨_, pss_cons (ps_if (pt_cmpR (op_in_kd D) (pv 0) (pe_glob (v := .ref LA) (by rfl) Lx.mL rfl) (by rfl))
    (pss_cons (ps_asg (pe_ix ix_kdict (pe_glob (v := .ref LA) (by rfl) Lx.mL rfl) (pv 0) (fun _ _ => rfl)) (pg_tup rfl (pgs_cons (pg_name (i := 2) scAl.nd rfl (Or.inl rfl)) (pgs_cons (pg_name (i := 3) scAl.nd rfl (Or.inl rfl)) pgs_nil))))
      (pss_one (ps_ret (pe_chain op_le op_le (pv 2) (pv 1) (pv 3))))) pss_nil)
    (pss_one (ps_ret (pe_cmpR op_ne (pv 1) pe_int (nomark _)))), ?_⟩
  rcases hk with rfl | hk
  · have hn : n = 0 := Classical.byContradiction fun h => hno (.inl ⟨rfl, h⟩)
    subst hn
    refine ⟨_, rfl, _, _, rfl, rfl, Lx.q, _, rfl, iteF ?_⟩
    exact ⟨_, rfl, rfl, q⟩
  · obtain ⟨T, e, hT⟩ := Lx.kd k hk
    refine ⟨_, rfl, _, _, rfl, rfl, e, _, rfl, iteT ?_⟩
    refine ⟨_, rfl, LA, k, .ref T, rfl, rfl, ⟨es, en, _, D.at_, D.lit, e, rfl⟩, T, _, rfl, hT H, rfl, _, _, rfl, _, _, rfl, rfl, ?_⟩
    refine ⟨_, rfl, _, rfl, _, _, rfl, rfl, _, rfl, ?_⟩
    by_cases hlo : (if k = ("power" : Str) then (1 : Int) else 0) ≤ n
    · rw [decide_eq_true hlo]
      refine iteT ⟨_, rfl, _, _, rfl, rfl, ?_⟩
      show Q (V.bl (decide (n ≤ if k = ("power" : Str) then (4 : Int) else 60))) H
      rw [decide_eq_false (fun hhi => hno (.inr ⟨hk, hlo, hhi⟩))]
      exact q
    · rw [decide_eq_false hlo]
      exact iteF q
/-- numbered, whatever the integer -/
def spNbX (K : PySem.W.Frag) (C BN : Addr) : Sp := fun vs H Q E => ∃ (k : Str) (v : V) (n : Int) (x : Ex), vs = [.str k, v, .int n] ∧ fourK k ∧ OpV K C H v x ∧ Sm0 x ∧ (okN k n → ∀ (p : Addr) (H' : Hp), Same H H' → ExAt K C H' (.nu k x n) p → Q (.ref p) H') ∧ (¬ okN k n → Raised BN "n" (.int n) H E)
theorem ok_nbX (F : Fun K "numbered" "numbered" sNbd f fd) (T : Xc K mg C fI) (FI : XI P w K mg base C fI dI) (bI : Binds K dI ["self", "kind", "parts"] [])
    (GW : FnOk P w K mg base CX0 1 g gd ["n"] (spWh C)) (bW : Binds K gd ["n"] []) (kW : PySem.W.keepIn K (.ref g) = true) (mW : mg "is_whole" = some (.ref g))
    (GA : FnOk P w K mg base CX0 1 hA dA ["kind", "n"] spAlw) (GB : FnOk P w K mg base CX0 1 hA dA ["kind", "n"] spAl0) (bA : Binds K dA ["kind", "n"] []) (kA : PySem.W.keepIn K (.ref hA) = true) (mA : mg "is_allowed" = some (.ref hA))
    (GO : FnOk P w K mg base CX0 5 g2 gd2 ["x"] (spOpd K C)) (bO : Binds K gd2 ["x"] []) (kO : PySem.W.keepIn K (.ref g2) = true) (mO : mg "operand_of" = some (.ref g2))
    (TB : Er K mg BN iB "BadNumber" "n") (FB : FnOk P w K mg base CX0 2 iB dBI ["self", "n"] (spErI BN "n")) (bB : Binds K dBI ["self", "n"] []) : FnOk P w K mg base (L2.CX P w) 6 f fd ["kind", "x", "n"] (spNbX K C BN) := by
  refine F.okX scNb (fun vs H Q E h => ?_) (fun cdv A outer s H vs Q E hr h => ?_)
  · obtain ⟨k, v, n, x, rfl, _⟩ := h
    rfl
  obtain ⟨k, v, n, x, rfl, hk, hv, sx, q, qe⟩ := h
  have hr1 := hr.mono (show 1 ≤ 5 by decide)
  by_cases hok : okN k n
  · refine ⟨_, pss_cons (ps_if (pt_not (pt_val (pe_call GW hr1 rfl mW kW bW .nil pass0 (pa_cons (pv 2) pa_nil)))) pss_never pss_nil)
      (pss_cons (ps_if (pt_not (pt_val (pe_call GA hr1 rfl mA kA bA .nil pass0 (pa_cons (pv 0) (pa_cons (pv 2) pa_nil))))) pss_never pss_nil)
      (pss_one (ps_ret (pe_make T.mkC FI (hr.mono (by decide)) (by rfl) T.mC bI .nil pass0 (pa_cons (pv 0) (pa_cons (pe_tup (pa_cons (pe_call GO hr rfl mO kO bO .nil pass0 (pa_cons (pv 1) pa_nil)) (pa_cons (pv 2) pa_nil))) pa_nil)))))), ?_⟩
    refine ⟨_, rfl, _, rfl, .inl ⟨n, rfl, _, rfl, iteF ?_⟩⟩
    refine ⟨_, rfl, _, rfl, k, n, rfl, hok, _, rfl, iteF ?_⟩
    refine ⟨_, rfl, _, rfl, v, x, rfl, hv, fun a H1 g1 ha => ?_⟩
    refine ⟨_, rfl, (by show 2 ≤ sizeLine; decide), fun tp htp => ?_⟩
    have g3 := same_new htp (.tup [.ref a, .int n])
    have ha3 := ha.same g3
    intro p dx hp hd _
    refine newEx (os := [some x, none]) (own := []) (as := x.accs) (SqT.of upd_same) (.cons ⟨a, rfl, ha3⟩ (.cons (.inl ⟨n, rfl⟩) .nil)) (by show 2 ≤ 10; decide) (.inr ⟨hok.ok.1, rfl⟩) (by show _ = [] ++ (x.accs ++ []); simp) ?_ ?_ hp hd (fun H' g h => ⟨rfl, q hok p H' ((g1.trans g3).trans g) ⟨hok.ok, a, ?_, ha3.same g⟩⟩)
    · have := sx.as
      omega
    · have := sx.ls
      omega
    · have e : (1 : Int) + (([x] : List Ex).map Ex.nodes).sum = 1 + x.nodes := by simp
      rw [← e]
      exact h
  · refine ⟨_, pss_cons (ps_if (pt_not (pt_val (pe_call GW hr1 rfl mW kW bW .nil pass0 (pa_cons (pv 2) pa_nil)))) pss_never pss_nil)
      (pss_cons (ps_if (pt_not (pt_val (pe_call GB hr1 rfl mA kA bA .nil pass0 (pa_cons (pv 0) (pa_cons (pv 2) pa_nil))))) (pss_one (ps_raise rfl (takes_of rfl rfl rfl rfl) (pmk_oex TB.ox TB.ini TB.ty FB (hr.mono (by decide)) bB .nil pass0 rfl TB.m (pa_cons (pv 2) pa_nil)))) pss_nil)
      (pss_one ps_never)), ?_⟩
    refine ⟨_, rfl, _, rfl, .inl ⟨n, rfl, _, rfl, iteF ?_⟩⟩
    refine ⟨_, rfl, _, rfl, k, n, rfl, hk, hok, _, rfl, iteT ?_⟩
    exact ⟨_, rfl, (by show 1 ≤ 1000; decide), fun a ha => made_er (qe hok) (.inl ⟨n, rfl⟩) a ha⟩
/-! the operators -/
def spOx (K : PySem.W.Frag) (C BN : Addr) (k : Str) : Sp := fun vs H Q E => ∃ v u, vs = [v, u] ∧ spNbX K C BN [.str k, v, u] H Q E
structure NbX (P : Program) (w : World) (K : PySem.W.Frag) (mg : Str → Option Value) (base : Heap) (C BN : Addr) (g : Addr) (gd : FuncData) : Prop where
  G : FnOk P w K mg base (L2.CX P w) 6 g gd ["kind", "x", "n"] (spNbX K C BN)
  b : Binds K gd ["kind", "x", "n"] []
  k : PySem.W.keepIn K (.ref g) = true
  m : mg "numbered" = some (.ref g)
theorem sc_opx (st : Stmt) (h : FnScope ["self", "other"] ["self", "other"] (defScope st)) : FnScope ["self", "other"] ["self", "other"] (defScope st) := h
theorem sx_floordiv : FnScope ["self", "other"] ["self", "other"] (defScope s_floordiv) := ⟨rfl, rfl, rfl, by decide +kernel, rfl, by decide +kernel, by decide +kernel⟩
theorem okx_floordiv (F : Fun K "__floordiv__" "Expression.__floordiv__" s_floordiv f fd) (J : NbX P w K mg base C BN g gd) : FnOk P w K mg base (L2.CX P w) 7 f fd ["self", "other"] (spOx K C BN "quotient") := by
  refine F.okX sx_floordiv (fun vs H Q E h => ?_) (fun cdv A outer s H vs Q E hr h => ?_)
  · obtain ⟨v, u, rfl, _⟩ := h
    rfl
  obtain ⟨v, u, rfl, q⟩ := h
  refine ⟨_, pss_one (ps_ret (pe_call (E := E) J.G hr rfl J.m J.k J.b .nil (passes_call (takes_of rfl rfl rfl rfl) (fun _ _ _ _ h => h)) (pa_cons pe_str (pa_cons (pv 0) (pa_cons (pv 1) pa_nil))))), ?_⟩
  exact ⟨_, rfl, _, rfl, q⟩
theorem sx_pow : FnScope ["self", "other"] ["self", "other"] (defScope s_pow) := ⟨rfl, rfl, rfl, by decide +kernel, rfl, by decide +kernel, by decide +kernel⟩
theorem okx_pow (F : Fun K "__pow__" "Expression.__pow__" s_pow f fd) (J : NbX P w K mg base C BN g gd) : FnOk P w K mg base (L2.CX P w) 7 f fd ["self", "other"] (spOx K C BN "power") := by
  refine F.okX sx_pow (fun vs H Q E h => ?_) (fun cdv A outer s H vs Q E hr h => ?_)
  · obtain ⟨v, u, rfl, _⟩ := h
    rfl
  obtain ⟨v, u, rfl, q⟩ := h
  refine ⟨_, pss_one (ps_ret (pe_call (E := E) J.G hr rfl J.m J.k J.b .nil (passes_call (takes_of rfl rfl rfl rfl) (fun _ _ _ _ h => h)) (pa_cons pe_str (pa_cons (pv 0) (pa_cons (pv 1) pa_nil))))), ?_⟩
  exact ⟨_, rfl, _, rfl, q⟩
theorem sx_lshift : FnScope ["self", "other"] ["self", "other"] (defScope s_lshift) := ⟨rfl, rfl, rfl, by decide +kernel, rfl, by decide +kernel, by decide +kernel⟩
theorem okx_lshift (F : Fun K "__lshift__" "Expression.__lshift__" s_lshift f fd) (J : NbX P w K mg base C BN g gd) : FnOk P w K mg base (L2.CX P w) 7 f fd ["self", "other"] (spOx K C BN "left") := by
  refine F.okX sx_lshift (fun vs H Q E h => ?_) (fun cdv A outer s H vs Q E hr h => ?_)
  · obtain ⟨v, u, rfl, _⟩ := h
    rfl
  obtain ⟨v, u, rfl, q⟩ := h
  refine ⟨_, pss_one (ps_ret (pe_call (E := E) J.G hr rfl J.m J.k J.b .nil (passes_call (takes_of rfl rfl rfl rfl) (fun _ _ _ _ h => h)) (pa_cons pe_str (pa_cons (pv 0) (pa_cons (pv 1) pa_nil))))), ?_⟩
  exact ⟨_, rfl, _, rfl, q⟩
theorem sx_rshift : FnScope ["self", "other"] ["self", "other"] (defScope s_rshift) := ⟨rfl, rfl, rfl, by decide +kernel, rfl, by decide +kernel, by decide +kernel⟩
theorem okx_rshift (F : Fun K "__rshift__" "Expression.__rshift__" s_rshift f fd) (J : NbX P w K mg base C BN g gd) : FnOk P w K mg base (L2.CX P w) 7 f fd ["self", "other"] (spOx K C BN "right") := by
  refine F.okX sx_rshift (fun vs H Q E h => ?_) (fun cdv A outer s H vs Q E hr h => ?_)
  · obtain ⟨v, u, rfl, _⟩ := h
    rfl
  obtain ⟨v, u, rfl, q⟩ := h
  refine ⟨_, pss_one (ps_ret (pe_call (E := E) J.G hr rfl J.m J.k J.b .nil (passes_call (takes_of rfl rfl rfl rfl) (fun _ _ _ _ h => h)) (pa_cons pe_str (pa_cons (pv 0) (pa_cons (pv 1) pa_nil))))), ?_⟩
  exact ⟨_, rfl, _, rfl, q⟩
/-! letters that come twice -/
def firstTwice : List Str → List Str → Option Str
  | _, [] => none
  | seen, z :: r => if z ∈ seen then some z else firstTwice (seen ++ [z]) r
def spChX (K : PySem.W.Frag) (RL : Addr) : Sp := fun vs H Q E => ∃ (t : Addr) (ls : List Str), vs = [.ref t] ∧ SqT K H t (ls.map V.str) ∧ ls.length ≤ 100 ∧ (∀ i z, ls[i]? = some z → z ∈ ls.take i → (∀ j y, j < i → ls[j]? = some y → y ∉ ls.take j) → ∀ H1 : Hp, Same H H1 → Raised RL "letter" (.str z) H1 E) ∧ ((∀ (j : Nat) (y : Str), ls[j]? = some y → y ∉ ls.take j) → ∀ H' : Hp, Same H H' → Q .non H')
theorem ok_chX (F : Fun K "check_letters" "check_letters" sChkL f fd) (B2 : Bx mg) (TR : Er K mg RL iR "RepeatedLetter" "letter") (FR : FnOk P w K mg base CX0 2 iR dBI ["self", "letter"] (spErI RL "letter")) (bR : Binds K dBI ["self", "letter"] []) : FnOk P w K mg base (L2.CX P w) 4 f fd ["letters"] (spChX K RL) := by
  refine F.okX scCL (fun vs H Q E h => ?_) (fun cdv A outer s H vs Q E hr h => ?_)
  · obtain ⟨t, ls, rfl, _⟩ := h
    rfl
  obtain ⟨t, ls, rfl, ht, hl, qe, q⟩ := h
  refine ⟨_, pss_one (ps_for (passes_of rfl) rfl (EnT.pi_enumT (by rfl) B2.enum (pa_cons (pv 0) pa_nil)) (pg_tup rfl (pgs_cons (pg_name (i := 1) scCL.nd rfl (Or.inl rfl)) (pgs_cons (pg_name (i := 2) scCL.nd rfl (Or.inl rfl)) pgs_nil)))
    (pss_one (ps_if (pt_cmpR (r := rIn K false) op_in_seq (pv 2) (pe_slice sl_tupA (pv 0) po_none (po_some (pv 1))) (by rfl)) (pss_one (ps_raise rfl (takes_of rfl rfl rfl rfl) (pmk_oex TR.ox TR.ini TR.ty FR (hr.mono (by decide)) bR .nil pass0 rfl TR.m (pa_cons (pv 2) pa_nil)))) pss_nil))), ?_⟩
  refine ⟨_, rfl, t, _, rfl, ht, for_enumT (K := K) (a := t) (xs := ls.map V.str) (fun i σ' H' => (∃ u v : Option V, σ' = [some (.ref t), u, v]) ∧ Same H H' ∧ ∀ j y, j < i → ls[j]? = some y → y ∉ ls.take j) ⟨⟨_, _, rfl⟩, Same.refl H, fun j y h => absurd h (Nat.not_lt_zero _)⟩ (fun i σ' H' ⟨_, g, _⟩ => seqT g ht) (fun i σ' H' x T hx ⟨⟨u, v, e⟩, g, no⟩ hT => ?_) (fun σ' H' ⟨_, g, no⟩ => q (fun j y hj => no j y (by rw [List.length_map]; exact (List.getElem?_eq_some_iff.mp hj).1) hj) H' g)⟩
  subst e
  rw [List.getElem?_map] at hx
  cases ez : ls[i]? with
  | none => rw [ez] at hx; cases hx
  | some z =>
    rw [ez] at hx
    cases hx
    have hi : i < ls.length := (List.getElem?_eq_some_iff.mp ez).1
    have gT := same_new hT (.tup [.int (i : Nat), .str z])
    have htT := seqT (g.trans gT) ht
    have ecut : cutV (ls.map V.str) none (some (i : Int)) = (ls.take i).map V.str := by
      rw [cut_take _ _ (by rw [List.length_map]; omega), List.map_take]
    refine ⟨T, _, rfl, SqT.of upd_same, rfl, _, _, rfl, _, _, rfl, rfl, ?_⟩
    refine ⟨_, rfl, _, rfl, _, rfl, _, rfl, t, _, rfl, htT, fun hw => ?_, fun _ p hp => ?_⟩
    · exfalso
      have z2 := hw.2
      rw [sIx_nat, List.length_map] at z2
      omega
    · have gp := same_new hp (.tup (cutV (ls.map V.str) none (some (i : Int))))
      have gz := (g.trans gT).trans gp
      refine ⟨p, _, rfl, .inr (SqT.of upd_same), rfl, by rw [ecut]; exact flat_strs' _, _, rfl, ?_⟩
      by_cases hm : z ∈ ls.take i
      · have e3 : inV (.str z) (cutV (ls.map V.str) none (some (i : Int))) = true := by
          rw [ecut, in_strs]
          exact decide_eq_true hm
        exact iteC (c := inV (.str z) (cutV (ls.map V.str) none (some (i : Int)))) e3 ⟨_, rfl, (by show 1 ≤ 1000; decide), fun a ha => made_er (qe i z ez hm no _ gz) (.inr ⟨z, rfl⟩) a ha⟩
      · have e3 : inV (.str z) (cutV (ls.map V.str) none (some (i : Int))) = false := by
          rw [ecut, in_strs]
          exact decide_eq_false hm
        exact iteN (c := inV (.str z) (cutV (ls.map V.str) none (some (i : Int)))) e3 ⟨⟨_, _, rfl⟩, gz, fun j y hj hy => by
          by_cases hji : j = i
          · subst hji
            rw [ez] at hy
            cases hy
            exact hm
          · exact no j y (by omega) hy⟩
end
end Lw
namespace Lw
open PySem L2 OwB LamX
/-- the first letter that occurs earlier, too -/
def Dup (ls : List Str) (z : Str) : Prop := ∃ i, ls[i]? = some z ∧ z ∈ ls.take i ∧ ∀ j y, j < i → ls[j]? = some y → y ∉ ls.take j
def NoDup (ls : List Str) : Prop := ∀ (j : Nat) (y : Str), ls[j]? = some y → y ∉ ls.take j
theorem Raised.from {C : Addr} {fl : Str} {v : V} {H H1 : Hp} {E : XK} (r : Raised C fl v H E) (g : Same H H1) : Raised C fl v H1 E := fun d H' g' h => r d H' (g.trans g') h
section
variable {P : Program} {w : World} {K : PySem.W.Frag} {mg : Str → Option Value} {base : Heap} {f g g2 g3 hA hB C fI LA BN iB RL iR WE pT gT : Addr} {fd gd gd2 gd3 dA dB dI dBI dT : FuncData}
def spAccX (K : PySem.W.Frag) (C RL : Addr) : Sp := fun vs H Q E => ∃ (nm : Str) (ls : List Str), vs = .str nm :: ls.map V.str ∧ ls.length ≤ 20 ∧ (NoDup ls → ∀ (p : Addr) (H' : Hp), Same H H' → ExAt K C H' (.acc nm ls) p → Q (.ref p) H') ∧ ∀ z, Dup ls z → Raised RL "letter" (.str z) H E
theorem ok_accX (F : Fun K "access" "access" sAcc f fd) (T : Xc K mg C fI) (B : Bt mg) (FI : XI P w K mg base C fI dI) (bI : Binds K dI ["self", "kind", "parts"] [])
    (GL : FnOk P w K mg base (L2.CX P w) 4 g gd ["letters"] (spChX K RL)) (bL : Binds K gd ["letters"] []) (kL : PySem.W.keepIn K (.ref g) = true) (mL : mg "check_letters" = some (.ref g)) : FnR P w K mg base (L2.CX P w) 5 f (spAccX K C RL) := by
  obtain ⟨oc, od, kV, doc, pm, an, cdv, ct, osl, rfl, lk, hcd⟩ := F.ex
  have z := StX.fn_star (P := P) (w := w) (mg := mg) (base := base) (CX := L2.CX P w) (k := 4) (ps := ["name"]) (pv := "letters") (N := ["name", "letters"])
    (sp := fun vs H Q E => ∃ (nm : Str) (ls : List Str) (t : Addr), vs = [.str nm, .ref t] ∧ SqT K H t (ls.map V.str) ∧ ls.length ≤ 20 ∧ (NoDup ls → ∀ (p : Addr) (H' : Hp), Same H H' → ExAt K C H' (.acc nm ls) p → Q (.ref p) H') ∧ ∀ z, Dup ls z → Raised RL "letter" (.str z) H E)
    lk hcd scAc StX.cxUp (StX.bind_star1 (B := fun us => bindArgs (PySem.W.fnOf "access" "access" (defArgs sAcc) (defBody sAcc) (defScope sAcc) .none kV doc pm an cdv ct) ⟨us, []⟩) (fun a => rfl) (fun a r rs => rfl)) (fun A outer s H vs Q E hr h => ?_)
  · refine z.imp fun vs H Q E h => ?_
    obtain ⟨nm, ls, rfl, hl, k, ke⟩ := h
    refine ⟨[.str nm], ls.map V.str, rfl, rfl, by rw [List.length_map]; exact Nat.le_trans hl (by decide), fun p hp => ⟨nm, ls, p, rfl, SqT.of upd_same, hl, fun hn q H' g => k hn q H' ((same_new hp _).trans g), fun z hz => (ke z hz).from (same_new hp _)⟩⟩
  obtain ⟨nm, ls, t, rfl, ht, hl, k, ke⟩ := h
  refine ⟨_, pss_cons (ps_expr (pe_call (E := E) GL (hr.mono (by decide)) rfl mL kL bL .nil (passes_call (takes_of rfl rfl rfl rfl) (fun _ _ _ _ h => h)) (pa_cons (pv 1) pa_nil)))
    (pss_one (ps_ret (pe_make T.mkC FI (hr.mono (by decide)) (by rfl) T.mC bI .nil pass0 (pa_cons pe_str (pa_cons (pe_tup (pa_cons (pv 0) (pa_cons (pe_callTy call_tuple_of (by rfl) B.tup (by decide +kernel) (pa_cons (pv 1) pa_nil)) pa_nil))) pa_nil))))), ?_⟩
  refine ⟨_, rfl, t, ls, rfl, ht, by omega, fun i z h1 h2 h3 H1 g1 => (ke z ⟨i, h1, h2, h3⟩).from g1, fun hn H1 g1 => ?_⟩
  refine ⟨_, rfl, _, rfl, t, ls.map V.str, rfl, .inr ⟨seqT g1 ht, (by show 2 ≤ sizeLine; decide), fun tp htp => ?_⟩⟩
  have g2 := same_new htp (.tup [.str nm, .ref t])
  have ht2 := seqT (g1.trans g2) ht
  intro x dx hx hd _
  refine newEx (os := [none, none]) (own := [(nm, ls)]) (as := [(nm, ls)]) (SqT.of upd_same) (.cons (.inr (.inl ⟨nm, rfl⟩)) (.cons (.inr (.inr ⟨t, _, rfl, ht2⟩)) .nil)) (by show 2 ≤ 10; decide) (.inl ⟨rfl, _, rfl, tp, t, rfl, SqT.of upd_same, ht2⟩) rfl (by show 1 ≤ 900; decide) ?_ hx hd (fun H' g h => ⟨rfl, k hn x H' ((g1.trans g2).trans g) ⟨t, h, seqT g ht2⟩⟩)
  show ((ls ++ []) : List Str).length < 64
  rw [List.append_nil]
  omega
abbrev sLacc : Stmt := topS 34
def spLaccX (K : PySem.W.Frag) (C RL : Addr) : Sp := fun vs H Q E => ∃ (nm : Str) (ls : List Str) (t : Addr), vs = [.str nm, .ref t] ∧ SqL K H t (ls.map V.str) ∧ ls.length ≤ 3 ∧ (NoDup ls → ∀ (p : Addr) (H' : Hp), Same H H' → ExAt K C H' (.acc nm ls) p → Q (.ref p) H') ∧ ∀ z, Dup ls z → Raised RL "letter" (.str z) H E
theorem scLacc : FnScope ["_law_name", "_law_letters"] ["_law_name", "_law_letters"] (defScope sLacc) := ⟨rfl, rfl, rfl, by decide +kernel, rfl, by decide +kernel, by decide +kernel⟩
theorem ok_laccX (F : Fun K "_law_access" "_law_access" sLacc f fd) (B : Bt mg) (G : FnR P w K mg base (L2.CX P w) 5 g (spAccX K C RL)) (kG : PySem.W.keepIn K (.ref g) = true) (mG : mg "access" = some (.ref g)) : FnOk P w K mg base (L2.CX P w) 6 f fd ["_law_name", "_law_letters"] (spLaccX K C RL) := by
  refine F.okX scLacc (fun vs H Q E h => ?_) (fun cdv A outer s H vs Q E hr h => ?_)
  · obtain ⟨nm, ls, t, rfl, _⟩ := h
    rfl
  obtain ⟨nm, ls, t, rfl, ht, hl, k⟩ := h
  have ps : Passes (L2.CX P w) (cxOf (L2.CX P w) P w K mg base ["_law_name", "_law_letters"] "_law_access" (defScope sLacc) f cdv A outer s H E) E := passes_call (takes_of rfl rfl rfl rfl) (fun _ _ _ _ h => h)
  refine ⟨_, pss_cons (ps_if (pt_cmpR op_eq (pe_callB call_len_seq (by rfl) B.len PySem.boot_len (pa_cons (pv 1) pa_nil)) pe_int (nomark _)) (pss_one (ps_ret (pe_callR G hr rfl mG kG ps (pa_cons (pv 0) pa_nil)))) pss_nil)
    (pss_cons (ps_if (pt_cmpR op_eq (pe_callB call_len_seq (by rfl) B.len PySem.boot_len (pa_cons (pv 1) pa_nil)) pe_int (nomark _)) (pss_one (ps_ret (pe_callR G hr rfl mG kG ps (pa_cons (pv 0) (pa_cons (pe_ix ix_list (pv 1) pe_int (fun _ _ => rfl)) pa_nil))))) pss_nil)
    (pss_cons (ps_if (pt_cmpR op_eq (pe_callB call_len_seq (by rfl) B.len PySem.boot_len (pa_cons (pv 1) pa_nil)) pe_int (nomark _)) (pss_one (ps_ret (pe_callR G hr rfl mG kG ps (pa_cons (pv 0) (pa_cons (pe_ix ix_list (pv 1) pe_int (fun _ _ => rfl)) (pa_cons (pe_ix ix_list (pv 1) pe_int (fun _ _ => rfl)) pa_nil)))))) pss_nil)
    (pss_one (ps_ret (pe_callR G hr rfl mG kG ps (pa_cons (pv 0) (pa_cons (pe_ix ix_list (pv 1) pe_int (fun _ _ => rfl)) (pa_cons (pe_ix ix_list (pv 1) pe_int (fun _ _ => rfl)) (pa_cons (pe_ix ix_list (pv 1) pe_int (fun _ _ => rfl)) pa_nil))))))))), ?_⟩
  have len : ∀ (n : Nat) (R : Bool → Hp → Prop), R (decide ((ls.length : Int) = n)) H → tTest (tOp rEq (tCB (fun xs H Q => ∃ p ys, xs = [.ref p] ∧ (SqL K H p ys ∨ SqT K H p ys) ∧ Q (.int ys.length) H) (tCons (tVar 1) tNil)) (tC (.int (n : Int)))) [some (.str nm), some (.ref t)] H R := fun n R h => by
    refine ⟨_, rfl, t, _, rfl, .inl ht, rfl, _, rfl, ?_⟩
    rw [List.length_map, dec_int]
    exact h
  have at_ : ∀ (i : Nat) (z : Str) (R : V → Hp → Prop), ls[i]? = some z → R (.str z) H → tOp (rIxL K) (tVar 1) (tC (.int (i : Int))) [some (.str nm), some (.ref t)] H R := fun i z R e h => by
    refine ⟨_, rfl, t, _, (i : Int), .str z, rfl, rfl, ht, atI_nat (by rw [List.getElem?_map, e] <;> rfl), h⟩
  refine len 0 _ (ite2 (fun c => ?_) (fun c => len 1 _ (ite2 (fun c1 => ?_) (fun c1 => len 2 _ (ite2 (fun c2 => ?_) (fun c2 => ?_))))))
  · have e : ls = [] := List.length_eq_zero_iff.mp (by have := of_decide_eq_true c; omega)
    subst e
    exact ⟨_, rfl, nm, [], rfl, by decide, k⟩
  · have e1 : ls.length = 1 := by have := of_decide_eq_true c1; omega
    obtain ⟨a, rfl⟩ := List.length_eq_one_iff.mp e1
    refine ⟨_, rfl, at_ 0 a _ rfl ⟨nm, [a], rfl, (by show 1 ≤ 20; decide), k⟩⟩
  · have e1 : ls.length = 2 := by have := of_decide_eq_true c2; omega
    match ls, e1, ht, at_, k with
    | [a, b], _, ht, at_, k => exact ⟨_, rfl, at_ 0 a _ rfl (at_ 1 b _ rfl ⟨nm, [a, b], rfl, (by show 2 ≤ 20; decide), k⟩)⟩
  · have e1 : ls.length = 3 := by
      have h0 : ¬ (ls.length : Int) = 0 := fun e => c (decide_eq_true e)
      have h1 : ¬ (ls.length : Int) = 1 := fun e => c1 (decide_eq_true e)
      have h2 : ¬ (ls.length : Int) = 2 := fun e => c2 (decide_eq_true e)
      omega
    match ls, e1, ht, at_, k with
    | [a, b, d], _, ht, at_, k => exact ⟨_, rfl, at_ 0 a _ rfl (at_ 1 b _ rfl (at_ 2 d _ rfl ⟨nm, [a, b, d], rfl, (by show 3 ≤ 20; decide), k⟩))⟩
end
end Lw
namespace Lw
open PySem L2 OwB TL LamX
theorem Ex.hgt_pos (e : Ex) : 1 ≤ e.hgt := by cases e <;> unfold Ex.hgt <;> omega
/-- a def of the text, by its promise -/
structure Ca (P : Program) (w : World) (K : PySem.W.Frag) (mg : Str → Option Value) (base : Heap) (n : Nat) (x : Str) (ps : List Str) (sp : Sp) : Prop where
  ex : ∃ (g : Addr) (gd : FuncData), FnOk P w K mg base CX0 n g gd ps sp ∧ Binds K gd ps [] ∧ PySem.W.keepIn K (.ref g) = true ∧ mg x = some (.ref g)
structure DFn (K : PySem.W.Frag) (mg : Str → Option Value) (x : Str) (s : Stmt) (ps : List Str) : Prop where
  ex : ∃ (g : Addr) (gd : FuncData), Fun K x x s g gd ∧ Binds K gd ps [] ∧ PySem.W.keepIn K (.ref g) = true ∧ mg x = some (.ref g)
section
variable {X : Cx} {k j : Nat} {x m : Str} {ps : List Str} {sp : Sp} {p pos : Pos} {e : Expr} {es : List Expr} {t : TA}
theorem pca (c : Ca X.prog X.w X.K X.mg X.base k x ps sp) (hr : Room j X.A) (hk : k ≤ j) (hg : Gl X x) (ha : PA X (e :: es) t)
    (hdb : (x == ("__debug__" : Str)) = false := by decide) (he : starEach (e :: es) X.env = (false, eval e X.env) :: starEach es X.env := by rfl) (hpl : (backTo pos (starEach es X.env)).any (·.1) = false := by rfl) :
    PE X (.Call (.Name x p) (e :: es) [] pos) (tCall sp [] E0 t) := by
  obtain ⟨f, fd, F, b, kp, hm⟩ := c.ex
  exact pe_call F (hr.mono hk) hg hm kp b .nil pass0 ha hdb he hpl
end
section
variable {P : Program} {w : World} {K : PySem.W.Frag} {mg : Str → Option Value} {base : Heap} {C SG FG fI f : Addr} {fd : FuncData} {x : Str} {s : Stmt} {ps : List Str} {n : Nat} {sp : Sp}
theorem DFn.ca (h : DFn K mg x s ps) (k : ∀ (f : Addr) (fd : FuncData), Fun K x x s f fd → FnOk P w K mg base CX0 n f fd ps sp) : Ca P w K mg base n x ps sp := by
  obtain ⟨g, gd, F, b, kp, m⟩ := h.ex
  exact ⟨g, gd, k g gd F, b, kp, m⟩
abbrev s_text : Stmt := inClass (topS 15) 1
theorem sc_text : FnScope ["self"] ["self"] (defScope s_text) := ⟨rfl, rfl, rfl, by decide +kernel, rfl, by decide +kernel, by decide +kernel⟩
theorem ok_text {n m : Nat} (F : Fun K "text" "Expression.text" s_text f fd) (cT : Ca P w K mg base m "text_of" ["expression"] (spTxt K C n)) : FnOk P w K mg base CX0 (m + 1) f fd ["self"] (spTxt K C n) := by
  refine F.ok sc_text (fun vs H Q E h => ?_) (fun cdv A outer s H vs Q E hr h => ?_)
  · obtain ⟨p, e, rfl, _⟩ := h
    rfl
  obtain ⟨p, e, rfl, h⟩ := h
  exact ⟨_, (pss_one (ps_ret (pca cT hr (Nat.le_refl _) rfl (pa_cons (pv 0) pa_nil)))), ⟨_, rfl, p, e, rfl, h⟩⟩
theorem ok_txts (DT : DFn K mg "text_of" sTxt ["expression"]) (DP : DFn K mg "part_text" sPtx ["part"]) (B : Bt mg) (B2 : Bx mg) (X : Xc K mg C fI) (S : Sg K w mg SG FG) : ∀ n : Nat, Ca P w K mg base (2 * n) "text_of" ["expression"] (spTxt K C n)
  | 0 => DT.ca fun f fd F => none_left fun vs H Q E ⟨_, e, _, _, h, _⟩ => by have := e.hgt_pos; omega
  | n + 1 => by
    obtain ⟨g1, d1, G1, b1, k1, m1⟩ := (ok_txts DT DP B B2 X S n).ex
    have cP := DP.ca (P := P) (w := w) (base := base) (n := 2 * n + 1) fun f fd F => ok_ptx F B B2 X G1 b1 k1 m1
    obtain ⟨g2, d2, G2, b2, k2, m2⟩ := cP.ex
    exact DT.ca fun f fd F => ok_txt F B X S G2 b2 k2 m2
abbrev s_l_access_text : Stmt := topS 33
/-- the text of an access -/
def spLatL (K : PySem.W.Frag) : Sp := fun vs H Q _ => ∃ (nm : Str) (t : Addr) (ls : List Str), vs = [.str nm, .ref t] ∧ SqL K H t (ls.map V.str) ∧ nm.length + (ls.map (·.length)).sum + ls.length * 2 ≤ 100000 ∧ Q (.str (Ex.acc nm ls).txt) H
theorem sc_l_access_text : FnScope ["_law_name", "_law_letters"] ["_law_name", "_law_letters"] (defScope s_l_access_text) := ⟨rfl, rfl, rfl, by decide +kernel, rfl, by decide +kernel, by decide +kernel⟩
theorem ok_latL (F : Fun K "_law_access_text" "_law_access_text" s_l_access_text f fd) : FnOk P w K mg base CX0 1 f fd ["_law_name", "_law_letters"] (spLatL K) := by
  refine F.ok sc_l_access_text (fun vs H Q E h => ?_) (fun cdv A outer s H vs Q E hr h => ?_)
  · obtain ⟨nm, t, ls, rfl, _⟩ := h
    rfl
  obtain ⟨nm, t, ls, rfl, ht, hfl, q⟩ := h
  refine ⟨_, (pss_one (ps_ret (pe_op op_add_str (pe_op op_add_str (pe_op op_add_str (pv 0) pe_str) (pe_join pe_str (pv 1))) pe_str))), ?_⟩
  have hj := join_le ", " ls
  have l2 : (", " : Str).length = 2 := by decide +kernel
  rw [l2] at hj
  have o1 : ("[" : Str).length = 1 := by decide +kernel
  have o2 : ("]" : Str).length = 1 := by decide +kernel
  have big : ∀ n : Nat, n ≤ 200000 → n ≤ sizeLine := fun n h => Nat.le_trans h (by decide)
  refine ⟨_, rfl, _, _, rfl, rfl, big _ (by rw [o1]; omega), ⟨_, rfl⟩, _, rfl, _, t, ls, rfl, rfl, .inl ht, by rw [l2]; omega, _, _, rfl, rfl, big _ (by rw [Str.length_append, o1]; omega), _, _, rfl, rfl, big _ (by rw [Str.length_append, Str.length_append, o1, o2]; omega), q⟩
end
/-! _law_end -/
abbrev s_l_end : Stmt := topS 35
abbrev n_l_end : List Str := ["_law_deed", "_law_found", "e"]
theorem sc_l_end : FnScope n_l_end ["_law_deed"] (defScope s_l_end) := ⟨rfl, rfl, rfl, by decide +kernel, rfl, by decide +kernel, by decide +kernel⟩
structure En (K : PySem.W.Frag) (mg : Str → Option Value) (BN RL WE : Addr) : Prop where
  mB : mg "BadNumber" = some (.ref BN)
  mR : mg "RepeatedLetter" = some (.ref RL)
  mW : mg "WalkError" = some (.ref WE)
  xB : XfC K BN
  xR : XfC K RL
  nB : PySem.W.findIn K (.ref BN) "n" = some none
  nR : PySem.W.findIn K (.ref RL) "letter" = some none
  m1 : PySem.W.exmOne K (.ref BN) (.ref BN) = some true
  m2 : PySem.W.exmOne K (.ref RL) (.ref BN) = some false
  m3 : PySem.W.exmOne K (.ref RL) (.ref RL) = some true
/-- what _law_end makes of its deed's reading -/
def EtE (BN RL : Addr) (Q : VK) : XK := fun cls d H' => (cls = .ref BN ∧ ∃ (dd : Addr) (v : V), d = some dd ∧ H' dd = some (.xd [("n", v)]) ∧ ∀ t, H' t = none → Q (.ref t) (upd H' t (.tup [.str "BadNumber", v]))) ∨
  (cls = .ref RL ∧ ∃ (dd : Addr) (v : V), d = some dd ∧ H' dd = some (.xd [("letter", v)]) ∧ ∀ t, H' t = none → Q (.ref t) (upd H' t (.tup [.str "RepeatedLetter", v])))
def QtE (K : PySem.W.Frag) (C : Addr) (n : Nat) (Q : VK) : VK := fun u H' => ∃ a dx fs, u = .ref a ∧ H' a = some (.ins C dx fs) ∧ spTxt K C n [.ref a] H' (fun z H2 => 2 ≤ sizeLine ∧ ∀ t, H2 t = none → Q (.ref t) (upd H2 t (.tup [.str "told", z]))) E0
def TTe (K : PySem.W.Frag) (C BN RL : Addr) (n : Nat) : (XK → Hp → VK → Prop) → Hp → VK → Prop := fun tl H Q => ∀ H1, Same H H1 → tl (EtE BN RL Q) H1 (QtE K C n Q)
theorem takes_len {X : Cx} {W : WX} (t : Takes X W) : Takes X (fun cls d σ H => σ.length = X.N.length → W cls d σ H) := fun u s' ⟨a, B, sI, pins, σ, H, cls, d, e, I, nb, up, sky, na, os, ag, w⟩ =>
  t u s' ⟨a, B, sI, pins, σ, H, cls, d, e, I, nb, up, sky, na, os, ag, w I.len⟩
section
variable {X : Cx} {C fI BN RL WE g pT gT : Addr} {cdg : Value} {dT : FuncData} {q : Str} {n k : Nat}
theorem end_gives (R : En X.K X.mg BN RL WE) (T : Cls X.K C) (pr : PropOf X.K C "text" pT gT) (GT : FnOk X.prog X.w X.K X.mg X.base CX0 k gT dT ["self"] (spTxt X.K C n)) (bT : Binds X.K dT ["self"] []) (hr : Room (k + 2) X.A) :
    GivesTo X n_l_end "_law_end" (defScope s_l_end) g cdg (defBody s_l_end) "_law_deed" q (TTe X.K C BN RL n) := by
  intro f c' s H Q tl act hc h
  refine ⟨_, pss_cons (ps_set (i := 1) sc_l_end.nd rfl (Or.inl rfl) (pe_tup (pa_cons pe_str pa_nil))) (pss_cons (ps_clauses (X := (cxOf C8.CX0 X.prog X.w X.K X.mg X.base n_l_end "_law_end" (defScope s_l_end) g cdg X.A X.stack s H C8.E0).nox)
      (l := [⟨.ref BN, some 2, fun a cls d D σ H => cls = .ref BN ∧ σ[2]? = some (some (.ref a)) ∧ ∃ (dd : Addr) (v : V), d = some dd ∧ H dd = some (.xd [("n", v)]) ∧ ∀ t, H t = none → D.nx (σ.set 1 (some (.ref t))) (upd H t (.tup [.str "BadNumber", v]))⟩,
        ⟨.ref RL, some 2, fun a cls d D σ H => cls = .ref RL ∧ σ[2]? = some (some (.ref a)) ∧ ∃ (dd : Addr) (v : V), d = some dd ∧ H dd = some (.xd [("letter", v)]) ∧ ∀ t, H t = none → D.nx (σ.set 1 (some (.ref t))) (upd H t (.tup [.str "RepeatedLetter", v]))⟩,
        ⟨.ref WE, none, fun _ _ _ _ _ _ => False⟩])
      (tb := fun W D σ H => ∃ Ech : XK, (∀ cls d σ' H', σ'.length = 3 → Ech cls d H' → W cls d σ' H') ∧ σ[0]? = some (some (.ref f)) ∧ H c' = some (CodeO c' q) ∧ tl Ech H (QtE X.K C n fun u H' => D.nx (σ.set 1 (some u)) H'))
      rfl rfl L2.takes0 (fun W pn xe tk _ => ?_) ?_) (pss_one (ps_ret (pv 1)))), ?_⟩
  · refine ⟨fun pins s' σ H' D I h' => ?_⟩
    obtain ⟨Ech, hW, h1, h2, h3⟩ := h'
    exact (pss_one (ps_set (i := 1) sc_l_end.nd rfl (Or.inl rfl) (pe_tup (pa_cons pe_str (pa_cons (pe_prop (dvs := []) (act (fun cls d σ' H' => σ'.length = 3 → W cls d σ' H') pn xe Ech _ _ (takes_len tk) (fun cls d σ' H' e l => hW cls d σ' H' l e)) T pr GT (hr.deeper _) bT .nil pass0 rfl) pa_nil))))).run pins s' σ H' D I ⟨h1, h2, h3⟩
  · refine .named sc_l_end.nd rfl rfl ⟨rfl, by decide, .inl R.mB⟩ (fun a oe cls d pn hz hf => ?_) (.named sc_l_end.nd rfl rfl ⟨rfl, by decide, .inl R.mR⟩ (fun a oe cls d pn hz hf => ?_) (.bare ⟨rfl, by decide, .inl R.mW⟩ (fun a oe cls d pn hz hf => pss_never) .nil))
    · refine ⟨fun pins s' σ H' D I h' => ?_⟩
      obtain ⟨rfl, h2, dd, v, rfl, h4, h5⟩ := h'
      refine (pss_one (ps_set (i := 1) (X := ((cxOf C8.CX0 X.prog X.w X.K X.mg X.base n_l_end "_law_end" (defScope s_l_end) g cdg X.A X.stack s H C8.E0).nox).suite a ((a, oe) :: pn)) sc_l_end.nd rfl (Or.inl rfl) (pe_tup (pa_cons pe_str (pa_cons (pe_xf R.xB R.nB hz hf (pv 2)) pa_nil))))).run pins s' σ H' D I ?_
      exact ⟨_, h2, rfl, rfl, dd, _, v, rfl, h4, rfl, (by show 2 ≤ sizeLine; decide), fun t ht => h5 t ht⟩
    · refine ⟨fun pins s' σ H' D I h' => ?_⟩
      obtain ⟨rfl, h2, dd, v, rfl, h4, h5⟩ := h'
      refine (pss_one (ps_set (i := 1) (X := ((cxOf C8.CX0 X.prog X.w X.K X.mg X.base n_l_end "_law_end" (defScope s_l_end) g cdg X.A X.stack s H C8.E0).nox).suite a ((a, oe) :: pn)) sc_l_end.nd rfl (Or.inl rfl) (pe_tup (pa_cons pe_str (pa_cons (pe_xf R.xR R.nR hz hf (pv 2)) pa_nil))))).run pins s' σ H' D I ?_
      exact ⟨_, h2, rfl, rfl, dd, _, v, rfl, h4, rfl, (by show 2 ≤ sizeLine; decide), fun t ht => h5 t ht⟩
  · refine ⟨(by show 1 ≤ sizeLine; decide), fun t0 ht0 => ?_⟩
    have g0 := same_new ht0 (.tup [.str "other"])
    refine ⟨EtE BN RL Q, fun cls d σ' H' hl hE => ?_, rfl, g0 _ _ hc, ?_⟩
    · match σ', hl with
      | [x0, x1, x2], _ =>
        rcases hE with ⟨rfl, dd, v, rfl, h4, h5⟩ | ⟨rfl, dd, v, rfl, h4, h5⟩
        · exact ⟨true, R.m1, fun _ a _ => ⟨rfl, rfl, dd, v, rfl, h4, fun t ht => ⟨_, rfl, h5 t ht⟩⟩, fun z => by cases z⟩
        · exact ⟨false, R.m2, (fun z => by cases z), fun _ => ⟨true, R.m3, fun _ a _ => ⟨rfl, rfl, dd, v, rfl, h4, fun t ht => ⟨_, rfl, h5 t ht⟩⟩, fun z => by cases z⟩⟩
    · have h' : tl (EtE BN RL Q) _ (QtE X.K C n Q) := h _ g0
      refine Eq.mp (congrArg (fun z : VK => tl (EtE BN RL Q) _ (QtE X.K C n z)) (funext fun v => funext fun H' => propext ⟨fun h => ⟨_, rfl, h⟩, fun ⟨_, e, h⟩ => by cases e; exact h⟩)) h'
end
end Lw
namespace Lw
open PySem L2 OwB TL LamX
theorem SX.upd_out {st q D : Addr} {H H' : Hp} {o : HO} (g : SX st q H H') (n : H D = none) : SX st q H (upd H' D o) := fun b u h1 h2 e => by rw [upd_ne (ne_of_none e n)]; exact g b u h1 h2 e
theorem Spr.upd {st q D : Addr} {H : Hp} {b : Int} {o : HO} (s : Spr H st q b) (n1 : D ≠ st) (n2 : D ≠ q) : Spr (upd H D o) st q b := by
  obtain ⟨ns, a, c, h1, h2, r⟩ := s
  exact ⟨ns, a, c, by rw [upd_ne n1.symm]; exact h1, by rw [upd_ne n2.symm]; exact h2, r⟩
theorem Spr.out {st q D : Addr} {H : Hp} {b : Int} (s : Spr H st q b) (n : H D = none) : D ≠ st ∧ D ≠ q := by
  obtain ⟨ns, a, c, h1, h2, _⟩ := s
  exact ⟨(ne_of_none h1 n).symm, (ne_of_none h2 n).symm⟩
def KI (H H' : Hp) : Prop := ∀ (b : Addr) (o : HO), (∀ xs, o ≠ .lst xs) → H b = some o → H' b = some o
theorem KI.of {H H' : Hp} (g : Same H H') : KI H H' := fun b o _ e => g b o e
theorem KI.trans {H H1 H2 : Hp} (g : KI H H1) (g' : KI H1 H2) : KI H H2 := fun b o n e => g' b o n (g b o n e)
theorem KI.sx {H H' : Hp} {st q : Addr} {b : Int} (s : Spr H st q b) (g : SX st q H H') : KI H H' := by
  obtain ⟨ns, a, c, h1, h2, _⟩ := s
  exact fun t o no h => g _ _ (fun e => by rw [e, h1] at h; exact no _ (Option.some.inj h).symm) (fun e => by rw [e, h2] at h; exact no _ (Option.some.inj h).symm) h
theorem KI.lst {H : Hp} {D : Addr} {xs ys : List V} (h : H D = some (.lst xs)) : KI H (upd H D (.lst ys)) := fun b o no q => by
  rw [upd_ne (fun e => by rw [e, h] at q; exact no _ (Option.some.inj q).symm)]
  exact q
theorem KI.tk {K : PySem.W.Frag} {H H' : Hp} (g : KI H H') : TK K H H' := .but g
theorem PairAt.tk {K : PySem.W.Frag} {H H' : Hp} {v : V} {p : Str × List Str} (g : TK K H H') : PairAt K H v p → PairAt K H' v p
  | ⟨a, t, e, h1, h2⟩ => ⟨a, t, e, g _ _ h1, g _ _ h2⟩
theorem PairsAt.tk {K : PySem.W.Frag} {H H' : Hp} (g : TK K H H') : ∀ {vs : List V} {ps : List (Str × List Str)}, PairsAt K H vs ps → PairsAt K H' vs ps
  | _, _, .nil => .nil
  | _, _, .cons h t => .cons (h.tk g) (PairsAt.tk g t)
theorem HdE.ki {K : PySem.W.Frag} {C p : Addr} {H H' : Hp} {k : Str} {vs : List V} {as : List (Str × List Str)} {m : Int} (g : KI H H') : HdE K C H p k vs as m → HdE K C H' p k vs as m
  | ⟨dx, tp, ta, tl, us, ys, h1, h2, h3, h4, h5, h6⟩ => ⟨dx, tp, ta, tl, us, ys, g _ _ (fun xs e => by cases e) h1, g.tk _ _ h2, g.tk _ _ h3, h4.tk g.tk, g.tk _ _ h5, h6⟩
theorem ExAt.ki {K : PySem.W.Frag} {C : Addr} {H H' : Hp} (g : KI H H') : ∀ {e : Ex} {p : Addr}, ExAt K C H e p → ExAt K C H' e p
  | .num n, p, h => HdE.ki g h
  | .acc nm ls, p, ⟨t, h1, h2⟩ => ⟨t, h1.ki g, g.tk _ _ h2⟩
  | .bi k x y, p, ⟨o, a, b, h1, h2, h3⟩ => ⟨o, a, b, h1.ki g, ExAt.ki g h2, ExAt.ki g h3⟩
  | .nu k x n, p, ⟨o, a, h1, h2⟩ => ⟨o, a, h1.ki g, ExAt.ki g h2⟩
  | .un k x, p, ⟨o, a, h1, h2⟩ => ⟨o, a, h1.ki g, ExAt.ki g h2⟩
theorem ExAt.inst {K : PySem.W.Frag} {C : Addr} {H : Hp} {e : Ex} {p : Addr} (h : ExAt K C H e p) : ∃ dx fs, H p = some (.ins C dx fs) := by
  obtain ⟨_, dx, _, _, _, _, _, hp, _⟩ := h.hd
  exact ⟨dx, _, hp⟩
theorem TK.en {K : PySem.W.Frag} {H H' : Hp} (g : ExtN H H') : TK K H H' := fun b xs q => by
  rcases q with (q | ⟨o, q⟩) | q
  · exact .inl (.inl (g _ _ q (by intro z e; cases e)))
  · exact .inl (.inr ⟨o, g _ _ q (by intro z e; cases e)⟩)
  · exact .inr q
theorem Spr.en {H H' : Hp} {st q : Addr} {b : Int} (g : ExtN H H') : Spr H st q b → Spr H' st q b
  | ⟨ns, a, c, h1, h2, r⟩ => ⟨ns, a, c, g _ _ h1 (by intro z e; cases e), g _ _ h2 (by intro z e; cases e), r⟩
theorem HdE.en {K : PySem.W.Frag} {C p : Addr} {H H' : Hp} {k : Str} {vs : List V} {as : List (Str × List Str)} {m : Int} (g : ExtN H H') : HdE K C H p k vs as m → HdE K C H' p k vs as m
  | ⟨dx, tp, ta, tl, us, ys, h1, h2, h3, h4, h5, h6⟩ => ⟨dx, tp, ta, tl, us, ys, g _ _ h1 (by intro z e; cases e), TK.en g _ _ h2, TK.en g _ _ h3, h4.tk (TK.en g), TK.en g _ _ h5, h6⟩
theorem ExAt.en {K : PySem.W.Frag} {C : Addr} {H H' : Hp} (g : ExtN H H') : ∀ {e : Ex} {p : Addr}, ExAt K C H e p → ExAt K C H' e p
  | .num n, p, h => HdE.en g h
  | .acc nm ls, p, ⟨t, h1, h2⟩ => ⟨t, h1.en g, TK.en g _ _ h2⟩
  | .bi k x y, p, ⟨o, a, b, h1, h2, h3⟩ => ⟨o, a, b, h1.en g, ExAt.en g h2, ExAt.en g h3⟩
  | .nu k x n, p, ⟨o, a, h1, h2⟩ => ⟨o, a, h1.en g, ExAt.en g h2⟩
  | .un k x, p, ⟨o, a, h1, h2⟩ => ⟨o, a, h1.en g, ExAt.en g h2⟩
theorem tabs_ki {T : List (Addr × Str)} {H H' : Hp} (g : KI H H') (t : Tabs T H) : Tabs T H' := fun q hq => by
  obtain ⟨ps, e1, e2, e3⟩ := t q hq
  refine ⟨ps, g _ _ (fun xs z => by cases z) e1, e2, fun pos cv hc => ?_⟩
  obtain ⟨c', e4, e5⟩ := e3 pos cv hc
  exact ⟨c', e4, g _ _ (fun xs z => by unfold CodeO at z; cases z) e5⟩
theorem fsub (K : PySem.W.Frag) (C : Addr) : PySem.W.subIn K (.type "int") (.ref C) = some false := by kernel_rfl
theorem fi_add (K : PySem.W.Frag) : PySem.W.findIn K (.type "int") (PySem.dunder "add") = some (some (.builtin "int.__add__")) := by kernel_rfl
theorem fr_add (K : PySem.W.Frag) : PySem.W.findIn K (.type "int") (PySem.dunderR "add") = some (some (.builtin "int.__radd__")) := by kernel_rfl
theorem fi_floordiv (K : PySem.W.Frag) : PySem.W.findIn K (.type "int") (PySem.dunder "floordiv") = some (some (.builtin "int.__floordiv__")) := by kernel_rfl
theorem fr_floordiv (K : PySem.W.Frag) : PySem.W.findIn K (.type "int") (PySem.dunderR "floordiv") = some (some (.builtin "int.__rfloordiv__")) := by kernel_rfl
theorem fi_pow (K : PySem.W.Frag) : PySem.W.findIn K (.type "int") (PySem.dunder "pow") = some (some (.builtin "int.__pow__")) := by kernel_rfl
theorem fr_pow (K : PySem.W.Frag) : PySem.W.findIn K (.type "int") (PySem.dunderR "pow") = some (some (.builtin "int.__rpow__")) := by kernel_rfl
theorem fi_lshift (K : PySem.W.Frag) : PySem.W.findIn K (.type "int") (PySem.dunder "lshift") = some (some (.builtin "int.__lshift__")) := by kernel_rfl
theorem fr_lshift (K : PySem.W.Frag) : PySem.W.findIn K (.type "int") (PySem.dunderR "lshift") = some (some (.builtin "int.__rlshift__")) := by kernel_rfl
theorem fi_rshift (K : PySem.W.Frag) : PySem.W.findIn K (.type "int") (PySem.dunder "rshift") = some (some (.builtin "int.__rshift__")) := by kernel_rfl
theorem fr_rshift (K : PySem.W.Frag) : PySem.W.findIn K (.type "int") (PySem.dunderR "rshift") = some (some (.builtin "int.__rrshift__")) := by kernel_rfl
section
variable {P : Program} {w : World} {K : PySem.W.Frag} {mg : Str → Option Value} {base : Heap} {f g g2 : Addr} {fd gd gd2 : FuncData}
def spPickS : Sp := fun vs H Q _ => ∃ (st q : Addr) (b : Int) (z : Str), vs = [.ref st, .str z] ∧ Spr H st q b ∧ 0 ≤ b ∧ b ≤ 1000 ∧ 0 < z.length ∧ z.length ≤ 1000 ∧
  ∀ (c : Nat) (H' : Hp), c ∈ tl z → Spr H' st q (b + 1) → SX st q H H' → Q (.str ⟨#[c]⟩) H'
theorem ok_pickS (F : Fun K "_law_pick" "_law_pick" sPick f fd) (G : FnOk P w K mg base CX0 1 g gd ["_law_stream", "_law_many"] spDraw) (bG : Binds K gd ["_law_stream", "_law_many"] []) (kG : PySem.W.keepIn K (.ref g) = true) (mG : mg "_law_draw" = some (.ref g)) (B : Bt mg) :
    FnOk P w K mg base CX0 2 f fd ["_law_stream", "_law_some"] spPickS := by
  refine F.ok scP (fun vs H Q E h => ?_) (fun cdv A outer s H vs Q E hr h => ?_)
  · obtain ⟨st, q, b, z, rfl, _⟩ := h
    rfl
  obtain ⟨st, q, b, z, rfl, hs, hb0, hb1, hx0, hx1, k⟩ := h
  refine ⟨_, pss_one (ps_ret (pe_ix ix_str (pv 1) (pe_call G hr rfl mG kG bG .nil pass0 (pa_cons (pv 0) (pa_cons (pe_callB call_len_str (by rfl) B.len PySem.boot_len (pa_cons (pv 1) pa_nil)) pa_nil))) (fun _ _ => rfl))), ?_⟩
  refine ⟨_, rfl, _, rfl, _, rfl, z, rfl, Nat.le_trans hx1 (by decide), st, q, b, _, rfl, hs, hb0, hb1, by omega, by omega, fun r H' r0 r1 hs' gx => ?_⟩
  have hk : r.toNat < z.cps.toList.length := by rw [Array.length_toList]; show r.toNat < z.length; omega
  have q2 := atI_nat (xs := z.cps.toList) (j := r.toNat) (v := z.cps.toList[r.toNat]) (List.getElem?_eq_getElem hk)
  rw [show ((r.toNat : Nat) : Int) = r by omega] at q2
  exact ⟨z, r, _, rfl, rfl, Nat.le_trans hx1 (by decide), q2, k _ H' (List.getElem_mem _) hs' gx⟩
end
section
variable {X : Cx}
theorem cr_range1 : CallR X (.type "range") (fun vs H Q => ∃ j, vs = [V.int j] ∧ ∀ p, H p = none → Q (.ref p) (upd H p (.rng 0 j))) := by
  intro pins s σ H vs us Q I r h
  obtain ⟨j, rfl, q⟩ := h
  obtain ⟨u1, rfl, t, rfl⟩ := vals1 r
  refine call_range_1 ⟨.ref s.heap.objs.size, upd H s.heap.objs.size (.rng 0 j), I.laid (t' := s.toks + 1 + 1) (fun b o e => Heap.get?_push_of_some _ e) (Nat.le_refl _) ?_, rfl, q _ (I.hok.fresh (Nat.le_refl _))⟩
  exact ⟨s.toks, t, s.toks + 1, Heap.get?_push_size _ rfl⟩
end
section
variable {K : PySem.W.Frag} {C BN RL : Addr} {n : Nat}
theorem sm_pair {H : Hp} {t d : Addr} {x : Str} {v : V} {m : Nat} (h1 : SqT K H t [.str x, v]) (h2 : SqT K H d [.str x, v]) (hv : plainV v) : Sm K H (m + 2) (.ref t) (.ref d) := by
  refine Sm.tup h1 h2 (by show 2 ≤ 1000; decide) (.cons (Sm.str _) (.cons ?_ .nil))
  rcases hv with ⟨i, rfl⟩ | ⟨z, rfl⟩
  · exact Sm.int _
  · exact Sm.str _
theorem qt_told {e : Ex} {p : Addr} {H : Hp} {Q : VK} (h : ExAt K C H e p) (hg : e.hgt ≤ n) (hf : e.fit) (k : ∀ (H2 : Hp) (t : Addr), Same H H2 → H2 t = none → Q (.ref t) (upd H2 t (.tup [.str "told", .str e.txt]))) : QtE K C n Q (.ref p) H := by
  obtain ⟨dx, fs, hp⟩ := h.inst
  exact ⟨p, dx, fs, rfl, hp, p, e, rfl, h, hg, hf, fun H' g => ⟨(by show 2 ≤ sizeLine; decide), fun t ht => k H' t g ht⟩⟩
theorem et_bn {v : V} {H : Hp} {Q : VK} (k : ∀ (H2 : Hp) (t : Addr), Same H H2 → H2 t = none → Q (.ref t) (upd H2 t (.tup [.str "BadNumber", v]))) : Raised BN "n" v H (EtE BN RL Q) := fun d H' g hd => .inl ⟨rfl, d, v, rfl, hd, fun t ht => k H' t g ht⟩
theorem et_rl {v : V} {H : Hp} {Q : VK} (k : ∀ (H2 : Hp) (t : Addr), Same H H2 → H2 t = none → Q (.ref t) (upd H2 t (.tup [.str "RepeatedLetter", v]))) : Raised RL "letter" v H (EtE BN RL Q) := fun d H' g hd => .inr ⟨rfl, d, v, rfl, hd, fun t ht => k H' t g ht⟩
end
/-- the letters that occur earlier, too: none, or the first of them is the first -/
def TwI (ls : List Str) (i : Nat) (acc : List Str) : Prop := acc.length ≤ i ∧ ((acc = [] ∧ ∀ j y, j < i → ls[j]? = some y → y ∉ ls.take j) ∨ ∃ z r, acc = z :: r ∧ Dup ls z)
theorem TwI.zero (ls : List Str) : TwI ls 0 [] := ⟨Nat.le_refl _, .inl ⟨rfl, fun j y h => absurd h (Nat.not_lt_zero _)⟩⟩
theorem TwI.yes {ls : List Str} {i : Nat} {acc : List Str} {z : Str} (h : TwI ls i acc) (hz : ls[i]? = some z) (hm : z ∈ ls.take i) : TwI ls (i + 1) (acc ++ [z]) := by
  refine ⟨by rw [List.length_append]; exact Nat.succ_le_succ h.1, .inr ?_⟩
  rcases h.2 with ⟨rfl, no⟩ | ⟨y, r, rfl, hd⟩
  · exact ⟨z, [], rfl, i, hz, hm, no⟩
  · exact ⟨y, r ++ [z], rfl, hd⟩
theorem TwI.no {ls : List Str} {i : Nat} {acc : List Str} {z : Str} (h : TwI ls i acc) (hz : ls[i]? = some z) (hm : z ∉ ls.take i) : TwI ls (i + 1) acc := by
  refine ⟨Nat.le_succ_of_le h.1, ?_⟩
  rcases h.2 with ⟨rfl, no⟩ | h
  · refine .inl ⟨rfl, fun j y hj hy => ?_⟩
    by_cases e : j = i
    · subst e
      rw [hz] at hy
      cases hy
      exact hm
    · exact no j y (by omega) hy
  · exact .inr h
theorem TwI.done {ls : List Str} {acc : List Str} (h : TwI ls ls.length acc) : (acc = [] ∧ NoDup ls) ∨ ∃ z r, acc = z :: r ∧ Dup ls z := by
  rcases h.2 with ⟨e, no⟩ | h
  · exact .inl ⟨e, fun j y hy => no j y (List.getElem?_eq_some_iff.mp hy).1 hy⟩
  · exact .inr h
/-- the numbers drawn -/
def numOk (n : Int) : Prop := n.natAbs.log2 < 1920 ∧ (Str.ofString (toString n)).length ≤ 100
theorem numOk.of (r : Int) (h0 : 0 ≤ r) (h1 : r < 57) : ∀ v ∈ ([V.int 0, V.int 1, V.int (-1), V.int 60, V.int 61, V.int 59, V.int (10 ^ 19), V.int (-(10 ^ 18)), V.int (2 + r)] : List V), ∃ n : Int, v = .int n ∧ numOk n := by
  have key : ∀ k : Fin 57, numOk (2 + ((k : Nat) : Int)) := by unfold numOk; decide +kernel
  obtain ⟨k, rfl⟩ : ∃ k : Nat, r = (k : Int) := ⟨r.toNat, by omega⟩
  have kr := key ⟨k, by omega⟩
  intro v hv
  simp only [List.mem_cons, List.not_mem_nil, or_false] at hv
  have d : ∀ n : Int, numOk n → ∃ m : Int, V.int n = .int m ∧ numOk m := fun n h => ⟨n, rfl, h⟩
  rcases hv with rfl | rfl | rfl | rfl | rfl | rfl | rfl | rfl | rfl
  · exact d _ (by unfold numOk; decide +kernel)
  · exact d _ (by unfold numOk; decide +kernel)
  · exact d _ (by unfold numOk; decide +kernel)
  · exact d _ (by unfold numOk; decide +kernel)
  · exact d _ (by unfold numOk; decide +kernel)
  · exact d _ (by unfold numOk; decide +kernel)
  · exact d _ (by unfold numOk; decide +kernel)
  · exact d _ (by unfold numOk; decide +kernel)
  · exact d _ kr
theorem txt_q (x : Ex) (n : Int) : (Ex.nu "quotient" x n).txt = ("(" : Str) ++ x.txt ++ " // " ++ (toString n : String) ++ ")" := by
  show wrapT "quotient" x.txt (toString n) [x.txt, toString n] = _
  have e1 : frontL.lookup ("quotient" : Str) = none := by decide +kernel
  have e2 : signL.lookup ("quotient" : Str) = some "//" := by decide +kernel
  unfold wrapT
  rw [e1, e2]
  show ("(" : Str) ++ x.txt ++ " " ++ "//" ++ " " ++ _ ++ ")" = _
  rw [Str.append_assoc (_ ++ x.txt) " " _, Str.append_assoc (_ ++ x.txt) _ " "]
  rfl
theorem txt_sh {k : Str} {z : Str} (x : Ex) (n : Int) (e1 : frontL.lookup k = none) (e2 : signL.lookup k = some z) : (Ex.nu k x n).txt = ("(" : Str) ++ x.txt ++ " " ++ z ++ " " ++ (toString n : String) ++ ")" := by
  show wrapT k x.txt (toString n) [x.txt, toString n] = _
  unfold wrapT
  rw [e1, e2]
theorem xs_ok {x : Ex} (h : x = .acc "a" ["i"] ∨ x = .bi "plus" (.acc "s" []) (.num 1) ∨ x = .num 5) : x.hgt ≤ 2 ∧ x.fit ∧ x.txt.length ≤ 100 ∧ Sm0 x := by
  rcases h with rfl | rfl | rfl
  · exact ⟨by decide, by show _ ≤ _; decide +kernel, by decide +kernel, ⟨by decide, by decide +kernel⟩⟩
  · exact ⟨by decide, ⟨by decide +kernel, by show _ ≤ _; decide +kernel, ⟨by decide +kernel, by decide +kernel⟩, by decide +kernel⟩, by decide +kernel, ⟨by decide, by decide +kernel⟩⟩
  · exact ⟨by decide, ⟨by decide +kernel, by decide +kernel⟩, by decide +kernel, ⟨by decide, by decide +kernel⟩⟩
theorem nu_ok {x : Ex} {k : Str} {n : Int} (hk : k ∈ nuK) (h : x.hgt ≤ 2 ∧ x.fit ∧ x.txt.length ≤ 100 ∧ Sm0 x) (hn : numOk n) : (Ex.nu k x n).hgt ≤ 3 ∧ (Ex.nu k x n).fit := by
  refine ⟨by show 1 + x.hgt ≤ 3; omega, hk, h.2.1, hn.1, ?_⟩
  have := hn.2
  omega
end Lw
namespace Lw
open PySem L2 OwB TL LamX
abbrev s_law : Stmt := topS 36
abbrev n_law : List Str := ["_law_script", "_law_stream", "_law_turn", "_law_letters", "_law_k", "_law_twice", "_law_letter", "_law_due", "_law_x", "_law_n", "_law_sign"]
theorem sc_law : FnScope n_law ["_law_script"] (defScope s_law) := ⟨rfl, rfl, rfl, by decide +kernel, rfl, by decide +kernel, by decide +kernel⟩
def qLam : Str := "law.<locals>." ++ "<lambda>"
def spLaw (K : PySem.W.Frag) (P0 : Addr) : Sp := fun vs H Q _ => ∃ (a : Addr) (ns : List Int), vs = [.ref a] ∧ SqL K H a (ns.map V.int) ∧ ns.length ≤ 63 ∧ H P0 = some (.tbl #[]) ∧ ∀ H', Q (.bl true) H'
def abc4 : List Str := ["a", "i", "j", "z"]
theorem abc4_of {c : Nat} (h : c ∈ tl (Str.ofString "aijz")) : (⟨#[c]⟩ : Str) ∈ abc4 := by
  have e : tl (Str.ofString "aijz") = [97, 105, 106, 122] := by decide +kernel
  rw [e] at h
  simp only [List.mem_cons, List.not_mem_nil, or_false] at h
  rcases h with rfl | rfl | rfl | rfl <;> decide +kernel
theorem abc4_lay : ∀ z ∈ abc4, PyData.canLay0 (.str z) = true := by
  intro z h
  unfold abc4 at h
  simp only [List.mem_cons, List.not_mem_nil, or_false] at h
  rcases h with rfl | rfl | rfl | rfl <;> decide +kernel
theorem abc4_len : ∀ z ∈ abc4, z.length = 1 := by
  intro z h
  unfold abc4 at h
  simp only [List.mem_cons, List.not_mem_nil, or_false] at h
  rcases h with rfl | rfl | rfl | rfl <;> decide +kernel
theorem abc4_sum : ∀ {ls : List Str}, (∀ z ∈ ls, z ∈ abc4) → (ls.map (·.length)).sum = ls.length
  | [], _ => rfl
  | z :: r, h => by
    rw [List.map_cons, List.sum_cons, abc4_sum (fun y hy => h y (List.mem_cons_of_mem _ hy)), abc4_len z (h z (List.mem_cons_self ..)), List.length_cons]
    omega
theorem shaped_abc : ∀ {ks : List Str}, ks.length ≤ 3 → (∀ k ∈ ks, k ∈ abc4) → SeqAt.shaped (.list (ks.map PyData.str)) = true
  | [], _, _ => by decide +kernel
  | [a], _, h => by
    have h1 := abc4_lay _ (h a (by simp))
    simp [SeqAt.shaped, PyData.canLay0, PyData.canLayAll0, PyData.depth, PyData.depthAll] at h1 ⊢
    try exact h1
  | [a, b], _, h => by
    have h1 := abc4_lay _ (h a (by simp))
    have h2 := abc4_lay _ (h b (by simp))
    simp [SeqAt.shaped, PyData.canLay0, PyData.canLayAll0, PyData.depth, PyData.depthAll] at h1 h2 ⊢
    try exact ⟨h1, h2⟩
  | [a, b, c], _, h => by
    have h1 := abc4_lay _ (h a (by simp))
    have h2 := abc4_lay _ (h b (by simp))
    have h3 := abc4_lay _ (h c (by simp))
    simp [SeqAt.shaped, PyData.canLay0, PyData.canLayAll0, PyData.depth, PyData.depthAll] at h1 h2 h3 ⊢
    try exact ⟨h1, h2, h3⟩
  | _ :: _ :: _ :: _ :: _, h, _ => by simp at h
theorem dp_strs {K : PySem.W.Frag} {H : Hp} : ∀ ss : List Str, DpAll K H (ss.map V.str) (ss.map PyData.str)
  | [] => .nil
  | n :: r => .cons (.str n) (dp_strs r)
def InvLs (H0 : Hp) (st q D : Addr) (b : Int) (i : Nat) (H : Hp) : Prop := ∃ acc : List Str, H D = some (.lst (acc.map V.str)) ∧ acc.length = i ∧ (∀ z ∈ acc, z ∈ abc4) ∧ Spr H st q (b + i) ∧ SX st q H0 H
def InvTw (H0 : Hp) (ls : List Str) (D : Addr) (i : Nat) (H : Hp) : Prop := ∃ acc : List Str, H D = some (.lst (acc.map V.str)) ∧ TwI ls i acc ∧ (∀ z ∈ acc, z ∈ ls) ∧ Same H0 H
structure Ox (P : Program) (w : World) (K : PySem.W.Frag) (mg : Str → Option Value) (base : Heap) (C BN : Addr) (dn rn k : Str) : Prop where
  ex : ∃ (g : Addr) (gd : FuncData), OpD K C g dn ∧ PySem.W.findIn K (.ref C) rn = some none ∧ FnOk P w K mg base (L2.CX P w) 7 g gd ["self", "other"] (spOx K C BN k) ∧ Binds K gd ["self", "other"] []
section
variable {P : Program} {w : World} {K : PySem.W.Frag} {mg : Str → Option Value} {base : Heap} {C fI BN RL WE pT gT gA gL gadd gra c P0 fL fRf : Addr} {dT dL dadd : FuncData}
/-- behind _law_end, the due pair at d -/
theorem deed {H H1 H2 : Hp} {T : List (Addr × Str)} {d : Addr} {xx : Str} {v : V} (e1 : ExtN H H1) (T1 : Tabs T H1) (g2 : Same H1 H2) (hd : SqT K H d [.str xx, v]) (hv : plainV v) (H3 : Hp) (t : Addr) (g3 : Same H2 H3) (ht : H3 t = none) :
    Sm K (upd H3 t (.tup [.str xx, v])) 5 (.ref t) (.ref d) ∧ ∀ H4, Same (upd H3 t (.tup [.str xx, v])) H4 → ExtN H H4 ∧ Tabs T H4 := by
  have gt := same_new ht (.tup [.str xx, v])
  have eN : ExtN H (upd H3 t (.tup [.str xx, v])) := e1.trans (ExtN.of ((g2.trans g3).trans gt))
  exact ⟨sm_pair (m := 3) (SqT.of upd_same) (TK.en eN _ _ hd) hv, fun H4 g4 => ⟨eN.trans (ExtN.of g4), T1.ext (((g2.trans g3).trans gt).trans g4)⟩⟩
theorem okN_sh {k : Str} {n : Int} (h : k = "left" ∨ k = "right") : okN k n ↔ 0 ≤ n ∧ n < 61 := by
  have kp : k ≠ "power" := by rcases h with rfl | rfl <;> exact kne _ _
  have kq : k ≠ "quotient" := by rcases h with rfl | rfl <;> exact kne _ _
  unfold okN
  rw [if_neg kp, if_neg kp]
  constructor
  · rintro (⟨h, _⟩ | ⟨_, h1, h2⟩)
    · exact absurd h kq
    · exact ⟨h1, by omega⟩
  · rintro ⟨h1, h2⟩
    exact .inr ⟨.inr h, h1, by omega⟩
theorem okN_pw {n : Int} (h : n = 0 ∨ n = 5) : ¬ okN "power" n := by
  unfold okN
  rw [if_pos rfl, if_pos rfl]
  rintro (⟨h, _⟩ | ⟨_, h1, h2⟩)
  · exact absurd h (kne _ _)
  · omega
theorem okN_q0 : ¬ okN "quotient" 0 := by
  unfold okN
  rintro (⟨_, h⟩ | ⟨h, _⟩)
  · exact h rfl
  · rcases h with h | h | h <;> exact absurd h (kne _ _)
theorem Dup.uniq {ls : List Str} {y z : Str} (hy : Dup ls y) (hz : Dup ls z) : y = z := by
  obtain ⟨i, ei, mi, ni⟩ := hy
  obtain ⟨j, ej, mj, nj⟩ := hz
  rcases Nat.lt_trichotomy i j with h | h | h
  · exact absurd mi (nj i y h ei)
  · subst h
    rw [ei] at ej
    exact Option.some.inj ej
  · exact absurd mj (ni j z h ej)
theorem op_deed {k : Str} {x : Ex} {n : Int} {p : Addr} {H : Hp} {xx : Str} {v : V} {Q : VK} (hx : ExAt K C H x p) (hk4 : fourK k) (hkn : k ∈ nuK) (ok : x.hgt ≤ 2 ∧ x.fit ∧ x.txt.length ≤ 100 ∧ Sm0 x) (hn : numOk n)
    (hc : (okN k n ∧ xx = "told" ∧ v = .str (Ex.nu k x n).txt) ∨ (¬ okN k n ∧ xx = "BadNumber" ∧ v = .int n)) (hQ : ∀ (H3 : Hp) (t : Addr), Same H H3 → H3 t = none → Q (.ref t) (upd H3 t (.tup [.str xx, v]))) :
    rOwnN C (spOx K C BN k) (EtE BN RL Q) (.ref p) (.int n) H (QtE K C 3 Q) := by
  obtain ⟨dx, fs, hp⟩ := hx.inst
  refine ⟨p, dx, fs, n, rfl, rfl, hp, .ref p, .int n, rfl, k, .ref p, n, x, rfl, hk4, .inr ⟨p, rfl, hx⟩, ok.2.2.2, fun hok q H' g h => ?_, fun hno => ?_⟩
  · rcases hc with ⟨_, rfl, rfl⟩ | ⟨h', _⟩
    · exact qt_told h (nu_ok hkn ok hn).1 (nu_ok hkn ok hn).2 (fun H2 t g2 ht => hQ H2 t (g.trans g2) ht)
    · exact absurd hok h'
  · rcases hc with ⟨h', _⟩ | ⟨_, rfl, rfl⟩
    · exact absurd h' hno
    · exact et_bn hQ
/-- the due pair made behind _law_end -/
theorem deed2 {H H1 H2 : Hp} {T : List (Addr × Str)} {xx : Str} {v : V} (e1 : ExtN H H1) (T1 : Tabs T H1) (g2 : Same H1 H2) (hv : plainV v) (H3 : Hp) (t : Addr) (g3 : Same H2 H3) (ht : H3 t = none) (d : Addr) (hd : upd H3 t (.tup [.str xx, v]) d = none) :
    Sm K (upd (upd H3 t (.tup [.str xx, v])) d (.tup [.str xx, v])) 5 (.ref t) (.ref d) ∧ ∀ H4, Same (upd (upd H3 t (.tup [.str xx, v])) d (.tup [.str xx, v])) H4 → ExtN H H4 ∧ Tabs T H4 := by
  have gt := same_new ht (.tup [.str xx, v])
  have gd := same_new hd (.tup [.str xx, v])
  have gA := ((g2.trans g3).trans gt).trans gd
  exact ⟨sm_pair (m := 3) (SqT.of (gd _ _ upd_same)) (SqT.of upd_same) hv, fun H4 g4 => ⟨e1.trans (ExtN.of (gA.trans g4)), T1.ext (gA.trans g4)⟩⟩
theorem ok_law {oc od kV doc pm an ct osl} (lkL : K.lookup fL = some ⟨oc, od, .func (PySem.W.fnOf "law" "law" (defArgs s_law) (defBody s_law) (defScope s_law) .none kV doc pm an (.ref c) ct), osl⟩) (hcL : PySem.W.codeIn K (.ref c) "law" = true)
    (B : Bt mg) (B2 : Bx mg) (X : Xc K mg C fI) (R : En K mg BN RL WE)
    (cS : Ca P w K mg base 1 "_law_start" ["_law_script"] (spStart K)) (cM : Ca P w K mg base 5 "_law_same" ["_law_found", "_law_due"] (spSame K 5)) (cD : Ca P w K mg base 1 "_law_draw" ["_law_stream", "_law_many"] spDraw) (cP : Ca P w K mg base 2 "_law_pick" ["_law_stream", "_law_some"] (spPick K)) (cPs : Ca P w K mg base 2 "_law_pick" ["_law_stream", "_law_some"] spPickS)
    (cX : Ca P w K mg base 1 "_law_access_text" ["_law_name", "_law_letters"] (spLatL K)) (cN : Ca P w K mg base 4 "number" ["n"] (spNum K C)) (GA : FnR P w K mg base CX0 4 gA (spAcc K C)) (kA : PySem.W.keepIn K (.ref gA) = true) (mA : mg "access" = some (.ref gA))
    (GL : FnOk P w K mg base (L2.CX P w) 6 gL dL ["_law_name", "_law_letters"] (spLaccX K C RL)) (bL : Binds K dL ["_law_name", "_law_letters"] []) (kL : PySem.W.keepIn K (.ref gL) = true) (mL : mg "_law_access" = some (.ref gL))
    (sf : PySem.W.selfFirst K C = true) (D_add : OpD K C gadd "__add__") (R_add : PySem.W.findIn K (.ref C) "__radd__" = some (some (.ref gra))) (F_add : FnOk P w K mg base CX0 7 gadd dadd ["self", "other"] (spJ2 K C "plus")) (b_add : Binds K dadd ["self", "other"] [])
    (O1 : Ox P w K mg base C BN "__floordiv__" "__rfloordiv__" "quotient") (O2 : Ox P w K mg base C BN "__pow__" "__rpow__" "power") (O3 : Ox P w K mg base C BN "__lshift__" "__rlshift__" "left") (O4 : Ox P w K mg base C BN "__rshift__" "__rrshift__" "right")
    {oc' od' kV' doc' pm' an' cd' ct' osl'} (lkR : K.lookup fRf = some ⟨oc', od', .func (PySem.W.fnOf "_law_end" "_law_end" (defArgs s_l_end) (defBody s_l_end) (defScope s_l_end) .none kV' doc' pm' an' cd' ct'), osl'⟩) (hcR : PySem.W.codeIn K cd' "_law_end" = true)
    (bRf : Binds K (PySem.W.fnOf "_law_end" "_law_end" (defArgs s_l_end) (defBody s_l_end) (defScope s_l_end) .none kV' doc' pm' an' cd' ct') ["_law_deed"] []) (kRf : PySem.W.keepIn K (.ref fRf) = true) (mRf : mg "_law_end" = some (.ref fRf))
    (pr : PropOf K C "text" pT gT) (GT : FnOk P w K mg base CX0 7 gT dT ["self"] (spTxt K C 3)) (bT : Binds K dT ["self"] [])
    (TB : TabB base mg c P0) :
    FnOk P w K mg base CX0 10 fL (PySem.W.fnOf "law" "law" (defArgs s_law) (defBody s_law) (defScope s_law) .none kV doc pm an (.ref c) ct) ["_law_script"] (spLaw K P0) := by
  refine fn_of lkL hcL sc_law (fun vs H Q E h => ?_) fun A outer s H vs Q E hr h => ?_
  · obtain ⟨a, ns, rfl, _⟩ := h
    rfl
  obtain ⟨g_floordiv, d_floordiv, D_floordiv, R_floordiv, F_floordiv, b_floordiv⟩ := O1.ex
  obtain ⟨g_pow, d_pow, D_pow, R_pow, F_pow, b_pow⟩ := O2.ex
  obtain ⟨g_lshift, d_lshift, D_lshift, R_lshift, F_lshift, b_lshift⟩ := O3.ex
  obtain ⟨g_rshift, d_rshift, D_rshift, R_rshift, F_rshift, b_rshift⟩ := O4.ex
  have fin : ∃ t, PSs (cxOf CX0 P w K mg base n_law "law" (defScope s_law) fL (.ref c) A outer s H E).nox (defBody s_law) t ∧ t { nx := fun _ H' => Q .non H', rt := Q } (start n_law vs) H := by
    obtain ⟨a, ns, rfl, hS, hn, hP0, k⟩ := h
    refine ⟨_, (pss_cons (ps_set (i := 1) sc_law.nd rfl (Or.inr rfl) (pca cS (hr.mono (show 1 ≤ 9 by decide)) (Nat.le_refl _) rfl (pa_cons (pv 0) pa_nil)))
(pss_cons (ps_for PassesOwn.never rfl (pi_range1 (by rfl) B.range (pa_cons pe_int pa_nil)) (pg_name (i := 2) sc_law.nd rfl (Or.inl rfl))
(pss_cons (ps_set (i := 3) sc_law.nd rfl (Or.inr rfl) (pe_lc (own := [("_law_k", 4)]) (g := gName 4) (tt := tYes) (te := tCall spPickS [] E0 (tCons (tVar 1) (tCons (tC (.str "aijz")) tNil))) rfl sc_law.nd (pi_range1 (by rfl) B.range (pa_cons (pca cD (hr.mono (show 1 ≤ 9 by decide)) (Nat.le_refl _) rfl (pa_cons (pv 1) (pa_cons pe_int pa_nil))) pa_nil)) (blkOk_by (N := n_law) (sc := defScope s_law) (by decide +kernel)) (fun _ _ _ _ _ => pg_name (i := 4) sc_law.nd rfl (Or.inl rfl)) (fun _ _ _ _ _ => pts_nil) (fun _ _ _ _ _ => pca cPs (hr.mono (show 2 ≤ 9 by decide)) (Nat.le_refl _) rfl (pa_cons (pv 1) (pa_cons pe_str pa_nil)))))
(pss_cons (ps_setLc (i := 5) (own := [("_law_k", 4), ("_law_letter", 6)]) (g := gTup K 2 (gCons (gName 4) (gCons (gName 6) gNil))) (tt := tTest (tOp (rIn K false) (tVar 6) (tSl (rSlL K) (tVar 3) tNoPart (tPart (tVar 4))))) (te := tVar 6) rfl sc_law.nd rfl rfl (sw_true rfl rfl rfl (by decide +kernel)) (pi_enum (by rfl) B2.enum (pa_cons (pv 3) pa_nil)) (blkOk_by (N := n_law) (sc := defScope s_law) (by decide +kernel)) (fun _ _ _ _ _ => pg_tup rfl (pgs_cons (pg_name (i := 4) sc_law.nd rfl (Or.inl rfl)) (pgs_cons (pg_name (i := 6) sc_law.nd rfl (Or.inl rfl)) pgs_nil))) (fun _ _ _ _ _ => pts_one (pt_cmpR (r := rIn K false) op_in_seq (pv 6) (pe_slice sl_list (pv 3) po_none (po_some (pv 4))) (by rfl))) (fun _ _ _ _ _ => pv 6))
(C8.pss_cut (ps_set (i := 7) sc_law.nd rfl (Or.inl rfl) (pe_ifExp (pt_cmpR (op_neD hr.units) (pv 5) (pe_lst pa_nil) (nomark _)) (pe_tup (pa_cons pe_str (pa_cons (pe_ix ix_list (pv 5) pe_int (fun _ _ => rfl)) pa_nil))) (pe_tup (pa_cons pe_str (pa_cons (pca cX (hr.mono (show 1 ≤ 9 by decide)) (Nat.le_refl _) rfl (pa_cons pe_str (pa_cons (pv 3) pa_nil))) pa_nil)))))
(C8.pss_cut (ps_if (pt_not (pt_val (pca cM (hr.mono (by decide)) (Nat.le_refl _) rfl (pa_cons (pe_lamcall (t := fun E => tCall (spLaccX K C RL) [] E (tCons (tC (.str "ab")) (tCons (tVar 3) tNil))) (T := [(P0, qLam)]) (TT := TTe K C BN RL 3) (Ng := n_l_end) (k := 6) (a := "_law_deed") (by rfl) mRf kRf lkR hcR bRf sc_l_end rfl (Or.inl rfl) (end_gives R X.ic.cl pr GT bT (hr.mono (by decide))) TB rfl (List.mem_singleton.mpr rfl) (fun p hp _ => by rw [List.mem_singleton.mp hp]; rfl) (hr.mono (by decide)) (lamS_by (by show lamSB (defScope s_law) _ = true; decide +kernel)) rfl (fun _ _ _ _ _ => rfl) (fun A outer s H E f c' hr2 => pe_call (E := E) GL hr2 (by rfl) mL kL bL .nil (passes_call (takes_of rfl rfl rfl rfl) (fun _ _ _ _ h => h)) (pa_cons pe_str (pa_cons (pv 3) pa_nil)))) (pa_cons (pv 7) pa_nil))))) (pss_one (ps_ret pe_bl)) pss_nil)
(C8.pss_cut (ps_set (i := 8) sc_law.nd rfl (Or.inr rfl) (pe_ix ix_list (pe_lst (pa_cons (pe_callR GA (hr.mono (show 4 ≤ 9 by decide)) rfl mA kA pass0 (pa_cons pe_str (pa_cons pe_str pa_nil))) (pa_cons (pe_op (op_ownN (op := .Add) sf D_add R_add (.inr ⟨_, rfl⟩) (fi_add K) (fr_add K) (fsub K C) F_add (hr.mono (show 7 ≤ 9 by decide)) b_add pass0) (pe_callR GA (hr.mono (show 4 ≤ 9 by decide)) rfl mA kA pass0 (pa_cons pe_str pa_nil)) pe_int) (pa_cons (pca cN (hr.mono (show 4 ≤ 9 by decide)) (Nat.le_refl _) rfl (pa_cons pe_int pa_nil)) pa_nil)))) (pca cD (hr.mono (show 1 ≤ 9 by decide)) (Nat.le_refl _) rfl (pa_cons (pv 1) (pa_cons pe_int pa_nil))) (fun _ _ => rfl)))
(C8.pss_cut (ps_set (i := 9) sc_law.nd rfl (Or.inr rfl) (pca cP (hr.mono (show 2 ≤ 9 by decide)) (Nat.le_refl _) rfl (pa_cons (pv 1) (pa_cons (pe_lst (pa_cons pe_int (pa_cons pe_int (pa_cons (pe_un un_neg pe_int) (pa_cons pe_int (pa_cons pe_int (pa_cons pe_int (pa_cons (pe_op op_pow pe_int pe_int) (pa_cons (pe_un un_neg (pe_op op_pow pe_int pe_int)) (pa_cons (pe_op op_add pe_int (pca cD (hr.mono (show 1 ≤ 9 by decide)) (Nat.le_refl _) rfl (pa_cons (pv 1) (pa_cons pe_int pa_nil)))) pa_nil)))))))))) pa_nil))))
(C8.pss_cut (ps_set (i := 7) sc_law.nd rfl (Or.inl rfl) (pe_ifExp (pt_cmpR op_ne (pv 9) pe_int (nomark _)) (pe_tup (pa_cons pe_str (pa_cons (pe_op op_add_str (pe_op op_add_str (pe_op op_add_str (pe_op op_add_str pe_str (pe_prop (dvs := []) (pv 8) X.ic.cl pr GT (hr.mono (by decide)) bT .nil pass0 rfl)) pe_str) (pe_callTy call_str_int (by rfl) B2.str (by decide +kernel) (pa_cons (pv 9) pa_nil))) pe_str) pa_nil))) (pe_tup (pa_cons pe_str (pa_cons pe_int pa_nil)))))
(C8.pss_cut (ps_if (pt_not (pt_val (pca cM (hr.mono (by decide)) (Nat.le_refl _) rfl (pa_cons (pe_lamcall (t := fun E => tOp (rOwnN C (spOx K C BN "quotient") E) (tVar 8) (tVar 9)) (T := [(P0, qLam)]) (TT := TTe K C BN RL 3) (Ng := n_l_end) (k := 7) (a := "_law_deed") (by rfl) mRf kRf lkR hcR bRf sc_l_end rfl (Or.inl rfl) (end_gives R X.ic.cl pr GT bT (hr.mono (by decide))) TB rfl (List.mem_singleton.mpr rfl) (fun p hp _ => by rw [List.mem_singleton.mp hp]; rfl) (hr.mono (by decide)) (lamS_by (by show lamSB (defScope s_law) _ = true; decide +kernel)) rfl (fun _ _ _ _ _ => rfl) (fun A outer s H E f c' hr2 => pe_op (op_ownN (op := .FloorDiv) (E := E) sf D_floordiv R_floordiv (.inl rfl) (fi_floordiv K) (fr_floordiv K) (fsub K C) F_floordiv hr2 b_floordiv (passes_call (takes_of rfl rfl rfl rfl) (fun _ _ _ _ h => h))) (pv 8) (pv 9))) (pa_cons (pv 7) pa_nil))))) (pss_one (ps_ret pe_bl)) pss_nil)
(C8.pss_cut (ps_for PassesOwn.never rfl (pi_tup (pe_tup (pa_cons pe_str (pa_cons pe_str pa_nil)))) (pg_name (i := 10) sc_law.nd rfl (Or.inr rfl)) (C8.pss_cut (ps_set (i := 7) sc_law.nd rfl (Or.inl rfl) (pe_ifExp (pt_cmpR op_in_rng (pv 9) (pe_callTy cr_range1 (by rfl) B.range (by decide +kernel) (pa_cons pe_int pa_nil)) (by rfl)) (pe_tup (pa_cons pe_str (pa_cons (pe_op op_add_str (pe_op op_add_str (pe_op op_add_str (pe_op op_add_str (pe_op op_add_str (pe_op op_add_str pe_str (pe_prop (dvs := []) (pv 8) X.ic.cl pr GT (hr.mono (by decide)) bT .nil pass0 rfl)) pe_str) (pv 10)) pe_str) (pe_callTy call_str_int (by rfl) B2.str (by decide +kernel) (pa_cons (pv 9) pa_nil))) pe_str) pa_nil))) (pe_tup (pa_cons pe_str (pa_cons (pv 9) pa_nil))))) (pss_one (ps_if (pt_not (pt_val (pca cM (hr.mono (by decide)) (Nat.le_refl _) rfl (pa_cons (pe_lamcall (t := fun E => tIf (tTest (tOp rEq (tVar 10) (tC (.str "<<")))) (tOp (rOwnN C (spOx K C BN "left") E) (tVar 8) (tVar 9)) (tOp (rOwnN C (spOx K C BN "right") E) (tVar 8) (tVar 9))) (T := [(P0, qLam)]) (TT := TTe K C BN RL 3) (Ng := n_l_end) (k := 7) (a := "_law_deed") (by rfl) mRf kRf lkR hcR bRf sc_l_end rfl (Or.inl rfl) (end_gives R X.ic.cl pr GT bT (hr.mono (by decide))) TB rfl (List.mem_singleton.mpr rfl) (fun p hp _ => by rw [List.mem_singleton.mp hp]; rfl) (hr.mono (by decide)) (lamS_by (by show lamSB (defScope s_law) _ = true; decide +kernel)) rfl (fun _ _ _ _ _ => rfl) (fun A outer s H E f c' hr2 => pe_ifExp (pt_cmpR op_eq (pv 10) pe_str (nomark _)) (pe_op (op_ownN (op := .LShift) (E := E) sf D_lshift R_lshift (.inl rfl) (fi_lshift K) (fr_lshift K) (fsub K C) F_lshift hr2 b_lshift (passes_call (takes_of rfl rfl rfl rfl) (fun _ _ _ _ h => h))) (pv 8) (pv 9)) (pe_op (op_ownN (op := .RShift) (E := E) sf D_rshift R_rshift (.inl rfl) (fi_rshift K) (fr_rshift K) (fsub K C) F_rshift hr2 b_rshift (passes_call (takes_of rfl rfl rfl rfl) (fun _ _ _ _ h => h))) (pv 8) (pv 9)))) (pa_cons (pv 7) pa_nil))))) (pss_one (ps_ret pe_bl)) pss_nil))))
(C8.pss_cut (ps_if (pt_not (pt_val (pca cM (hr.mono (by decide)) (Nat.le_refl _) rfl (pa_cons (pe_lamcall (t := fun E => tOp (rOwnN C (spOx K C BN "power") E) (tVar 8) (tC (.int 0))) (T := [(P0, qLam)]) (TT := TTe K C BN RL 3) (Ng := n_l_end) (k := 7) (a := "_law_deed") (by rfl) mRf kRf lkR hcR bRf sc_l_end rfl (Or.inl rfl) (end_gives R X.ic.cl pr GT bT (hr.mono (by decide))) TB rfl (List.mem_singleton.mpr rfl) (fun p hp _ => by rw [List.mem_singleton.mp hp]; rfl) (hr.mono (by decide)) (lamS_by (by show lamSB (defScope s_law) _ = true; decide +kernel)) rfl (fun _ _ _ _ _ => rfl) (fun A outer s H E f c' hr2 => pe_op (op_ownN (op := .Pow) (E := E) sf D_pow R_pow (.inl rfl) (fi_pow K) (fr_pow K) (fsub K C) F_pow hr2 b_pow (passes_call (takes_of rfl rfl rfl rfl) (fun _ _ _ _ h => h))) (pv 8) pe_int)) (pa_cons (pe_tup (pa_cons pe_str (pa_cons pe_int pa_nil))) pa_nil))))) (pss_one (ps_ret pe_bl)) pss_nil)
(pss_one (ps_if (pt_not (pt_val (pca cM (hr.mono (by decide)) (Nat.le_refl _) rfl (pa_cons (pe_lamcall (t := fun E => tOp (rOwnN C (spOx K C BN "power") E) (tVar 8) (tC (.int 5))) (T := [(P0, qLam)]) (TT := TTe K C BN RL 3) (Ng := n_l_end) (k := 7) (a := "_law_deed") (by rfl) mRf kRf lkR hcR bRf sc_l_end rfl (Or.inl rfl) (end_gives R X.ic.cl pr GT bT (hr.mono (by decide))) TB rfl (List.mem_singleton.mpr rfl) (fun p hp _ => by rw [List.mem_singleton.mp hp]; rfl) (hr.mono (by decide)) (lamS_by (by show lamSB (defScope s_law) _ = true; decide +kernel)) rfl (fun _ _ _ _ _ => rfl) (fun A outer s H E f c' hr2 => pe_op (op_ownN (op := .Pow) (E := E) sf D_pow R_pow (.inl rfl) (fi_pow K) (fr_pow K) (fsub K C) F_pow hr2 b_pow (passes_call (takes_of rfl rfl rfl rfl) (fun _ _ _ _ h => h))) (pv 8) pe_int)) (pa_cons (pe_tup (pa_cons pe_str (pa_cons pe_int pa_nil))) pa_nil))))) (pss_one (ps_ret pe_bl)) pss_nil)))))))))))))
(pss_one (ps_ret pe_bl)))), ?_⟩
    refine ⟨_, rfl, a, ns, rfl, hS, hn, fun st q H1 g1 hs1 => ?_⟩
    have hT1 : Tabs [(P0, qLam)] H1 := fun p hp => by
      rw [List.mem_singleton.mp hp]
      exact TabS.nil (g1 _ _ hP0)
    refine ⟨6, rfl, by decide, by decide, for_range (lo := 0) (n := 6) (fun i σ' H' => ∃ (b : Int) (u2 u3 u4 u5 u6 u7 u8 u9 u10 : Option V), σ' = [some (.ref a), some (.ref st), u2, u3, u4, u5, u6, u7, u8, u9, u10] ∧ Tabs [(P0, qLam)] H' ∧ Spr H' st q b ∧ 0 ≤ b ∧ b ≤ 10 * i)
      ⟨0, _, _, _, _, _, _, _, _, _, rfl, hT1, hs1, by decide, by decide⟩ ?_ (fun _ _ _ => k _)⟩
    rintro i σ' H2 hi ⟨b, u2, u3, u4, u5, u6, u7, u8, u9, u10, rfl, hT2, hs2, hb0, hb1⟩
    refine ⟨_, rfl, st, q, b, 4, rfl, hs2, hb0, by omega, by decide, by decide, fun r H3 r0 r1 hs3 g3 => ⟨r, rfl, by omega, by omega, fun D hD => ?_⟩⟩
    obtain ⟨m, rfl⟩ : ∃ m : Nat, r = (m : Int) := ⟨r.toNat, by omega⟩
    rw [show ((m : Nat) : Int).toNat = m from Int.toNat_natCast m]
    have gD := same_new hD (.lst [])
    obtain ⟨nD1, nD2⟩ := hs3.out hD
    refine lc_range (lo := 0) (n := m) (InvLs H3 st q D (b + 1)) ⟨[], upd_same, rfl, (fun z hz => by cases hz), ?_, .of gD⟩ ?_ ?_
    · rw [show b + 1 + ((0 : Nat) : Int) = b + 1 from Int.add_zero _]
      exact hs3.same gD
    · rintro j H4 hj ⟨acc, hd, ha, hok, hs4, gx⟩
      refine ⟨rfl, kept ?_⟩
      refine ⟨_, rfl, st, q, _, "aijz", rfl, hs4, by omega, by omega, by decide +kernel, by decide +kernel, fun c H5 hc hs5 g5 => ?_⟩
      refine ⟨_, g5 _ _ nD1 nD2 hd, by rw [List.length_map]; exact small1000 (by omega), acc ++ [⟨#[c]⟩], by rw [upd_same, List.map_append] <;> rfl, by rw [List.length_append, ha] <;> rfl, ?_, ?_, (gx.trans g5).upd_out hD⟩
      · intro z hz
        rcases List.mem_append.mp hz with hz | hz
        · exact hok z hz
        · cases List.mem_singleton.mp hz
          exact abc4_of hc
      · rw [show b + 1 + ((j + 1 : Nat) : Int) = b + 1 + (j : Int) + 1 by omega]
        exact hs5.upd nD1 nD2
    rintro H4 ⟨ls, hd4, hlen, hok, hs4, gx4⟩
    have hT4 : Tabs [(P0, qLam)] H4 := tabs_ki (KI.sx hs3 gx4) (tabs_ki (KI.sx hs2 g3) hT2)
    refine ⟨_, rfl, D, _, rfl, SqL.of hd4, fun D2 hD2 => ?_⟩
    refine lc_it walk_enum (InvTw H4 ls D2) ⟨[], upd_same, TwI.zero _, (fun z hz => by cases hz), same_new hD2 _⟩ (fun j H' _ ⟨acc, _, _, _, g⟩ => SqL.of (g _ _ hd4)) ?_ ?_
    · rintro j v H5 H6 hj ⟨acc, hd5, tw, hmem, g5⟩ ⟨T, x, y, rfl, hT, rfl, ex, ey⟩
      cases ex
      have ey : (ls.map V.str)[j]? = some y := ey
      rw [List.getElem?_map] at ey
      cases ez : ls[j]? with
      | none => rw [ez] at ey; cases ey
      | some z =>
        rw [ez] at ey
        cases ey
        have gT := same_new hT (.tup [.int (j : Nat), .str z])
        have hd6 := gT _ _ hd5
        have hl6 := gT _ _ (g5 _ _ hd4)
        have hj' : j < ls.length := (List.getElem?_eq_some_iff.mp ez).1
        have ecut : cutV (ls.map V.str) none (some (j : Int)) = (ls.take j).map V.str := by
          rw [cut_take _ _ (by rw [List.length_map]; omega), List.map_take]
        have hal := tw.1
        refine ⟨T, _, rfl, SqT.of upd_same, rfl, _, _, rfl, _, _, rfl, rfl, rfl, ?_⟩
        refine ⟨_, rfl, _, rfl, _, rfl, _, rfl, D, _, rfl, SqL.of hl6, fun p hp => ?_⟩
        have gp := same_new hp (.lst (cutV (ls.map V.str) none (some (j : Int))))
        have gz := (g5.trans gT).trans gp
        refine ⟨p, _, rfl, .inl (SqL.of upd_same), rfl, by rw [ecut]; exact flat_strs' _, _, rfl, ?_⟩
        by_cases hm : z ∈ ls.take j
        · have e3 : inV (.str z) (cutV (ls.map V.str) none (some (j : Int))) = true := by
            rw [ecut, in_strs]
            exact decide_eq_true hm
          refine iteC (c := inV (.str z) (cutV (ls.map V.str) none (some (j : Int)))) e3 ?_
          refine ⟨_, rfl, acc.map V.str, gp _ _ hd6, by rw [List.length_map]; exact small1000 (by omega), acc ++ [z], by rw [upd_same, List.map_append] <;> rfl, tw.yes ez hm, fun y hy => ?_, same_over gz hD2 _⟩
          rcases List.mem_append.mp hy with hy | hy
          · exact hmem y hy
          · cases List.mem_singleton.mp hy
            exact List.mem_of_getElem? ez
        · have e3 : inV (.str z) (cutV (ls.map V.str) none (some (j : Int))) = false := by
            rw [ecut, in_strs]
            exact decide_eq_false hm
          exact iteN (c := inV (.str z) (cutV (ls.map V.str) none (some (j : Int)))) e3 ⟨acc, gp _ _ hd6, tw.no ez hm, hmem, gz⟩
    rintro H5 ⟨tw, hd5, htw, hmem, g5⟩
    rw [List.length_map] at htw
    have hl5 := g5 _ _ hd4
    have hs5 := hs4.same g5
    have hT5 : Tabs [(P0, qLam)] H5 := hT4.ext g5
    have hm3 : m ≤ 3 := by omega
    have hbase : 0 ≤ b + 1 + (m : Int) ∧ b + 1 + (m : Int) ≤ b + 4 := by omega
    generalize b + 1 + (m : Int) = b5 at hs5 hbase
    have htl := htw.1
    -- the due pair
    refine ⟨fun σ' H' => ∃ (d : Addr) (xx : Str) (v : V), σ' = [some (.ref a), some (.ref st), some (.int (0 + (i : Int))), some (.ref D), u4, some (.ref D2), u6, some (.ref d), u8, u9, u10] ∧ SqT K H' d [.str xx, v] ∧ plainV v ∧ Same H5 H' ∧ ((xx = "told" ∧ v = .str (Ex.acc "ab" ls).txt ∧ NoDup ls) ∨ (xx = "RepeatedLetter" ∧ ∃ z, v = .str z ∧ Dup ls z)), ?_, ?_⟩
    · refine ⟨_, rfl, Nat.zero_le _, fun e he => ?_⟩
      have ge := same_new he (.lst [])
      refine ⟨.list (tw.map PyData.str), .list [], .lst (SqL.of (ge _ _ hd5)) (dp_strs _), .lst (SqL.of upd_same) .nil, shaped_abc (by omega) (fun z hz => hok z (hmem z hz)), by decide +kernel, _, rfl, ?_⟩
      rcases htw.done with ⟨rfl, nd⟩ | ⟨z, r, rfl, hdup⟩
      · refine iteN (by decide +kernel) ?_
        have hsum := abc4_sum hok
        have l2 : ("ab" : Str).length = 2 := by decide +kernel
        refine ⟨_, rfl, "ab", D, ls, rfl, SqL.of (ge _ _ hl5), by rw [l2]; omega, (by show 2 ≤ sizeLine; decide), fun d hd => ?_⟩
        exact ⟨d, "told", _, rfl, SqT.of upd_same, .inr ⟨_, rfl⟩, ge.trans (same_new hd _), .inl ⟨rfl, rfl, nd⟩⟩
      · refine iteC rfl ?_
        refine ⟨_, rfl, D2, _, (0 : Int), .str z, rfl, rfl, SqL.of (ge _ _ hd5), atI_nat (j := 0) rfl, (by show 2 ≤ sizeLine; decide), fun d hd => ?_⟩
        exact ⟨d, "RepeatedLetter", _, rfl, SqT.of upd_same, .inr ⟨_, rfl⟩, ge.trans (same_new hd _), .inr ⟨rfl, z, rfl, hdup⟩⟩
    rintro σ' H6 ⟨d, xx, v, rfl, hd6, hv6, g6, hcase⟩
    have hl6 := g6 _ _ hl5
    have hs6 := hs5.same g6
    refine ⟨fun σ' H' => σ' = [some (.ref a), some (.ref st), some (.int (0 + (i : Int))), some (.ref D), u4, some (.ref D2), u6, some (.ref d), u8, u9, u10] ∧ Tabs [(P0, qLam)] H' ∧ Spr H' st q b5, ?_, ?_⟩
    · refine ⟨hT5.ext g6, fun H7 e7 T7 H8 g8 => ?_⟩
      have hl8 := g8 _ _ (e7 _ _ hl6 (fun ps z => by cases z))
      rcases hcase with ⟨rfl, rfl, nd⟩ | ⟨rfl, z, rfl, hdup⟩
      · refine ⟨_, rfl, "ab", ls, D, rfl, SqL.of hl8, by omega, fun _ p H9 g9 hp => ?_, fun z hz => ?_⟩
        · have hsum := abc4_sum hok
          have l2 : ("ab" : Str).length = 2 := by decide +kernel
          exact qt_told hp (by show 1 ≤ 3; decide) (by show _ ≤ _; rw [l2]; omega) (fun H10 t g10 ht => have z := deed e7 T7 g8 hd6 hv6 H10 t (g9.trans g10) ht; ⟨_, rfl, _, _, rfl, z.1, fun H' g' => ⟨_, rfl, iteF ⟨rfl, (z.2 H' g').2, hs6.en (z.2 H' g').1⟩⟩⟩)
        · obtain ⟨j, ej, mj, _⟩ := hz
          exact absurd mj (nd j z ej)
      · refine ⟨_, rfl, "ab", ls, D, rfl, SqL.of hl8, by omega, fun nd => ?_, fun y hy => ?_⟩
        · obtain ⟨j, ej, mj, _⟩ := hdup
          exact absurd mj (nd j z ej)
        · cases hy.uniq hdup
          exact et_rl (fun H10 t g10 ht => have z := deed e7 T7 g8 hd6 hv6 H10 t g10 ht; ⟨_, rfl, _, _, rfl, z.1, fun H' g' => ⟨_, rfl, iteF ⟨rfl, (z.2 H' g').2, hs6.en (z.2 H' g').1⟩⟩⟩)
    clear hcase hv6 hd6 g6 hs6 hl6 hl5 hd5 hs5 hT5 hT4 hs4 hd4
    rintro σ' H9 ⟨rfl, hT9, hs9⟩
    -- x
    refine ⟨fun σ' H' => ∃ (p : Addr) (x : Ex), σ' = [some (.ref a), some (.ref st), some (.int (0 + (i : Int))), some (.ref D), u4, some (.ref D2), u6, some (.ref d), some (.ref p), u9, u10] ∧ (x = .acc "a" ["i"] ∨ x = .bi "plus" (.acc "s" []) (.num 1) ∨ x = .num 5) ∧ ExAt K C H' x p ∧ Tabs [(P0, qLam)] H' ∧ Spr H' st q (b5 + 1), ?_, ?_⟩
    · refine ⟨"a", ["i"], rfl, by decide, by decide +kernel, fun p1 H10 g10 h1 => ?_⟩
      refine ⟨"s", [], rfl, by decide, by decide, fun p2 H11 g11 h2 => ?_⟩
      obtain ⟨dx2, fs2, hp2⟩ := h2.inst
      refine ⟨p2, dx2, fs2, 1, rfl, rfl, hp2, _, _, rfl, _, _, _, _, _, rfl, ⟨kne _ _, kne _ _, kne _ _, kne _ _⟩, .inr ⟨p2, rfl, h2⟩, .inl ⟨1, rfl, rfl⟩, ⟨by decide, by decide +kernel⟩, ⟨by decide, by decide +kernel⟩, fun p3 H12 g12 h3 => ?_⟩
      refine ⟨5, rfl, fun p4 H13 g13 h4 => ⟨(by show 3 ≤ sizeLine; decide), fun L hL => ?_⟩⟩
      have gL := same_new hL (.lst [.ref p1, .ref p3, .ref p4])
      have gA := (((g10.trans g11).trans g12).trans g13).trans gL
      have hs13 := hs9.same gA
      obtain ⟨nL1, nL2⟩ := (hs9.same (((g10.trans g11).trans g12).trans g13)).out hL
      refine ⟨_, rfl, st, q, b5, 3, rfl, hs13, by omega, by omega, by decide, by decide, fun r H14 r0 r1 hs14 g14 => ?_⟩
      obtain ⟨v, hv, hat⟩ := at_int (xs := [V.ref p1, V.ref p3, V.ref p4]) r0 (by show r < ((3 : Nat) : Int); omega)
      have kk := KI.sx hs13 g14
      have hT14 := tabs_ki kk (hT9.ext gA)
      refine ⟨L, _, r, v, rfl, rfl, SqL.of (g14 _ _ nL1 nL2 upd_same), hat, ?_⟩
      simp only [List.mem_cons, List.not_mem_nil, or_false] at hv
      rcases hv with rfl | rfl | rfl
      · exact ⟨p1, _, rfl, .inl rfl, (h1.same (((g11.trans g12).trans g13).trans gL)).ki kk, hT14, hs14⟩
      · exact ⟨p3, _, rfl, .inr (.inl rfl), (h3.same (g13.trans gL)).ki kk, hT14, hs14⟩
      · exact ⟨p4, _, rfl, .inr (.inr rfl), (h4.same gL).ki kk, hT14, hs14⟩
    clear hs9 hT9
    rintro σ' H9 ⟨p, x, rfl, hxc, hx9, hT9, hs9⟩
    have xok := xs_ok hxc
    -- n
    refine ⟨fun σ' H' => ∃ (n : Int), σ' = [some (.ref a), some (.ref st), some (.int (0 + (i : Int))), some (.ref D), u4, some (.ref D2), u6, some (.ref d), some (.ref p), some (.int n), u10] ∧ numOk n ∧ ExAt K C H' x p ∧ Tabs [(P0, qLam)] H' ∧ Spr H' st q (b5 + 3), ?_, ?_⟩
    · refine ⟨_, rfl, _, rfl, _, _, rfl, rfl, ⟨by decide, by decide, by decide⟩, _, _, rfl, rfl, ⟨by decide, by decide, by decide⟩, _, rfl, _, rfl, st, q, _, 57, rfl, hs9, by omega, by omega, by decide, by decide, fun r H10 r0 r1 hs10 g10 => ⟨_, _, rfl, rfl, (by show 9 ≤ sizeLine; decide), fun L hL => ?_⟩⟩
      have gL := same_new hL (.lst [V.int 0, V.int 1, V.int (-1), V.int 60, V.int 61, V.int 59, V.int (10 ^ 19), V.int (-(10 ^ 18)), V.int (2 + r)])
      obtain ⟨nL1, nL2⟩ := hs10.out hL
      refine ⟨st, q, L, _, _, rfl, hs10.same gL, by omega, by omega, upd_same, nL1, nL2, (by show 0 < 9; decide), (by show 9 ≤ 1000; decide), fun v H11 hv hs11 g11 => ?_⟩
      obtain ⟨n, rfl, hn⟩ := numOk.of r r0 r1 v hv
      have k1 := KI.sx hs9 g10
      have k2 := KI.sx (hs10.same gL) g11
      exact ⟨n, rfl, hn, ((hx9.ki k1).same gL).ki k2, tabs_ki k2 ((tabs_ki k1 hT9).ext gL), by rw [show b5 + 3 = b5 + 1 + 1 + 1 by omega]; exact hs11⟩
    clear hs9 hT9 hx9
    rintro σ' H9 ⟨n, rfl, hnok, hx9, hT9, hs9⟩
    generalize (some (V.ref d) : Option V) = u7'
    have sz3 : ∀ {k : Nat}, k ≤ 1000 → k ≤ sizeLine := fun h => Nat.le_trans h (by decide)
    have nlen := hnok.2
    have xlen := xok.2.2.1
    have o1 : ("(" : Str).length = 1 := by decide +kernel
    have o2 : (")" : Str).length = 1 := by decide +kernel
    have o3 : (" " : Str).length = 1 := by decide +kernel
    have o4 : (" // " : Str).length = 4 := by decide +kernel
    -- the due pair of //
    refine ⟨fun σ' H' => ∃ (d : Addr) (xx : Str) (v : V), σ' = [some (.ref a), some (.ref st), some (.int (0 + (i : Int))), some (.ref D), u4, some (.ref D2), u6, some (.ref d), some (.ref p), some (.int n), u10] ∧ SqT K H' d [.str xx, v] ∧ plainV v ∧ Same H9 H' ∧ ((okN "quotient" n ∧ xx = "told" ∧ v = .str (Ex.nu "quotient" x n).txt) ∨ (¬ okN "quotient" n ∧ xx = "BadNumber" ∧ v = .int n)), ?_, ?_⟩
    · refine ⟨_, rfl, rfl, _, rfl, ?_⟩
      by_cases hn0 : n = 0
      · subst hn0
        refine iteN (by decide +kernel) ⟨(by show 2 ≤ sizeLine; decide), fun d hd => ?_⟩
        exact ⟨d, "BadNumber", _, rfl, SqT.of upd_same, .inl ⟨0, rfl⟩, same_new hd _, .inr ⟨okN_q0, rfl, rfl⟩⟩
      · refine iteC (by rw [dec_int, beq_eq_false_iff_ne.mpr hn0] <;> rfl) ?_
        obtain ⟨dx, fs, hp⟩ := hx9.inst
        refine ⟨_, rfl, p, dx, fs, rfl, hp, p, x, rfl, hx9, Nat.le_trans xok.1 (by decide), xok.2.1, fun H10 g10 => ⟨_, _, rfl, rfl, sz3 (by rw [o1]; omega), _, _, rfl, rfl, sz3 (by rw [Str.length_append, o1, o4]; omega), _, rfl, n, rfl, hnok.1, _, _, rfl, rfl, sz3 (by rw [Str.length_append, Str.length_append, o1, o4]; omega), _, _, rfl, rfl, sz3 (by rw [Str.length_append, Str.length_append, Str.length_append, o1, o4, o2]; omega), (by show 2 ≤ sizeLine; decide), fun d hd => ?_⟩⟩
        exact ⟨d, "told", _, rfl, SqT.of upd_same, .inr ⟨_, rfl⟩, g10.trans (same_new hd _), .inl ⟨.inl ⟨rfl, hn0⟩, rfl, congrArg V.str (txt_q x n).symm⟩⟩
    rintro σ' H10 ⟨d, xx, v, rfl, hd10, hv10, g10, hcase⟩
    have hx10 := hx9.same g10
    have hs10 := hs9.same g10
    refine ⟨fun σ' H' => σ' = [some (.ref a), some (.ref st), some (.int (0 + (i : Int))), some (.ref D), u4, some (.ref D2), u6, some (.ref d), some (.ref p), some (.int n), u10] ∧ ExAt K C H' x p ∧ Tabs [(P0, qLam)] H' ∧ Spr H' st q (b5 + 3), ?_, ?_⟩
    · refine ⟨hT9.ext g10, fun H7 e7 T7 H8 g8 => ?_⟩
      exact ⟨_, rfl, _, rfl, op_deed ((hx10.en e7).same g8) (.inl rfl) (by decide +kernel) xok hnok hcase (fun H11 t g11 ht => have z := deed e7 T7 g8 hd10 hv10 H11 t g11 ht; ⟨_, rfl, _, _, rfl, z.1, fun H' g' => ⟨_, rfl, iteF ⟨rfl, hx10.en (z.2 H' g').1, (z.2 H' g').2, hs10.en (z.2 H' g').1⟩⟩⟩)⟩
    clear hcase hd10 hv10 hx10 hs10 g10 hx9 hs9 hT9
    rintro σ' H11 ⟨rfl, hx11, hT11, hs11⟩
    generalize (some (V.ref d) : Option V) = u7'
    -- the two shifts
    refine ⟨fun σ' H' => ∃ v7 v10 : Option V, σ' = [some (.ref a), some (.ref st), some (.int (0 + (i : Int))), some (.ref D), u4, some (.ref D2), u6, v7, some (.ref p), some (.int n), v10] ∧ ExAt K C H' x p ∧ Tabs [(P0, qLam)] H' ∧ Spr H' st q (b5 + 3), ?_, ?_⟩
    · refine ⟨(by show 2 ≤ sizeLine; decide), fun tt htt => ?_⟩
      have gtt := same_new htt (.tup [.str "<<", .str ">>"])
      refine ⟨tt, rfl, ⟨_, SqT.of upd_same⟩, for_tup (K := K) (a := tt) (xs := [.str "<<", .str ">>"]) (fun _ σ' H' => (∃ v7 v10 : Option V, σ' = [some (.ref a), some (.ref st), some (.int (0 + (i : Int))), some (.ref D), u4, some (.ref D2), u6, v7, some (.ref p), some (.int n), v10]) ∧ SqT K H' tt [.str "<<", .str ">>"] ∧ ExAt K C H' x p ∧ Tabs [(P0, qLam)] H' ∧ Spr H' st q (b5 + 3)) ⟨⟨_, _, rfl⟩, SqT.of upd_same, hx11.same gtt, hT11.ext gtt, hs11.same gtt⟩ (fun _ _ _ _ h => h.2.1) ?_ (fun σ' H' ⟨⟨v7, v10, e⟩, _, h1, h2, h3⟩ => ⟨v7, v10, e, h1, h2, h3⟩)⟩
      rintro j xv σ' H12 hx ⟨⟨v7, v10, rfl⟩, ht12, hx12, hT12, hs12⟩
      obtain ⟨sg, k, rfl, hk4, hkn, e1, e2, hlen2, hsg⟩ : ∃ sg k : Str, xv = .str sg ∧ fourK k ∧ k ∈ nuK ∧ frontL.lookup k = none ∧ signL.lookup k = some sg ∧ sg.length = 2 ∧ ((sg = "<<" ∧ k = "left") ∨ (sg = ">>" ∧ k = "right")) := by
        match j with
        | 0 => cases hx; exact ⟨"<<", "left", rfl, .inr (.inr (.inl rfl)), by decide +kernel, by decide +kernel, by decide +kernel, by decide +kernel, .inl ⟨rfl, rfl⟩⟩
        | 1 => cases hx; exact ⟨">>", "right", rfl, .inr (.inr (.inr rfl)), by decide +kernel, by decide +kernel, by decide +kernel, by decide +kernel, .inr ⟨rfl, rfl⟩⟩
        | j + 2 => cases hx
      have hokk : okN k n ↔ 0 ≤ n ∧ n < 61 := okN_sh (by rcases hsg with ⟨_, h⟩ | ⟨_, h⟩; exact .inl h; exact .inr h)
      refine ⟨fun σ' H' => ∃ (d : Addr) (xx : Str) (v : V), σ' = [some (.ref a), some (.ref st), some (.int (0 + (i : Int))), some (.ref D), u4, some (.ref D2), u6, some (.ref d), some (.ref p), some (.int n), some (.str sg)] ∧ SqT K H' d [.str xx, v] ∧ plainV v ∧ Same H12 H' ∧ ((okN k n ∧ xx = "told" ∧ v = .str (Ex.nu k x n).txt) ∨ (¬ okN k n ∧ xx = "BadNumber" ∧ v = .int n)), ?_, ?_⟩
      · refine ⟨_, rfl, 61, rfl, fun rp hrp => ⟨n, rp, 0, 61, rfl, rfl, upd_same, _, rfl, ?_⟩⟩
        have grp := same_new hrp (.rng 0 61)
        have hxr := hx12.same grp
        by_cases hr61 : 0 ≤ n ∧ n < 61
        · refine iteC (decide_eq_true hr61) ?_
          obtain ⟨dx, fs, hp⟩ := hxr.inst
          refine ⟨_, rfl, p, dx, fs, rfl, hp, p, x, rfl, hxr, Nat.le_trans xok.1 (by decide), xok.2.1, fun H13 g13 => ⟨_, _, rfl, rfl, sz3 (by rw [o1]; omega), _, _, rfl, rfl, sz3 (by rw [Str.length_append, o1, o3]; omega), _, rfl, _, _, rfl, rfl, sz3 (by rw [Str.length_append, Str.length_append, o1, o3, hlen2]; omega), _, _, rfl, rfl, sz3 (by rw [Str.length_append, Str.length_append, Str.length_append, o1, o3, hlen2]; omega), _, rfl, n, rfl, hnok.1, _, _, rfl, rfl, sz3 (by rw [Str.length_append, Str.length_append, Str.length_append, Str.length_append, o1, o3, hlen2]; omega), _, _, rfl, rfl, sz3 (by rw [Str.length_append, Str.length_append, Str.length_append, Str.length_append, Str.length_append, o1, o3, o2, hlen2]; omega), (by show 2 ≤ sizeLine; decide), fun d hd => ?_⟩⟩
          exact ⟨d, "told", _, rfl, SqT.of upd_same, .inr ⟨_, rfl⟩, (grp.trans g13).trans (same_new hd _), .inl ⟨hokk.mpr hr61, rfl, congrArg V.str (txt_sh x n e1 e2).symm⟩⟩
        · refine iteN (decide_eq_false hr61) ⟨_, rfl, (by show 2 ≤ sizeLine; decide), fun d hd => ?_⟩
          exact ⟨d, "BadNumber", _, rfl, SqT.of upd_same, .inl ⟨n, rfl⟩, grp.trans (same_new hd _), .inr ⟨fun h => hr61 (hokk.mp h), rfl, rfl⟩⟩
      rintro σ' H13 ⟨d, xx, v, rfl, hd13, hv13, g13, hcase⟩
      have hx13 := hx12.same g13
      have hs13 := hs12.same g13
      have ht13 := seqT g13 ht12
      refine ⟨hT12.ext g13, fun H7 e7 T7 H8 g8 => ?_⟩
      refine ⟨_, rfl, rfl, _, rfl, ?_⟩
      rcases hsg with ⟨rfl, rfl⟩ | ⟨rfl, rfl⟩
      · refine iteC (by decide +kernel) ?_
        exact ⟨_, rfl, _, rfl, op_deed ((hx13.en e7).same g8) hk4 hkn xok hnok hcase (fun H11 t g11 ht => have z := deed e7 T7 g8 hd13 hv13 H11 t g11 ht; ⟨_, rfl, _, _, rfl, z.1, fun H' g' => ⟨_, rfl, iteF ⟨⟨_, _, rfl⟩, TK.en (z.2 H' g').1 _ _ ht13, hx13.en (z.2 H' g').1, (z.2 H' g').2, hs13.en (z.2 H' g').1⟩⟩⟩)⟩
      · refine iteN (by decide +kernel) ?_
        exact ⟨_, rfl, _, rfl, op_deed ((hx13.en e7).same g8) hk4 hkn xok hnok hcase (fun H11 t g11 ht => have z := deed e7 T7 g8 hd13 hv13 H11 t g11 ht; ⟨_, rfl, _, _, rfl, z.1, fun H' g' => ⟨_, rfl, iteF ⟨⟨_, _, rfl⟩, TK.en (z.2 H' g').1 _ _ ht13, hx13.en (z.2 H' g').1, (z.2 H' g').2, hs13.en (z.2 H' g').1⟩⟩⟩)⟩
    clear hx11 hT11 hs11
    rintro σ' H11 ⟨v7, v10, rfl, hx11, hT11, hs11⟩
    have n0 : numOk 0 := by unfold numOk; decide +kernel
    have n5 : numOk 5 := by unfold numOk; decide +kernel
    refine ⟨fun σ' H' => σ' = [some (.ref a), some (.ref st), some (.int (0 + (i : Int))), some (.ref D), u4, some (.ref D2), u6, v7, some (.ref p), some (.int n), v10] ∧ ExAt K C H' x p ∧ Tabs [(P0, qLam)] H' ∧ Spr H' st q (b5 + 3), ?_, ?_⟩
    · refine ⟨hT11, fun H7 e7 T7 H8 g8 => ?_⟩
      exact ⟨_, rfl, op_deed (n := 0) (xx := "BadNumber") (v := .int 0) ((hx11.en e7).same g8) (.inr (.inl rfl)) (by decide +kernel) xok n0 (.inr ⟨okN_pw (.inl rfl), rfl, rfl⟩) (fun H12 t g12 ht => ⟨(by show 2 ≤ sizeLine; decide), fun d hd => have z := deed2 e7 T7 g8 (.inl ⟨0, rfl⟩) H12 t g12 ht d hd; ⟨_, _, rfl, z.1, fun H' g' => ⟨_, rfl, iteF ⟨rfl, hx11.en (z.2 H' g').1, (z.2 H' g').2, hs11.en (z.2 H' g').1⟩⟩⟩⟩)⟩
    clear hx11 hT11 hs11
    rintro σ' H11 ⟨rfl, hx11, hT11, hs11⟩
    refine ⟨hT11, fun H7 e7 T7 H8 g8 => ?_⟩
    exact ⟨_, rfl, op_deed (n := 5) (xx := "BadNumber") (v := .int 5) ((hx11.en e7).same g8) (.inr (.inl rfl)) (by decide +kernel) xok n5 (.inr ⟨okN_pw (.inr rfl), rfl, rfl⟩) (fun H12 t g12 ht => ⟨(by show 2 ≤ sizeLine; decide), fun d hd => have z := deed2 e7 T7 g8 (.inl ⟨5, rfl⟩) H12 t g12 ht d hd; ⟨_, _, rfl, z.1, fun H' g' => ⟨_, rfl, iteF ⟨b5 + 3, _, _, _, _, _, _, _, _, _, rfl, (z.2 H' g').2, hs11.en (z.2 H' g').1, by omega, by omega⟩⟩⟩⟩)⟩
  obtain ⟨t, ht, hq⟩ := fin
  exact ⟨t, ht.nox, hq⟩
end
end Lw
namespace Lw
open PySem L2 OwB TL LamX
/-- a def of the text, as the top leaves it -/
structure Dx (K : PySem.W.Frag) (mg : Str → Option Value) (x : Str) (st : Stmt) (f : Addr) (fd : FuncData) : Prop where
  F : Fun K x x st f fd
  m : mg x = some (.ref f)
theorem dx_mk {K : PySem.W.Frag} {h : Heap} {mg : Str → Option Value} {x : Str} {st : Stmt} {f : Addr} (X : K.In h) (G : h.Ns mainGlobals mg) {od an : Option Addr} {sl : Array (Option Value)} {oc kV dc pm cd ct : Value}
    (a : PySem.W.nsIn K mainGlobals x = some (some (.ref f))) (l : K.lookup f = some ⟨oc, od, .func (PySem.W.fnOf x x (defArgs st) (defBody st) (defScope st) .none kV dc pm an cd ct), sl⟩) (c : PySem.W.codeIn K cd x = true) (k : PySem.W.keepIn K (.ref f) = true) :
    Dx K mg x st f (PySem.W.fnOf x x (defArgs st) (defBody st) (defScope st) .none kV dc pm an cd ct) := ⟨fun_mk l c k, PySem.W.mg_of X G a⟩
/-- a method of the class at C -/
structure Mx (K : PySem.W.Frag) (C : Addr) (x qual : Str) (st : Stmt) (f : Addr) (fd : FuncData) : Prop where
  F : Fun K x qual st f fd
  o : Meth K C x f
theorem mx_mk {K : PySem.W.Frag} {C : Addr} {x qual : Str} {st : Stmt} {f : Addr} {od an : Option Addr} {sl : Array (Option Value)} {oc kV dc pm cd ct : Value}
    (a : PySem.W.findIn K (.ref C) x = some (some (.ref f))) (i : PySem.W.isFn K (.ref f) = true) (l : K.lookup f = some ⟨oc, od, .func (PySem.W.fnOf x qual (defArgs st) (defBody st) (defScope st) .none kV dc pm an cd ct), sl⟩) (c : PySem.W.codeIn K cd qual = true) (k : PySem.W.keepIn K (.ref f) = true) :
    Mx K C x qual st f (PySem.W.fnOf x qual (defArgs st) (defBody st) (defScope st) .none kV dc pm an cd ct) := ⟨fun_mk l c k, ⟨a, i, k⟩⟩
theorem dfn {K : PySem.W.Frag} {mg : Str → Option Value} {x : Str} {st : Stmt} {f : Addr} {fd : FuncData} {ps : List Str} (D : Dx K mg x st f fd) (b : Binds K fd ps []) : DFn K mg x st ps := ⟨f, fd, D.F, b, D.F.kp, D.m⟩
theorem kit_me {K : PySem.W.Frag} {C : Addr} : PySem.W.kitOne K (.ref C) (.ref C) = some true := by
  unfold PySem.W.kitOne
  rw [if_pos (beq_self_eq_true _)]
theorem sq_const {K : PySem.W.Frag} {H : Hp} {a : Addr} {xs : List V} {od : Option Addr} {its : Array Value} {n : Nat} {sl : Array (Option Value)} (l : K.lookup a = some ⟨.type "tuple", od, .seq its n, sl⟩) (h : its.size ≤ sizeLine) (v : Vals xs its.toList) : SqT K H a xs :=
  .inr ⟨_, its, n, l, rfl, rfl, h, v⟩
theorem kit_noR {K : PySem.W.Frag} {n : String} {C : Addr} (h1 : PySem.W.isClsIn K C = true) (h2 : PySem.W.typeIn K (.ref C) = some (.type "type")) (h3 : PySem.W.subIn K (.type n) (.ref C) = some false) : PySem.W.kitOne K (.type n) (.ref C) = some false := by
  unfold PySem.W.kitOne
  rw [if_neg (by intro e; cases (beq_iff_eq.mp e))]
  show (if ((PySem.W.clsIn K C).isSome && PySem.W.typeIn K (.ref C) == some (.type "type")) = true then PySem.W.subIn K (.type n) (.ref C) else none) = _
  have c1 : (PySem.W.clsIn K C).isSome = true := h1
  rw [if_pos (by rw [c1, h2] <;> rfl)]
  exact h3
theorem kit_noT {K : PySem.W.Frag} {C : Addr} {T : String} (h1 : PySem.W.kitMeta T = true) (h3 : PySem.W.subIn K (.ref C) (.type T) = some false) : PySem.W.kitOne K (.ref C) (.type T) = some false := by
  unfold PySem.W.kitOne
  rw [if_neg (by intro e; cases (beq_iff_eq.mp e))]
  show (if PySem.W.kitMeta T = true then PySem.W.subIn K (.ref C) (.type T) else none) = _
  rw [if_pos h1]
  exact h3
theorem fsubS (K : PySem.W.Frag) (C : Addr) : PySem.W.subIn K (.type "str") (.ref C) = some false := by kernel_rfl
theorem fsubT (K : PySem.W.Frag) (C : Addr) : PySem.W.subIn K (.type "tuple") (.ref C) = some false := by kernel_rfl
section
variable {P : Program} {w : World} {K : PySem.W.Frag} {mg : Str → Option Value} {base : Heap} {f C fI : Addr} {fd : FuncData}
theorem ca_sames (D : DFn K mg "_law_same" sSame ["_law_found", "_law_due"]) (B : Bt mg) : ∀ n : Nat, Ca P w K mg base n "_law_same" ["_law_found", "_law_due"] (spSame K n)
  | 0 => D.ca fun f fd F => none_left fun vs H Q E ⟨_, _, _, h, _⟩ => h
  | n + 1 => by
    obtain ⟨g, gd, F, b, k, m⟩ := D.ex
    have all : ∀ n : Nat, FnOk P w K mg base CX0 n g gd ["_law_found", "_law_due"] (spSame K n) := fun n => by
      induction n with
      | zero => exact none_left fun vs H Q E ⟨_, _, _, h, _⟩ => h
      | succ n ih => exact ok_same F ih b k m B
    exact ⟨g, gd, all (n + 1), b, k, m⟩
end
/-- an own error class and its __init__, as the top leaves them -/
structure Tx (K : PySem.W.Frag) (mg : Str → Option Value) (x qual fld : Str) (st : Stmt) (C fI : Addr) (fd : FuncData) : Prop where
  T : Er K mg C fI x fld
  xf : XfC K C
  ty : PySem.W.typeIn K (.ref C) = some (.type "type")
  F : Fun K "__init__" qual st fI fd
theorem tx_mk {K : PySem.W.Frag} {h : Heap} {mg : Str → Option Value} {x qual fld : Str} {st : Stmt} {C fI Wk : Addr} (X : K.In h) (G : h.Ns mainGlobals mg)
    {nm q : Str} {N : Addr} {bs : List Value} {sn : List Str} {sub : List Value} {ab : Bool} {col : Option Bool} {dd od an : Option Addr} {m0 m1 m2 m3 m5 : Option Value} {sl : Array (Option Value)} {oc kV dc pm cd ct : Value}
    (aC : PySem.W.nsIn K mainGlobals x = some (some (.ref C)))
    (xL : K.lookup C = some (excClassObj nm q C N bs [.ref Wk, .type "ValueError", .type "Exception", .type "BaseException", .type "object"] true sn sub ab col dd m0 m1 m2 m3 m5 "ValueError.__new__"))
    (sa : PySem.W.findIn K (.ref C) "__setattr__" = some (some (.builtin "object.__setattr__"))) (ga : PySem.W.findIn K (.ref C) "__getattribute__" = some (some (.builtin "BaseException.__getattribute__"))) (gg : PySem.W.findIn K (.ref C) "__getattr__" = some none)
    (no : PySem.W.findIn K (.ref C) fld = some none) (a1 : PySem.W.findIn K (.ref C) "__init__" = some (some (.ref fI))) (t1 : PySem.W.typeIn K (.ref fI) = some (.type "function"))
    (l1 : K.lookup fI = some ⟨oc, od, .func (PySem.W.fnOf "__init__" qual (defArgs st) (defBody st) (defScope st) .none kV dc pm an cd ct), sl⟩) (c1 : PySem.W.codeIn K cd qual = true) (k1 : PySem.W.keepIn K (.ref fI) = true)
    (kC : PySem.W.keepIn K (.ref C) = true) (eC : PySem.W.subIn K (.ref C) (.type "BaseException") = some true) (tC : PySem.W.typeIn K (.ref C) = some (.type "type")) (hC : PySem.W.hasDictIn K C = true) :
    Tx K mg x qual fld st C fI (PySem.W.fnOf "__init__" qual (defArgs st) (defBody st) (defScope st) .none kV dc pm an cd ct) where
  T := { ox := { cls := ⟨nm, q, N, bs, _, sn, sub, ab, col, dd, m0, m1, m2, m3, m5, xL, by show PySem.HandSPX.refsVE PySem.HandSPX.veTail = true; decide +kernel⟩, sa := sa, exC := eC, tyC := tC, kC := kC }, ini := a1, ty := t1, no := no, m := PySem.W.mg_of X G aC }
  xf := ⟨ga, gg, eC, hC⟩
  ty := tC
  F := fun_mk l1 c1 k1
theorem all_mk {l : PySem.W.OpenLaw} {w : World} {K : PySem.W.Frag} {h : Heap} {mg : Str → Option Value} {fa : Addr} (X : K.In h) (G : h.Ns mainGlobals mg) (hfa : mg "law" = some (.ref fa)) (own : OwnTab K fa h)
    {fL cL P0 fRf C fI pT gT LA TA1 TA2 TA3 SG FG AK gra WE BN iB RL iR f_is_whole f_frozen f_ascending f_number f_access f_check_letters f_check_expression f_operand_of f_joined f_is_allowed f_numbered f_part_text f_text_of f__law_draw f__law_start f__law_pick f__law_same f__law_access_text f__law_access o_add o_floordiv o_pow o_lshift o_rshift : Addr} {dB dR d_is_whole d_frozen d_ascending d_number d_access d_check_letters d_check_expression d_operand_of d_joined d_is_allowed d_numbered d_part_text d_text_of d__law_draw d__law_start d__law_pick d__law_same d__law_access_text d__law_access p_add p_floordiv p_pow p_lshift p_rshift : FuncData} {cd1 cd3 cd7 ct0 ct1 ct3 ct7 dc0 dc1 dc3 dc7 kV0 kV1 kV3 kV7 oc0 oc1 oc2 oc3 oc7 pm0 pm1 pm3 pm7 : Value} {an0 an1 an3 an7 od0 od1 od2 od3 od7 od9 ot1 ot2 ot3 : Option Addr} {sl0 sl1 sl2 sl3 sl7 sl9 st1 st2 st3 : Array (Option Value)} {uf_inverse uf_negative us_both us_either us_left us_minus us_plus us_power us_quotient us_right us_times us_unlike : Tok} {vs1 its9 it1 it2 it3 : Array Value} {n9 nt1 nt2 nt3 en nS0 nF0 : Nat} {es eS eF : Array DictEntry} {rest7 : List Value}
    (lA : PySem.W.nsIn K mainGlobals "law" = some (some (.ref fL)))
    (lL : K.lookup fL = some ⟨oc0, od0, .func (PySem.W.fnOf "law" "law" (defArgs s_law) (defBody s_law) (defScope s_law) .none kV0 dc0 pm0 an0 (.ref cL) ct0), sl0⟩)
    (lC : PySem.W.codeIn K (.ref cL) "law" = true)
    (lK : K.lookup cL = some ⟨oc2, od2, .fields vs1, sl2⟩)
    (lV : vs1[11]? = some (.ref P0))
    (lH : PySem.W.codeHdIn K cL P0 = true)
    (lN : K.lookup P0 = none)
    (rA : PySem.W.nsIn K mainGlobals "_law_end" = some (some (.ref fRf)))
    (rL : K.lookup fRf = some ⟨oc3, od3, .func (PySem.W.fnOf "_law_end" "_law_end" (defArgs s_l_end) (defBody s_l_end) (defScope s_l_end) .none kV3 dc3 pm3 an3 cd3 ct3), sl3⟩)
    (rC : PySem.W.codeIn K cd3 "_law_end" = true)
    (rK : PySem.W.keepIn K (.ref fRf) = true)
    (aC : PySem.W.nsIn K mainGlobals "Expression" = some (some (.ref C)))
    (a1 : PySem.W.findIn K (.ref C) "__init__" = some (some (.ref fI)))
    (i1 : PySem.W.isFn K (.ref fI) = true)
    (l1 : K.lookup fI = some ⟨oc1, od1, .func (PySem.W.fnOf "__init__" "Expression.__init__" (defArgs sXini) (defBody sXini) (defScope sXini) .none kV1 dc1 pm1 an1 cd1 ct1), sl1⟩)
    (c1 : PySem.W.codeIn K cd1 "Expression.__init__" = true)
    (k1 : PySem.W.keepIn K (.ref fI) = true)
    (mk : PySem.W.makesIn K C = true)
    (kC : PySem.W.keepIn K (.ref C) = true)
    (pg : PySem.W.plainGet K C Str.empty = true)
    (hd : PySem.W.hasDictIn K C = true)
    (po : PySem.W.plainOver K C = true)
    (sa : PySem.W.findIn K (.ref C) "__setattr__" = some (some (.builtin "object.__setattr__")))
    (nK : PySem.W.findIn K (.ref C) "kind" = some none)
    (nP : PySem.W.findIn K (.ref C) "parts" = some none)
    (nN : PySem.W.findIn K (.ref C) "node_count" = some none)
    (nA : PySem.W.findIn K (.ref C) "accesses" = some none)
    (nL : PySem.W.findIn K (.ref C) "letters" = some none)
    (e4 : PySem.W.findIn K (.ref C) "__class__" = some (some (.builtin "object.__class__")))
    (e5 : PySem.W.specialIn K (.builtin "object.__class__") "__get__" = some (some (.builtin "getset_descriptor.__get__")))
    (e6 : PySem.W.takesIn K (.builtin "object.__class__") = some true)
    (e7 : PySem.W.mroIn K C (.type "object") = some true)
    (ic : PySem.W.isClsIn K C = true)
    (ty : PySem.W.typeIn K (.ref C) = some (.type "type"))
    (si : PySem.W.subIn K (.ref C) (.type "int") = some false)
    (ss : PySem.W.subIn K (.ref C) (.type "str") = some false)
    (st : PySem.W.subIn K (.ref C) (.type "tuple") = some false)
    (t1 : PySem.W.findIn K (.ref C) "text" = some (some (.ref pT)))
    (t2 : PySem.W.specialIn K (.ref pT) "__get__" = some (some (.builtin "property.__get__")))
    (t4 : PySem.W.takesIn K (.ref pT) = some true)
    (t5 : PySem.W.recIn K pT "property" = some (.ref gT :: rest7))
    (t6 : K.lookup gT = some ⟨oc7, od7, .func (PySem.W.fnOf "text" "Expression.text" (defArgs s_text) (defBody s_text) (defScope s_text) .none kV7 dc7 pm7 an7 cd7 ct7), sl7⟩)
    (t7 : PySem.W.codeIn K cd7 "Expression.text" = true)
    (t8 : PySem.W.keepIn K (.ref gT) = true)
    (aL : PySem.W.nsIn K mainGlobals "LIMITS" = some (some (.ref LA)))
    (ll : K.lookup LA = some ⟨.type "dict", none, .dict es en, #[]⟩)
    (lke : PySem.W.KeysLit w.params es.toList)
    (lo : (LA == sysModules) = false)
    (nq : PySem.W.nsIn K LA "quotient" = some none)
    (p1 : PySem.W.nsIn K LA "power" = some (some (.ref TA1)))
    (tl1 : K.lookup TA1 = some ⟨.type "tuple", ot1, .seq it1 nt1, st1⟩)
    (z1 : it1.size ≤ sizeLine)
    (v1 : Vals [V.int 1, V.int 4] it1.toList)
    (p2 : PySem.W.nsIn K LA "left" = some (some (.ref TA2)))
    (tl2 : K.lookup TA2 = some ⟨.type "tuple", ot2, .seq it2 nt2, st2⟩)
    (z2 : it2.size ≤ sizeLine)
    (v2 : Vals [V.int 0, V.int 60] it2.toList)
    (p3 : PySem.W.nsIn K LA "right" = some (some (.ref TA3)))
    (tl3 : K.lookup TA3 = some ⟨.type "tuple", ot3, .seq it3 nt3, st3⟩)
    (z3 : it3.size ≤ sizeLine)
    (v3 : Vals [V.int 0, V.int 60] it3.toList)
    (sS : PySem.W.nsIn K mainGlobals "SIGNS" = some (some (.ref SG)))
    (sL : K.lookup SG = some ⟨.type "dict", none, .dict eS nS0, #[]⟩)
    (sK : PySem.W.KeysLit w.params eS.toList)
    (sO : (SG == sysModules) = false)
    (fS : PySem.W.nsIn K mainGlobals "FRONT_SIGNS" = some (some (.ref FG)))
    (fL_ : K.lookup FG = some ⟨.type "dict", none, .dict eF nF0, #[]⟩)
    (fK : PySem.W.KeysLit w.params eF.toList)
    (fO_ : (FG == sysModules) = false)
    (fr_plus : PySem.W.nsIn K FG "plus" = some none)
    (sg_plus : PySem.W.nsIn K SG "plus" = some (some (.str "+" us_plus)))
    (fr_minus : PySem.W.nsIn K FG "minus" = some none)
    (sg_minus : PySem.W.nsIn K SG "minus" = some (some (.str "-" us_minus)))
    (fr_times : PySem.W.nsIn K FG "times" = some none)
    (sg_times : PySem.W.nsIn K SG "times" = some (some (.str "*" us_times)))
    (fr_both : PySem.W.nsIn K FG "both" = some none)
    (sg_both : PySem.W.nsIn K SG "both" = some (some (.str "&" us_both)))
    (fr_either : PySem.W.nsIn K FG "either" = some none)
    (sg_either : PySem.W.nsIn K SG "either" = some (some (.str "|" us_either)))
    (fr_unlike : PySem.W.nsIn K FG "unlike" = some none)
    (sg_unlike : PySem.W.nsIn K SG "unlike" = some (some (.str "^" us_unlike)))
    (fr_greater : PySem.W.nsIn K FG "greater" = some none)
    (sg_greater : PySem.W.nsIn K SG "greater" = some none)
    (fr_lesser : PySem.W.nsIn K FG "lesser" = some none)
    (sg_lesser : PySem.W.nsIn K SG "lesser" = some none)
    (fr_below : PySem.W.nsIn K FG "below" = some none)
    (sg_below : PySem.W.nsIn K SG "below" = some none)
    (fr_at_most : PySem.W.nsIn K FG "at_most" = some none)
    (sg_at_most : PySem.W.nsIn K SG "at_most" = some none)
    (fr_equal : PySem.W.nsIn K FG "equal" = some none)
    (sg_equal : PySem.W.nsIn K SG "equal" = some none)
    (fr_unequal : PySem.W.nsIn K FG "unequal" = some none)
    (sg_unequal : PySem.W.nsIn K SG "unequal" = some none)
    (fr_quotient : PySem.W.nsIn K FG "quotient" = some none)
    (sg_quotient : PySem.W.nsIn K SG "quotient" = some (some (.str "//" us_quotient)))
    (fr_remainder : PySem.W.nsIn K FG "remainder" = some none)
    (sg_remainder : PySem.W.nsIn K SG "remainder" = some none)
    (fr_power : PySem.W.nsIn K FG "power" = some none)
    (sg_power : PySem.W.nsIn K SG "power" = some (some (.str "**" us_power)))
    (fr_left : PySem.W.nsIn K FG "left" = some none)
    (sg_left : PySem.W.nsIn K SG "left" = some (some (.str "<<" us_left)))
    (fr_right : PySem.W.nsIn K FG "right" = some none)
    (sg_right : PySem.W.nsIn K SG "right" = some (some (.str ">>" us_right)))
    (fr_negative : PySem.W.nsIn K FG "negative" = some (some (.str "-" uf_negative)))
    (sg_negative : PySem.W.nsIn K SG "negative" = some none)
    (fr_inverse : PySem.W.nsIn K FG "inverse" = some (some (.str "~" uf_inverse)))
    (sg_inverse : PySem.W.nsIn K SG "inverse" = some none)
    (fr_absolute : PySem.W.nsIn K FG "absolute" = some none)
    (sg_absolute : PySem.W.nsIn K SG "absolute" = some none)
    (sf : PySem.W.selfFirst K C = true)
    (ra : PySem.W.findIn K (.ref C) "__radd__" = some (some (.ref gra)))
    (rr_floordiv : PySem.W.findIn K (.ref C) "__rfloordiv__" = some none)
    (rr_pow : PySem.W.findIn K (.ref C) "__rpow__" = some none)
    (rr_lshift : PySem.W.findIn K (.ref C) "__rlshift__" = some none)
    (rr_rshift : PySem.W.findIn K (.ref C) "__rrshift__" = some none)
    (aK : PySem.W.nsIn K mainGlobals "ASSIGNED_KINDS" = some (some (.ref AK)))
    (al : K.lookup AK = some ⟨.type "tuple", od9, .seq its9 n9, sl9⟩)
    (az : its9.size ≤ sizeLine)
    (av : Vals [V.str "gain", V.str "loss"] its9.toList)
    (wW : PySem.W.nsIn K mainGlobals "WalkError" = some (some (.ref WE)))
    (xs : PySem.W.subIn K (.ref BN) (.ref BN) = some true)
    (xt : PySem.W.subIn K (.ref RL) (.ref BN) = some false)
    (xu : PySem.W.subIn K (.ref RL) (.ref RL) = some true)
    (z_isinstance : PySem.W.nsIn K mainGlobals "isinstance" = some none)
    (z_list : PySem.W.nsIn K mainGlobals "list" = some none)
    (z_tuple : PySem.W.nsIn K mainGlobals "tuple" = some none)
    (z_len : PySem.W.nsIn K mainGlobals "len" = some none)
    (z_all : PySem.W.nsIn K mainGlobals "all" = some none)
    (z_zip : PySem.W.nsIn K mainGlobals "zip" = some none)
    (z_dict : PySem.W.nsIn K mainGlobals "dict" = some none)
    (z_int : PySem.W.nsIn K mainGlobals "int" = some none)
    (z_bool : PySem.W.nsIn K mainGlobals "bool" = some none)
    (z_range : PySem.W.nsIn K mainGlobals "range" = some none)
    (z_sum : PySem.W.nsIn K mainGlobals "sum" = some none)
    (z_set : PySem.W.nsIn K mainGlobals "set" = some none)
    (z_sorted : PySem.W.nsIn K mainGlobals "sorted" = some none)
    (z_enumerate : PySem.W.nsIn K mainGlobals "enumerate" = some none)
    (z_str : PySem.W.nsIn K mainGlobals "str" = some none)
    (D_is_whole : Dx K mg "is_whole" sWhole f_is_whole d_is_whole)
    (D_frozen : Dx K mg "frozen" sFrozen f_frozen d_frozen)
    (D_ascending : Dx K mg "ascending" sAsc f_ascending d_ascending)
    (D_number : Dx K mg "number" sNum f_number d_number)
    (D_access : Dx K mg "access" sAcc f_access d_access)
    (D_check_letters : Dx K mg "check_letters" sChkL f_check_letters d_check_letters)
    (D_check_expression : Dx K mg "check_expression" sChkE f_check_expression d_check_expression)
    (D_operand_of : Dx K mg "operand_of" sOpd f_operand_of d_operand_of)
    (D_joined : Dx K mg "joined" sJoin f_joined d_joined)
    (D_is_allowed : Dx K mg "is_allowed" sAlw f_is_allowed d_is_allowed)
    (D_numbered : Dx K mg "numbered" sNbd f_numbered d_numbered)
    (D_part_text : Dx K mg "part_text" sPtx f_part_text d_part_text)
    (D_text_of : Dx K mg "text_of" sTxt f_text_of d_text_of)
    (D__law_draw : Dx K mg "_law_draw" sDraw f__law_draw d__law_draw)
    (D__law_start : Dx K mg "_law_start" sStart f__law_start d__law_start)
    (D__law_pick : Dx K mg "_law_pick" sPick f__law_pick d__law_pick)
    (D__law_same : Dx K mg "_law_same" sSame f__law_same d__law_same)
    (D__law_access_text : Dx K mg "_law_access_text" s_l_access_text f__law_access_text d__law_access_text)
    (D__law_access : Dx K mg "_law_access" sLacc f__law_access d__law_access)
    (O_add : Mx K C "__add__" "Expression.__add__" s_add o_add p_add)
    (O_floordiv : Mx K C "__floordiv__" "Expression.__floordiv__" s_floordiv o_floordiv p_floordiv)
    (O_pow : Mx K C "__pow__" "Expression.__pow__" s_pow o_pow p_pow)
    (O_lshift : Mx K C "__lshift__" "Expression.__lshift__" s_lshift o_lshift p_lshift)
    (O_rshift : Mx K C "__rshift__" "Expression.__rshift__" s_rshift o_rshift p_rshift)
    (E_BN : Tx K mg "BadNumber" "BadNumber.__init__" "n" s_bn_init BN iB dB)
    (E_RL : Tx K mg "RepeatedLetter" "RepeatedLetter.__init__" "letter" s_rl_init RL iR dR)
    : LawAtS l w K CX0 10 63 "_law_script" mg fa h := by
  have e := hfa.symm.trans (PySem.W.mg_of X G lA)
  cases e
  have hh : PySem.W.CodeHd h cL P0 := PySem.W.codeHd_of_K X lH
  have own0 : h.get? P0 = some { cls := .none, data := .fields #[] } := own cL P0 _ _ _ _ vs1 _ lL rfl rfl lK lV
  have B : Bt mg := ⟨PySem.W.mg_none_of X G z_isinstance, PySem.W.mg_none_of X G z_list, PySem.W.mg_none_of X G z_tuple, PySem.W.mg_none_of X G z_len, PySem.W.mg_none_of X G z_all, PySem.W.mg_none_of X G z_zip, PySem.W.mg_none_of X G z_dict, PySem.W.mg_none_of X G z_int, PySem.W.mg_none_of X G z_bool, PySem.W.mg_none_of X G z_range⟩
  have B2 : Bx mg := ⟨PySem.W.mg_none_of X G z_sum, PySem.W.mg_none_of X G z_set, PySem.W.mg_none_of X G z_sorted, PySem.W.mg_none_of X G z_enumerate, PySem.W.mg_none_of X G z_str⟩
  have sI := kit_noR (n := "int") ic ty (fsub K C)
  have sS_ := kit_noR (n := "str") ic ty (fsubS K C)
  have sT := kit_noR (n := "tuple") ic ty (fsubT K C)
  have cI := kit_noT (T := "int") (by decide +kernel) si
  have T : Xc K mg C fI := { ic := ⟨⟨pg, hd, po, sa⟩, e4, e5, e6, e7, kit_me⟩, nK := nK, nP := nP, nN := nN, nA := nA, nL := nL, mkC := ⟨mk, a1, i1, kC⟩, mC := PySem.W.mg_of X G aC, sI := sI, sS := sS_, sT := sT, cI := cI }
  have Lx : Lc K w mg LA := ⟨PySem.W.mg_of X G aL, ⟨es, en, ll, lke, lo⟩, nq, fun k hk => by
    rcases hk with rfl | rfl | rfl
    · exact ⟨TA1, p1, fun H => by rw [if_pos rfl, if_pos rfl]; exact sq_const tl1 z1 v1⟩
    · exact ⟨TA2, p2, fun H => by rw [if_neg (kne _ _), if_neg (kne _ _)]; exact sq_const tl2 z2 v2⟩
    · exact ⟨TA3, p3, fun H => by rw [if_neg (kne _ _), if_neg (kne _ _)]; exact sq_const tl3 z3 v3⟩⟩
  have frA : ∀ k ∈ biK ++ nuK ++ unK, (frontL.lookup k = none ∧ PySem.W.nsIn K FG k = some none) ∨ ∃ z u, frontL.lookup k = some z ∧ PySem.W.nsIn K FG k = some (some u) ∧ RelV (.str z) u := by
    intro k hk
    simp only [biK, nuK, unK, List.cons_append, List.nil_append, List.mem_cons, List.not_mem_nil, or_false] at hk
    rcases hk with rfl | rfl | rfl | rfl | rfl | rfl | rfl | rfl | rfl | rfl | rfl | rfl | rfl | rfl | rfl | rfl | rfl | rfl | rfl | rfl
    · exact .inl ⟨by decide +kernel, fr_plus⟩
    · exact .inl ⟨by decide +kernel, fr_minus⟩
    · exact .inl ⟨by decide +kernel, fr_times⟩
    · exact .inl ⟨by decide +kernel, fr_both⟩
    · exact .inl ⟨by decide +kernel, fr_either⟩
    · exact .inl ⟨by decide +kernel, fr_unlike⟩
    · exact .inl ⟨by decide +kernel, fr_greater⟩
    · exact .inl ⟨by decide +kernel, fr_lesser⟩
    · exact .inl ⟨by decide +kernel, fr_below⟩
    · exact .inl ⟨by decide +kernel, fr_at_most⟩
    · exact .inl ⟨by decide +kernel, fr_equal⟩
    · exact .inl ⟨by decide +kernel, fr_unequal⟩
    · exact .inl ⟨by decide +kernel, fr_quotient⟩
    · exact .inl ⟨by decide +kernel, fr_remainder⟩
    · exact .inl ⟨by decide +kernel, fr_power⟩
    · exact .inl ⟨by decide +kernel, fr_left⟩
    · exact .inl ⟨by decide +kernel, fr_right⟩
    · exact .inr ⟨"-", _, by decide +kernel, fr_negative, ⟨_, rfl⟩⟩
    · exact .inr ⟨"~", _, by decide +kernel, fr_inverse, ⟨_, rfl⟩⟩
    · exact .inl ⟨by decide +kernel, fr_absolute⟩
  have sgA : ∀ k ∈ biK ++ nuK ++ unK, (signL.lookup k = none ∧ PySem.W.nsIn K SG k = some none) ∨ ∃ z u, signL.lookup k = some z ∧ PySem.W.nsIn K SG k = some (some u) ∧ RelV (.str z) u := by
    intro k hk
    simp only [biK, nuK, unK, List.cons_append, List.nil_append, List.mem_cons, List.not_mem_nil, or_false] at hk
    rcases hk with rfl | rfl | rfl | rfl | rfl | rfl | rfl | rfl | rfl | rfl | rfl | rfl | rfl | rfl | rfl | rfl | rfl | rfl | rfl | rfl
    · exact .inr ⟨"+", _, by decide +kernel, sg_plus, ⟨_, rfl⟩⟩
    · exact .inr ⟨"-", _, by decide +kernel, sg_minus, ⟨_, rfl⟩⟩
    · exact .inr ⟨"*", _, by decide +kernel, sg_times, ⟨_, rfl⟩⟩
    · exact .inr ⟨"&", _, by decide +kernel, sg_both, ⟨_, rfl⟩⟩
    · exact .inr ⟨"|", _, by decide +kernel, sg_either, ⟨_, rfl⟩⟩
    · exact .inr ⟨"^", _, by decide +kernel, sg_unlike, ⟨_, rfl⟩⟩
    · exact .inl ⟨by decide +kernel, sg_greater⟩
    · exact .inl ⟨by decide +kernel, sg_lesser⟩
    · exact .inl ⟨by decide +kernel, sg_below⟩
    · exact .inl ⟨by decide +kernel, sg_at_most⟩
    · exact .inl ⟨by decide +kernel, sg_equal⟩
    · exact .inl ⟨by decide +kernel, sg_unequal⟩
    · exact .inr ⟨"//", _, by decide +kernel, sg_quotient, ⟨_, rfl⟩⟩
    · exact .inl ⟨by decide +kernel, sg_remainder⟩
    · exact .inr ⟨"**", _, by decide +kernel, sg_power, ⟨_, rfl⟩⟩
    · exact .inr ⟨"<<", _, by decide +kernel, sg_left, ⟨_, rfl⟩⟩
    · exact .inr ⟨">>", _, by decide +kernel, sg_right, ⟨_, rfl⟩⟩
    · exact .inl ⟨by decide +kernel, sg_negative⟩
    · exact .inl ⟨by decide +kernel, sg_inverse⟩
    · exact .inl ⟨by decide +kernel, sg_absolute⟩
  have Sx : Sg K w mg SG FG := ⟨PySem.W.mg_of X G sS, PySem.W.mg_of X G fS, ⟨eS, nS0, sL, sK, sO⟩, ⟨eF, nF0, fL_, fK, fO_⟩, frA, sgA⟩
  have Fi : Fun K "__init__" "Expression.__init__" sXini fI _ := fun_mk l1 c1 k1
  have bI := Fi.binds (ps := ["self", "kind", "parts"]) fun _ _ _ _ _ _ us hl => match us, hl with | [_, _, _], _ => rfl
  have Ft : Fun K "text" "Expression.text" s_text gT _ := fun_mk t6 t7 t8
  have bT := Ft.binds (ps := ["self"]) fun _ _ _ _ _ _ us hl => match us, hl with | [_], _ => rfl
  have FRf : Fun K "_law_end" "_law_end" s_l_end fRf _ := fun_mk rL rC rK
  have bRf := FRf.binds (ps := ["_law_deed"]) fun _ _ _ _ _ _ us hl => match us, hl with | [_], _ => rfl
  have b_is_whole := D_is_whole.F.binds (ps := ["n"]) fun _ _ _ _ _ _ us hl => match us, hl with | [_], _ => rfl
  have N_is_whole : DFn K mg "is_whole" sWhole ["n"] := dfn D_is_whole b_is_whole
  have b_frozen := D_frozen.F.binds (ps := ["worth"]) fun _ _ _ _ _ _ us hl => match us, hl with | [_], _ => rfl
  have N_frozen : DFn K mg "frozen" sFrozen ["worth"] := dfn D_frozen b_frozen
  have b_ascending := D_ascending.F.binds (ps := ["names"]) fun _ _ _ _ _ _ us hl => match us, hl with | [_], _ => rfl
  have N_ascending : DFn K mg "ascending" sAsc ["names"] := dfn D_ascending b_ascending
  have b_number := D_number.F.binds (ps := ["n"]) fun _ _ _ _ _ _ us hl => match us, hl with | [_], _ => rfl
  have N_number : DFn K mg "number" sNum ["n"] := dfn D_number b_number
  have b_check_letters := D_check_letters.F.binds (ps := ["letters"]) fun _ _ _ _ _ _ us hl => match us, hl with | [_], _ => rfl
  have N_check_letters : DFn K mg "check_letters" sChkL ["letters"] := dfn D_check_letters b_check_letters
  have b_check_expression := D_check_expression.F.binds (ps := ["x"]) fun _ _ _ _ _ _ us hl => match us, hl with | [_], _ => rfl
  have N_check_expression : DFn K mg "check_expression" sChkE ["x"] := dfn D_check_expression b_check_expression
  have b_operand_of := D_operand_of.F.binds (ps := ["x"]) fun _ _ _ _ _ _ us hl => match us, hl with | [_], _ => rfl
  have N_operand_of : DFn K mg "operand_of" sOpd ["x"] := dfn D_operand_of b_operand_of
  have b_joined := D_joined.F.binds (ps := ["kind", "x", "y"]) fun _ _ _ _ _ _ us hl => match us, hl with | [_, _, _], _ => rfl
  have N_joined : DFn K mg "joined" sJoin ["kind", "x", "y"] := dfn D_joined b_joined
  have b_is_allowed := D_is_allowed.F.binds (ps := ["kind", "n"]) fun _ _ _ _ _ _ us hl => match us, hl with | [_, _], _ => rfl
  have N_is_allowed : DFn K mg "is_allowed" sAlw ["kind", "n"] := dfn D_is_allowed b_is_allowed
  have b_numbered := D_numbered.F.binds (ps := ["kind", "x", "n"]) fun _ _ _ _ _ _ us hl => match us, hl with | [_, _, _], _ => rfl
  have N_numbered : DFn K mg "numbered" sNbd ["kind", "x", "n"] := dfn D_numbered b_numbered
  have b_part_text := D_part_text.F.binds (ps := ["part"]) fun _ _ _ _ _ _ us hl => match us, hl with | [_], _ => rfl
  have N_part_text : DFn K mg "part_text" sPtx ["part"] := dfn D_part_text b_part_text
  have b_text_of := D_text_of.F.binds (ps := ["expression"]) fun _ _ _ _ _ _ us hl => match us, hl with | [_], _ => rfl
  have N_text_of : DFn K mg "text_of" sTxt ["expression"] := dfn D_text_of b_text_of
  have b__law_draw := D__law_draw.F.binds (ps := ["_law_stream", "_law_many"]) fun _ _ _ _ _ _ us hl => match us, hl with | [_, _], _ => rfl
  have N__law_draw : DFn K mg "_law_draw" sDraw ["_law_stream", "_law_many"] := dfn D__law_draw b__law_draw
  have b__law_start := D__law_start.F.binds (ps := ["_law_script"]) fun _ _ _ _ _ _ us hl => match us, hl with | [_], _ => rfl
  have N__law_start : DFn K mg "_law_start" sStart ["_law_script"] := dfn D__law_start b__law_start
  have b__law_pick := D__law_pick.F.binds (ps := ["_law_stream", "_law_some"]) fun _ _ _ _ _ _ us hl => match us, hl with | [_, _], _ => rfl
  have N__law_pick : DFn K mg "_law_pick" sPick ["_law_stream", "_law_some"] := dfn D__law_pick b__law_pick
  have b__law_same := D__law_same.F.binds (ps := ["_law_found", "_law_due"]) fun _ _ _ _ _ _ us hl => match us, hl with | [_, _], _ => rfl
  have N__law_same : DFn K mg "_law_same" sSame ["_law_found", "_law_due"] := dfn D__law_same b__law_same
  have b__law_access_text := D__law_access_text.F.binds (ps := ["_law_name", "_law_letters"]) fun _ _ _ _ _ _ us hl => match us, hl with | [_, _], _ => rfl
  have N__law_access_text : DFn K mg "_law_access_text" s_l_access_text ["_law_name", "_law_letters"] := dfn D__law_access_text b__law_access_text
  have b__law_access := D__law_access.F.binds (ps := ["_law_name", "_law_letters"]) fun _ _ _ _ _ _ us hl => match us, hl with | [_, _], _ => rfl
  have N__law_access : DFn K mg "_law_access" sLacc ["_law_name", "_law_letters"] := dfn D__law_access b__law_access
  have b_add_ := O_add.F.binds (ps := ["self", "other"]) fun _ _ _ _ _ _ us hl => match us, hl with | [_, _], _ => rfl
  have b_floordiv_ := O_floordiv.F.binds (ps := ["self", "other"]) fun _ _ _ _ _ _ us hl => match us, hl with | [_, _], _ => rfl
  have b_pow_ := O_pow.F.binds (ps := ["self", "other"]) fun _ _ _ _ _ _ us hl => match us, hl with | [_, _], _ => rfl
  have b_lshift_ := O_lshift.F.binds (ps := ["self", "other"]) fun _ _ _ _ _ _ us hl => match us, hl with | [_, _], _ => rfl
  have b_rshift_ := O_rshift.F.binds (ps := ["self", "other"]) fun _ _ _ _ _ _ us hl => match us, hl with | [_, _], _ => rfl
  have b_BN := E_BN.F.binds (ps := ["self", "n"]) fun _ _ _ _ _ _ us hl => match us, hl with | [_, _], _ => rfl
  have b_RL := E_RL.F.binds (ps := ["self", "letter"]) fun _ _ _ _ _ _ us hl => match us, hl with | [_, _], _ => rfl
  refine ⟨_, [(cL, P0)], spLaw K P0, fun p hp => ?_, fun p hp => ?_, fun p hp => ?_, fun s v => .of_eq (fd := PySem.W.fnOf "law" "law" (defArgs s_law) (defBody s_law) (defScope s_law) .none kV0 dc0 pm0 an0 (.ref cL) ct0) rfl, fun H a ns hl _ hT hS => ⟨a, ns, rfl, hS, hl, hT (cL, P0) (List.mem_singleton.mpr rfl), fun _ => rfl⟩, fun base _ _ hTB => ?_⟩
  · rw [List.mem_singleton.mp hp]
    exact own0
  · rw [List.mem_singleton.mp hp]
    exact lN
  · rw [List.mem_singleton.mp hp]
    exact hh
  have GD := ok_draw (P := l.prog) (w := w) (base := base) D__law_draw.F B
  have CD : Ca l.prog w K mg base 1 "_law_draw" ["_law_stream", "_law_many"] spDraw := N__law_draw.ca fun f fd F => ok_draw F B
  have CS : Ca l.prog w K mg base 1 "_law_start" ["_law_script"] (spStart K) := N__law_start.ca fun f fd F => ok_start F B
  have CP : Ca l.prog w K mg base 2 "_law_pick" ["_law_stream", "_law_some"] (spPick K) := N__law_pick.ca fun f fd F => ok_pick F GD b__law_draw D__law_draw.F.kp D__law_draw.m B
  have CPs : Ca l.prog w K mg base 2 "_law_pick" ["_law_stream", "_law_some"] spPickS := N__law_pick.ca fun f fd F => ok_pickS F GD b__law_draw D__law_draw.F.kp D__law_draw.m B
  have CX : Ca l.prog w K mg base 1 "_law_access_text" ["_law_name", "_law_letters"] (spLatL K) := N__law_access_text.ca fun f fd F => ok_latL F
  have GZ := ok_asc (P := l.prog) (w := w) (base := base) D_ascending.F B B2
  have FI : XI l.prog w K mg base C fI _ := ok_xini Fi T B B2 GZ b_ascending D_ascending.F.kp D_ascending.m
  have GN := ok_num D_number.F T FI bI
  have CN : Ca l.prog w K mg base 4 "number" ["n"] (spNum K C) := ⟨_, _, GN, b_number, D_number.F.kp, D_number.m⟩
  have GCl := ok_chkL (P := l.prog) (w := w) (base := base) D_check_letters.F B2
  have GA := ok_acc D_access.F T B FI bI GCl b_check_letters D_check_letters.F.kp D_check_letters.m
  have GFr := ok_frV (P := l.prog) (w := w) (base := base) D_frozen.F B
  have FB := ok_bn E_BN.F E_BN.T GFr b_frozen D_frozen.F.kp D_frozen.m
  have FR := ok_rl E_RL.F E_RL.T GFr b_frozen D_frozen.F.kp D_frozen.m
  have GClx := ok_chX (P := l.prog) (w := w) (base := base) D_check_letters.F B2 E_RL.T FR b_RL
  have GAx := ok_accX D_access.F T B FI bI GClx b_check_letters D_check_letters.F.kp D_check_letters.m
  have GL := ok_laccX D__law_access.F B GAx D_access.F.kp D_access.m
  have Kx : Kc K mg AK := ⟨PySem.W.mg_of X G aK, fun H => sq_const al az av⟩
  have GW := ok_whole (P := l.prog) (w := w) (base := base) D_is_whole.F B T
  have GE := ok_chkE (P := l.prog) (w := w) (base := base) D_check_expression.F T Kx
  have GOp := ok_opd D_operand_of.F T B GW b_is_whole D_is_whole.F.kp D_is_whole.m GN b_number D_number.F.kp D_number.m GE b_check_expression D_check_expression.F.kp D_check_expression.m
  have GJ := ok_join D_joined.F T FI bI GOp b_operand_of D_operand_of.F.kp D_operand_of.m
  have J : Jn l.prog w K mg base C f_joined d_joined := ⟨GJ, b_joined, D_joined.F.kp, D_joined.m⟩
  have GNb := ok_nbX D_numbered.F T FI bI GW b_is_whole D_is_whole.F.kp D_is_whole.m (ok_alw D_is_allowed.F Lx) (ok_al0 D_is_allowed.F Lx) b_is_allowed D_is_allowed.F.kp D_is_allowed.m GOp b_operand_of D_operand_of.F.kp D_operand_of.m E_BN.T FB b_BN
  have Nx : NbX l.prog w K mg base C BN f_numbered d_numbered := ⟨GNb, b_numbered, D_numbered.F.kp, D_numbered.m⟩
  have CTx : Ca l.prog w K mg base 6 "text_of" ["expression"] (spTxt K C 3) := ok_txts N_text_of N_part_text B B2 T Sx 3
  have GT := ok_text Ft CTx
  have R : En K mg BN RL WE := { mB := E_BN.T.m, mR := E_RL.T.m, mW := PySem.W.mg_of X G wW, xB := E_BN.xf, xR := E_RL.xf, nB := E_BN.T.no, nR := E_RL.T.no, m1 := PySem.W.exm_ref E_BN.xf.exC E_BN.xf.hdC E_BN.ty xs, m2 := PySem.W.exm_ref E_BN.xf.exC E_BN.xf.hdC E_BN.ty xt, m3 := PySem.W.exm_ref E_RL.xf.exC E_RL.xf.hdC E_RL.ty xu }
  exact ok_law lL lC B B2 T R CS (ca_sames N__law_same B 5) CD CP CPs CX CN GA D_access.F.kp D_access.m GL b__law_access D__law_access.F.kp D__law_access.m sf ⟨O_add.o.at_, O_add.o.fn⟩ ra (ok_add O_add.F J) b_add_
    ⟨_, _, ⟨O_floordiv.o.at_, O_floordiv.o.fn⟩, rr_floordiv, okx_floordiv O_floordiv.F Nx, b_floordiv_⟩ ⟨_, _, ⟨O_pow.o.at_, O_pow.o.fn⟩, rr_pow, okx_pow O_pow.F Nx, b_pow_⟩ ⟨_, _, ⟨O_lshift.o.at_, O_lshift.o.fn⟩, rr_lshift, okx_lshift O_lshift.F Nx, b_lshift_⟩ ⟨_, _, ⟨O_rshift.o.at_, O_rshift.o.fn⟩, rr_rshift, okx_rshift O_rshift.F Nx, b_rshift_⟩
    rL rC bRf rK (PySem.W.mg_of X G rA) ⟨t1, t2, t4, ⟨_, t5⟩⟩ GT bT (hTB (cL, P0) (List.mem_singleton.mpr rfl))
end Lw
open PySem PySem.W PyProof.Rows
set_option maxRecDepth 100000 in
set_option maxHeartbeats 0 in
theorem PySem.Challenge.cw_levelwalks_k19_numbers_refused_holds : PySem.Challenge.rw_levelwalks_k19_numbers_refused.Holds := by
  w_on; o_law; k_head; (case hw => w_witness2)
  k_fill
  refine LamX.walk_ofOwn (l := PySem.Challenge.rw_levelwalks_k19_numbers_refused) (n := 63) (k := 10) (x := "_law_script") (CX := fun _ => L2.CX0) rfl (by decide) rfl ⟨rfl, by decide, by decide⟩ (by decide +kernel) (fun w h Y => PySem.W.km_in_of Y) ?F (fun _ _ _ _ _ z => z)
  case F =>
    intro w mg fa h Y KX G hmg own
    refine' Lw.all_mk KX G hmg own ?lA ?lL ?lC ?lK ?lV ?lH ?lN ?rA ?rL ?rC ?rK ?aC ?a1 ?i1 ?l1 ?c1 ?k1 ?mk ?kC ?pg ?hd ?po ?sa ?nK ?nP ?nN ?nA ?nL ?e4 ?e5 ?e6 ?e7 ?ic ?ty ?si ?ss ?st ?t1 ?t2 ?t4 ?t5 ?t6 ?t7 ?t8 ?aL ?ll ?lke ?lo ?nq ?p1 ?tl1 ?z1 ?v1 ?p2 ?tl2 ?z2 ?v2 ?p3 ?tl3 ?z3 ?v3 ?sS ?sL ?sK ?sO ?fS ?fL_ ?fK ?fO_ ?fr_plus ?sg_plus ?fr_minus ?sg_minus ?fr_times ?sg_times ?fr_both ?sg_both ?fr_either ?sg_either ?fr_unlike ?sg_unlike ?fr_greater ?sg_greater ?fr_lesser ?sg_lesser ?fr_below ?sg_below ?fr_at_most ?sg_at_most ?fr_equal ?sg_equal ?fr_unequal ?sg_unequal ?fr_quotient ?sg_quotient ?fr_remainder ?sg_remainder ?fr_power ?sg_power ?fr_left ?sg_left ?fr_right ?sg_right ?fr_negative ?sg_negative ?fr_inverse ?sg_inverse ?fr_absolute ?sg_absolute ?sf ?ra ?rr_floordiv ?rr_pow ?rr_lshift ?rr_rshift ?aK ?al ?az ?av ?wW ?xs ?xt ?xu ?z_isinstance ?z_list ?z_tuple ?z_len ?z_all ?z_zip ?z_dict ?z_int ?z_bool ?z_range ?z_sum ?z_set ?z_sorted ?z_enumerate ?z_str ?D_is_whole ?D_frozen ?D_ascending ?D_number ?D_access ?D_check_letters ?D_check_expression ?D_operand_of ?D_joined ?D_is_allowed ?D_numbered ?D_part_text ?D_text_of ?D__law_draw ?D__law_start ?D__law_pick ?D__law_same ?D__law_access_text ?D__law_access ?O_add ?O_floordiv ?O_pow ?O_lshift ?O_rshift ?E_BN ?E_RL
    (case E_BN => (refine' Lw.tx_mk KX G ?yaC ?yxL ?ysa ?yga ?ygg ?yno ?ya1 ?yt1 ?yl1 ?yc1 ?yk1 ?ykC ?yeC ?ytC ?yhC; (case yaC => k_is); (case yxL => k_is); (case ysa => k_is); (case yga => k_is); (case ygg => k_is); (case yno => k_is); (case ya1 => k_is); (case yt1 => k_is); (case yl1 => k_is); (case yc1 => k_is); (case yk1 => k_is); (case ykC => k_is); (case yeC => k_is); (case ytC => k_is); (case yhC => k_is)))
    (case E_RL => (refine' Lw.tx_mk KX G ?yaC ?yxL ?ysa ?yga ?ygg ?yno ?ya1 ?yt1 ?yl1 ?yc1 ?yk1 ?ykC ?yeC ?ytC ?yhC; (case yaC => k_is); (case yxL => k_is); (case ysa => k_is); (case yga => k_is); (case ygg => k_is); (case yno => k_is); (case ya1 => k_is); (case yt1 => k_is); (case yl1 => k_is); (case yc1 => k_is); (case yk1 => k_is); (case ykC => k_is); (case yeC => k_is); (case ytC => k_is); (case yhC => k_is)))
    (case lA => k_is)
    (case lL => k_is)
    (case lC => k_is)
    (case lK => k_is)
    (case lV => rfl)
    (case lH => rfl)
    (case lN => rfl)
    (case rA => k_is)
    (case rL => k_is)
    (case rC => k_is)
    (case rK => k_is)
    (case aC => k_is)
    (case a1 => k_is)
    (case i1 => k_is)
    (case l1 => k_is)
    (case c1 => k_is)
    (case k1 => k_is)
    (case mk => k_is)
    (case kC => k_is)
    (case pg => k_is)
    (case hd => k_is)
    (case po => k_is)
    (case sa => k_is)
    (case nK => k_is)
    (case nP => k_is)
    (case nN => k_is)
    (case nA => k_is)
    (case nL => k_is)
    (case e4 => k_is)
    (case e5 => k_is)
    (case e6 => k_is)
    (case e7 => k_is)
    (case ic => k_is)
    (case ty => k_is)
    (case si => k_is)
    (case ss => k_is)
    (case st => k_is)
    (case t1 => k_is)
    (case t2 => k_is)
    (case t4 => k_is)
    (case t5 => k_is)
    (case t6 => k_is)
    (case t7 => k_is)
    (case t8 => k_is)
    (case aL => k_is)
    (case ll => k_is)
    (case lke => exact ⟨⟨_, _, rfl, rfl⟩, ⟨_, _, rfl, rfl⟩, ⟨_, _, rfl, rfl⟩, trivial⟩)
    (case lo => decide)
    (case nq => k_is)
    (case p1 => k_is)
    (case tl1 => k_is)
    (case z1 => decide)
    (case v1 => exact .cons ⟨_, rfl⟩ (.cons ⟨_, rfl⟩ (.nil)))
    (case p2 => k_is)
    (case tl2 => k_is)
    (case z2 => decide)
    (case v2 => exact .cons ⟨_, rfl⟩ (.cons ⟨_, rfl⟩ (.nil)))
    (case p3 => k_is)
    (case tl3 => k_is)
    (case z3 => decide)
    (case v3 => exact .cons ⟨_, rfl⟩ (.cons ⟨_, rfl⟩ (.nil)))
    (case sS => k_is)
    (case sL => k_is)
    (case sK => exact ⟨⟨_, _, rfl, rfl⟩, ⟨_, _, rfl, rfl⟩, ⟨_, _, rfl, rfl⟩, ⟨_, _, rfl, rfl⟩, ⟨_, _, rfl, rfl⟩, ⟨_, _, rfl, rfl⟩, ⟨_, _, rfl, rfl⟩, ⟨_, _, rfl, rfl⟩, ⟨_, _, rfl, rfl⟩, ⟨_, _, rfl, rfl⟩, trivial⟩)
    (case sO => decide)
    (case fS => k_is)
    (case fL_ => k_is)
    (case fK => exact ⟨⟨_, _, rfl, rfl⟩, ⟨_, _, rfl, rfl⟩, trivial⟩)
    (case fO_ => decide)
    (case fr_plus => k_is)
    (case sg_plus => k_is)
    (case fr_minus => k_is)
    (case sg_minus => k_is)
    (case fr_times => k_is)
    (case sg_times => k_is)
    (case fr_both => k_is)
    (case sg_both => k_is)
    (case fr_either => k_is)
    (case sg_either => k_is)
    (case fr_unlike => k_is)
    (case sg_unlike => k_is)
    (case fr_greater => k_is)
    (case sg_greater => k_is)
    (case fr_lesser => k_is)
    (case sg_lesser => k_is)
    (case fr_below => k_is)
    (case sg_below => k_is)
    (case fr_at_most => k_is)
    (case sg_at_most => k_is)
    (case fr_equal => k_is)
    (case sg_equal => k_is)
    (case fr_unequal => k_is)
    (case sg_unequal => k_is)
    (case fr_quotient => k_is)
    (case sg_quotient => k_is)
    (case fr_remainder => k_is)
    (case sg_remainder => k_is)
    (case fr_power => k_is)
    (case sg_power => k_is)
    (case fr_left => k_is)
    (case sg_left => k_is)
    (case fr_right => k_is)
    (case sg_right => k_is)
    (case fr_negative => k_is)
    (case sg_negative => k_is)
    (case fr_inverse => k_is)
    (case sg_inverse => k_is)
    (case fr_absolute => k_is)
    (case sg_absolute => k_is)
    (case sf => k_is)
    (case ra => k_is)
    (case rr_floordiv => k_is)
    (case rr_pow => k_is)
    (case rr_lshift => k_is)
    (case rr_rshift => k_is)
    (case aK => k_is)
    (case al => k_is)
    (case az => decide)
    (case av => exact .cons ⟨_, rfl⟩ (.cons ⟨_, rfl⟩ (.nil)))
    (case wW => k_is)
    (case xs => first | rfl | k_is)
    (case xt => k_is)
    (case xu => first | rfl | k_is)
    (case z_isinstance => k_is)
    (case z_list => k_is)
    (case z_tuple => k_is)
    (case z_len => k_is)
    (case z_all => k_is)
    (case z_zip => k_is)
    (case z_dict => k_is)
    (case z_int => k_is)
    (case z_bool => k_is)
    (case z_range => k_is)
    (case z_sum => k_is)
    (case z_set => k_is)
    (case z_sorted => k_is)
    (case z_enumerate => k_is)
    (case z_str => k_is)
    (case D_is_whole => (refine' Lw.dx_mk KX G ?a ?l ?c ?k; (case a => k_is); (case l => k_is); (case c => k_is); (case k => k_is)))
    (case D_frozen => (refine' Lw.dx_mk KX G ?a ?l ?c ?k; (case a => k_is); (case l => k_is); (case c => k_is); (case k => k_is)))
    (case D_ascending => (refine' Lw.dx_mk KX G ?a ?l ?c ?k; (case a => k_is); (case l => k_is); (case c => k_is); (case k => k_is)))
    (case D_number => (refine' Lw.dx_mk KX G ?a ?l ?c ?k; (case a => k_is); (case l => k_is); (case c => k_is); (case k => k_is)))
    (case D_access => (refine' Lw.dx_mk KX G ?a ?l ?c ?k; (case a => k_is); (case l => k_is); (case c => k_is); (case k => k_is)))
    (case D_check_letters => (refine' Lw.dx_mk KX G ?a ?l ?c ?k; (case a => k_is); (case l => k_is); (case c => k_is); (case k => k_is)))
    (case D_check_expression => (refine' Lw.dx_mk KX G ?a ?l ?c ?k; (case a => k_is); (case l => k_is); (case c => k_is); (case k => k_is)))
    (case D_operand_of => (refine' Lw.dx_mk KX G ?a ?l ?c ?k; (case a => k_is); (case l => k_is); (case c => k_is); (case k => k_is)))
    (case D_joined => (refine' Lw.dx_mk KX G ?a ?l ?c ?k; (case a => k_is); (case l => k_is); (case c => k_is); (case k => k_is)))
    (case D_is_allowed => (refine' Lw.dx_mk KX G ?a ?l ?c ?k; (case a => k_is); (case l => k_is); (case c => k_is); (case k => k_is)))
    (case D_numbered => (refine' Lw.dx_mk KX G ?a ?l ?c ?k; (case a => k_is); (case l => k_is); (case c => k_is); (case k => k_is)))
    (case D_part_text => (refine' Lw.dx_mk KX G ?a ?l ?c ?k; (case a => k_is); (case l => k_is); (case c => k_is); (case k => k_is)))
    (case D_text_of => (refine' Lw.dx_mk KX G ?a ?l ?c ?k; (case a => k_is); (case l => k_is); (case c => k_is); (case k => k_is)))
    (case D__law_draw => (refine' Lw.dx_mk KX G ?a ?l ?c ?k; (case a => k_is); (case l => k_is); (case c => k_is); (case k => k_is)))
    (case D__law_start => (refine' Lw.dx_mk KX G ?a ?l ?c ?k; (case a => k_is); (case l => k_is); (case c => k_is); (case k => k_is)))
    (case D__law_pick => (refine' Lw.dx_mk KX G ?a ?l ?c ?k; (case a => k_is); (case l => k_is); (case c => k_is); (case k => k_is)))
    (case D__law_same => (refine' Lw.dx_mk KX G ?a ?l ?c ?k; (case a => k_is); (case l => k_is); (case c => k_is); (case k => k_is)))
    (case D__law_access_text => (refine' Lw.dx_mk KX G ?a ?l ?c ?k; (case a => k_is); (case l => k_is); (case c => k_is); (case k => k_is)))
    (case D__law_access => (refine' Lw.dx_mk KX G ?a ?l ?c ?k; (case a => k_is); (case l => k_is); (case c => k_is); (case k => k_is)))
    (case O_add => (refine' Lw.mx_mk ?a ?i ?l ?c ?k; (case a => k_is); (case i => k_is); (case l => k_is); (case c => k_is); (case k => k_is)))
    (case O_floordiv => (refine' Lw.mx_mk ?a ?i ?l ?c ?k; (case a => k_is); (case i => k_is); (case l => k_is); (case c => k_is); (case k => k_is)))
    (case O_pow => (refine' Lw.mx_mk ?a ?i ?l ?c ?k; (case a => k_is); (case i => k_is); (case l => k_is); (case c => k_is); (case k => k_is)))
    (case O_lshift => (refine' Lw.mx_mk ?a ?i ?l ?c ?k; (case a => k_is); (case i => k_is); (case l => k_is); (case c => k_is); (case k => k_is)))
    (case O_rshift => (refine' Lw.mx_mk ?a ?i ?l ?c ?k; (case a => k_is); (case i => k_is); (case l => k_is); (case c => k_is); (case k => k_is)))
