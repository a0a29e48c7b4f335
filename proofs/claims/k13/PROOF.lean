import PyProof.Rows.All
import Wide.All
import OpenK.AllK
import Wide.FinOn
import HandS.ForExc
import HandS.ForMost
import HandS.Wide
import HandS.IsInst
import HandS.Walk
import HandS.Zip
import HandS.Style
import HandS.Codes
import HandS.Conv
import HandS.FStr
import HandS.Property
import HandS.ClsMeth
import HandS.Text
import HandS.Strs
import HandS.SortKw
import HandS.RaiseMore
import HandS.ExcIs
import HandS.TryMany
import HandS.Lambda
import HandS.EndTab
import HandS.EndBits
import HandS.TupAny
import HandS.SlotsOwn
import KE.KOpsOwn
import KE.DataCmp
import HandS.SetTxt0
import HandS.Set
import HandS.SetFor
import HandS.Zip0
import HandS.Iter
import HandS.Star
import PyProof.Rows.FactsN_abs
import PyProof.Rows.FactsB_and
import PyProof.Rows.FactsB_or
import PyProof.Rows.FactsB_xor
import PyProof.Rows.FactsB_sub
import PyProof.Rows.FactsB_mul
import PyProof.FactsInt
import KE.KDictList
import PyProof.StrWalks
import HandS.NoneIn
import PySem.Challenge.RW_levelwalks_k13_operators_build
set_option Elab.async false
set_option linter.all false
set_option maxRecDepth 100000
set_option maxHeartbeats 8000000
namespace Lw
open PySem L2
def topS (i : Nat) : Stmt := PySem.Challenge.pw_levelwalks_k13_operators_build.main.body.getD i (.Pass ⟨0, 0, 0, 0⟩)
theorem seqT {K : PySem.W.Frag} {H H' : Hp} (g : Same H H') {a : Addr} {xs : List V} (h : SqT K H a xs) : SqT K H' a xs := by
  rcases h with (h | ⟨o, h⟩) | h
  · exact .inl (.inl (g _ _ h))
  · exact .inl (.inr ⟨o, g _ _ h⟩)
  · exact .inr h
theorem tyT {K : PySem.W.Frag} {H : Hp} {a : Addr} {xs : List V} (h : SqT K H a xs) : TyX K H (.ref a) (.type "tuple") := by
  rcases h with (h | ⟨o, h⟩) | ⟨o, its, n, h, c, _⟩
  · exact .base (.tup h)
  · exact .fTuple h
  · exact .kTuple h c
theorem tyL {K : PySem.W.Frag} {H : Hp} {a : Addr} {xs : List V} (h : SqL K H a xs) : TyX K H (.ref a) (.type "list") := by
  rcases h with (h | ⟨o, h⟩) | ⟨o, its, n, h, c, _⟩
  · exact .base (.lst h)
  · exact .base (.frz h)
  · exact .kList h c
/-! two values that show the same data: ints, texts, truth values, tuples and lists of such; at most n deep -/
def Sm (K : PySem.W.Frag) (H : Hp) : Nat → V → V → Prop
  | 0, _, _ => False
  | n + 1, v, w => (∃ i : Int, v = .int i ∧ w = .int i) ∨ (∃ s : Str, v = .str s ∧ w = .str s) ∨ (∃ b : Bool, v = .bl b ∧ w = .bl b) ∨
    (∃ (a b : Addr) (xs ys : List V), v = .ref a ∧ w = .ref b ∧ SqT K H a xs ∧ SqT K H b ys ∧ xs.length = ys.length ∧ xs.length ≤ 1000 ∧ ∀ (i : Nat) (x y : V), xs[i]? = some x → ys[i]? = some y → Sm K H n x y) ∨
    (∃ (a b : Addr) (xs ys : List V), v = .ref a ∧ w = .ref b ∧ H a = some (.lst xs) ∧ H b = some (.lst ys) ∧ xs.length = ys.length ∧ xs.length ≤ 1000 ∧ ∀ (i : Nat) (x y : V), xs[i]? = some x → ys[i]? = some y → Sm K H n x y)
theorem Sm.mono {K : PySem.W.Frag} {H H' : Hp} (g : Same H H') : ∀ {n : Nat} {v w : V}, Sm K H n v w → Sm K H' n v w
  | 0, _, _, h => h
  | n + 1, v, w, h => by
    rcases h with h | h | h | ⟨a, b, xs, ys, e1, e2, h1, h2, h3, h4, h5⟩ | ⟨a, b, xs, ys, e1, e2, h1, h2, h3, h4, h5⟩
    · exact .inl h
    · exact .inr (.inl h)
    · exact .inr (.inr (.inl h))
    · exact .inr (.inr (.inr (.inl ⟨a, b, xs, ys, e1, e2, seqT g h1, seqT g h2, h3, h4, fun i x y p q => Sm.mono g (h5 i x y p q)⟩)))
    · exact .inr (.inr (.inr (.inr ⟨a, b, xs, ys, e1, e2, g _ _ h1, g _ _ h2, h3, h4, fun i x y p q => Sm.mono g (h5 i x y p q)⟩)))
theorem Sm.int {K : PySem.W.Frag} {H : Hp} {n : Nat} (i : Int) : Sm K H (n + 1) (.int i) (.int i) := .inl ⟨i, rfl, rfl⟩
theorem Sm.str {K : PySem.W.Frag} {H : Hp} {n : Nat} (z : Str) : Sm K H (n + 1) (.str z) (.str z) := .inr (.inl ⟨z, rfl, rfl⟩)
theorem Sm.bl {K : PySem.W.Frag} {H : Hp} {n : Nat} (b : Bool) : Sm K H (n + 1) (.bl b) (.bl b) := .inr (.inr (.inl ⟨b, rfl, rfl⟩))
/-- place by place -/
def SmAll (K : PySem.W.Frag) (H : Hp) (n : Nat) (xs ys : List V) : Prop := xs.length = ys.length ∧ ∀ (i : Nat) (x y : V), xs[i]? = some x → ys[i]? = some y → Sm K H n x y
theorem SmAll.nil {K : PySem.W.Frag} {H : Hp} {n : Nat} : SmAll K H n [] [] := ⟨rfl, fun i x y e => by cases e⟩
theorem SmAll.cons {K : PySem.W.Frag} {H : Hp} {n : Nat} {x y : V} {xs ys : List V} (h : Sm K H n x y) (t : SmAll K H n xs ys) : SmAll K H n (x :: xs) (y :: ys) :=
  ⟨congrArg Nat.succ t.1, fun i a b e1 e2 => by
    cases i with
    | zero => cases e1; cases e2; exact h
    | succ i => exact t.2 i a b e1 e2⟩
theorem Sm.tup {K : PySem.W.Frag} {H : Hp} {n : Nat} {a b : Addr} {xs ys : List V} (h1 : SqT K H a xs) (h2 : SqT K H b ys) (hl : xs.length ≤ 1000) (t : SmAll K H n xs ys) : Sm K H (n + 1) (.ref a) (.ref b) :=
  .inr (.inr (.inr (.inl ⟨a, b, xs, ys, rfl, rfl, h1, h2, t.1, hl, t.2⟩)))
theorem Sm.lst {K : PySem.W.Frag} {H : Hp} {n : Nat} {a b : Addr} {xs ys : List V} (h1 : H a = some (.lst xs)) (h2 : H b = some (.lst ys)) (hl : xs.length ≤ 1000) (t : SmAll K H n xs ys) : Sm K H (n + 1) (.ref a) (.ref b) :=
  .inr (.inr (.inr (.inr ⟨a, b, xs, ys, rfl, rfl, h1, h2, t.1, hl, t.2⟩)))
def TK (K : PySem.W.Frag) (H H' : Hp) : Prop := ∀ (b : Addr) (xs : List V), SqT K H b xs → SqT K H' b xs
theorem TK.of {K : PySem.W.Frag} {H H' : Hp} (g : Same H H') : TK K H H' := fun b xs h => seqT g h
theorem TK.trans {K : PySem.W.Frag} {H H1 H2 : Hp} (g : TK K H H1) (g' : TK K H1 H2) : TK K H H2 := fun b xs h => g' b xs (g b xs h)
theorem TK.but {K : PySem.W.Frag} {H H' : Hp} (h : ∀ (b : Addr) (o : HO), (∀ xs, o ≠ .lst xs) → H b = some o → H' b = some o) : TK K H H' := fun b xs q => by
  rcases q with (q | ⟨o, q⟩) | q
  · exact .inl (.inl (h _ _ (by intro z e; cases e) q))
  · exact .inl (.inr ⟨o, h _ _ (by intro z e; cases e) q⟩)
  · exact .inr q
theorem TK.lst {K : PySem.W.Frag} {H : Hp} {D : Addr} {xs ys : List V} (h : H D = some (.lst xs)) : TK K H (upd H D (.lst ys)) := .but fun b o no q => by
  rw [upd_ne (fun e => by rw [e, h] at q; exact no _ (Option.some.inj q).symm)]
  exact q
theorem same_new {H : Hp} {p : Addr} (h : H p = none) (o : HO) : Same H (upd H p o) := fun b u q => by rw [upd_ne (ne_of_none q h)]; exact q
theorem same_over {H H' : Hp} {p : Addr} (g : Same H H') (h : H p = none) (o : HO) : Same H (upd H' p o) := fun b u q => by rw [upd_ne (ne_of_none q h)]; exact g _ _ q
/-- a comprehension's turn without a test -/
theorem kept {te : TE} {σ : St} {H : Hp} {R : V → Hp → Prop} {S : Hp → Prop} (h : te σ H R) : tYes σ H fun b H3 => if b = true then te σ H3 R else S H3 := iteT (A := te σ H R) (B := S H) h
/-- the built-in names that the program's text does not make its own -/
structure Bt (mg : Str → Option Value) : Prop where
  isi : mg "isinstance" = none
  lst : mg "list" = none
  tup : mg "tuple" = none
  len : mg "len" = none
  all : mg "all" = none
  zip : mg "zip" = none
  dict : mg "dict" = none
  int : mg "int" = none
  bool : mg "bool" = none
  range : mg "range" = none
section
variable {P : Program} {w : World} {K : PySem.W.Frag} {mg : Str → Option Value} {base : Heap} {f : Addr} {fd : FuncData}
theorem none_left {sp : Sp} {ps : List Str} {CX : CXT} (no : ∀ vs H Q E, ¬ sp vs H Q E) : FnOk P w K mg base CX 0 f fd ps sp :=
  ⟨fun vs H Q E h => absurd h (no vs H Q E), fun A outer s H args us vs Q E _ _ _ _ h => absurd h (no vs H Q E)⟩
theorem is_seq {K : PySem.W.Frag} {t : String} {b : Bool} (h1 : kitB t "list" = some false) (h2 : kitB t "tuple" = some b) : PySem.W.kitAny K (.type t) [.type "list", .type "tuple"] = some b :=
  kitAny_cons (kit_ty h1) (fun _ => kitAny_cons (kit_ty h2) (fun e => by rw [e]; exact kitAny_nil) (fun e => e)) (fun e => by cases e)
abbrev sSame : Stmt := topS 38
/-! zip of two tuples, as a walk -/
theorem walk_zipT {K : PySem.W.Frag} {a b : Addr} {xs ys : List V} (e : xs.length = ys.length) : Walk (RZ.ItzT K a b) xs.length (fun H => SqT K H a xs ∧ SqT K H b ys) (YPair (fun i => xs[i]?) (fun i => ys[i]?)) :=
  ⟨fun i _ hi q => ⟨xs, ys, xs[i], ys[i]'(by omega), q.1, q.2, List.getElem?_eq_getElem hi, List.getElem?_eq_getElem (by omega)⟩, fun _ q => ⟨xs, ys, q.1, q.2, .inl (Nat.le_refl _)⟩,
    fun i H v H' _ q ⟨T, x, y, h1, h2, h3, h4, h5⟩ => ⟨T, x, y, h1, h2, h3, h4 xs q.1, h5 ys q.2⟩⟩
def spSame (K : PySem.W.Frag) (n : Nat) : Sp := fun vs H Q _ => ∃ v u : V, vs = [v, u] ∧ Sm K H n v u ∧ ∀ H' : Hp, Same H H' → Q (.bl true) H'
abbrev namesS : List Str := ["_law_found", "_law_due_here", "_law_one", "_law_other"]
theorem scS : FnScope namesS ["_law_found", "_law_due_here"] (defScope sSame) := ⟨rfl, rfl, rfl, by decide +kernel, rfl, by decide +kernel, by decide +kernel⟩
theorem is_four {K : PySem.W.Frag} {t : String} (h1 : kitB t "int" = some false) (h2 : kitB t "list" = some false) (h3 : kitB t "tuple" = some false) (h4 : kitB t "dict" = some false) :
    PySem.W.kitAny K (.type t) [.type "int", .type "list", .type "tuple", .type "dict"] = some false :=
  kitAny_cons (kit_ty h1) (fun _ => kitAny_cons (kit_ty h2) (fun _ => kitAny_cons (kit_ty h3) (fun _ => kitAny_cons (kit_ty h4) (fun _ => kitAny_nil) (fun e => by cases e)) (fun e => by cases e)) (fun e => by cases e)) (fun e => by cases e)
theorem is_seqL {K : PySem.W.Frag} : PySem.W.kitAny K (.type "list") [.type "list", .type "tuple"] = some true :=
  kitAny_cons (kit_ty (r := true) (by decide +kernel)) (fun e => by cases e) (fun _ => rfl)
theorem iteC {c : Bool} {A B : Prop} (hc : c = true) (h : A) : if c = true then A else B := by
  rw [if_pos hc]
  exact h
theorem iteN {c : Bool} {A B : Prop} (hc : c = false) (h : B) : if c = true then A else B := by
  rw [if_neg (by rw [hc]; decide)]
  exact h
theorem all_true {n : Nat} : (List.replicate n true).all id = true := by
  rw [List.all_eq_true]
  intro x hx
  rw [(List.mem_replicate.mp hx).2]
  rfl
/-- the list of answers so far -/
def InvS (H0 : Hp) (D : Addr) (i : Nat) (H : Hp) : Prop := H D = some (.lst (List.replicate i (.bl true))) ∧ Same H0 H
theorem ok_same {n : Nat} (F : Fun K "_law_same" "_law_same" sSame f fd) (G : FnOk P w K mg base CX0 n f fd ["_law_found", "_law_due_here"] (spSame K n)) (bF : Binds K fd ["_law_found", "_law_due_here"] []) (kF : PySem.W.keepIn K (.ref f) = true) (mF : mg "_law_same" = some (.ref f)) (B : Bt mg) :
    FnOk P w K mg base CX0 (n + 1) f fd ["_law_found", "_law_due_here"] (spSame K (n + 1)) := by
  refine F.ok scS (fun vs H Q E h => ?_) (fun cdv A outer s H vs Q E hr h => ?_)
  · obtain ⟨v, u, rfl, _⟩ := h
    rfl
  obtain ⟨v, u, rfl, hA, q⟩ := h
  refine ⟨_, pss_cons (ps_if (pt_val (pe_callB call_isiT (by rfl) B.isi (by decide +kernel) (pa_cons (pv 1) (pa_cons (pe_tup (pa_cons (pe_bltn (v := .ty "list") (by rfl) B.lst (by decide +kernel) rfl) (pa_cons (pe_bltn (v := .ty "tuple") (by rfl) B.tup (by decide +kernel) rfl) pa_nil))) pa_nil))))
      (pss_cons (ps_if (PW.pt (pw_or (pt_cmpR op_ne (pe_callB call_isi (by rfl) B.isi (by decide +kernel) (pa_cons (pv 0) (pa_cons (pe_bltn (v := .ty "list") (by rfl) B.lst (by decide +kernel) rfl) pa_nil))) (pe_callB call_isi (by rfl) B.isi (by decide +kernel) (pa_cons (pv 1) (pa_cons (pe_bltn (v := .ty "list") (by rfl) B.lst (by decide +kernel) rfl) pa_nil))) (nomark _)) (pw_or1 (pt_cmpR op_ne (pe_callB call_isi (by rfl) B.isi (by decide +kernel) (pa_cons (pv 0) (pa_cons (pe_bltn (v := .ty "tuple") (by rfl) B.tup (by decide +kernel) rfl) pa_nil))) (pe_callB call_isi (by rfl) B.isi (by decide +kernel) (pa_cons (pv 1) (pa_cons (pe_bltn (v := .ty "tuple") (by rfl) B.tup (by decide +kernel) rfl) pa_nil))) (nomark _))))) (pss_one (ps_ret pe_bl)) pss_nil)
        (pss_one (ps_ret (pe_and (pe_cmpR op_eq (pe_callB call_len_seq (by rfl) B.len PySem.boot_len (pa_cons (pv 0) pa_nil)) (pe_callB call_len_seq (by rfl) B.len PySem.boot_len (pa_cons (pv 1) pa_nil)) (nomark _)) (pe_one (pe_callB (cr_all rfl) (by rfl) B.all (by decide +kernel) (pa_cons
          (pe_lc (own := [("_law_one", 2), ("_law_other", 3)]) (g := gTup K 2 (gCons (gName 2) (gCons (gName 3) gNil))) (tt := tYes) rfl scS.nd (RZ.pi_zipA (by rfl) B.zip (pa_cons (pv 0) (pa_cons (pv 1) pa_nil))) (blkOk_by (N := namesS) (sc := defScope sSame) (by decide +kernel))
            (fun _ _ _ _ _ => pg_tup rfl (pgs_cons (pg_name (i := 2) scS.nd rfl (Or.inl rfl)) (pgs_cons (pg_name (i := 3) scS.nd rfl (Or.inl rfl)) pgs_nil))) (fun _ _ _ _ _ => pts_nil)
            (fun _ _ _ _ _ => pe_call G hr rfl mF kF bF .nil pass0 (pa_cons (pv 2) (pa_cons (pv 3) pa_nil)))) pa_nil))))))) pss_nil)
    (pss_cons (ps_if (pt_val (pe_callB call_isi (by rfl) B.isi (by decide +kernel) (pa_cons (pv 1) (pa_cons (pe_bltn (v := .ty "dict") (by rfl) B.dict (by decide +kernel) rfl) pa_nil)))) (pss_cons ps_never (pss_one ps_never)) pss_nil)
    (pss_cons (ps_if (pt_val (pe_callB call_isi (by rfl) B.isi (by decide +kernel) (pa_cons (pv 1) (pa_cons (pe_bltn (v := .ty "int") (by rfl) B.int (by decide +kernel) rfl) pa_nil)))) (pss_one (ps_ret (pe_and (pe_callB call_isi (by rfl) B.isi (by decide +kernel) (pa_cons (pv 0) (pa_cons (pe_bltn (v := .ty "int") (by rfl) B.int (by decide +kernel) rfl) pa_nil))) (pe_and (pe_cmpR op_eq (pe_callB call_isi (by rfl) B.isi (by decide +kernel) (pa_cons (pv 0) (pa_cons (pe_bltn (v := .ty "bool") (by rfl) B.bool (by decide +kernel) rfl) pa_nil))) (pe_callB call_isi (by rfl) B.isi (by decide +kernel) (pa_cons (pv 1) (pa_cons (pe_bltn (v := .ty "bool") (by rfl) B.bool (by decide +kernel) rfl) pa_nil))) (nomark _)) (pe_one (pe_cmpR op_eq (pv 0) (pv 1) (nomark _))))))) pss_nil)
    (pss_one (ps_ret (pe_and (pe_cmpR op_eq (pv 0) (pv 1) (nomark _)) (pe_one (pe_cmpR op_isBl (pe_callB call_isiT (by rfl) B.isi (by decide +kernel) (pa_cons (pv 0) (pa_cons (pe_tup (pa_cons (pe_bltn (v := .ty "int") (by rfl) B.int (by decide +kernel) rfl) (pa_cons (pe_bltn (v := .ty "list") (by rfl) B.lst (by decide +kernel) rfl) (pa_cons (pe_bltn (v := .ty "tuple") (by rfl) B.tup (by decide +kernel) rfl) (pa_cons (pe_bltn (v := .ty "dict") (by rfl) B.dict (by decide +kernel) rfl) pa_nil))))) pa_nil))) pe_bl (nomark _)))))))), ?_⟩
  refine ⟨_, rfl, (by show 2 ≤ sizeLine; decide), fun t ht => ?_⟩
  have g1 : Same H (upd H t (.tup [.ty "list", .ty "tuple"])) := same_new ht _
  rcases hA with ⟨i, rfl, rfl⟩ | ⟨z, rfl, rfl⟩ | ⟨bb, rfl, rfl⟩ | ⟨a, b, xs, ys, rfl, rfl, h1, h2, h3, h4, h5⟩ | ⟨a, b, xs, ys, rfl, rfl, h1, h2, h3, h4, h5⟩
  · refine ⟨_, t, _, .type "int", [.type "list", .type "tuple"], false, rfl, upd_same, .cons (.ty _) (.cons (.ty _) .nil), .base (.int i), is_seq (by decide +kernel) (by decide +kernel), _, rfl, ?_⟩
    refine iteF ?_
    refine ⟨_, rfl, _, _, .type "int", .type "dict", false, rfl, .ty _, .base (.int i), kit_ty (by decide +kernel), _, rfl, ?_⟩
    refine iteF ?_
    refine ⟨_, rfl, _, _, .type "int", .type "int", true, rfl, .ty _, .base (.int i), kit_ty (by decide +kernel), _, rfl, ?_⟩
    refine iteT ?_
    refine ⟨_, rfl, _, _, .type "int", .type "int", true, rfl, .ty _, .base (.int i), kit_ty (by decide +kernel), _, rfl, ?_⟩
    refine iteT ?_
    refine ⟨_, rfl, _, _, .type "int", .type "bool", false, rfl, .ty _, .base (.int i), kit_ty (by decide +kernel), ?_⟩
    refine ⟨_, rfl, _, _, .type "int", .type "bool", false, rfl, .ty _, .base (.int i), kit_ty (by decide +kernel), ?_⟩
    refine ⟨rfl, _, rfl, iteC (decide_eq_true rfl) ?_⟩
    refine ⟨_, rfl, _, rfl, rfl, ?_⟩
    show Q (.bl (decide (V.int i = V.int i))) _
    rw [decide_eq_true rfl]
    exact q _ g1
  · refine ⟨_, t, _, .type "str", [.type "list", .type "tuple"], false, rfl, upd_same, .cons (.ty _) (.cons (.ty _) .nil), .base (.str z), is_seq (by decide +kernel) (by decide +kernel), _, rfl, ?_⟩
    refine iteF ?_
    refine ⟨_, rfl, _, _, .type "str", .type "dict", false, rfl, .ty _, .base (.str z), kit_ty (by decide +kernel), _, rfl, ?_⟩
    refine iteF ?_
    refine ⟨_, rfl, _, _, .type "str", .type "int", false, rfl, .ty _, .base (.str z), kit_ty (by decide +kernel), _, rfl, ?_⟩
    refine iteF ?_
    refine ⟨_, rfl, _, rfl, rfl, _, rfl, iteC (decide_eq_true rfl) ?_⟩
    refine ⟨_, rfl, (by show 4 ≤ sizeLine; decide), fun t2 ht2 => ?_⟩
    refine ⟨_, t2, _, .type "str", [.type "int", .type "list", .type "tuple", .type "dict"], false, rfl, upd_same, .cons (.ty _) (.cons (.ty _) (.cons (.ty _) (.cons (.ty _) .nil))), .base (.str z), is_four (by decide +kernel) (by decide +kernel) (by decide +kernel) (by decide +kernel), _, _, rfl, rfl, ?_⟩
    exact q _ (g1.trans (same_new ht2 _))
  · refine ⟨_, t, _, .type "bool", [.type "list", .type "tuple"], false, rfl, upd_same, .cons (.ty _) (.cons (.ty _) .nil), .base (.bl bb), is_seq (by decide +kernel) (by decide +kernel), _, rfl, ?_⟩
    refine iteF ?_
    refine ⟨_, rfl, _, _, .type "bool", .type "dict", false, rfl, .ty _, .base (.bl bb), kit_ty (by decide +kernel), _, rfl, ?_⟩
    refine iteF ?_
    refine ⟨_, rfl, _, _, .type "bool", .type "int", true, rfl, .ty _, .base (.bl bb), kit_ty (by decide +kernel), _, rfl, ?_⟩
    refine iteT ?_
    refine ⟨_, rfl, _, _, .type "bool", .type "int", true, rfl, .ty _, .base (.bl bb), kit_ty (by decide +kernel), _, rfl, ?_⟩
    refine iteT ?_
    refine ⟨_, rfl, _, _, .type "bool", .type "bool", true, rfl, .ty _, .base (.bl bb), kit_ty (by decide +kernel), ?_⟩
    refine ⟨_, rfl, _, _, .type "bool", .type "bool", true, rfl, .ty _, .base (.bl bb), kit_ty (by decide +kernel), ?_⟩
    refine ⟨rfl, _, rfl, iteC (decide_eq_true rfl) ?_⟩
    refine ⟨_, rfl, _, rfl, rfl, ?_⟩
    show Q (.bl (decide (V.bl bb = V.bl bb))) _
    rw [decide_eq_true rfl]
    exact q _ g1
  · refine ⟨_, t, _, .type "tuple", [.type "list", .type "tuple"], true, rfl, upd_same, .cons (.ty _) (.cons (.ty _) .nil), tyT (seqT g1 h2), is_seq (by decide +kernel) (by decide +kernel), _, rfl, ?_⟩
    refine iteT ?_
    have ka := seqT g1 h1
    have kb := seqT g1 h2
    refine ⟨_, rfl, _, _, .type "tuple", .type "list", false, rfl, .ty _, tyT ka, kit_ty (by decide +kernel), _, rfl, _, _, .type "tuple", .type "list", false, rfl, .ty _, tyT kb, kit_ty (by decide +kernel), rfl, _, rfl, ?_⟩
    refine iteN rfl ?_
    refine ⟨_, rfl, _, _, .type "tuple", .type "tuple", true, rfl, .ty _, tyT ka, kit_ty (by decide +kernel), _, rfl, _, _, .type "tuple", .type "tuple", true, rfl, .ty _, tyT kb, kit_ty (by decide +kernel), rfl, _, rfl, ?_⟩
    refine iteN rfl ?_
    refine ⟨_, rfl, a, xs, rfl, .inr (ka), _, rfl, b, ys, rfl, .inr (kb), rfl, _, rfl, iteC (decide_eq_true (by rw [h3])) ?_⟩
    refine ⟨_, rfl, _, rfl, a, b, xs, ys, rfl, .inr ⟨ka, kb, fun D hD => ?_⟩⟩
    have hD0 : H D = none := g1.free hD
    refine lc_it (walk_zipT (K := K) (a := a) (b := b) h3) (InvS H D) ⟨upd_same, same_over g1 hD0 _⟩ (fun i H' _ ⟨_, g⟩ => ⟨seqT g h1, seqT g h2⟩) ?_ ?_
    · rintro i v H' H'' hi ⟨hd, g⟩ ⟨T, x, y, rfl, hT, rfl, ex, ey⟩
      have gT : Same H' (upd H' T (.tup [x, y])) := same_new hT _
      have hi1 : i < 1001 := by omega
      refine ⟨T, [x, y], rfl, SqT.of upd_same, rfl, x, [y], rfl, y, [], rfl, rfl, ?_⟩
      refine ⟨rfl, kept ?_⟩
      refine ⟨_, rfl, _, rfl, x, y, rfl, (h5 i x y ex ey).mono (g.trans gT), fun H2 g2 => ?_⟩
      refine ⟨_, g2 _ _ (gT _ _ hd), by rw [List.length_replicate]; exact small1000 (by omega), by rw [upd_same, List.replicate_succ'], same_over ((g.trans gT).trans g2) hD0 _⟩
    · rintro H' ⟨hd, g⟩
      exact ⟨D, List.replicate xs.length true, rfl, SqL.of (by rw [hd, List.map_replicate]), by rw [all_true]; exact q _ g⟩
  · refine ⟨_, t, _, .type "list", [.type "list", .type "tuple"], true, rfl, upd_same, .cons (.ty _) (.cons (.ty _) .nil), .base (.lst (g1 _ _ h2)), is_seqL, _, rfl, ?_⟩
    refine iteT ?_
    have ka := g1 _ _ h1
    have kb := g1 _ _ h2
    refine ⟨_, rfl, _, _, .type "list", .type "list", true, rfl, .ty _, .base (.lst ka), kit_ty (by decide +kernel), _, rfl, _, _, .type "list", .type "list", true, rfl, .ty _, .base (.lst kb), kit_ty (by decide +kernel), rfl, _, rfl, ?_⟩
    refine iteN rfl ?_
    refine ⟨_, rfl, _, _, .type "list", .type "tuple", false, rfl, .ty _, .base (.lst ka), kit_ty (by decide +kernel), _, rfl, _, _, .type "list", .type "tuple", false, rfl, .ty _, .base (.lst kb), kit_ty (by decide +kernel), rfl, _, rfl, ?_⟩
    refine iteN rfl ?_
    refine ⟨_, rfl, a, xs, rfl, .inl (SqL.of ka), _, rfl, b, ys, rfl, .inl (SqL.of kb), rfl, _, rfl, iteC (decide_eq_true (by rw [h3])) ?_⟩
    refine ⟨_, rfl, _, rfl, a, b, xs, ys, rfl, .inl ⟨SqL.of ka, SqL.of kb, fun D hD => ?_⟩⟩
    have hD0 : H D = none := g1.free hD
    refine lc_it (walk_zip (K := K) (a := a) (b := b) (n := xs.length) (by omega)) (InvS H D) ⟨upd_same, same_over g1 hD0 _⟩ (fun i H' _ ⟨_, g⟩ => ⟨SqL.of (g _ _ h1), SqL.of (g _ _ h2)⟩) ?_ ?_
    · rintro i v H' H'' hi ⟨hd, g⟩ ⟨T, x, y, rfl, hT, rfl, ex, ey⟩
      have gT : Same H' (upd H' T (.tup [x, y])) := same_new hT _
      have hi1 : i < 1001 := by omega
      refine ⟨T, [x, y], rfl, SqT.of upd_same, rfl, x, [y], rfl, y, [], rfl, rfl, ?_⟩
      refine ⟨rfl, kept ?_⟩
      refine ⟨_, rfl, _, rfl, x, y, rfl, (h5 i x y ex ey).mono (g.trans gT), fun H2 g2 => ?_⟩
      refine ⟨_, g2 _ _ (gT _ _ hd), by rw [List.length_replicate]; exact small1000 (by omega), by rw [upd_same, List.replicate_succ'], same_over ((g.trans gT).trans g2) hD0 _⟩
    · rintro H' ⟨hd, g⟩
      exact ⟨D, List.replicate xs.length true, rfl, SqL.of (by rw [hd, List.map_replicate]), by rw [all_true]; exact q _ g⟩
abbrev sDraw : Stmt := topS 34
/-! the spring of numbers: a list of four, its first one a list of ints -/
def Spr (H : Hp) (st q : Addr) (b : Int) : Prop := ∃ (ns : List Int) (a c : Int), H st = some (.lst [.ref q, .int a, .int b, .int c]) ∧ H q = some (.lst (ns.map V.int)) ∧ 0 ≤ a ∧ 0 ≤ c ∧ c < 2147483647 ∧ ns.length ≤ 63
/-! all else is as it was -/
def SX (st q : Addr) (H H' : Hp) : Prop := ∀ (x : Addr) (o : HO), x ≠ st → x ≠ q → H x = some o → H' x = some o
theorem SX.refl {st q : Addr} {H : Hp} : SX st q H H := fun _ _ _ _ h => h
theorem SX.trans {st q : Addr} {H H1 H2 : Hp} (g : SX st q H H1) (g' : SX st q H1 H2) : SX st q H H2 := fun x o h1 h2 h => g' x o h1 h2 (g x o h1 h2 h)
theorem SX.of {st q : Addr} {H H' : Hp} (g : Same H H') : SX st q H H' := fun x o _ _ h => g x o h
theorem SX.st {st q : Addr} {H : Hp} {o : HO} : SX st q H (upd H st o) := fun x u h1 _ h => by rw [upd_ne h1]; exact h
theorem SX.q {st q : Addr} {H : Hp} {o : HO} : SX st q H (upd H q o) := fun x u _ h2 h => by rw [upd_ne h2]; exact h
theorem Spr.ne {H : Hp} {st q : Addr} {a b c : Int} {ns : List Int} (h1 : H st = some (.lst [.ref q, .int a, .int b, .int c])) (h2 : H q = some (.lst (ns.map V.int))) : q ≠ st := fun e => by
  rw [e, h1] at h2
  cases ns with
  | nil => cases h2
  | cons n r => cases h2
def spDraw : Sp := fun vs H Q _ => ∃ (st q : Addr) (b m : Int), vs = [.ref st, .int m] ∧ Spr H st q b ∧ 0 ≤ b ∧ b ≤ 1000 ∧ 0 < m ∧ m < 1073741824 ∧
  ∀ (r : Int) (H' : Hp), 0 ≤ r → r < m → Spr H' st q (b + 1) → SX st q H H' → Q (.int r) H'
theorem scD : FnScope ["_law_stream", "_law_many", "_law_digit", "_law_mixed_here"] ["_law_stream", "_law_many"] (defScope sDraw) := ⟨rfl, rfl, rfl, by decide +kernel, rfl, by decide +kernel, by decide +kernel⟩
theorem dp_ints {H : Hp} : ∀ ns : List Int, DpAll K H (ns.map V.int) (ns.map PyData.int)
  | [] => .nil
  | n :: r => .cons (.int n) (dp_ints r)
theorem first_ix {n : Nat} (h : 0 < n) : seqIndex? 0 n = some 0 := (ixN_seq (n := n) (i := 0) (j := 0) (by unfold ixN; rw [if_pos (by decide), if_pos (by omega)]; rfl)).1
theorem ok_draw (F : Fun K "_law_draw" "_law_draw" sDraw f fd) (B : Bt mg) : FnOk P w K mg base CX0 1 f fd ["_law_stream", "_law_many"] spDraw := by
  refine F.ok scD (fun vs H Q E h => ?_) (fun cdv A outer s H vs Q E hr h => ?_)
  · obtain ⟨st, q, b, m, rfl, _⟩ := h
    rfl
  obtain ⟨st, q, b, m, rfl, ⟨ns, a, c, h1, h2, ha, hc, hc2, hns⟩, hb0, hb1, hm0, hm1, k⟩ := h
  refine ⟨_, pss_cons (ps_asg (pe_op op_add (pe_ix ix_list (pv 0) pe_int (fun _ _ => rfl)) pe_int) (pg_sub (pv 0) pe_int set_list))
    (C8.pss_cut (ps_if (PW.pt (pw_and (pt_cmpR op_eq (pe_ix ix_list (pv 0) pe_int (fun _ _ => rfl)) pe_int (nomark _)) (pw_and1 (pt_cmpR (op_neD hr.units) (pe_ix ix_list (pv 0) pe_int (fun _ _ => rfl)) (pe_lst pa_nil) (nomark _))))) (pss_cons (ps_asg (pe_bm PySem.F.plainAttrs_list PySem.F.slot_list_pop PySem.F.type_list_pop mt_popAt (pe_ix ix_list (pv 0) pe_int (fun _ _ => rfl)) (pa_cons pe_int pa_nil)) (pg_sub (pv 0) pe_int set_list)) (pss_one (ps_if (pt_cmpR op_lt (pe_ix ix_list (pv 0) pe_int (fun _ _ => rfl)) (pe_op op_pow pe_int pe_int) (nomark _)) (pss_cons (ps_asg (pe_op op_mod (pe_callTy call_int1 (by rfl) B.int (by decide +kernel) (pa_cons (pe_op op_add (pe_op op_add (pe_op op_mul (pe_ix ix_list (pv 0) pe_int (fun _ _ => rfl)) pe_int) (pe_ix ix_list (pv 0) pe_int (fun _ _ => rfl))) pe_int) pa_nil)) pe_int) (pg_sub (pv 0) pe_int set_list)) (pss_one (ps_asg pe_int (pg_sub (pv 0) pe_int set_list)))) pss_nil))) pss_nil)
    (pss_cons (ps_if (pt_cmpR op_gt (pe_ix ix_list (pv 0) pe_int (fun _ _ => rfl)) pe_int (nomark _)) (pss_cons (ps_set (i := 2) scD.nd rfl (Or.inl rfl) (pe_op op_mod (pe_callTy call_int1 (by rfl) B.int (by decide +kernel) (pa_cons (pe_ix ix_list (pv 0) pe_int (fun _ _ => rfl)) pa_nil)) (pv 1))) (pss_cons (ps_asg (pe_op op_fdiv (pe_ix ix_list (pv 0) pe_int (fun _ _ => rfl)) (pv 1)) (pg_sub (pv 0) pe_int set_list)) (pss_one (ps_ret (pv 2))))) pss_nil)
    (pss_cons (ps_set (i := 3) scD.nd rfl (Or.inl rfl) (pe_op op_mod (pe_op op_pow (pe_op op_add (pe_op op_add (pe_ix ix_list (pv 0) pe_int (fun _ _ => rfl)) (pe_op op_mul pe_int (pe_ix ix_list (pv 0) pe_int (fun _ _ => rfl)))) pe_int) pe_int) pe_int))
    (pss_one (ps_ret (pe_op op_mod (pe_op op_mod (pe_op op_pow (pe_op op_add (pe_op op_add (pe_op op_mul (pv 3) pe_int) (pe_op op_mul (pe_op op_mul pe_int (pe_ix ix_list (pv 0) pe_int (fun _ _ => rfl))) (pe_ix ix_list (pv 0) pe_int (fun _ _ => rfl)))) pe_int) pe_int) pe_int) (pv 1))))))), ?_⟩
  have nqs : q ≠ st := Spr.ne h1 h2
  refine ⟨_, rfl, st, _, _, _, rfl, rfl, SqL.of h1, rfl, _, _, rfl, rfl, _, rfl, st, _, _, _, rfl, rfl, h1, rfl, ?_⟩
  have e1 : upd H st (.lst [.ref q, .int a, .int (b + 1), .int c]) st = some (.lst [.ref q, .int a, .int (b + 1), .int c]) := upd_same
  have e2 : upd H st (.lst [.ref q, .int a, .int (b + 1), .int c]) q = some (.lst (ns.map V.int)) := by rw [upd_ne nqs]; exact h2
  have gx : SX st q H (upd H st (.lst [.ref q, .int a, .int (b + 1), .int c])) := SX.st
  refine ⟨fun σ' H' => σ' = [some (.ref st), some (.int m), none, none] ∧ Spr H' st q (b + 1) ∧ SX st q H H', ?_, ?_⟩
  · refine ⟨_, rfl, st, _, _, _, rfl, rfl, SqL.of e1, rfl, rfl, _, rfl, ?_⟩
    refine ite2 (fun ca => ?_) (fun _ => ⟨rfl, ⟨ns, a, c, e1, e2, ha, hc, hc2, hns⟩, gx⟩)
    have ca0 : a = 0 := by
      have z := of_decide_eq_true ca
      cases z
      rfl
    refine ⟨_, rfl, st, _, _, _, rfl, rfl, SqL.of e1, rfl, Nat.zero_le _, fun l hl => ?_⟩
    have g2 := same_new hl (.lst [])
    have f1 := g2 _ _ e1
    have f2 := g2 _ _ e2
    have gx2 := gx.trans (.of g2)
    cases ns with
    | nil =>
      refine ⟨.list [], .list [], .lst (SqL.of f2) .nil, .lst (SqL.of upd_same) .nil, by decide +kernel, by decide +kernel, _, rfl, ?_⟩
      refine iteN (by decide +kernel) ⟨rfl, ⟨[], a, c, f1, f2, ha, hc, hc2, hns⟩, gx2⟩
    | cons n r =>
      refine ⟨.list ((n :: r).map PyData.int), .list [], .lst (SqL.of f2) (dp_ints _), .lst (SqL.of upd_same) .nil, PySem.W.ke_shaped_ints _, by decide +kernel, _, rfl, ?_⟩
      refine iteC rfl ?_
      refine ⟨_, rfl, st, _, _, _, rfl, rfl, SqL.of f1, rfl, .inl ⟨rfl, _, SqL.of f2⟩, q, _, 0, 0, _, rfl, rfl, f2, by decide, by decide, first_ix (by simp), rfl, ?_⟩
      have p1 := (upd_ne (o := .lst (r.map V.int)) nqs.symm).trans f1
      have gx3 := gx2.trans (SX.q (o := .lst (r.map V.int)))
      refine ⟨_, rfl, st, _, _, _, rfl, rfl, p1, rfl, ?_⟩
      have gx4 := gx3.trans (SX.st (o := .lst [.ref q, .int n, .int (b + 1), .int c]))
      refine ⟨_, rfl, st, _, _, _, rfl, rfl, SqL.of upd_same, rfl, _, _, rfl, rfl, ⟨by decide, by decide, by decide⟩, _, _, rfl, rfl, _, rfl, ?_⟩
      refine ite2 (fun cn => ?_) (fun cn => ?_)
      · refine ⟨_, rfl, st, _, _, _, rfl, rfl, SqL.of upd_same, rfl, _, _, rfl, rfl, .inr ⟨by decide, by decide⟩, _, rfl, st, _, _, _, rfl, rfl, SqL.of upd_same, rfl, _, _, rfl, rfl, _, _, rfl, rfl, .inl ⟨_, rfl, ?_⟩⟩
        refine ⟨_, _, rfl, rfl, (by show (0 : Int) < 2147483647; decide), _, rfl, st, _, _, _, rfl, rfl, upd_same, rfl, _, rfl, st, _, _, _, rfl, rfl, upd_same, rfl, ?_⟩
        refine ⟨rfl, ⟨r, 0, (c * 31 + n + 7) % 2147483647, upd_same, ?_, by decide, Int.emod_nonneg _ (by decide), Int.emod_lt_of_pos _ (by decide), by simp at hns; omega⟩, (gx4.trans SX.st).trans SX.st⟩
        rw [upd_ne nqs, upd_ne nqs, upd_ne nqs, upd_same]
        rfl
      · have cn1 : ¬ n < (10 : Int) ^ 18 := of_decide_eq_false (Bool.eq_false_iff.mpr cn)
        refine ⟨rfl, ⟨r, n, c, upd_same, ?_, by omega, hc, hc2, by simp at hns; omega⟩, gx4⟩
        rw [upd_ne nqs, upd_same]
        rfl
  · rintro σ' H' ⟨rfl, ⟨ns', a', c', d1, d2, ha', hc', hc2', hns'⟩, g'⟩
    refine ⟨_, rfl, st, _, _, _, rfl, rfl, SqL.of d1, rfl, _, _, rfl, rfl, _, rfl, ?_⟩
    refine ite2 (fun cp => ?_) (fun cp => ?_)
    · have cp1 : a' > 0 := of_decide_eq_true cp
      refine ⟨_, rfl, st, _, _, _, rfl, rfl, SqL.of d1, rfl, .inl ⟨_, rfl, ?_⟩⟩
      refine ⟨_, rfl, _, _, rfl, rfl, hm0, _, rfl, st, _, _, _, rfl, rfl, SqL.of d1, rfl, _, rfl, _, _, rfl, rfl, ⟨hm0, hm1⟩, _, rfl, st, _, _, _, rfl, rfl, d1, rfl, _, rfl, ?_⟩
      exact k _ _ (Int.emod_nonneg _ (by omega)) (Int.emod_lt_of_pos _ hm0) ⟨ns', a' / m, c', upd_same, by rw [upd_ne nqs]; exact d2, Int.ediv_nonneg ha' (by omega), hc', hc2', hns'⟩ (g'.trans SX.st)
    · refine ⟨_, rfl, st, _, _, _, rfl, rfl, SqL.of d1, rfl, _, rfl, st, _, _, _, rfl, rfl, SqL.of d1, rfl, _, _, rfl, rfl, .inl ⟨by decide, by decide⟩, _, _, rfl, rfl, _, _, rfl, rfl, _, _, rfl, rfl, ⟨by decide, by decide, ?_⟩, _, _, rfl, rfl, (by show (0 : Int) < 2147483629; decide), ?_⟩
      · show (c' + 104729 * (b + 1) + 17).natAbs < 18446744073709551616
        omega
      have x0 : 0 ≤ (c' + 104729 * (b + 1) + 17) ^ (5 : Int).toNat % 2147483629 := Int.emod_nonneg _ (by decide)
      have x1 : (c' + 104729 * (b + 1) + 17) ^ (5 : Int).toNat % 2147483629 < 2147483629 := Int.emod_lt_of_pos _ (by decide)
      refine ⟨_, rfl, _, _, rfl, rfl, .inr ⟨by decide, by decide⟩, _, rfl, st, _, _, _, rfl, rfl, SqL.of d1, rfl, _, _, rfl, rfl, .inl ⟨by decide, by decide⟩, _, rfl, st, _, _, _, rfl, rfl, SqL.of d1, rfl, _, _, rfl, rfl, .inr ⟨?_, ?_⟩, _, _, rfl, rfl, _, _, rfl, rfl, _, _, rfl, rfl, ⟨by decide, by decide, ?_⟩, _, _, rfl, rfl, (by show (0 : Int) < 1000000007; decide), _, rfl, _, _, rfl, rfl, hm0, ?_⟩
      · show -(18446744073709551616 : Int) < b + 1
        omega
      · show b + 1 < (18446744073709551616 : Int)
        omega
      · show ((c' + 104729 * (b + 1) + 17) ^ (5 : Int).toNat % 2147483629 * 48271 + 40503 * (b + 1) * (b + 1) + 13).natAbs < 18446744073709551616
        have y0 : 0 ≤ 40503 * (b + 1) * (b + 1) := Int.mul_nonneg (by omega) (by omega)
        have y1 : 40503 * (b + 1) * (b + 1) ≤ 40543503 * 1001 := Int.mul_le_mul (by omega) (by omega) (by omega) (by omega)
        revert x0 x1 y0 y1
        generalize (c' + 104729 * (b + 1) + 17) ^ (5 : Int).toNat % 2147483629 = x
        generalize 40503 * (b + 1) * (b + 1) = y
        intro x0 x1 y0 y1
        omega
      · exact k _ _ (Int.emod_nonneg _ (by omega)) (Int.emod_lt_of_pos _ hm0) ⟨ns', a', c', d1, d2, ha', hc', hc2', hns'⟩ g'
theorem Spr.same {H H' : Hp} {st q : Addr} {b : Int} (g : Same H H') : Spr H st q b → Spr H' st q b
  | ⟨ns, a, c, h1, h2, r⟩ => ⟨ns, a, c, g _ _ h1, g _ _ h2, r⟩
theorem TK.sx {H H' : Hp} {st q : Addr} {b : Int} (s : Spr H st q b) (g : SX st q H H') : TK K H H' := by
  obtain ⟨ns, a, c, h1, h2, _⟩ := s
  exact .but fun t o no h => g _ _ (fun e => by rw [e, h1] at h; exact no _ (Option.some.inj h).symm) (fun e => by rw [e, h2] at h; exact no _ (Option.some.inj h).symm) h
abbrev sStart : Stmt := topS 35
abbrev sPick : Stmt := topS 36
def spStart (K : PySem.W.Frag) : Sp := fun vs H Q _ => ∃ (a : Addr) (ns : List Int), vs = [.ref a] ∧ SqL K H a (ns.map V.int) ∧ ns.length ≤ 63 ∧
  ∀ (st q : Addr) (H' : Hp), Same H H' → Spr H' st q 0 → Q (.ref st) H'
theorem scT : FnScope ["_law_script"] ["_law_script"] (defScope sStart) := ⟨rfl, rfl, rfl, by decide +kernel, rfl, by decide +kernel, by decide +kernel⟩
theorem ok_start (F : Fun K "_law_start" "_law_start" sStart f fd) (B : Bt mg) : FnOk P w K mg base CX0 1 f fd ["_law_script"] (spStart K) := by
  refine F.ok scT (fun vs H Q E h => ?_) (fun cdv A outer s H vs Q E hr h => ?_)
  · obtain ⟨a, ns, rfl, _⟩ := h
    rfl
  obtain ⟨a, ns, rfl, hS, hn, k⟩ := h
  refine ⟨_, pss_one (ps_ret (pe_lst (pa_cons (pe_callTy call_list_of (by rfl) B.lst (by decide +kernel) (pa_cons (pv 0) pa_nil)) (pa_cons pe_int (pa_cons pe_int (pa_cons pe_int pa_nil)))))), ?_⟩
  refine ⟨_, rfl, a, _, rfl, .inl hS, fun l hl => ?_⟩
  have g1 := same_new hl (.lst (ns.map V.int))
  refine ⟨(by show 4 ≤ sizeLine; decide), fun t ht => ?_⟩
  have g2 := same_new ht (.lst [.ref l, .int 0, .int 0, .int 0])
  exact k t l _ (g1.trans g2) ⟨ns, 0, 0, upd_same, g2 _ _ upd_same, by decide, by decide, by decide, hn⟩
def spPick (K : PySem.W.Frag) : Sp := fun vs H Q _ => ∃ (st q p : Addr) (b : Int) (xs : List V), vs = [.ref st, .ref p] ∧ Spr H st q b ∧ 0 ≤ b ∧ b ≤ 1000 ∧ H p = some (.lst xs) ∧ p ≠ st ∧ p ≠ q ∧ 0 < xs.length ∧ xs.length ≤ 1000 ∧
  ∀ (v : V) (H' : Hp), v ∈ xs → Spr H' st q (b + 1) → SX st q H H' → Q v H'
theorem scP : FnScope ["_law_stream", "_law_some"] ["_law_stream", "_law_some"] (defScope sPick) := ⟨rfl, rfl, rfl, by decide +kernel, rfl, by decide +kernel, by decide +kernel⟩
theorem at_int {xs : List V} {r : Int} (h0 : 0 ≤ r) (h1 : r < (xs.length : Int)) : ∃ v, v ∈ xs ∧ atI xs r = some v := by
  have hk : r.toNat < xs.length := by omega
  refine ⟨xs[r.toNat], List.getElem_mem hk, ?_⟩
  have q := atI_nat (xs := xs) (j := r.toNat) (v := xs[r.toNat]) (List.getElem?_eq_getElem hk)
  rwa [show ((r.toNat : Nat) : Int) = r by omega] at q
theorem ok_pick (F : Fun K "_law_pick" "_law_pick" sPick f fd) {g : Addr} {gd : FuncData} (G : FnOk P w K mg base CX0 1 g gd ["_law_stream", "_law_many"] spDraw) (bG : Binds K gd ["_law_stream", "_law_many"] []) (kG : PySem.W.keepIn K (.ref g) = true) (mG : mg "_law_draw" = some (.ref g)) (B : Bt mg) :
    FnOk P w K mg base CX0 2 f fd ["_law_stream", "_law_some"] (spPick K) := by
  refine F.ok scP (fun vs H Q E h => ?_) (fun cdv A outer s H vs Q E hr h => ?_)
  · obtain ⟨st, q, p, b, xs, rfl, _⟩ := h
    rfl
  obtain ⟨st, q, p, b, xs, rfl, hs, hb0, hb1, hp, n1, n2, hx0, hx1, k⟩ := h
  refine ⟨_, pss_one (ps_ret (pe_ix ix_list (pv 1) (pe_call G hr rfl mG kG bG .nil pass0 (pa_cons (pv 0) (pa_cons (pe_callB call_len_seq (by rfl) B.len PySem.boot_len (pa_cons (pv 1) pa_nil)) pa_nil))) (fun _ _ => rfl))), ?_⟩
  refine ⟨_, rfl, _, rfl, _, rfl, p, xs, rfl, .inl (SqL.of hp), st, q, b, _, rfl, hs, hb0, hb1, by omega, by omega, fun r H' r0 r1 hs' gx => ?_⟩
  obtain ⟨v, hv, ev⟩ := at_int r0 r1
  exact ⟨p, xs, r, v, rfl, rfl, SqL.of (gx _ _ n1 n2 hp), ev, k v H' hv hs' gx⟩
theorem all_nil {p : V → Prop} : ∀ x ∈ ([] : List V), p x := fun x h => by cases h
theorem all_cons {p : V → Prop} {a : V} {l : List V} (h : p a) (t : ∀ x ∈ l, p x) : ∀ x ∈ a :: l, p x := fun x q => by
  cases q with
  | head => exact h
  | tail _ q => exact t x q
end
end Lw
/-! operators of the program's own classes: x op y, x op= y, op x by the class's own defs; order of data -/
namespace OwB
open PySem PySem.Spec PyProof.Rows L2
section
variable {X : Cx} {CX : CXT} {k : Nat} {g C : Addr} {gd : FuncData} {ps : List Str} {sp : Sp} {E : XK}
theorem inst_of {pins : List (Addr × Obj)} {σ : L2.St} {H : Hp} {s : Shared} {a dx : Addr} {fs : List (Str × V)} (I : Inv X pins σ H s) (h : H a = some (.ins C dx fs)) : ∃ od, PySem.W.InstAt s.heap a (PySem.W.instObj C dx) C (some od) := by
  obtain ⟨mA, O, _⟩ := ins_get I.hok h
  obtain ⟨od, J, _⟩ := O.look
  exact ⟨od, J⟩
theorem back_of {pins : List (Addr × Obj)} {σ : L2.St} {Q : VK} {v : Value} {s' : Shared} (h : EP X pins σ Q v s') : PySem.W.CmpBack (EP X pins σ Q) v s' := by
  obtain ⟨z, H', I', rz, qz⟩ := h
  exact SlX.cmpback rz ⟨z, H', I', rz, qz⟩
/-- the def at g stands for the class at C under the name x -/
structure OpD (K : PySem.W.Frag) (C g : Addr) (x : Str) : Prop where
  at_ : PySem.W.findIn K (.ref C) x = some (some (.ref g))
  fn : PySem.W.isFn K (.ref g) = true
/-- x op y, both instances of the class at C -/
def rOwnI (C : Addr) (sp : Sp) (E : XK) : R2 := fun x y H Q => ∃ a b dx dy fs gs, x = .ref a ∧ y = .ref b ∧ H a = some (.ins C dx fs) ∧ H b = some (.ins C dy gs) ∧ sp [x, y] H Q E
theorem op_ownB {op : Operator} (hc : PySem.W.selfFirst X.K C = true) (D : OpD X.K C g (PySem.dunder op.info.2)) (F : FnOk X.prog X.w X.K X.mg X.base CX k g gd ps sp) (hr : Room k X.A) (hb : Binds X.K gd ps []) (hx : Passes CX X E) :
    OpR X (binaryOp op) (rOwnI C sp E) := by
  intro pins s σ H x y v u Q I rx ry h
  obtain ⟨a, b, dx, dy, fs, gs, rfl, rfl, ha, hb', q⟩ := h
  cases (show v = Value.ref a from rx)
  cases (show u = Value.ref b from ry)
  obtain ⟨od, J⟩ := inst_of I ha
  obtain ⟨od', J'⟩ := inst_of I hb'
  obtain ⟨m, hF⟩ := I.fr
  refine PySem.W.binop_K hF I.ok.mod.kin J J'.type hc D.at_ D.fn ?_
  exact wpAny_mono (run_fn (us := [.ref a, .ref b]) (vs := [.ref a, .ref b]) F hr hb .nil hx I (.cons rfl (.cons rfl .nil)) q) (fun w s' z => back_of z) fun _ _ x => x
theorem op_ownC {op : CmpOp} (hop : ∀ a b, compareOp op a b = richCompare op a b) (D : OpD X.K C g (cmpInfo op).2.1) (F : FnOk X.prog X.w X.K X.mg X.base CX k g gd ps sp) (hr : Room k X.A) (hb : Binds X.K gd ps []) (hx : Passes CX X E) :
    OpR X (compareOp op) (rOwnI C sp E) := by
  intro pins s σ H x y v u Q I rx ry h
  obtain ⟨a, b, dx, dy, fs, gs, rfl, rfl, ha, hb', q⟩ := h
  cases (show v = Value.ref a from rx)
  cases (show u = Value.ref b from ry)
  obtain ⟨od, J⟩ := inst_of I ha
  obtain ⟨od', J'⟩ := inst_of I hb'
  obtain ⟨m, hF⟩ := I.fr
  rw [hop]
  refine PySem.W.cmp_K (op := op) (tb := .ref C) hr.units0 hF I.ok.mod.kin J J'.type ?_ D.at_ D.fn ?_
  · unfold PySem.W.notFirst
    rw [beq_self_eq_true, Bool.true_or]
  exact wpAny_mono (run_fn (us := [.ref a, .ref b]) (vs := [.ref a, .ref b]) F hr hb .nil hx I (.cons rfl (.cons rfl .nil)) q) (fun w s' z => back_of z) fun _ _ x => x
/-- x op= y, x an instance of the class at C -/
def rOwnA (C : Addr) (sp : Sp) (E : XK) : R2 := fun x y H Q => ∃ a dx fs, x = .ref a ∧ H a = some (.ins C dx fs) ∧ sp [x, y] H Q E
theorem op_ownA {op : Operator} (hc : PySem.W.selfFirst X.K C = true) (D : OpD X.K C g (PySem.dunderI op.info.2)) (F : FnOk X.prog X.w X.K X.mg X.base CX k g gd ps sp) (hr : Room k X.A) (hb : Binds X.K gd ps []) (hx : Passes CX X E) :
    OpR X (inplaceOp op) (rOwnA C sp E) := by
  intro pins s σ H x y v u Q I rx ry h
  obtain ⟨a, dx, fs, rfl, ha, q⟩ := h
  cases (show v = Value.ref a from rx)
  obtain ⟨od, J⟩ := inst_of I ha
  obtain ⟨m, hF⟩ := I.fr
  refine PySem.W.ksp_inplace hF I.ok.mod.kin J hc D.at_ D.fn ?_
  exact wpAny_mono (run_fn (us := [.ref a, u]) (vs := [.ref a, y]) F hr hb .nil hx I (.cons rfl (.cons ry .nil)) q) (fun w s' z => back_of z) fun _ _ x => x
/-- op x -/
def rOwnU (C : Addr) (sp : Sp) (E : XK) : V → Hp → VK → Prop := fun x H Q => ∃ a dx fs, x = .ref a ∧ H a = some (.ins C dx fs) ∧ sp [x] H Q E
theorem un_own_neg (D : OpD X.K C g "__neg__") (F : FnOk X.prog X.w X.K X.mg X.base CX k g gd ps sp) (hr : Room k X.A) (hb : Binds X.K gd ps []) (hx : Passes CX X E) : UnR X (unaryOp .USub) (rOwnU C sp E) := by
  intro pins s σ H x v Q I rx h
  obtain ⟨a, dx, fs, rfl, ha, q⟩ := h
  cases (show v = Value.ref a from rx)
  obtain ⟨od, J⟩ := inst_of I ha
  obtain ⟨m, hF⟩ := I.fr
  exact PySem.W.ksp_neg hF I.ok.mod.kin J D.at_ D.fn (run_fn (us := [.ref a]) (vs := [.ref a]) F hr hb .nil hx I (.cons rfl .nil) q)
theorem un_own_pos (D : OpD X.K C g "__pos__") (F : FnOk X.prog X.w X.K X.mg X.base CX k g gd ps sp) (hr : Room k X.A) (hb : Binds X.K gd ps []) (hx : Passes CX X E) : UnR X (unaryOp .UAdd) (rOwnU C sp E) := by
  intro pins s σ H x v Q I rx h
  obtain ⟨a, dx, fs, rfl, ha, q⟩ := h
  cases (show v = Value.ref a from rx)
  obtain ⟨od, J⟩ := inst_of I ha
  obtain ⟨m, hF⟩ := I.fr
  exact PySem.W.ksp_pos hF I.ok.mod.kin J D.at_ D.fn (run_fn (us := [.ref a]) (vs := [.ref a]) F hr hb .nil hx I (.cons rfl .nil) q)
theorem un_own_inv (D : OpD X.K C g "__invert__") (F : FnOk X.prog X.w X.K X.mg X.base CX k g gd ps sp) (hr : Room k X.A) (hb : Binds X.K gd ps []) (hx : Passes CX X E) : UnR X (unaryOp .Invert) (rOwnU C sp E) := by
  intro pins s σ H x v Q I rx h
  obtain ⟨a, dx, fs, rfl, ha, q⟩ := h
  cases (show v = Value.ref a from rx)
  obtain ⟨od, J⟩ := inst_of I ha
  obtain ⟨m, hF⟩ := I.fr
  exact PySem.W.ksp_inv hF I.ok.mod.kin J D.at_ D.fn (run_fn (us := [.ref a]) (vs := [.ref a]) F hr hb .nil hx I (.cons rfl .nil) q)
/-- x op i, x an instance, i an int -/
def rOwnN (C : Addr) (sp : Sp) (E : XK) : R2 := fun x y H Q => ∃ a dx fs i, x = .ref a ∧ y = .int i ∧ H a = some (.ins C dx fs) ∧ sp [x, y] H Q E
theorem op_ownN {op : Operator} {fo ro rc : Option Value} (hc : PySem.W.selfFirst X.K C = true) (D : OpD X.K C g (PySem.dunder op.info.2)) (hr' : PySem.W.findIn X.K (.ref C) (PySem.dunderR op.info.2) = some rc) (hp : rc = none ∨ ∃ g : Addr, rc = some (.ref g))
    (h1 : PySem.W.findIn X.K (.type "int") (PySem.dunder op.info.2) = some fo) (h2 : PySem.W.findIn X.K (.type "int") (PySem.dunderR op.info.2) = some ro) (hsub : PySem.W.subIn X.K (.type "int") (.ref C) = some false)
    (F : FnOk X.prog X.w X.K X.mg X.base CX k g gd ps sp) (hr : Room k X.A) (hb : Binds X.K gd ps []) (hx : Passes CX X E) : OpR X (binaryOp op) (rOwnN C sp E) := by
  intro pins s σ H x y v u Q I rx ry h
  obtain ⟨a, dx, fs, i, rfl, rfl, ha, q⟩ := h
  cases (show v = Value.ref a from rx)
  obtain ⟨t, rfl⟩ := (show ∃ t, u = Value.int i t from ry)
  obtain ⟨od, J⟩ := inst_of I ha
  obtain ⟨m, hF⟩ := I.fr
  refine PySem.W.ksp_binT (b := .int i t) hF I.ok.mod.kin J rfl hc D.at_ D.fn hr' hp h1 h2 hsub ?_
  exact wpAny_mono (run_fn (us := [.ref a, .int i t]) (vs := [.ref a, .int i]) F hr hb .nil hx I (.cons rfl (.cons ⟨t, rfl⟩ .nil)) q) (fun w s' z => back_of z) fun _ _ x => x
end
/-! ### the order of data -/
section
variable {X : Cx}
def rCmpD (K : PySem.W.Frag) (p : PyData → PyData → Bool) : R2 := fun x y H Q => ∃ d e, Dp K H x d ∧ Dp K H y e ∧ PySem.W.alike d e = true ∧ d ≠ .none ∧ min d.depth e.depth ≤ 32 ∧ Q (.bl (p d e)) H
theorem op_ltD (hu : X.A.units + 64 < cLine) : OpR X (compareOp .Lt) (rCmpD X.K fun d e => PySem.W.dataLt d e) := by
  intro pins s σ H x y v u Q I rx ry ⟨d, e, hd, he, ha, hn, hl, q⟩
  obtain ⟨as, r1⟩ := Dp.reads I d x v hd rx
  obtain ⟨bs, r2⟩ := Dp.reads I e y u he ry
  exact PySem.W.lt_data r1 r2 ha hn (by omega) ⟨.bl _, H, I, rfl, q⟩
theorem op_gtD (hu : X.A.units + 64 < cLine) : OpR X (compareOp .Gt) (rCmpD X.K fun d e => PySem.W.dataLt e d) := by
  intro pins s σ H x y v u Q I rx ry ⟨d, e, hd, he, ha, hn, hl, q⟩
  obtain ⟨as, r1⟩ := Dp.reads I d x v hd rx
  obtain ⟨bs, r2⟩ := Dp.reads I e y u he ry
  exact PySem.W.gt_data r1 r2 ha hn (by omega) ⟨.bl _, H, I, rfl, q⟩
theorem op_leD (hu : X.A.units + 64 < cLine) : OpR X (compareOp .LtE) (rCmpD X.K fun d e => !PySem.W.dataLt e d) := by
  intro pins s σ H x y v u Q I rx ry ⟨d, e, hd, he, ha, hn, hl, q⟩
  obtain ⟨as, r1⟩ := Dp.reads I d x v hd rx
  obtain ⟨bs, r2⟩ := Dp.reads I e y u he ry
  exact PySem.W.le_data r1 r2 ha hn (by omega) ⟨.bl _, H, I, rfl, q⟩
theorem op_geD (hu : X.A.units + 64 < cLine) : OpR X (compareOp .GtE) (rCmpD X.K fun d e => !PySem.W.dataLt d e) := by
  intro pins s σ H x y v u Q I rx ry ⟨d, e, hd, he, ha, hn, hl, q⟩
  obtain ⟨as, r1⟩ := Dp.reads I d x v hd rx
  obtain ⟨bs, r2⟩ := Dp.reads I e y u he ry
  exact PySem.W.ge_data r1 r2 ha hn (by omega) ⟨.bl _, H, I, rfl, q⟩
end
end OwB
/-! sets of texts: set(list of texts), sorted(such a set) -/
namespace TxS
open PySem PySem.Spec PyProof.Rows L2
abbrev SD := PySem.Froz.SD
abbrev sOb (D : SD) : Obj := PySem.Froz.sObj "set" D
/-- what a set's table holds: the texts l; it rises and can be walked -/
structure Pay (P : Program) (w : World) (D : SD) (l : List Str) : Prop where
  tx : PySem.Froz.TxOk P w D l
  ris : Ris D.2.2.place.toList
  led : w.params.followText "set-order" = true ∨ D.2.2.led = true
  nd : l.Nodup
section
variable {P : Program} {w : World} {A : Around} {E : Value → Shared → Prop} {s : Shared} {D : SD} {l : List Str} {k : Str} {a : Addr}
theorem tail_ris {ep : Nat} {es1 : Array (Int × Value)} {t2 : SetTable} {wd : Bool} (r : Ris t2.place.toList) : Ris (PySem.Froz.tailTx ep es1 t2 wd).2.2.place.toList := by
  unfold PySem.Froz.tailTx
  by_cases c : (!wd && t2.tooFull) = true
  · rw [if_pos c]
    exact relayAll_ris _ _ _
  · rw [if_neg c]
    exact r
theorem tail_led {ep : Nat} {es1 : Array (Int × Value)} {t2 : SetTable} {wd : Bool} (r : t2.led = true) : (PySem.Froz.tailTx ep es1 t2 wd).2.2.led = true := by
  unfold PySem.Froz.tailTx
  by_cases c : (!wd && t2.tooFull) = true
  · rw [if_pos c]
    exact (relayAll_led _ _ _).trans r
  · rw [if_neg c]
    exact r
theorem Pay.add (F : Pay P w D l) (hk : k ∉ l) (u : Tok) : Pay P w (PySem.Froz.addTx (hashStr w k) (.str k u) D) (k :: l) := by
  refine ⟨PySem.Froz.add_ok u F.tx, ?_, ?_, List.nodup_cons.mpr ⟨hk, F.nd⟩⟩
  · have r1 := layNew_ris D.2.2 D.1 (hashStr w k) (.str k u) F.ris
    refine tail_ris ?_
    by_cases c : (layNew D.2.2 D.1 (hashStr w k) (.str k u)).2.1.plain = true
    · rw [if_pos c]
      exact r1
    · rw [if_neg c]
      exact r1
  · refine F.led.imp id fun z => ?_
    have r1 := (layNew_led D.2.2 D.1 (hashStr w k) (.str k u)).trans z
    refine tail_led ?_
    by_cases c : (layNew D.2.2 D.1 (hashStr w k) (.str k u)).2.1.plain = true
    · rw [if_pos c]
      exact r1
    · rw [if_neg c]
      exact r1
theorem add_old {T : String} {u : Tok} {Q : Bool → Shared → Prop} (ho : s.heap.get? a = some (PySem.Froz.sObj T D)) (F : PySem.Froz.TxOk P w D l) (hk : k ∈ l) (hb : l.length < scanBound) (h : Q false s) :
    wpAny (model P w) A (setAddHashed a (.str k u) (hashStr w k)) Q E s := by
  obtain ⟨es, ep, t⟩ := D
  have hd : (PySem.Froz.sObj T (es, ep, t)).data = .set es ep t := rfl
  have hf : t.fits es.size = true := F.fit
  have hel : ElemsOf (PySem.strKind P w) es.toList := F.el
  have hsz : es.size = l.length := F.sz
  have hkey : (PySem.strKind P w).is k (.str k u) = true := PySem.Froz.is_str k u
  unfold setAddHashed setAddHashedIn
  refine wpAny_holding (wpAny_bind (wpAny_setState_of ho hd hf ?_))
  dsimp only
  rw [byScan_of (knd := PySem.strKind P w) rfl (by omega) hel]
  simp only [↓reduceIte]
  unfold setAddByScan
  refine wpAny_bind (wpAny_bind (wpAny_rule (wpAny_bind (wpAny_setScan_of (knd := PySem.strKind P w) (k := k) hkey ho hd hf hel ?_))))
  cases hr : List.findIdx? (fun e => (PySem.strKind P w).is k e.2) es.toList with
  | none =>
    obtain ⟨e, he, q⟩ := (F.mem k).mp hk
    have z := List.findIdx?_eq_none_iff.mp hr e he
    rw [q] at z
    cases z
  | some j =>
    dsimp only
    exact wpAny_pure (wpAny_pure h)
/-- one add: the text is there behind it -/
theorem add_one {u : Tok} {Q : Bool → Shared → Prop} (ho : s.heap.get? a = some (sOb D)) (F : Pay P w D l) (hb : l.length + 1 < scanBound)
    (h : ∀ (b : Bool) (h' : Heap) (D' : SD) (l' : List Str), Heap.SameBut a s.heap h' → h'.get? a = some (sOb D') → Pay P w D' l' → (∀ z, z ∈ l' ↔ z = k ∨ z ∈ l) → l'.length ≤ l.length + 1 → Q b { s with heap := h' }) :
    wpAny (model P w) A (setAddHashed a (.str k u) (hashStr w k)) Q E s := by
  by_cases hk : k ∈ l
  · exact add_old ho F.tx hk (by omega) (h false s.heap D l (Heap.SameBut.refl a s.heap) ho F (fun z => ⟨.inr, fun q => q.elim (fun e => e ▸ hk) id⟩) (Nat.le_succ _))
  · refine PySem.Froz.add_x ho F.tx hk hb (h true _ (PySem.Froz.addTx (hashStr w k) (.str k u) D) (k :: l) (Heap.SameBut.update s.heap a _) (PySem.Froz.get_upd _ ho rfl) (F.add hk u) (fun z => ?_) (Nat.le_refl _))
    rw [List.mem_cons]
/-- the loop of set(..) over texts -/
theorem upd_texts {R : Result → Shared → Prop} {I : Addr} {fp wr : List Addr} {G : Array GenState → Array GenState → Prop} {n : Nat} {Pv : Nat → Value → Prop} {St : Nat → Shared → Prop}
    (W : WalksS P w A.in1 I fp wr G n Pv St) (S : Addr) (hSf : S ∉ fp) (zs : List Str) (hn : n = zs.length) (hb : zs.length + 1 < scanBound) (hval : ∀ i v, Pv i v → ∃ z t, zs[i]? = some z ∧ v = .str z t) :
    ∀ (k i : Nat) (s : Shared), n - i = k → i ≤ n → St i s → (∃ D l, s.heap.get? S = some (sOb D) ∧ Pay P w D l ∧ (∀ z, z ∈ l ↔ z ∈ zs.take i) ∧ l.length ≤ i) →
      (∀ s', Moved (S :: wr) G s s' → (∃ D l, s'.heap.get? S = some (sOb D) ∧ Pay P w D l ∧ (∀ z, z ∈ l ↔ z ∈ zs) ∧ l.length ≤ n) → R (.ok (.ret .none)) s') →
      codeAny (model P w) A (.builtin "set.update.loop" ⟨[.ref S, .ref I], []⟩) R s := by
  have hSw : S ∉ wr := fun h => hSf (W.sub _ h)
  have hsub : ∀ b ∈ wr, b ∈ S :: wr := fun b hb => List.mem_cons_of_mem _ hb
  intro k
  induction k with
  | zero =>
    intro i s hk hi hst ⟨D, l, h1, h2, h3, h4⟩ hR
    obtain rfl : i = n := by omega
    refine codeAny_builtin F.entry_set_update_loop ?_
    rw [Around.under_plainId F.plain_set_update_loop _]
    show wpAny _ A.in1 (pyNext (.ref I) >>= _) _ _ s
    refine wpAny_bind (W.done s _ _ hst fun s' hm => ?_)
    show wpAny _ A.in1 (ret Value.none) _ _ s'
    rw [List.take_of_length_le (by omega)] at h3
    exact wpAny_pure (hR s' (hm.mono hsub) ⟨D, l, hm.heap S _ hSw h1, h2, h3, h4⟩)
  | succ k ih =>
    intro i s hk hi hst ⟨D, l, h1, h2, h3, h4⟩ hR
    have hlt : i < n := by omega
    refine codeAny_builtin F.entry_set_update_loop ?_
    rw [Around.under_plainId F.plain_set_update_loop _]
    show wpAny _ A.in1 (pyNext (.ref I) >>= _) _ _ s
    refine wpAny_bind (W.item i s _ _ hlt hst fun v s' hP hst' hm => ?_)
    obtain ⟨z, t, hz, rfl⟩ := hval i v hP
    have h1' := hm.heap S _ hSw h1
    show wpAny _ A.in1 (holding [Value.str z t] (setAdd S (.str z t)) >>= _) _ _ s'
    refine wpAny_bind (wpAny_holding ?_)
    unfold setAdd
    refine wpAny_holding (wpAny_bind ((PySem.strKind P w).pyHash (k := z) (PySem.Froz.is_str z t) ?_))
    refine add_one (k := z) (s := { s' with toks := s'.toks + 1 }) h1' h2 (by omega) fun b h' D' l' hsb q1 q2 q3 q4 => ?_
    refine wpAny_pure ⟨plainId_quiet F.plain_set_update_loop _, ih (i + 1) _ (by omega) hlt (W.frame _ s' _ _ hst' (Nat.le_succ _) fun b hb o e => ?_) ⟨D', l', q1, q2, fun y => ?_, by omega⟩ fun s'' hm2 hE => ?_⟩
    · rw [hsb.2 b (fun h : b = S => hSf (by rw [← h]; exact hb))]
      exact e
    · rw [q3 y, h3 y, List.take_add_one, hz, List.mem_append]
      show _ ↔ _ ∨ y ∈ [z]
      rw [List.mem_singleton]
      exact Or.comm
    · refine hR s'' (Moved.trans W.gtrans ((hm.mono hsub).then_heap (Nat.le_succ _) fun b o hb e => ?_) hm2) hE
      rw [hsb.2 b (fun h : b = S => hb (by rw [h]; exact List.mem_cons_self))]
      exact e
theorem pay_new {t : SetTable} {ep : Nat} (hf : t.fits 0 = true) (hp : t.place = #[]) (hl : w.params.followText "set-order" = true ∨ t.led = true) : Pay P w (#[], ep, t) [] :=
  ⟨PySem.Froz.TxOk.nil hf, by show Ris t.place.toList; rw [hp]; exact List.Pairwise.nil, hl, List.nodup_nil⟩
abbrev newSet (w : World) : Obj := { cls := .type "set", dict := none, data := .set #[] 0 (.fresh 0 0 (!w.params.followText "set-order")) }
theorem pay_fresh : Pay P w (#[], 0, .fresh 0 0 (!w.params.followText "set-order")) [] := by
  refine pay_new (by rfl) rfl ?_
  show _ ∨ (!w.params.followText "set-order") = true
  cases w.params.followText "set-order"
  · exact .inr rfl
  · exact .inl rfl
set_option maxHeartbeats 3200000 in
/-- set(xs), a list of texts -/
theorem call_set {L : Addr} {items : Array Value} (zs : List Str) {Q : Value → Shared → Prop} (hh : A.handled = none) (hl : s.heap.IsList L items) (hit : StrsAre items.toList zs) (hb : zs.length + 1 < scanBound)
    (h : ∀ (h' : Heap) (tk : Nat) (D : SD) (l : List Str), h'.get? s.heap.objs.size = some (sOb D) → Pay P w D l → (∀ z, z ∈ l ↔ z ∈ zs) → l.length ≤ zs.length → (∀ b o, s.heap.get? b = some o → h'.get? b = some o) → Q (.ref s.heap.objs.size) { s with heap := h', toks := tk }) :
    wpAny (model P w) A (call (.type "set") [.ref L]) Q E s := by
  have hisz : items.size = zs.length := by
    have q := StrsAre.len_eq hit
    rw [Array.length_toList] at q
    exact q
  obtain ⟨c, tl, hmro⟩ := PySem.F.called_set.mro
  have hmade := PySem.F.called_set.made
  have hsub := PySem.F.called_set.sub
  refine wpAny_call (codeAny_of_tree ?_)
  show wpAny _ _ (callAny (.type "set") _) _ _ _
  refine wpAny_pure ⟨Code.quiet_builtin _ (by decide +kernel), codeAny_builtin PySem.F.entry_type_call ?_⟩
  rw [Around.under_plain (weight_type_call_type "set" [.ref L] []) rfl]
  have h1 := PySem.F.called_set.notType
  have h2 := PySem.F.called_set.canCreate
  have hct := PySem.F.typeCall_set_1 (.ref L)
  repeat (any_goals (first | assumption | wp_step))
  refine codeAny_mono (code_set_led1 (.ref L) (E := E) (Q₁ := fun obj s₁ => obj = .ref s.heap.objs.size ∧ s₁ = { s with heap := s.heap.push (newSet w) }) ⟨rfl, rfl⟩) fun r s₁ hr => ?_
  cases r with
  | error e => exact hr
  | ok fl =>
    cases fl with
    | ret obj =>
      obtain ⟨rfl, rfl⟩ := hr
      have hS : (s.heap.push (newSet w)).get? s.heap.objs.size = some (newSet w) := Heap.get?_push_size _ rfl
      have hT : Shared.TypeIs { s with heap := s.heap.push (newSet w) } (.ref s.heap.objs.size) "set" := ⟨_, hS, rfl⟩
      have hli := PySem.F.called_set.init.lookup
      have hbi := PySem.F.called_set.init.bind (.ref s.heap.objs.size)
      repeat (any_goals (first | assumption | wp_step))
      refine codeAny_mono (codeAny_call_builtin (R := wants (fun r s₂ => r = .none ∧ ∃ h' tk, s₂ = { s with heap := h', toks := tk } ∧ (∃ D l, h'.get? s.heap.objs.size = some (sOb D) ∧ Pay P w D l ∧ (∀ z, z ∈ l ↔ z ∈ zs) ∧ l.length ≤ zs.length) ∧
          (∀ b o, s.heap.get? b = some o → h'.get? b = some o)) E) PySem.F.called_set.init.plain PySem.F.entry_set_init (check_set_init_1 hT ?_)) fun r₂ s₂ hr₂ => ?_
      · obtain ⟨⟨ocls, odict, odata, oslots⟩, hol, hcl, nl, hdl⟩ := hl
        simp only at hcl hdl
        subst hcl hdl
        have hol' : (s.heap.push (newSet w)).get? L = some { cls := .type "list", dict := odict, data := .seq items nl, slots := oslots } := Heap.get?_push_of_some _ hol
        have hsls := PySem.F.sub_list_set
        have hslf := PySem.F.sub_list_frozenset
        have hne : (Value.type "list" == Value.type "dict") = false := by decide
        have hl1 : (s.heap.push (newSet w)).IsList L items := ⟨_, hol', rfl, nl, rfl⟩
        unfold Builtin.«set.__init__» noKeywords Builtin.Frozenset.updateFrom
        generalize hPI : pyIter = PI
        wp_walk
        subst hPI
        refine wpAny_pyIter_list hl1 ?_
        refine wpAny_bind (wpAny_runValue ?_)
        have hlS : L < s.heap.objs.size := Heap.lt_size hol
        have hh3 : A.in1.in1.in1.handled = none := by simp [hh]
        have hneI : L ≠ (s.heap.push (newSet w)).objs.size := by
          rw [Heap.size_push]
          exact Nat.ne_of_lt (Nat.lt_succ_of_lt hlS)
        have hSf : s.heap.objs.size ∉ [(s.heap.push (newSet w)).objs.size, L] := by
          rw [Heap.size_push]
          simp only [List.mem_cons, List.mem_singleton, List.not_mem_nil, or_false, not_or]
          exact ⟨Nat.ne_of_lt (Nat.lt_succ_self _), Nat.ne_of_gt hlS⟩
        have hval : ∀ (i : Nat) (v : Value), items[i]? = some v → ∃ z t, zs[i]? = some z ∧ v = .str z t := fun i v hv => by
          have hi : i < zs.length := by rw [← hisz]; exact (Array.getElem?_eq_some_iff.mp hv).1
          obtain ⟨t, e⟩ := SS.strs_at hit i v (by rw [Array.getElem?_toList]; exact hv)
          refine ⟨zs[i], t, List.getElem?_eq_getElem hi, ?_⟩
          rw [e, List.getD_eq_getElem?_getD, List.getElem?_eq_getElem hi] <;> rfl
        refine upd_texts ((Walks.list hh3 _ L hneI items).toS) s.heap.objs.size hSf zs hisz hb hval (items.size - 0) 0 _ (by omega) (Nat.zero_le _) ⟨⟨_, Heap.get?_push_size _ rfl, rfl, rfl⟩, (hl1.push _)⟩ ?hS0 ?hR
        case hS0 =>
          refine ⟨(#[], 0, .fresh 0 0 (!w.params.followText "set-order")), [], ?_, pay_fresh, fun z => by simp, Nat.le_refl _⟩
          exact Heap.get?_push_of_some _ hS
        case hR =>
          intro s' hm hE
          obtain ⟨h', g', d', tk', os'⟩ := s'
          obtain rfl : g' = s.gens := hm.gens
          obtain rfl : d' = s.drawn := hm.drawn
          obtain rfl : os' = s.os := hm.os
          show wpAny _ _ _ _ _ _
          refine wpAny_pure ?_
          show wpAny _ _ (ret Value.none) _ _ _
          rw [hisz] at hE
          refine wpAny_pure ⟨rfl, h', tk', rfl, hE, fun b o e => ?_⟩
          have hb0 : b < s.heap.objs.size := Heap.lt_size e
          have hb2 : b ≠ (s.heap.push (newSet w)).objs.size := by
            rw [Heap.size_push]
            exact Nat.ne_of_lt (Nat.lt_succ_of_lt hb0)
          exact hm.heap b o (by simp only [List.mem_cons, List.mem_singleton, List.not_mem_nil, or_false, not_or]; exact ⟨Nat.ne_of_lt hb0, hb2⟩) (Heap.get?_push_of_some _ (Heap.get?_push_of_some _ e))
      · cases r₂ with
        | error e => exact hr₂
        | ok fl₂ =>
          cases fl₂ with
          | ret r =>
            obtain ⟨rfl, h', tk, rfl, ⟨D, l, q1, q2, q3, q4⟩, hk'⟩ := hr₂
            repeat (any_goals (first | assumption | wp_step))
            exact h _ _ D l q1 q2 q3 q4 hk'
          | _ => exact hr₂.elim
    | _ => exact hr.elim
theorem strs_out {es : List (Int × Value)} (h : ElemsOf (PySem.strKind P w) es) : ∀ v ∈ es.map (·.2), ∃ x t, v = Value.str x t := fun v hv => by
  obtain ⟨e, he, rfl⟩ := List.mem_map.mp hv
  obtain ⟨⟨x, q, _⟩, _⟩ := h e he
  have z : Value.isStrOf x e.2 = true := q
  obtain ⟨t, et⟩ := Value.isStrOf_shape (x := x) (v := e.2) z
  exact ⟨x, t, et⟩
/-- sorted(set of texts) -/
theorem call_sorted {Q : Value → Shared → Prop} (ho : s.heap.get? a = some (sOb D)) (F : Pay P w D l) (hh : A.handled = none) (h64 : l.length < 64)
    (h : ∀ s' p (out : Array Value) (c : Nat) (ys : List Str), (∀ b o, s.heap.get? b = some o → s'.heap.get? b = some o) → s'.gens = s.gens → s'.os = s.os → s.heap.objs.size ≤ p → s'.heap.get? p = some (seqObj "list" out c) → StrsAre out.toList ys → sortedS ys = true →
      (∀ z, z ∈ ys ↔ z ∈ l) → ys.length = l.length → Q (.ref p) s') : wpAny (model P w) A (call (.builtin "sorted") [.ref a]) Q E s := by
  obtain ⟨es, ep, t⟩ := D
  have hsz : es.size = l.length := F.tx.sz
  refine Calls.call_function_entry kind_sorted plain_sorted entry_sorted (args_sorted1 _) ?_
  unfold Builtin.«sorted»
  refine wpAny_bind (m := checkCount "sorted" 1 1 _) (wpAny_pure ?_)
  refine wpAny_bind (collect_set (A := A.in1) hh ⟨_, ho, rfl, rfl⟩ F.tx.fit (by show es.size < scanBound; rw [hsz]; exact Nat.lt_trans h64 (by decide)) F.ris F.led fun s1 vs k1 hz g1 o1 pm => ?_)
  have pm : vs.Perm (es.toList.map (·.2)) := pm
  have hvl : vs.length = l.length := by rw [pm.length_eq, List.length_map, Array.length_toList, hsz]
  have hall : ∀ v ∈ vs, ∃ x t, v = Value.str x t := fun v hv => strs_out F.tx.el v (pm.mem_iff.mp hv)
  have hS : StrsAre vs (vs.map strOf) := strsAre_map vs hall
  refine wpAny_bind (wpAny_newList ?_ (by rw [hvl, sizeLine_eq]; omega))
  have hoL : (s1.heap.push (seqObj "list" vs.toArray 0)).get? s1.heap.objs.size = some (seqObj "list" vs.toArray 0) := Heap.get?_push_size _ rfl
  refine wpAny_bind (wpAny_holding (wpAny_call_entry slot_list_sort ⟨_, hoL, rfl⟩ entry_list_sort (list_sort_treeK strKind_oneLt hoL hS.keysOf (fun v₁ v₂ rest e => keyKind_strs (by rw [← e]; exact hS)) (by rw [hvl]; exact h64) fun st' hp hs => ⟨_, rfl, ?_⟩) (args_list_sort _)))
  obtain ⟨ys, a1, a2, a3⟩ := sorted_out_str hS hp hs
  obtain ⟨c, hc⟩ := sortedHeap_at (vs := vs) (out := (arrOf st').map (·.2)) hoL
  refine wpAny_pure ⟨_, rfl, h _ s1.heap.objs.size _ c ys (fun b u e => ?_) g1 o1 hz hc a1 a3 (fun z => ?_) ?_⟩
  · have q := k1 b u e
    have hlt := Heap.lt_size q
    show (sortedHeap (s1.heap.push (seqObj "list" vs.toArray 0)) s1.heap.objs.size vs _).get? b = some u
    rw [sortedHeap_old (Nat.ne_of_lt hlt) (by rw [size_push']; exact Nat.lt_succ_of_lt hlt)]
    exact Heap.get?_push_of_some _ q
  · have m := F.tx.mem z
    rw [m, a2.mem_iff, List.mem_map]
    constructor
    · rintro ⟨v, hv, rfl⟩
      obtain ⟨x, t', rfl⟩ := hall v hv
      obtain ⟨e, he, q⟩ := List.mem_map.mp (pm.mem_iff.mp hv)
      exact ⟨e, he, by rw [q]; exact PySem.Froz.is_str x t'⟩
    · rintro ⟨e, he, q⟩
      have z1 : Value.isStrOf z e.2 = true := q
      obtain ⟨t', et⟩ := Value.isStrOf_shape (x := z) (v := e.2) z1
      exact ⟨e.2, pm.mem_iff.mpr (List.mem_map.mpr ⟨e, he, rfl⟩), by rw [et] <;> rfl⟩
  · rw [a2.length_eq, List.length_map, hvl]
end
/-- a set of the texts l -/
def SetT (P : Program) (w : World) (a : Addr) (l : List Str) : HO := .ext fun h => ∃ D, h.get? a = some (sOb D) ∧ Pay P w D l
theorem setT_ok {P : Program} {w : World} {H : Hp} {h : Heap} {a : Addr} {l : List Str} {D : SD} (ho : h.get? a = some (sOb D)) (F : Pay P w D l) : ObjOk P w H h a (SetT P w a l) :=
  ⟨⟨D, ho, F⟩, ⟨_, ho⟩, fun h1 h2 ⟨D', p, q⟩ k => ⟨D', k _ p, q⟩⟩
section
variable {X : Cx}
def rSetT (K : PySem.W.Frag) (P : Program) (w : World) : List V → Hp → VK → Prop := fun xs H Q => ∃ (L : Addr) (zs : List Str), xs = [V.ref L] ∧ SqL K H L (zs.map V.str) ∧ zs.length < 64 ∧
  ∀ (a : Addr) (l : List Str), H a = none → l.Nodup → (∀ z, z ∈ l ↔ z ∈ zs) → l.length ≤ zs.length → Q (.ref a) (upd H a (SetT P w a l))
theorem cr_setT (hc : X.calm = true) : CallR X (.type "set") (rSetT X.K X.prog X.w) := by
  intro pins s σ H xs us Q I r h
  obtain ⟨L, zs, rfl, hl, h64, q⟩ := h
  rw [Vals.ref1 r]
  obtain ⟨its, rv, pl, hz⟩ := I.list hl
  have hn : H s.heap.objs.size = none := I.hok.fresh (Nat.le_refl _)
  refine call_set (P := X.prog) (w := X.w) zs (I.ok.hd hc) pl.isList (by simpa using strsAre_of rv) (Nat.lt_trans (Nat.succ_lt_succ h64) (by decide)) fun h' tk D l q1 q2 q3 q4 k => ?_
  exact ⟨.ref s.heap.objs.size, upd H s.heap.objs.size (SetT X.prog X.w s.heap.objs.size l), I.laid (t' := tk) k (Nat.le_refl _) (setT_ok q1 q2), rfl, q _ l hn q2.nd q3 q4⟩
def rSortT (P : Program) (w : World) : List V → Hp → VK → Prop := fun xs H Q => ∃ (a : Addr) (l : List Str), xs = [V.ref a] ∧ H a = some (SetT P w a l) ∧ l.length < 64 ∧
  ∀ (ys : List Str) (p : Addr), sortedS ys = true → (∀ z, z ∈ ys ↔ z ∈ l) → ys.length = l.length → H p = none → Q (.ref p) (upd H p (.lst (ys.map V.str)))
theorem cr_sortT (hc : X.calm = true) : CallR X (.builtin "sorted") (rSortT X.prog X.w) := by
  intro pins s σ H vs us Q I r h
  obtain ⟨a, l, rfl, ha, h64, q⟩ := h
  obtain ⟨D, ho, F⟩ := (I.hok a _ ha).1
  rw [Vals.ref1 r]
  refine call_sorted ho F (I.ok.hd hc) h64 fun s' p out c ys k g o hp hg hi hs hm hl => ?_
  have hlen : (ys.map V.str).length ≤ sizeLine := by rw [List.length_map, hl, sizeLine_eq]; omega
  have hn : H p = none := I.hok.fresh hp
  have J : Inv X pins σ (upd H p (.lst (ys.map V.str))) { s with heap := s'.heap, gens := s'.gens, drawn := s'.drawn, toks := s'.toks } :=
    I.call (ch := []) (Un.laid k hp hn) (I.hok.laid k hp ⟨hlen, out.toList, c, vals_of_strs hi, hg⟩) (by rw [g]; exact I.bare) (fun _ z => nomatch z)
  have e : s' = { s with heap := s'.heap, gens := s'.gens, drawn := s'.drawn, toks := s'.toks } := by
    cases s'
    cases s
    cases o
    rfl
  rw [e]
  exact ⟨.ref p, _, J, rfl, q ys p hs hm hl hn⟩
end
end TxS
/-! enumerate(t), t a tuple -/
namespace EnT
open PySem PySem.Spec PyProof.Rows L2
theorem drawsT {prog : Program} {w : World} {A : Around} (hh : A.handled = none) (it t : Addr) (hne : t ≠ it) (items : Array Value) :
    Draws prog w A it [it, t] items.size (fun i v => items[i]? = some v) (fun i h => h.IsTupleIter it t i ∧ h.IsTuple t items) where
  live := fun _ _ st => let ⟨o, ho, _⟩ := st.1; ⟨o, ho⟩
  frame := fun _ _ _ st k => ⟨let ⟨o, ho, r⟩ := st.1; ⟨o, k it (by simp) o ho, r⟩, let ⟨o, ho, r⟩ := st.2; ⟨o, k t (by simp) o ho, r⟩⟩
  item := fun i s Q E hi st hQ => by
    refine RZ.nextOf_tuple_item st.1 st.2 (x := items[i]) (by simp [hi]) fun h' hit' hs' => ?_
    exact hQ _ h' s.toks (by simp [hi]) ⟨hit', let ⟨o, ho, r⟩ := st.2; ⟨o, (hs'.2 t hne).trans ho, r⟩⟩ hs'
  done := fun s Q E st hE => RZ.nextOf_tuple_end hh st.1 st.2 (by simp) hE
theorem meets_new (t : Addr) (items : Array Value) :
    Meets (Builtin.«enumerate.__new__» ⟨[.type "enumerate", .ref t], []⟩) (fun _ R s => s.heap.IsTuple t items ∧
      R (.ok (.ret (.ref (s.heap.push { cls := .type "tuple_iterator", data := .fields #[.ref t, .int 0 0] }).objs.size)))
        { s with heap := (s.heap.push { cls := .type "tuple_iterator", data := .fields #[.ref t, .int 0 0] }).push { cls := .type "enumerate", data := .fields #[.none, .bool false, .ref s.heap.objs.size, rawInt 0, .none, .none] } }) :=
  .of_wp fun prog w A R s h => by
    obtain ⟨hp, g, d, tk, os⟩ := s
    obtain ⟨hl, h⟩ := h
    have hsub := sub_enumerate
    have hL : Heap.IsTuple (Shared.heap ⟨hp, g, d, tk, os⟩) t items := hl
    obtain ⟨⟨c0, d0, dt0, sl0⟩, ho, hc, n, hd⟩ := hl
    replace hc : c0 = .type "tuple" := hc
    replace hd : dt0 = .seq items n := hd
    subst hc hd
    wp_walk using AutoSeq1.wpAny_loadPart' ho
    refine wpAny_stack_any fun st => wpAny_pure ?_
    split
    · rename_i c _ _ _ _ _
      cases (c == Value.type "enumerate")
      · wp_walk using AutoSeq1.wpAny_loadPart' ho, wpAny_pyIter_tuple hL
        exact ⟨_, rfl, h⟩
      · wp_walk using AutoSeq1.wpAny_loadPart' ho, wpAny_pyIter_tuple hL
        exact ⟨_, rfl, h⟩
    · wp_walk using AutoSeq1.wpAny_loadPart' ho, wpAny_pyIter_tuple hL
      exact ⟨_, rfl, h⟩
section
variable {prog : Program} {w : World} {A : Around} {E : Value → Shared → Prop} {s : Shared}
theorem call_enum {t : Addr} {items : Array Value} {Q : Value → Shared → Prop} (hL : s.heap.IsTuple t items)
    (h : ∀ h', IsEnum h' (s.heap.objs.size + 1) s.heap.objs.size 0 .none → h'.IsTupleIter s.heap.objs.size t 0 → (∀ b o, s.heap.get? b = some o → h'.get? b = some o) → Q (.ref (s.heap.objs.size + 1)) { s with heap := h' }) :
    wpAny (model prog w) A (call (.type "enumerate") [.ref t]) Q E s := by
  refine callType_new PySem.F.called_enumerate (by decide) (PySem.F.typeCall_enumerate_1 _) (PySem.F.newCall_enumerate_1 _) (fun obj => PySem.F.args_object_init_2 obj _) PySem.F.entry_enumerate_new (meets_new t items) ⟨hL, ?_⟩
  have hz : (s.heap.push { cls := .type "tuple_iterator", data := .fields #[.ref t, .int 0 0] }).objs.size = s.heap.objs.size + 1 := Heap.size_push ..
  show _ ∧ _
  rw [hz]
  have he : IsEnum ((s.heap.push { cls := .type "tuple_iterator", data := .fields #[.ref t, .int 0 0] }).push { cls := .type "enumerate", data := .fields #[.none, .bool false, .ref s.heap.objs.size, rawInt 0, .none, .none] }) (s.heap.objs.size + 1) s.heap.objs.size 0 .none := by
    have q := Heap.get?_push_size (s.heap.push { cls := .type "tuple_iterator", data := .fields #[.ref t, .int 0 0] }) (o := { cls := .type "enumerate", data := .fields #[.none, .bool false, .ref s.heap.objs.size, rawInt 0, .none, .none] }) rfl
    rw [hz] at q
    exact q
  exact ⟨⟨_, he, rfl⟩, h _ he ⟨_, Heap.get?_push_of_some _ (Heap.get?_push_size _ rfl), rfl, rfl⟩ fun b o x => Heap.get?_push_of_some _ (Heap.get?_push_of_some _ x)⟩
end
/-- the tuple at a, each item in a new pair with its place -/
def IteT (K : PySem.W.Frag) (a : Addr) : It :=
  ⟨fun i H => ∃ (xs : List V) (x : V), SqT K H a xs ∧ xs[i]? = some x, fun i H v H' => ∃ T x, v = .ref T ∧ H T = none ∧ H' = upd H T (.tup [.int (i : Nat), x]) ∧ ∀ xs, SqT K H a xs → xs[i]? = some x, fun i H => ∃ xs : List V, SqT K H a xs ∧ xs.length = i⟩
theorem turn_enumT {P : Program} {w : World} {K : PySem.W.Frag} {elts : List Expr} {kk : Nat} {tpos : Pos} (a e it : Addr) (items : Array Value) :
    Turn P w K (.Tuple elts kk tpos) (IteT K a) [e, it] e (fun i h => (∃ old, IsEnum h e it ((i : Nat) : Int) old) ∧ h.IsTupleIter it a i ∧ e ≠ it ∧ a ≠ it ∧ e ≠ a) where
  mem := by simp
  obj := fun i h st b hb => by
    obtain ⟨⟨old, he⟩, ⟨o, ho, hc, hd⟩, _⟩ := st
    have e' : b = e ∨ b = it := by simpa using hb
    rcases e' with z | z
    · rw [z]; exact ⟨_, he, fun v q => nomatch q⟩
    · rw [z]; exact ⟨o, ho, fun v q => by rw [hd] at q; cases q⟩
  keep := fun i h h' st k => let ⟨⟨old, he⟩, ⟨o, ho, r⟩, hne⟩ := st; ⟨⟨old, k e (by simp) _ he⟩, ⟨o, k it (by simp) _ ho, r⟩, hne⟩
  item := by
    intro X hP hw hK hc i pins s σ H E I hf st hg
    subst hP hw hK
    obtain ⟨⟨old, he⟩, hit, hne, hat, hea⟩ := st
    obtain ⟨xs, x, hq, hx⟩ := hg
    obtain ⟨its, rv, p, hz⟩ := I.tuple hq
    obtain ⟨u, hu, ru⟩ := rv.get hx
    have hel : e < s.heap.objs.size := Heap.lt_size he
    have hi : i < its.toArray.size := by simpa using (List.getElem?_eq_some_iff.mp hu).1
    refine wpAny_pyNext_enum_itemD (drawsT (A := X.A.in1) (I.ok.hd hc) it a hat its.toArray) he ⟨hit, p⟩ hi hne (by simp [hne, hea]) fun v h' tk hv ho hst' hT hsz hk => ?_
    have ev : v = u := by
      have q : its.toArray[i]? = some v := hv
      rw [List.getElem?_toArray, hu] at q
      exact (Option.some.inj q).symm
    subst ev
    refine ⟨_, rfl, wpAny_letOwnedTupleGo_enum (s := { s with heap := h', toks := tk + 1 }) ho fun h'' he' sb => ?_⟩
    have hT2 : h''.get? s.heap.objs.size = some { cls := .type "tuple", data := .seq #[.int i tk, v] } := (sb.2 _ (Nat.ne_of_gt hel)).trans hT
    have new : ObjOk X.prog X.w (upd H s.heap.objs.size (.tup [.int (i : Nat), x])) h'' s.heap.objs.size (.tup [.int (i : Nat), x]) :=
      ⟨by show 2 ≤ sizeLine; decide, [.int i tk, v], .cons ⟨_, rfl⟩ (.cons ru .nil), ⟨_, hT2, rfl, _, rfl⟩⟩
    have I1 : Inv X pins σ (upd H s.heap.objs.size (.tup [.int (i : Nat), x])) { s with heap := h'', toks := tk + 1 } :=
      I.turnedNew (ch := [e, it]) (fun b ob hb q => (sb.2 b (fun z => hb (by simp [z]))).trans (hk b ob (fun z => hb (by simp [z])) (fun z => hb (by simp [z])) q)) hf (Nat.le_refl _) new
    refine ⟨.ref s.heap.objs.size, _, I1, rfl, ⟨_, x, rfl, I.hok.fresh (Nat.le_refl _), rfl, fun ys hy => by rw [I.tuple_inj hy hq]; exact hx⟩, ⟨⟨v, ?_⟩, ?_, hne, hat, hea⟩, fun b hb => ?_⟩
    · have e1 : ((i + 1 : Nat) : Int) = (i : Int) + 1 := by omega
      rw [e1]
      exact he'
    · obtain ⟨o, ho2, r⟩ := hst'.1
      exact ⟨o, (sb.2 it (Ne.symm hne)).trans ho2, r⟩
    · have hb' : b < s.heap.objs.size := by
        have e' : b = e ∨ b = it := by simpa using hb
        rcases e' with z | z
        · rw [z]; exact hel
        · obtain ⟨o, q, _⟩ := hit
          rw [z]; exact Heap.lt_size q
      rw [upd_ne (Nat.ne_of_lt hb')]
      exact (hf b hb).1
  done := by
    intro X hP hw hK hc i pins s σ H E I hf st hg
    subst hP hw hK
    obtain ⟨⟨old, he⟩, hit, hne, hat, hea⟩ := st
    obtain ⟨xs, hq, hx⟩ := hg
    obtain ⟨its, rv, p, hz⟩ := I.tuple hq
    obtain ⟨f0, f1, f2, f3, f4, f5⟩ := hf it (by simp)
    have hl := rv.length
    have ei : its.toArray.size = i := by simp; omega
    subst ei
    exact wpAny_pyNext_enum_endD (drawsT (A := X.A.in1) (I.ok.hd hc) it a hat its.toArray) he ⟨hit, p⟩ fun h' eb => ⟨rfl, I.turned (t' := s.toks) (fun b o hb q => eb b o hb q) f0 f1 f3 f4 f5⟩
  self := fun A i s Q E st h => let ⟨⟨_, he⟩, _⟩ := st; wpAny_pyIter_enum he h
def iEnumT (K : PySem.W.Frag) (ta : TA) : TI := fun σ H R => ta σ H fun vs H1 => ∃ a xs, vs = [.ref a] ∧ SqT K H1 a xs ∧ R (IteT K a) H1
theorem pi_enumT {X : Cx} {e : Expr} {ta : TA} {p pos tpos : Pos} {elts : List Expr} {kk : Nat} (hg : Gl X "enumerate") (hm : X.mg "enumerate" = none) (ha : PA X [e] ta) (hs : starEach [e] X.env = [(false, eval e X.env)] := by rfl) :
    PI X (.Tuple elts kk tpos) (.Call (.Name "enumerate" p) [e] [] pos) (iEnumT X.K ta) := by
  refine ⟨fun pins s σ H R I h => ?_⟩
  refine Call_ (ld_blt I hg hm boot_enumerate (PyProof.Rows.callWith_type1 (thn (ha.run pos pins s σ H _ I h) fun us s1 ⟨vs, H1, I1, r1, q1⟩ => ?_) hs rfl))
  obtain ⟨a, xs, ex, hq, q⟩ := q1
  subst ex
  cases r1 with
  | cons r rr =>
    cases rr
    cases r
    obtain ⟨its, rv, p', hz⟩ := I1.tuple hq
    have hal : a < s1.heap.objs.size := by
      obtain ⟨o, ho, _⟩ := p'
      exact Heap.lt_size ho
    refine call_enum p' fun h' he hit hk => wpAny_pyIter_enum he ?_
    have I2 : Inv X pins σ H1 { s1 with heap := h' } := I1.kept (t' := s1.toks) hk
    refine ⟨s1.heap.objs.size + 1, [s1.heap.objs.size + 1, s1.heap.objs.size], _, _, H1, rfl, I2, turn_enumT a (s1.heap.objs.size + 1) s1.heap.objs.size its.toArray, ⟨⟨.none, he⟩, hit, Nat.succ_ne_self _, Nat.ne_of_lt hal, Nat.ne_of_gt (Nat.lt_succ_of_lt hal)⟩, fun b hb => ?_, q⟩
    have e' : b = s1.heap.objs.size + 1 ∨ b = s1.heap.objs.size := by simpa using hb
    have hle : s1.heap.objs.size ≤ b := by
      rcases e' with z | z
      · rw [z]; exact Nat.le_add_right _ _
      · rw [z]; exact Nat.le_refl _
    exact I1.fpOk hle (I1.hok.fresh hle)
end EnT
namespace Lw
open PySem L2 OwB
/-! a comprehension of two clauses whose element is the second name: the inner sources one behind another -/
def flat (fs : Nat → List V) : Nat → List V
  | 0 => []
  | n + 1 => flat fs n ++ fs n
/-- what walks the outer source: an item a turn, the heap stays -/
structure Outer (J : It) (H0 : Hp) (D : Addr) (xs : List V) : Prop where
  go : ∀ i H, i < xs.length → (∀ b o, H0 b = some o → H b = some o) → J.go i H
  yld : ∀ i H x H', (∀ b o, H0 b = some o → H b = some o) → J.yld i H x H' → H' = H ∧ xs[i]? = some x
  stop : ∀ H, (∀ b o, H0 b = some o → H b = some o) → J.stop xs.length H
theorem outer_list {K : PySem.W.Frag} {a : Addr} {xs : List V} {H0 : Hp} {D : Addr} (h : SqL K H0 a xs) : Outer (Itl K a) H0 D xs :=
  ⟨fun i H hi g => ⟨xs, xs[i], Same.seq g h, List.getElem?_eq_getElem hi⟩, fun i H x H' g y => ⟨y.1, y.2 xs (Same.seq g h)⟩, fun H g => ⟨xs, Same.seq g h, Nat.le_refl _⟩⟩
theorem outer_tup {K : PySem.W.Frag} {a : Addr} {xs : List V} {H0 : Hp} {D : Addr} (h : SqT K H0 a xs) : Outer (Itt K a) H0 D xs :=
  ⟨fun i H hi g => ⟨xs, xs[i], seqT g h, List.getElem?_eq_getElem hi⟩, fun i H x H' g y => ⟨y.1, y.2 xs (seqT g h)⟩, fun H g => ⟨xs, seqT g h, Nat.le_refl _⟩⟩
theorem lc2_it {K : PySem.W.Frag} {J : It} {xs : List V} {wi1 : TI} {σ : St} {H0 : Hp} {D : Addr} {Qd : Hp → Prop} {i0 j0 : Nat} (fs : Nat → List V) (hD : H0 D = none) (hJ : Outer J H0 D xs)
    (hw : ∀ i x H R, xs[i]? = some x → Same H0 H → (∀ b, SqT K H0 b (fs i) → R (Itt K b) H) → wi1 ((wipe σ [i0, j0]).set i0 (some x)) H R) (hlen : (flat fs xs.length).length ≤ 1000)
    (hmono : ∀ i, i < xs.length → ((flat fs i).length + (fs i).length ≤ 1000))
    (hq : ∀ H, H D = some (.lst (flat fs xs.length)) → Same H0 H → Qd H)
    (w1 : ∀ x, wipe ((wipe σ [i0, j0]).set i0 (some x)) [i0, j0] = wipe σ [i0, j0])
    (w2 : ∀ x y, wipe ((wipe ((wipe σ [i0, j0]).set i0 (some x)) [j0]).set j0 (some y)) [j0] = wipe ((wipe σ [i0, j0]).set i0 (some x)) [j0])
    (w3 : ∀ x y, ((wipe ((wipe σ [i0, j0]).set i0 (some x)) [j0]).set j0 (some y))[j0]? = some (some y)) :
    ∃ W : Nat → Nat → Hp → Prop, (∃ m, W 0 m (upd H0 D (.lst []))) ∧ ∀ i m H, W i m H →
      (J.stop i H ∧ Qd H) ∨ (J.go i H ∧ ∃ Nx : Hp → Prop, (∀ H', Nx H' → ∃ m', m' < m ∧ W (i + 1) m' H') ∧ ∀ x H', J.yld i H x H' → gName i0 x (wipe σ [i0, j0]) H' fun σ2 H2 => wipe σ2 [i0, j0] = wipe σ [i0, j0] ∧ tYes σ2 H2 fun b H3 =>
        if b = true then wi1 σ2 H3 fun J1 H4 => ∃ W1 : Nat → Nat → Hp → Prop, (∃ m, W1 0 m H4) ∧ ∀ j k H, W1 j k H →
          (J1.stop j H ∧ Nx H) ∨ (J1.go j H ∧ ∃ Nx1 : Hp → Prop, (∀ H', Nx1 H' → ∃ k', k' < k ∧ W1 (j + 1) k' H') ∧ ∀ x H', J1.yld j H x H' → gName j0 x (wipe σ2 [j0]) H' fun σ3 H5 => wipe σ3 [j0] = wipe σ2 [j0] ∧ tYes σ3 H5 fun b H6 =>
            if b = true then tVar j0 σ3 H6 fun y H7 => ∃ acc, H7 D = some (.lst acc) ∧ acc.length < sizeLine ∧ Nx1 (upd H7 D (.lst (acc ++ [y]))) else Nx1 H6)
        else Nx H3) := by
  refine ⟨fun i m H => m = xs.length - i ∧ i ≤ xs.length ∧ H D = some (.lst (flat fs i)) ∧ Same H0 H, ⟨xs.length, by simp, Nat.zero_le _, upd_same, same_new hD _⟩, ?_⟩
  rintro i m H ⟨rfl, hi, hd, g⟩
  by_cases hlt : i < xs.length
  · refine .inr ⟨hJ.go i H hlt g, fun H' => H' D = some (.lst (flat fs (i + 1))) ∧ Same H0 H', fun H' ⟨d', g'⟩ => ⟨xs.length - (i + 1), by omega, rfl, hlt, d', g'⟩, fun x H' y => ?_⟩
    obtain ⟨rfl, hx⟩ := hJ.yld i H x H' g y
    refine ⟨w1 x, iteT (B := H' D = some (.lst (flat fs (i + 1))) ∧ Same H0 H') ?_⟩
    refine hw i x H' _ hx g fun b hb => ?_
    refine ⟨fun j k H1 => k = (fs i).length - j ∧ j ≤ (fs i).length ∧ H1 D = some (.lst (flat fs i ++ (fs i).take j)) ∧ Same H0 H1, ⟨(fs i).length, by simp, Nat.zero_le _, by rw [List.take_zero, List.append_nil]; exact hd, g⟩, ?_⟩
    rintro j k H1 ⟨rfl, hj, hd1, g1⟩
    by_cases hlj : j < (fs i).length
    · refine .inr ⟨⟨fs i, (fs i)[j], seqT g1 hb, List.getElem?_eq_getElem hlj⟩, fun H2 => H2 D = some (.lst (flat fs i ++ (fs i).take (j + 1))) ∧ Same H0 H2, fun H2 ⟨d2, g2⟩ => ⟨(fs i).length - (j + 1), by omega, rfl, hlj, d2, g2⟩, fun z H2 yz => ?_⟩
      obtain ⟨rfl, yz⟩ := yz
      have hz := yz (fs i) (seqT g1 hb)
      refine ⟨w2 x z, iteT (B := H2 D = some (.lst (flat fs i ++ (fs i).take (j + 1))) ∧ Same H0 H2) ?_⟩
      refine ⟨z, w3 x z, _, hd1, ?_, ?_⟩
      · rw [List.length_append, List.length_take]
        have := hmono i hlt
        exact small1000 (by omega)
      · refine ⟨?_, same_over g1 hD _⟩
        rw [upd_same, List.take_add_one, hz, List.append_assoc] <;> rfl
    · have e : j = (fs i).length := by omega
      subst e
      refine .inl ⟨⟨fs i, seqT g1 hb, Nat.le_refl _⟩, ?_, g1⟩
      rw [hd1, List.take_length] <;> rfl
  · have e : i = xs.length := by omega
    subst e
    exact .inl ⟨hJ.stop H g, hq H hd g⟩
/-! expressions, as data -/
inductive Ex where
  | num (n : Int)
  | acc (nm : Str) (ls : List Str)
  | bi (k : Str) (x y : Ex)
  | nu (k : Str) (x : Ex) (n : Int)
  | un (k : Str) (x : Ex)
def Ex.kind : Ex → Str
  | .num _ => "number"
  | .acc _ _ => "access"
  | .bi k _ _ => k
  | .nu k _ _ => k
  | .un k _ => k
def Ex.accs : Ex → List (Str × List Str)
  | .num _ => []
  | .acc nm ls => [(nm, ls)]
  | .bi _ x y => x.accs ++ y.accs
  | .nu _ x _ => x.accs
  | .un _ x => x.accs
def Ex.nodes : Ex → Int
  | .num _ => 1
  | .acc _ _ => 1
  | .bi _ x y => 1 + (x.nodes + y.nodes)
  | .nu _ x _ => 1 + x.nodes
  | .un _ x => 1 + x.nodes
/-- letters in all accesses, doubles too -/
def lts (as : List (Str × List Str)) : List Str := (as.map (·.2)).flatten
/-- the fields of an expression -/
def fE (k : Str) (tp ta tl : Addr) (m : Int) : List (Str × V) := putF "letters" (.ref tl) (putF "accesses" (.ref ta) (putF "node_count" (.int m) (putF "parts" (.ref tp) (putF "kind" (.str k) []))))
theorem nb (a b : String) (h : (Str.ofString a == Str.ofString b) = false) : ¬ Str.ofString a = Str.ofString b := fun e => by rw [e, beq_self_eq_true] at h; cases h
theorem fE_k {k : Str} {tp ta tl : Addr} {m : Int} : (fE k tp ta tl m).lookup ("kind" : Str) = some (.str k) := by
  unfold fE
  rw [lookup_putF, if_neg (nb _ _ (by decide +kernel)), lookup_putF, if_neg (nb _ _ (by decide +kernel)), lookup_putF, if_neg (nb _ _ (by decide +kernel)), lookup_putF, if_neg (nb _ _ (by decide +kernel)), lookup_putF, if_pos rfl]
theorem fE_p {k : Str} {tp ta tl : Addr} {m : Int} : (fE k tp ta tl m).lookup ("parts" : Str) = some (.ref tp) := by
  unfold fE
  rw [lookup_putF, if_neg (nb _ _ (by decide +kernel)), lookup_putF, if_neg (nb _ _ (by decide +kernel)), lookup_putF, if_neg (nb _ _ (by decide +kernel)), lookup_putF, if_pos rfl]
theorem fE_n {k : Str} {tp ta tl : Addr} {m : Int} : (fE k tp ta tl m).lookup ("node_count" : Str) = some (.int m) := by
  unfold fE
  rw [lookup_putF, if_neg (nb _ _ (by decide +kernel)), lookup_putF, if_neg (nb _ _ (by decide +kernel)), lookup_putF, if_pos rfl]
theorem fE_a {k : Str} {tp ta tl : Addr} {m : Int} : (fE k tp ta tl m).lookup ("accesses" : Str) = some (.ref ta) := by
  unfold fE
  rw [lookup_putF, if_neg (nb _ _ (by decide +kernel)), lookup_putF, if_pos rfl]
theorem fE_l {k : Str} {tp ta tl : Addr} {m : Int} : (fE k tp ta tl m).lookup ("letters" : Str) = some (.ref tl) := by
  unfold fE
  rw [lookup_putF, if_pos rfl]
/-- a pair (name, letters) -/
def PairAt (K : PySem.W.Frag) (H : Hp) (v : V) (p : Str × List Str) : Prop := ∃ a t : Addr, v = .ref a ∧ SqT K H a [.str p.1, .ref t] ∧ SqT K H t (p.2.map V.str)
theorem PairAt.same {K : PySem.W.Frag} {H H' : Hp} {v : V} {p : Str × List Str} (g : Same H H') : PairAt K H v p → PairAt K H' v p
  | ⟨a, t, e, h1, h2⟩ => ⟨a, t, e, seqT g h1, seqT g h2⟩
/-- place by place -/
inductive PairsAt (K : PySem.W.Frag) (H : Hp) : List V → List (Str × List Str) → Prop where
  | nil : PairsAt K H [] []
  | cons {v : V} {p : Str × List Str} {vs : List V} {ps : List (Str × List Str)} (h : PairAt K H v p) (t : PairsAt K H vs ps) : PairsAt K H (v :: vs) (p :: ps)
theorem PairsAt.same {K : PySem.W.Frag} {H H' : Hp} (g : Same H H') : ∀ {vs : List V} {ps : List (Str × List Str)}, PairsAt K H vs ps → PairsAt K H' vs ps
  | _, _, .nil => .nil
  | _, _, .cons h t => .cons (h.same g) (PairsAt.same g t)
theorem PairsAt.app {K : PySem.W.Frag} {H : Hp} : ∀ {vs us : List V} {ps qs : List (Str × List Str)}, PairsAt K H vs ps → PairsAt K H us qs → PairsAt K H (vs ++ us) (ps ++ qs)
  | _, _, _, _, .nil, h => h
  | _, _, _, _, .cons h t, q => .cons h (PairsAt.app t q)
theorem PairsAt.len {K : PySem.W.Frag} {H : Hp} : ∀ {vs : List V} {ps : List (Str × List Str)}, PairsAt K H vs ps → vs.length = ps.length
  | _, _, .nil => rfl
  | _, _, .cons _ t => congrArg Nat.succ t.len
theorem PairsAt.get {K : PySem.W.Frag} {H : Hp} : ∀ {vs : List V} {ps : List (Str × List Str)} {i : Nat} {v : V}, PairsAt K H vs ps → vs[i]? = some v → ∃ p, ps[i]? = some p ∧ PairAt K H v p
  | _, _, i, _, .nil, e => by cases e
  | _, _, 0, _, .cons h _, e => by cases e; exact ⟨_, rfl, h⟩
  | _, _, i + 1, _, .cons _ t, e => PairsAt.get (i := i) t e
/-- the tuple of the letters: ascending, each once -/
structure LetOk (ys zs : List Str) : Prop where
  srt : PyProof.Rows.sortedS ys = true
  mem : ∀ z, z ∈ ys ↔ z ∈ zs
  ex : ∃ l : List Str, l.Nodup ∧ ys.length = l.length ∧ ∀ z, z ∈ l ↔ z ∈ zs
/-- an instance at p with the fields of an expression -/
def HdE (K : PySem.W.Frag) (C : Addr) (H : Hp) (p : Addr) (k : Str) (vs : List V) (as : List (Str × List Str)) (m : Int) : Prop :=
  ∃ (dx tp ta tl : Addr) (us : List V) (ys : List Str), H p = some (.ins C dx (fE k tp ta tl m)) ∧ SqT K H tp vs ∧ SqT K H ta us ∧ PairsAt K H us as ∧ SqT K H tl (ys.map V.str) ∧ LetOk ys (lts as)
theorem HdE.same {K : PySem.W.Frag} {C p : Addr} {H H' : Hp} {k : Str} {vs : List V} {as : List (Str × List Str)} {m : Int} (g : Same H H') : HdE K C H p k vs as m → HdE K C H' p k vs as m
  | ⟨dx, tp, ta, tl, us, ys, h1, h2, h3, h4, h5, h6⟩ => ⟨dx, tp, ta, tl, us, ys, g _ _ h1, seqT g h2, seqT g h3, h4.same g, seqT g h5, h6⟩
def okK (k : Str) : Prop := k ≠ "access" ∧ k ≠ "number" ∧ k ≠ "gain" ∧ k ≠ "loss"
/-- the expression e stands at p -/
def ExAt (K : PySem.W.Frag) (C : Addr) (H : Hp) : Ex → Addr → Prop
  | .num n, p => HdE K C H p "number" [.int n] [] 1
  | .acc nm ls, p => ∃ t, HdE K C H p "access" [.str nm, .ref t] [(nm, ls)] 1 ∧ SqT K H t (ls.map V.str)
  | .bi k x y, p => okK k ∧ ∃ a b, HdE K C H p k [.ref a, .ref b] (x.accs ++ y.accs) (1 + (x.nodes + y.nodes)) ∧ ExAt K C H x a ∧ ExAt K C H y b
  | .nu k x n, p => okK k ∧ ∃ a, HdE K C H p k [.ref a, .int n] x.accs (1 + x.nodes) ∧ ExAt K C H x a
  | .un k x, p => okK k ∧ ∃ a, HdE K C H p k [.ref a] x.accs (1 + x.nodes) ∧ ExAt K C H x a
theorem ExAt.same {K : PySem.W.Frag} {C : Addr} {H H' : Hp} (g : Same H H') : ∀ {e : Ex} {p : Addr}, ExAt K C H e p → ExAt K C H' e p
  | .num n, p, h => HdE.same g h
  | .acc nm ls, p, ⟨t, h1, h2⟩ => ⟨t, h1.same g, seqT g h2⟩
  | .bi k x y, p, ⟨o, a, b, h1, h2, h3⟩ => ⟨o, a, b, h1.same g, ExAt.same g h2, ExAt.same g h3⟩
  | .nu k x n, p, ⟨o, a, h1, h2⟩ => ⟨o, a, h1.same g, ExAt.same g h2⟩
  | .un k x, p, ⟨o, a, h1, h2⟩ => ⟨o, a, h1.same g, ExAt.same g h2⟩
/-- its head, whatever it is -/
theorem ExAt.hd {K : PySem.W.Frag} {C : Addr} {H : Hp} : ∀ {e : Ex} {p : Addr}, ExAt K C H e p → ∃ vs, HdE K C H p e.kind vs e.accs e.nodes
  | .num n, p, h => ⟨_, h⟩
  | .acc nm ls, p, ⟨t, h, _⟩ => ⟨_, h⟩
  | .bi k x y, p, ⟨_, a, b, h, _⟩ => ⟨_, h⟩
  | .nu k x n, p, ⟨_, a, h, _⟩ => ⟨_, h⟩
  | .un k x, p, ⟨_, a, h, _⟩ => ⟨_, h⟩
theorem ExAt.noGain {K : PySem.W.Frag} {C : Addr} {H : Hp} : ∀ {e : Ex} {p : Addr}, ExAt K C H e p → e.kind ≠ "gain" ∧ e.kind ≠ "loss"
  | .num n, p, h => ⟨nb _ _ (by decide +kernel), nb _ _ (by decide +kernel)⟩
  | .acc nm ls, p, h => ⟨nb _ _ (by decide +kernel), nb _ _ (by decide +kernel)⟩
  | .bi k x y, p, ⟨o, _⟩ => o.2.2
  | .nu k x n, p, ⟨o, _⟩ => o.2.2
  | .un k x, p, ⟨o, _⟩ => o.2.2
end Lw
namespace Lw
open PySem L2 OwB
abbrev sWhole : Stmt := topS 2
abbrev sAsc : Stmt := topS 4
abbrev sXini : Stmt := inClass (topS 14) 0
abbrev sNum : Stmt := topS 15
/-! the class Expression -/
structure Xc (K : PySem.W.Frag) (mg : Str → Option Value) (C fI : Addr) : Prop where
  ic : C8.InsC K C
  nK : NoAttr K C "kind"
  nP : NoAttr K C "parts"
  nN : NoAttr K C "node_count"
  nA : NoAttr K C "accesses"
  nL : NoAttr K C "letters"
  mkC : Mk K C fI
  mC : mg "Expression" = some (.ref C)
  sI : PySem.W.kitOne K (.type "int") (.ref C) = some false
  sS : PySem.W.kitOne K (.type "str") (.ref C) = some false
  sT : PySem.W.kitOne K (.type "tuple") (.ref C) = some false
  cI : PySem.W.kitOne K (.ref C) (.type "int") = some false
/-- more built-in names -/
structure Bx (mg : Str → Option Value) : Prop where
  sum : mg "sum" = none
  set : mg "set" = none
  sorted : mg "sorted" = none
  enum : mg "enumerate" = none
  str : mg "str" = none
def Kp (p : Addr) (H H' : Hp) : Prop := ∀ b o, b ≠ p → H b = some o → H' b = some o
theorem Kp.same {p : Addr} {H H1 H2 : Hp} (k : Kp p H H1) (g : Same H1 H2) : Kp p H H2 := fun b o n e => g _ _ (k b o n e)
theorem Kp.upd {p : Addr} {H H1 : Hp} (k : Kp p H H1) (o : HO) : Kp p H (upd H1 p o) := fun b u n e => by rw [upd_ne n]; exact k b u n e
theorem made_same {H H' : Hp} {x dx : Addr} {o1 o2 : HO} (hx : H x = none) (hd : H dx = none) (k : Kp x (upd (upd H dx o1) x o2) H') : Same H H' := fun b o e => by
  have n1 : b ≠ x := ne_of_none e hx
  have n2 : b ≠ dx := ne_of_none e hd
  exact k b o n1 (by rw [upd_ne n1, upd_ne n2]; exact e)
theorem Kp.seq {K : PySem.W.Frag} {p a C dx : Addr} {H H' : Hp} {xs : List V} {fs : List (Str × V)} (k : Kp p H H') (hp : H p = some (.ins C dx fs)) (h : SqT K H a xs) : SqT K H' a xs := by
  rcases h with (h | ⟨o, h⟩) | h
  · exact .inl (.inl (k _ _ (fun e => by rw [e, hp] at h; cases h) h))
  · exact .inl (.inr ⟨o, k _ _ (fun e => by rw [e, hp] at h; cases h) h⟩)
  · exact .inr h
theorem Kp.pair {K : PySem.W.Frag} {p C dx : Addr} {H H' : Hp} {fs : List (Str × V)} (k : Kp p H H') (hp : H p = some (.ins C dx fs)) {v : V} {q : Str × List Str} : PairAt K H v q → PairAt K H' v q
  | ⟨a, t, e, h1, h2⟩ => ⟨a, t, e, k.seq hp h1, k.seq hp h2⟩
theorem Kp.pairs {K : PySem.W.Frag} {p C dx : Addr} {H H' : Hp} {fs : List (Str × V)} (k : Kp p H H') (hp : H p = some (.ins C dx fs)) : ∀ {vs : List V} {ps : List (Str × List Str)}, PairsAt K H vs ps → PairsAt K H' vs ps
  | _, _, .nil => .nil
  | _, _, .cons h t => .cons (k.pair hp h) (Kp.pairs k hp t)
theorem fE_ne {k : Str} {tp ta tl : Addr} {m : Int} : fE k tp ta tl m ≠ [] := fun e => by
  have z := fE_l (k := k) (tp := tp) (ta := ta) (tl := tl) (m := m)
  rw [e] at z
  cases z
theorem Kp.hd {K : PySem.W.Frag} {p a C C' dx : Addr} {H H' : Hp} (k : Kp p H H') (hp : H p = some (.ins C dx [])) {w : Str} {vs : List V} {as : List (Str × List Str)} {m : Int} : HdE K C' H a w vs as m → HdE K C' H' a w vs as m
  | ⟨ex, tp, ta, tl, us, ys, h1, h2, h3, h4, h5, h6⟩ => ⟨ex, tp, ta, tl, us, ys, k _ _ (fun e => by
      rw [e, hp] at h1
      injection h1 with z
      injection z with _ _ z3
      exact fE_ne z3.symm) h1, k.seq hp h2, k.seq hp h3, k.pairs hp h4, k.seq hp h5, h6⟩
theorem Kp.ex {K : PySem.W.Frag} {p C C' dx : Addr} {H H' : Hp} (k : Kp p H H') (hp : H p = some (.ins C dx [])) : ∀ {e : Ex} {a : Addr}, ExAt K C' H e a → ExAt K C' H' e a
  | .num n, a, h => Kp.hd k hp h
  | .acc nm ls, a, ⟨t, h1, h2⟩ => ⟨t, k.hd hp h1, k.seq hp h2⟩
  | .bi w x y, a, ⟨o, b, c, h1, h2, h3⟩ => ⟨o, b, c, k.hd hp h1, Kp.ex k hp h2, Kp.ex k hp h3⟩
  | .nu w x n, a, ⟨o, b, h1, h2⟩ => ⟨o, b, k.hd hp h1, Kp.ex k hp h2⟩
  | .un w x, a, ⟨o, b, h1, h2⟩ => ⟨o, b, k.hd hp h1, Kp.ex k hp h2⟩
/-- a part: data, or an expression -/
def PtAt (K : PySem.W.Frag) (C : Addr) (H : Hp) (v : V) : Option Ex → Prop
  | none => (∃ i, v = .int i) ∨ (∃ s, v = .str s) ∨ ∃ t xs, v = .ref t ∧ SqT K H t xs
  | some e => ∃ a, v = .ref a ∧ ExAt K C H e a
theorem PtAt.same {K : PySem.W.Frag} {C : Addr} {H H' : Hp} {v : V} (g : Same H H') : ∀ {o : Option Ex}, PtAt K C H v o → PtAt K C H' v o
  | none, h => by
    rcases h with h | h | ⟨t, xs, e, h⟩
    · exact .inl h
    · exact .inr (.inl h)
    · exact .inr (.inr ⟨t, xs, e, seqT g h⟩)
  | some e, ⟨a, ea, h⟩ => ⟨a, ea, h.same g⟩
inductive PtsAt (K : PySem.W.Frag) (C : Addr) (H : Hp) : List V → List (Option Ex) → Prop where
  | nil : PtsAt K C H [] []
  | cons {v : V} {o : Option Ex} {vs : List V} {os : List (Option Ex)} (h : PtAt K C H v o) (t : PtsAt K C H vs os) : PtsAt K C H (v :: vs) (o :: os)
theorem PtsAt.get {K : PySem.W.Frag} {C : Addr} {H : Hp} : ∀ {vs : List V} {os : List (Option Ex)} {i : Nat} {v : V}, PtsAt K C H vs os → vs[i]? = some v → ∃ o, os[i]? = some o ∧ PtAt K C H v o
  | _, _, i, _, .nil, e => by cases e
  | _, _, 0, _, .cons h _, e => by cases e; exact ⟨_, rfl, h⟩
  | _, _, i + 1, _, .cons _ t, e => PtsAt.get (i := i) t e
theorem PtsAt.len {K : PySem.W.Frag} {C : Addr} {H : Hp} : ∀ {vs : List V} {os : List (Option Ex)}, PtsAt K C H vs os → vs.length = os.length
  | _, _, .nil => rfl
  | _, _, .cons _ t => congrArg Nat.succ t.len
/-- the operands, in a list -/
inductive OpsAt (K : PySem.W.Frag) (C : Addr) (H : Hp) : List V → List Ex → Prop where
  | nil : OpsAt K C H [] []
  | cons {a : Addr} {e : Ex} {vs : List V} {es : List Ex} (h : ExAt K C H e a) (t : OpsAt K C H vs es) : OpsAt K C H (.ref a :: vs) (e :: es)
theorem OpsAt.same {K : PySem.W.Frag} {C : Addr} {H H' : Hp} (g : Same H H') : ∀ {vs : List V} {es : List Ex}, OpsAt K C H vs es → OpsAt K C H' vs es
  | _, _, .nil => .nil
  | _, _, .cons h t => .cons (h.same g) (OpsAt.same g t)
theorem OpsAt.snoc {K : PySem.W.Frag} {C : Addr} {H : Hp} {a : Addr} {e : Ex} (h : ExAt K C H e a) : ∀ {vs : List V} {es : List Ex}, OpsAt K C H vs es → OpsAt K C H (vs ++ [.ref a]) (es ++ [e])
  | _, _, .nil => .cons h .nil
  | _, _, .cons q t => .cons q (OpsAt.snoc h t)
theorem OpsAt.len {K : PySem.W.Frag} {C : Addr} {H : Hp} : ∀ {vs : List V} {es : List Ex}, OpsAt K C H vs es → vs.length = es.length
  | _, _, .nil => rfl
  | _, _, .cons _ t => congrArg Nat.succ t.len
theorem OpsAt.get {K : PySem.W.Frag} {C : Addr} {H : Hp} : ∀ {vs : List V} {es : List Ex} {i : Nat} {v : V}, OpsAt K C H vs es → vs[i]? = some v → ∃ a e, v = .ref a ∧ es[i]? = some e ∧ ExAt K C H e a
  | _, _, i, _, .nil, e => by cases e
  | _, _, 0, _, .cons h _, e => by cases e; exact ⟨_, _, rfl, rfl, h⟩
  | _, _, i + 1, _, .cons _ t, e => OpsAt.get (i := i) t e
section
variable {P : Program} {w : World} {K : PySem.W.Frag} {mg : Str → Option Value} {base : Heap} {f C fI fA : Addr} {fd dI dA : FuncData}
def spWh (C : Addr) : Sp := fun vs H Q _ => ∃ v, vs = [v] ∧ ((∃ i : Int, v = .int i ∧ Q (.bl true) H) ∨ ∃ p dx fs, v = .ref p ∧ H p = some (.ins C dx fs) ∧ Q (.bl false) H)
theorem scW : FnScope ["n"] ["n"] (defScope sWhole) := ⟨rfl, rfl, rfl, by decide +kernel, rfl, by decide +kernel, by decide +kernel⟩
theorem tyI {H : Hp} {p dx : Addr} {fs : List (Str × V)} (c : C8.InsC K C) (h : H p = some (.ins C dx fs)) : TyX K H (.ref p) (.ref C) := .base (.ins h c.cl c.ha c.hn c.htk c.hm)
theorem ok_whole (F : Fun K "is_whole" "is_whole" sWhole f fd) (B : Bt mg) (T : Xc K mg C fI) : FnOk P w K mg base CX0 1 f fd ["n"] (spWh C) := by
  refine F.ok scW (fun vs H Q E h => ?_) (fun cdv A outer s H vs Q E hr h => ?_)
  · obtain ⟨v, rfl, _⟩ := h
    rfl
  obtain ⟨v, rfl, h⟩ := h
  refine ⟨_, pss_one (ps_ret (pe_and (pe_callB call_isi (by rfl) B.isi (by decide +kernel) (pa_cons (pv 0) (pa_cons (pe_bltn (v := .ty "int") (by rfl) B.int (by decide +kernel) rfl) pa_nil)))
    (pe_one (pe_not (pe_callB call_isi (by rfl) B.isi (by decide +kernel) (pa_cons (pv 0) (pa_cons (pe_bltn (v := .ty "bool") (by rfl) B.bool (by decide +kernel) rfl) pa_nil))))))), ?_⟩
  rcases h with ⟨i, rfl, q⟩ | ⟨p, dx, fs, rfl, hp, q⟩
  · refine ⟨_, rfl, _, _, .type "int", .type "int", true, rfl, .ty _, .base (.int i), kit_ty (by decide +kernel), _, rfl, ?_⟩
    refine iteT ?_
    exact ⟨_, rfl, _, _, .type "int", .type "bool", false, rfl, .ty _, .base (.int i), kit_ty (by decide +kernel), _, rfl, q⟩
  · refine ⟨_, rfl, _, _, .ref C, .type "int", false, rfl, .ty _, tyI T.ic hp, T.cI, _, rfl, ?_⟩
    exact iteF q
def spAsc (K : PySem.W.Frag) : Sp := fun vs H Q _ => ∃ (L : Addr) (zs : List Str), vs = [.ref L] ∧ SqL K H L (zs.map V.str) ∧ zs.length < 64 ∧ ∀ (t : Addr) (ys : List Str) (H' : Hp), Same H H' → SqT K H' t (ys.map V.str) → LetOk ys zs → Q (.ref t) H'
theorem scAs : FnScope ["names"] ["names"] (defScope sAsc) := ⟨rfl, rfl, rfl, by decide +kernel, rfl, by decide +kernel, by decide +kernel⟩
theorem ok_asc (F : Fun K "ascending" "ascending" sAsc f fd) (B : Bt mg) (B2 : Bx mg) : FnOk P w K mg base CX0 1 f fd ["names"] (spAsc K) := by
  refine F.ok scAs (fun vs H Q E h => ?_) (fun cdv A outer s H vs Q E hr h => ?_)
  · obtain ⟨L, zs, rfl, _⟩ := h
    rfl
  obtain ⟨L, zs, rfl, hL, h64, k⟩ := h
  refine ⟨_, pss_one (ps_ret (pe_callTy call_tuple_of (by rfl) B.tup (by decide +kernel) (pa_cons (pe_callB (TxS.cr_sortT rfl) (by rfl) B2.sorted (by decide +kernel) (pa_cons (pe_callTy (TxS.cr_setT rfl) (by rfl) B2.set (by decide +kernel) (pa_cons (pv 0) pa_nil)) pa_nil)) pa_nil))), ?_⟩
  refine ⟨_, rfl, L, zs, rfl, hL, h64, fun a l ha nd mem le => ?_⟩
  have g1 := same_new ha (TxS.SetT P w a l)
  refine ⟨a, l, rfl, upd_same, Nat.lt_of_le_of_lt le h64, fun ys p srt mm hl hp => ?_⟩
  have g2 := same_new hp (.lst (ys.map V.str))
  refine ⟨p, _, rfl, .inl ⟨SqL.of upd_same, fun t ht => ?_⟩⟩
  have g3 := same_new ht (.tup (ys.map V.str))
  exact k t ys _ ((g1.trans g2).trans g3) (SqT.of upd_same) ⟨srt, fun z => (mm z).trans (mem z), ⟨l, nd, hl, mem⟩⟩
end
end Lw
namespace Lw
open PySem L2 OwB
theorem Kp.pt {K : PySem.W.Frag} {p C C' dx : Addr} {H H' : Hp} {v : V} (k : Kp p H H') (hp : H p = some (.ins C dx [])) : ∀ {o : Option Ex}, PtAt K C' H v o → PtAt K C' H' v o
  | none, h => by
    rcases h with h | h | ⟨t, xs, e, h⟩
    · exact .inl h
    · exact .inr (.inl h)
    · exact .inr (.inr ⟨t, xs, e, k.seq hp h⟩)
  | some e, ⟨a, ea, h⟩ => ⟨a, ea, k.ex hp h⟩
theorem Kp.pts {K : PySem.W.Frag} {p C C' dx : Addr} {H H' : Hp} (k : Kp p H H') (hp : H p = some (.ins C dx [])) : ∀ {vs : List V} {os : List (Option Ex)}, PtsAt K C' H vs os → PtsAt K C' H' vs os
  | _, _, .nil => .nil
  | _, _, .cons h t => .cons (k.pt hp h) (Kp.pts k hp t)
abbrev opsOf (os : List (Option Ex)) : List Ex := os.filterMap id
theorem ops_none {os : List (Option Ex)} {i : Nat} (h : os[i]? = some none) : opsOf (os.take (i + 1)) = opsOf (os.take i) := by
  unfold opsOf
  rw [List.take_add_one, h, List.filterMap_append] <;> simp
theorem ops_some {os : List (Option Ex)} {i : Nat} {e : Ex} (h : os[i]? = some (some e)) : opsOf (os.take (i + 1)) = opsOf (os.take i) ++ [e] := by
  unfold opsOf
  rw [List.take_add_one, h, List.filterMap_append] <;> rfl
/-- the accesses of the operands, the nodes -/
def accsOf (es : List Ex) : List (Str × List Str) := (es.map Ex.accs).flatten
def InvOp (K : PySem.W.Frag) (C : Addr) (HA HB : Hp) (D : Addr) (os : List (Option Ex)) (i : Nat) (H : Hp) : Prop := ∃ acc : List V, H D = some (.lst acc) ∧ OpsAt K C HA acc (opsOf (os.take i)) ∧ Same HB H
theorem Kp.ops {K : PySem.W.Frag} {p C C' dx : Addr} {H H' : Hp} (k : Kp p H H') (hp : H p = some (.ins C dx [])) : ∀ {vs : List V} {es : List Ex}, OpsAt K C' H vs es → OpsAt K C' H' vs es
  | _, _, .nil => .nil
  | _, _, .cons h t => .cons (k.ex hp h) (Kp.ops k hp t)
def InvMp {α : Type} (H0 : Hp) (D : Addr) (f : α → V) (l : List α) (i : Nat) (H : Hp) : Prop := H D = some (.lst ((l.take i).map f)) ∧ Same H0 H
theorem InvMp.next {α : Type} {H0 H : Hp} {D : Addr} {f : α → V} {l : List α} {i : Nat} {a : α} (hd0 : H0 D = none) (hH : Same H0 H) (e : l[i]? = some a) : InvMp H0 D f l (i + 1) (upd H D (.lst ((l.take i).map f ++ [f a]))) :=
  ⟨by rw [upd_same, List.take_succ, e, List.map_append] <;> rfl, same_over hH hd0 _⟩
/-- the values at which the accesses of the operands stand -/
inductive AccsAt (K : PySem.W.Frag) (H : Hp) : List Ex → List (List V) → Prop where
  | nil : AccsAt K H [] []
  | cons {e : Ex} {us : List V} {es : List Ex} {uss : List (List V)} (h : PairsAt K H us e.accs) (t : AccsAt K H es uss) : AccsAt K H (e :: es) (us :: uss)
theorem AccsAt.all {K : PySem.W.Frag} {H : Hp} : ∀ {es : List Ex} {uss : List (List V)}, AccsAt K H es uss → PairsAt K H uss.flatten (accsOf es)
  | _, _, .nil => .nil
  | _, _, .cons h t => h.app t.all
/-- where the accesses of each operand stand -/
theorem OpsAt.accs {K : PySem.W.Frag} {C : Addr} {H : Hp} : ∀ {vs : List V} {es : List Ex}, OpsAt K C H vs es → ∃ uss : List (List V), AccsAt K H es uss ∧ vs.length = uss.length ∧
    ∀ (i : Nat) (v : V), vs[i]? = some v → ∃ (a dx tp ta tl : Addr) (k : Str) (m : Int) (us : List V), v = .ref a ∧ H a = some (.ins C dx (fE k tp ta tl m)) ∧ uss[i]? = some us ∧ SqT K H ta us
  | _, _, .nil => ⟨[], .nil, rfl, fun i v e => by cases e⟩
  | _, _, .cons h t => by
    obtain ⟨uss, h1, h2, h3⟩ := OpsAt.accs t
    obtain ⟨_, dx, tp, ta, tl, us, ys, ha, _, hta, hpr, _⟩ := h.hd
    refine ⟨us :: uss, .cons hpr h1, congrArg Nat.succ h2, fun i v e => ?_⟩
    cases i with
    | zero => cases e; exact ⟨_, dx, tp, ta, tl, _, _, us, rfl, ha, rfl, hta⟩
    | succ i => exact h3 i v e
theorem flat_lts : ∀ (as : List (Str × List Str)), flat (fun i => ((as.getD i (Str.empty, [])).2).map V.str) as.length = (lts as).map V.str := by
  intro as
  have key : ∀ (n : Nat), n ≤ as.length → flat (fun i => ((as.getD i (Str.empty, [])).2).map V.str) n = (lts (as.take n)).map V.str := by
    intro n
    induction n with
    | zero => intro _; rfl
    | succ n ih =>
      intro h
      have hn : as[n]? = some as[n] := List.getElem?_eq_getElem (by omega)
      show flat _ n ++ ((as.getD n (Str.empty, [])).2).map V.str = _
      rw [ih (by omega), List.take_add_one, hn, List.getD_eq_getElem?_getD, hn]
      unfold lts
      rw [List.map_append, List.flatten_append, List.map_append]
      simp
  rw [key _ (Nat.le_refl _), List.take_length]
theorem flat_le2 (fs : Nat → List V) (m n i : Nat) (h : (flat fs m).length ≤ n) (hi : i < m) : (flat fs i).length + (fs i).length ≤ n := by
  have step : ∀ d, (flat fs (i + 1)).length ≤ (flat fs (i + 1 + d)).length := by
    intro d
    induction d with
    | zero => exact Nat.le_refl _
    | succ d ih =>
      refine Nat.le_trans ih ?_
      show _ ≤ (flat fs (i + 1 + d) ++ fs (i + 1 + d)).length
      rw [List.length_append]
      exact Nat.le_add_right _ _
  have z := step (m - (i + 1))
  rw [show i + 1 + (m - (i + 1)) = m by omega] at z
  have e : flat fs (i + 1) = flat fs i ++ fs i := rfl
  rw [e, List.length_append] at z
  omega
theorem flat_get : ∀ (uss : List (List V)), flat (fun i => uss.getD i []) uss.length = uss.flatten := by
  intro uss
  have key : ∀ (n : Nat), n ≤ uss.length → flat (fun i => uss.getD i []) n = (uss.take n).flatten := by
    intro n
    induction n with
    | zero => intro _; rfl
    | succ n ih =>
      intro h
      have hn : uss[n]? = some uss[n] := List.getElem?_eq_getElem (by omega)
      show flat (fun i => uss.getD i []) n ++ uss.getD n [] = _
      rw [ih (by omega), List.take_add_one, hn, List.flatten_append, List.getD_eq_getElem?_getD, hn]
      simp
  rw [key _ (Nat.le_refl _), List.take_length]
def spXini (K : PySem.W.Frag) (C : Addr) : Sp := fun vs H Q _ => ∃ (p dx tp : Addr) (k : Str) (xs : List V) (os : List (Option Ex)) (own as : List (Str × List Str)), vs = [.ref p, .str k, .ref tp] ∧ H p = some (.ins C dx []) ∧ SqT K H tp xs ∧ PtsAt K C H xs os ∧ xs.length ≤ 10 ∧
  ((k = "access" ∧ ∃ pr, own = [pr] ∧ PairAt K H (.ref tp) pr) ∨ (k ≠ "access" ∧ own = [])) ∧ as = own ++ accsOf (opsOf os) ∧ as.length ≤ 900 ∧ (lts as).length < 64 ∧
  ∀ H' : Hp, Kp p H H' → HdE K C H' p k xs as (1 + ((opsOf os).map Ex.nodes).sum) → Q .non H'
abbrev namesX : List Str := ["self", "kind", "parts", "operands", "own", "part", "operand", "pair", "letter"]
section
variable {P : Program} {w : World} {K : PySem.W.Frag} {mg : Str → Option Value} {base : Heap} {f C fI fA : Addr} {fd dI dA : FuncData}
theorem scX : FnScope namesX ["self", "kind", "parts"] (defScope sXini) := ⟨rfl, rfl, rfl, by decide +kernel, rfl, by decide +kernel, by decide +kernel⟩
theorem ok_xini (F : Fun K "__init__" "Expression.__init__" sXini fI dI) (T : Xc K mg C fI) (B : Bt mg) (B2 : Bx mg) (GA : FnOk P w K mg base CX0 1 fA dA ["names"] (spAsc K)) (bA : Binds K dA ["names"] []) (kA : PySem.W.keepIn K (.ref fA) = true) (mA : mg "ascending" = some (.ref fA)) :
    FnOk P w K mg base CX0 2 fI dI ["self", "kind", "parts"] (spXini K C) := by
  refine F.ok scX (fun vs H Q E h => ?_) (fun cdv A outer s H vs Q E hr h => ?_)
  · obtain ⟨p, dx, tp, k, xs, os, own, as, rfl, _⟩ := h
    rfl
  obtain ⟨p, dx, tp, k, xs, os, own, as, rfl, hp, htp, hpts, hx10, hown, eas, has, hlt, q⟩ := h
  refine ⟨_, pss_cons (ps_fld (pv 0) (pv 1) rfl)
    (pss_cons (ps_fld (pv 0) (pe_callTy call_tuple_of (by rfl) B.tup (by decide +kernel) (pa_cons (pv 2) pa_nil)) rfl)
    (pss_cons (ps_setLc (i := 3) (own := [("part", 5)]) (g := gName 5) (tt := tB (tCB (rIsi K) (tCons (tVar 5) (tCons (tC (.ref C)) tNil)))) (te := tVar 5) rfl scX.nd rfl rfl (sw_true rfl rfl rfl (by decide +kernel)) (pi_tup (pv 2)) (blkOk_by (N := namesX) (sc := defScope sXini) (by decide +kernel)) (fun _ _ _ _ _ => pg_name (i := 5) scX.nd rfl (Or.inl rfl))
      (fun _ _ _ _ _ => pts_one (pt_val (pe_callB call_isi (by rfl) B.isi (by decide +kernel) (pa_cons (pv 5) (pa_cons (pe_glob (v := .ref C) (by rfl) T.mC rfl) pa_nil))))) (fun _ _ _ _ _ => pv 5))
    (pss_cons (ps_fld (pv 0) (pe_op op_add pe_int (pe_callB (cr_sum rfl) (by rfl) B2.sum (by decide +kernel) (pa_cons (pe_lc (own := [("operand", 6)]) (g := gName 6) (tt := tYes) (te := tFld K (tVar 6) "node_count") rfl scX.nd (pi_list (pv 3)) (blkOk_by (N := namesX) (sc := defScope sXini) (by decide +kernel)) (fun _ _ _ _ _ => pg_name (i := 6) scX.nd rfl (Or.inl rfl)) (fun _ _ _ _ _ => pts_nil) (fun _ _ _ _ _ => pe_fld (pv 6) rfl)) pa_nil))) rfl)
    (C8.pss_cut (ps_set (i := 4) scX.nd rfl (Or.inl rfl) (pe_ifExp (pt_cmpR op_eq (pv 1) pe_str (nomark _)) (pe_lst (pa_cons (pe_fld (pv 0) rfl) pa_nil)) (pe_lst pa_nil)))
    (pss_cons (ps_fld (pv 0) (pe_callTy call_tuple_of (by rfl) B.tup (by decide +kernel) (pa_cons (pe_op op_cat (pv 4) (pe_lc2 (own := [("operand", 6), ("pair", 7)]) (vs1 := [7]) (g := gName 6) (g1 := gName 7) (tt := tYes) (tt1 := tYes) (wi1 := iTup K (tFld K (tVar 6) "accesses")) (te := tVar 7) rfl scX.nd (pi_list (pv 3)) (blkOk_by (N := namesX) (sc := defScope sXini) (by decide +kernel)) (by decide)
        (fun _ _ _ _ _ => pg_name (i := 6) scX.nd rfl (Or.inl rfl)) (fun _ _ _ _ _ => pts_nil) (fun _ _ _ _ _ => pi_tup (pe_fld (pv 6) rfl)) (fun _ _ _ _ _ => pg_name (i := 7) scX.nd rfl (Or.inl rfl)) (fun _ _ _ _ _ => pts_nil) (fun _ _ _ _ _ => pv 7))) pa_nil)) rfl)
    (pss_one (ps_fld (pv 0) (pe_call GA hr rfl mA kA bA .nil pass0 (pa_cons (pe_lc2 (own := [("pair", 7), ("letter", 8)]) (vs1 := [8]) (g := gName 7) (g1 := gName 8) (tt := tYes) (tt1 := tYes) (wi1 := iTup K (tOp (rIxT K) (tVar 7) (tC (.int 1)))) (te := tVar 8) rfl scX.nd (pi_tup (pe_fld (pv 0) rfl)) (blkOk_by (N := namesX) (sc := defScope sXini) (by decide +kernel)) (by decide)
        (fun _ _ _ _ _ => pg_name (i := 7) scX.nd rfl (Or.inl rfl)) (fun _ _ _ _ _ => pts_nil) (fun _ _ _ _ _ => pi_tup (pe_ix ix_tup (pv 7) pe_int (fun _ _ => rfl))) (fun _ _ _ _ _ => pg_name (i := 8) scX.nd rfl (Or.inl rfl)) (fun _ _ _ _ _ => pts_nil) (fun _ _ _ _ _ => pv 8)) pa_nil)) rfl))))))), ?_⟩
  refine ⟨_, rfl, _, rfl, p, C, dx, _, rfl, hp, T.ic.cl, T.nK, by decide, ?_⟩
  have k1 : Kp p H (upd H p (.ins C dx (putF "kind" (.str k) []))) := Kp.upd (fun b o _ e => e) _
  refine ⟨_, rfl, tp, _, rfl, .inr ⟨k1.seq hp htp, ?_⟩⟩
  refine ⟨_, rfl, p, C, dx, _, rfl, upd_same, T.ic.cl, T.nP, (by show 1 < 1000; decide), ?_⟩
  have k2 := k1.upd (.ins C dx (putF "parts" (.ref tp) (putF "kind" (.str k) [])))
  have hp2 : upd (upd H p (.ins C dx (putF "kind" (.str k) []))) p (.ins C dx (putF "parts" (.ref tp) (putF "kind" (.str k) []))) p = some (.ins C dx (putF "parts" (.ref tp) (putF "kind" (.str k) []))) := upd_same
  revert k2 hp2
  generalize upd (upd H p (.ins C dx (putF "kind" (.str k) []))) p (.ins C dx (putF "parts" (.ref tp) (putF "kind" (.str k) []))) = HB
  intro k2 hp2
  have tpB := k2.seq hp htp
  have ptB := k2.pts hp hpts
  -- the operands
  refine ⟨_, rfl, tp, rfl, ⟨_, tpB⟩, fun D1 hD1 => ?_⟩
  refine lc_tup (K := K) (a := tp) (xs := xs) (InvOp K C H HB D1 os) ⟨[], upd_same, .nil, same_new hD1 _⟩ (fun i H' _ ⟨_, _, _, g⟩ => seqT g tpB) (fun i x H' hx ⟨acc, hd, ho, g⟩ => ?_) ?_
  · refine ⟨rfl, ?_⟩
    obtain ⟨o, eo, hpt0⟩ := hpts.get hx
    have hpt := k2.pt hp hpt0
    cases o with
    | none =>
      have fin : InvOp K C H HB D1 os (i + 1) H' := ⟨acc, hd, by rw [ops_none eo]; exact ho, g⟩
      rcases hpt with ⟨j, rfl⟩ | ⟨z, rfl⟩ | ⟨t, ys, rfl, ht⟩
      · exact ⟨_, rfl, _, .ref C, _, .ref C, false, rfl, .own C, .base (.int j), T.sI, _, rfl, iteF fin⟩
      · exact ⟨_, rfl, _, .ref C, _, .ref C, false, rfl, .own C, .base (.str z), T.sS, _, rfl, iteF fin⟩
      · exact ⟨_, rfl, _, .ref C, _, .ref C, false, rfl, .own C, tyT (seqT g ht), T.sT, _, rfl, iteF fin⟩
    | some e =>
      obtain ⟨a, rfl, he⟩ := hpt0
      obtain ⟨_, dx', _, _, _, _, _, ha, _⟩ := (k2.ex hp he).hd
      refine ⟨_, rfl, _, .ref C, _, .ref C, true, rfl, .own C, tyI T.ic (g _ _ ha), T.ic.me, _, rfl, iteT ?_⟩
      have hal : acc.length ≤ os.length := by
        rw [ho.len]
        exact Nat.le_trans (List.length_filterMap_le _ _) (by rw [List.length_take]; exact Nat.min_le_right _ _)
      have hol := ptB.len
      exact ⟨_, rfl, acc, hd, small1000 (by omega), acc ++ [.ref a], upd_same, by rw [ops_some eo]; exact ho.snoc he, same_over g hD1 _⟩
  rintro H1 ⟨acc, hd1, ho1, g1⟩
  rw [List.take_of_length_le (by rw [ptB.len]; exact Nat.le_refl _)] at ho1
  generalize hes : opsOf os = es at ho1 eas q
  have hel : es.length ≤ 10 := by
    rw [← hes]
    exact Nat.le_trans (List.length_filterMap_le _ _) (by rw [← hpts.len]; exact hx10)
  have k3 := k2.same g1
  have hop1 := k3.ops hp ho1
  -- the nodes
  refine ⟨_, rfl, D1, rfl, ⟨_, SqL.of hd1⟩, fun D2 hD2 => ?_⟩
  refine lc_list (K := K) (a := D1) (xs := acc) (InvMp H1 D2 (fun e : Ex => V.int e.nodes) es) ⟨upd_same, same_new hD2 _⟩ (fun i H' _ ⟨_, g⟩ => SqL.of (g _ _ hd1)) (fun i x H' hx hv => ?_) ?_
  · obtain ⟨a, e, rfl, ee, he⟩ := hop1.get hx
    obtain ⟨_, dx', _, _, _, _, _, ha, _⟩ := he.hd
    refine ⟨rfl, kept ?_⟩
    refine ⟨_, rfl, a, C, dx', _, _, rfl, hv.2 _ _ ha, T.ic.cl, T.nN, fE_n, ?_⟩
    exact ⟨_, hv.1, by rw [List.length_map, List.length_take]; exact small1000 (by omega), InvMp.next (f := fun e : Ex => V.int e.nodes) hD2 hv.2 ee⟩
  rintro H2 ⟨hd2, g2⟩
  rw [List.take_of_length_le (by rw [ho1.len]; exact Nat.le_refl _)] at hd2
  have k4 := k3.same g2
  refine ⟨D2, es.map Ex.nodes, rfl, SqL.of (by rw [hd2, List.map_map] <;> rfl), _, _, rfl, rfl, _, rfl, p, C, dx, _, rfl, g2 _ _ (g1 _ _ hp2), T.ic.cl, T.nN, (by show 2 < 1000; decide), ?_⟩
  dsimp only
  generalize hm : (1 : Int) + (es.map Ex.nodes).sum = m at q ⊢
  have n1p : D1 ≠ p := fun e => by
    rw [e, g1 _ _ hp2] at hd1
    cases hd1
  have hdC : upd H2 p (.ins C dx (putF "node_count" (.int m) (putF "parts" (.ref tp) (putF "kind" (.str k) [])))) D1 = some (.lst acc) := by
    rw [upd_ne n1p]
    exact g2 _ _ hd1
  have kC := k4.upd (.ins C dx (putF "node_count" (.int m) (putF "parts" (.ref tp) (putF "kind" (.str k) []))))
  have hpC : upd H2 p (.ins C dx (putF "node_count" (.int m) (putF "parts" (.ref tp) (putF "kind" (.str k) [])))) p = some (.ins C dx (putF "node_count" (.int m) (putF "parts" (.ref tp) (putF "kind" (.str k) [])))) := upd_same
  revert hdC kC hpC
  generalize upd H2 p (.ins C dx (putF "node_count" (.int m) (putF "parts" (.ref tp) (putF "kind" (.str k) [])))) = HC
  intro hdC kC hpC
  have flp : (putF "node_count" (V.int m) (putF "parts" (.ref tp) (putF "kind" (.str k) []))).lookup ("parts" : Str) = some (.ref tp) := by
    rw [lookup_putF, if_neg (nb _ _ (by decide +kernel)), lookup_putF, if_pos rfl]
  clear hd2 g2 k4 k3 g1 hop1 hd1 ptB tpB hp2 k2 hm
  -- its own access
  refine ⟨fun σ' H' => ∃ (Lo : Addr) (ovs : List V), σ' = [some (.ref p), some (.str k), some (.ref tp), some (.ref D1), some (.ref Lo), none, none, none, none] ∧ H' Lo = some (.lst ovs) ∧ PairsAt K H' ovs own ∧ ovs.length ≤ 1 ∧ Same HC H', ?_, ?_⟩
  · refine ⟨_, rfl, rfl, _, rfl, ?_⟩
    refine ite2 (fun c => ?_) (fun c => ?_)
    · have ek : k = "access" := by
        have z := of_decide_eq_true c
        cases z
        rfl
      rcases hown with ⟨_, pr, rfl, hpr⟩ | ⟨n, _⟩
      · refine ⟨_, rfl, p, C, dx, _, _, rfl, hpC, T.ic.cl, T.nP, flp, (by show 1 ≤ sizeLine; decide), fun l hl => ?_⟩
        have g := same_new hl (.lst [.ref tp])
        exact ⟨l, _, rfl, upd_same, .cons ((kC.pair hp hpr).same g) .nil, (by show 1 ≤ 1; decide), g⟩
      · exact absurd ek n
    · have ek : k ≠ "access" := fun e => c (decide_eq_true (congrArg V.str e))
      rcases hown with ⟨e, _⟩ | ⟨_, rfl⟩
      · exact absurd e ek
      · refine ⟨Nat.zero_le _, fun l hl => ?_⟩
        have g := same_new hl (.lst [])
        exact ⟨l, _, rfl, upd_same, .nil, by decide, g⟩
  rintro σ' H3 ⟨Lo, ovs, rfl, hLo, hprs, hovs, g3⟩
  have k5 := kC.same g3
  have hd3 := g3 _ _ hdC
  obtain ⟨uss, hacs, hul, hug⟩ := (k5.ops hp ho1).accs
  have hall := hacs.all
  have eaccs := hall.len
  have hL1 : uss.flatten.length ≤ 900 := by
    rw [eaccs]
    rw [eas, List.length_append] at has
    omega
  refine ⟨_, rfl, _, rfl, D1, rfl, ⟨_, SqL.of hd3⟩, fun D3 hD3 => ?_⟩
  refine lc2_it (K := K) (xs := acc) (i0 := 6) (j0 := 7) (fun i => uss.getD i []) hD3 (outer_list (SqL.of hd3)) (fun i x H' R hx g hR => ?_) (by rw [hul, flat_get]; omega) (fun i hi => flat_le2 _ acc.length 1000 i (by rw [hul, flat_get]; omega) hi) (fun H4 hd4 g4 => ?_) (fun _ => rfl) (fun _ _ => rfl) (fun _ _ => rfl)
  · obtain ⟨a, dx', tp', ta', tl', k', m', us, rfl, ha, eu, hta⟩ := hug i x hx
    refine ⟨_, rfl, a, C, dx', _, _, rfl, g _ _ ha, T.ic.cl, T.nA, fE_a, ta', rfl, ⟨_, seqT g hta⟩, hR ta' ?_⟩
    show SqT K H3 ta' (uss.getD i [])
    rw [List.getD_eq_getElem?_getD, eu]
    exact hta
  rw [hul, flat_get] at hd4
  refine ⟨Lo, D3, _, _, rfl, rfl, g4 _ _ hLo, hd4, Nat.le_of_lt (small1000 (by omega)), fun L5 hL5 => ?_⟩
  have g5 := same_new hL5 (.lst (ovs ++ uss.flatten))
  refine ⟨L5, _, rfl, .inl ⟨SqL.of upd_same, fun ta hta => ?_⟩⟩
  have g6 := same_new hta (.tup (ovs ++ uss.flatten))
  have g36 := (g4.trans g5).trans g6
  have hp6 := g36 _ _ (g3 _ _ hpC)
  refine ⟨_, rfl, p, C, dx, _, rfl, hp6, T.ic.cl, T.nA, (by show 3 < 1000; decide), ?_⟩
  have k6 := ((k5.same g36).upd (.ins C dx (putF "accesses" (.ref ta) (putF "node_count" (.int m) (putF "parts" (.ref tp) (putF "kind" (.str k) []))))))
  have hpD : upd (upd (upd H4 L5 (.lst (ovs ++ uss.flatten))) ta (.tup (ovs ++ uss.flatten))) p (.ins C dx (putF "accesses" (.ref ta) (putF "node_count" (.int m) (putF "parts" (.ref tp) (putF "kind" (.str k) []))))) p = some (.ins C dx (putF "accesses" (.ref ta) (putF "node_count" (.int m) (putF "parts" (.ref tp) (putF "kind" (.str k) []))))) := upd_same
  have taD : SqT K (upd (upd (upd H4 L5 (.lst (ovs ++ uss.flatten))) ta (.tup (ovs ++ uss.flatten))) p (.ins C dx (putF "accesses" (.ref ta) (putF "node_count" (.int m) (putF "parts" (.ref tp) (putF "kind" (.str k) [])))))) ta (ovs ++ uss.flatten) := by
    refine SqT.of ?_
    rw [upd_ne (ne_of upd_same hp6 (by intro z; cases z))]
    exact upd_same
  have kk : Kp p H3 (upd (upd (upd H4 L5 (.lst (ovs ++ uss.flatten))) ta (.tup (ovs ++ uss.flatten))) p (.ins C dx (putF "accesses" (.ref ta) (putF "node_count" (.int m) (putF "parts" (.ref tp) (putF "kind" (.str k) [])))))) := Kp.upd (fun b o _ e => g36 _ _ e) _
  have prD := (kk.pairs (g3 _ _ hpC) hprs).app (kk.pairs (g3 _ _ hpC) hall)
  rw [← eas] at prD
  revert k6 hpD taD prD
  generalize upd (upd (upd H4 L5 (.lst (ovs ++ uss.flatten))) ta (.tup (ovs ++ uss.flatten))) p (.ins C dx (putF "accesses" (.ref ta) (putF "node_count" (.int m) (putF "parts" (.ref tp) (putF "kind" (.str k) []))))) = HD
  intro k6 hpD taD prD
  clear kk hp6 g36 g6 hta g5 hL5 hd4 g4 k5 hd3 hacs hug hall
  -- the letters
  have exl := prD.len
  refine ⟨_, rfl, p, C, dx, _, _, rfl, hpD, T.ic.cl, T.nA, (by rw [lookup_putF, if_pos rfl]), ta, rfl, ⟨_, taD⟩, fun D5 hD5 => ?_⟩
  have hfl : (flat (fun i => ((as.getD i (Str.empty, [])).2).map V.str) (ovs ++ uss.flatten).length).length ≤ 1000 := by
    rw [exl, flat_lts, List.length_map]
    omega
  refine lc2_it (K := K) (xs := ovs ++ uss.flatten) (i0 := 7) (j0 := 8) (fun i => ((as.getD i (Str.empty, [])).2).map V.str) hD5 (outer_tup taD) (fun i x H' R hx g hR => ?_) hfl (fun i hi => flat_le2 _ _ 1000 i hfl hi) (fun H6 hd6 g6 => ?_) (fun _ => rfl) (fun _ _ => rfl) (fun _ _ => rfl)
  · obtain ⟨pr, epr, a, t, rfl, h1, h2⟩ := prD.get hx
    refine ⟨_, rfl, a, _, 1, .ref t, rfl, rfl, seqT g h1, rfl, t, rfl, ⟨_, seqT g h2⟩, hR t ?_⟩
    show SqT K HD t ((as.getD i (Str.empty, [])).2.map V.str)
    rw [List.getD_eq_getElem?_getD, epr]
    exact h2
  rw [exl, flat_lts] at hd6
  refine ⟨D5, lts as, rfl, SqL.of hd6, hlt, fun tl ys H7 g7 htl hlet => ?_⟩
  have hp7 := g7 _ _ (g6 _ _ hpD)
  refine ⟨_, rfl, p, C, dx, _, rfl, hp7, T.ic.cl, T.nL, (by show 4 < 1000; decide), ?_⟩
  have kD : Kp p HD (upd H7 p (.ins C dx (fE k tp ta tl m))) := Kp.upd (fun b o _ e => g7 _ _ (g6 _ _ e)) _
  have k7 : Kp p H (upd H7 p (.ins C dx (fE k tp ta tl m))) := fun b o n e => kD b o n (k6 b o n e)
  have kE : Kp p H7 (upd H7 p (.ins C dx (fE k tp ta tl m))) := Kp.upd (fun b o _ e => e) _
  exact q _ k7 ⟨dx, tp, ta, tl, _, ys, upd_same, k7.seq hp htp, kD.seq hpD taD, kD.pairs hpD prD, kE.seq hp7 htl, hlet⟩
end
end Lw
namespace Lw
open PySem L2 OwB
abbrev sAcc : Stmt := topS 16
abbrev sChkL : Stmt := topS 17
abbrev sChkE : Stmt := topS 19
abbrev sOpd : Stmt := topS 20
abbrev sJoin : Stmt := topS 21
theorem sIx_nat (n d i : Nat) : HT.sIx n d (some (i : Int)) = min i n := by
  unfold HT.sIx
  simp only
  split
  · omega
  · omega
theorem sIx_none (n d : Nat) : HT.sIx n d none = d := rfl
theorem cut_take (xs : List V) (i : Nat) (h : i ≤ xs.length) : cutV xs none (some (i : Int)) = xs.take i := by
  unfold cutV
  rw [sIx_nat, sIx_none, List.drop_zero, Nat.sub_zero, Nat.min_eq_left h]
theorem in_strs (z : Str) : ∀ ls : List Str, inV (.str z) (ls.map V.str) = decide (z ∈ ls)
  | [] => by simp [inV]
  | y :: r => by
    have q := in_strs z r
    unfold inV at q ⊢
    rw [List.map_cons, List.any_cons, q]
    show ((y == z) || decide (z ∈ r)) = decide (z ∈ y :: r)
    by_cases h : y = z
    · subst h
      simp
    · have h2 : ¬ z = y := fun e => h e.symm
      simp [h, h2]
theorem flat_strs' (ls : List Str) : (ls.map V.str).all flatV = true := by
  rw [List.all_eq_true]
  intro x hx
  obtain ⟨i, _, rfl⟩ := List.mem_map.mp hx
  rfl
/-- a for over enumerate(tuple) -/
theorem for_enumT {K : PySem.W.Frag} {a : Addr} {xs : List V} {g : TG} {tb : TS} {D : Ends} {σ : St} {H : Hp} (Pv : Nat → St → Hp → Prop) (h0 : Pv 0 σ H) (hl : ∀ i σ H, Pv i σ H → SqT K H a xs)
    (hs : ∀ i σ H x T, xs[i]? = some x → Pv i σ H → H T = none → g (.ref T) σ (upd H T (.tup [.int (i : Nat), x])) fun σ2 H2 => tb { D with nx := Pv (i + 1), ct := Pv (i + 1), bk := D.nx } σ2 H2) (hd : ∀ σ H, Pv xs.length σ H → D.nx σ H) :
    ∃ W : Nat → Nat → St → Hp → Prop, (∃ m, W 0 m σ H) ∧ ∀ i m σ H, W i m σ H →
      ((EnT.IteT K a).stop i H ∧ D.nx σ H) ∨ ((EnT.IteT K a).go i H ∧ ∃ N : St → Hp → Prop, (∀ σ' H', N σ' H' → ∃ m', m' < m ∧ W (i + 1) m' σ' H') ∧ ∀ x H', (EnT.IteT K a).yld i H x H' → g x σ H' fun σ2 H2 => tb { D with nx := N, ct := N, bk := D.nx } σ2 H2) := by
  refine ⟨fun i m σ H => m = xs.length - i ∧ i ≤ xs.length ∧ Pv i σ H, ⟨xs.length, by simp, Nat.zero_le _, h0⟩, ?_⟩
  rintro i m σ H ⟨rfl, hi, p⟩
  have sq := hl i σ H p
  by_cases hlt : i < xs.length
  · refine .inr ⟨⟨xs, xs[i], sq, List.getElem?_eq_getElem hlt⟩, Pv (i + 1), fun σ' H' p' => ⟨xs.length - (i + 1), by omega, rfl, hlt, p'⟩, fun x H' y => ?_⟩
    obtain ⟨T, x', rfl, hT, rfl, hx⟩ := y
    exact hs i σ H x' T (hx xs sq) p hT
  · have e : i = xs.length := by omega
    subst e
    exact .inl ⟨⟨xs, sq, rfl⟩, hd σ H p⟩
theorem same2 {H : Hp} {x dx : Addr} (hx : H x = none) (hd : H dx = none) (o1 o2 : HO) : Same H (upd (upd H dx o1) x o2) := fun b o e => by rw [upd_ne (ne_of_none e hx), upd_ne (ne_of_none e hd)]; exact e
theorem PtsAt.same {K : PySem.W.Frag} {C : Addr} {H H' : Hp} (g : Same H H') : ∀ {vs : List V} {os : List (Option Ex)}, PtsAt K C H vs os → PtsAt K C H' vs os
  | _, _, .nil => .nil
  | _, _, .cons h t => .cons (h.same g) (PtsAt.same g t)
/-- a new expression -/
theorem newEx {K : PySem.W.Frag} {C : Addr} {H1 : Hp} {k : Str} {tp : Addr} {xs : List V} {os : List (Option Ex)} {own as : List (Str × List Str)} (htp : SqT K H1 tp xs) (hpts : PtsAt K C H1 xs os) (h10 : xs.length ≤ 10)
    (hown : (k = "access" ∧ ∃ pr, own = [pr] ∧ PairAt K H1 (.ref tp) pr) ∨ (k ≠ "access" ∧ own = [])) (eas : as = own ++ accsOf (opsOf os)) (has : as.length ≤ 900) (hlt : (lts as).length < 64) {x dx : Addr} (hx : H1 x = none) (hd : H1 dx = none) {Q' : VK}
    (q : ∀ H' : Hp, Same H1 H' → HdE K C H' x k xs as (1 + ((opsOf os).map Ex.nodes).sum) → Q' .non H') : spXini K C [.ref x, .str k, .ref tp] (upd (upd H1 dx (.own x)) x (.ins C dx [])) Q' E0 := by
  have g := same2 hx hd (.own x) (.ins C dx [])
  exact ⟨x, dx, tp, k, xs, os, own, as, rfl, upd_same, seqT g htp, hpts.same g, h10, hown.imp (fun ⟨e, pr, e2, h⟩ => ⟨e, pr, e2, h.same g⟩) id, eas, has, hlt, fun H' kp h => q H' (made_same hx hd kp) h⟩
/-- bounds -/
structure Sm0 (e : Ex) : Prop where
  as : e.accs.length ≤ 400
  ls : (lts e.accs).length ≤ 31
theorem lts_app (a b : List (Str × List Str)) : lts (a ++ b) = lts a ++ lts b := by
  unfold lts
  rw [List.map_append, List.flatten_append]
theorem kne (a b : String) (h : (Str.ofString a == Str.ofString b) = false := by decide +kernel) : Str.ofString a ≠ Str.ofString b := nb a b h
section
variable {P : Program} {w : World} {K : PySem.W.Frag} {mg : Str → Option Value} {base : Heap} {f g g2 g3 C fI : Addr} {fd gd gd2 gd3 dI : FuncData}
abbrev XI (P : Program) (w : World) (K : PySem.W.Frag) (mg : Str → Option Value) (base : Heap) (C fI : Addr) (dI : FuncData) : Prop := FnOk P w K mg base CX0 2 fI dI ["self", "kind", "parts"] (spXini K C)
def spNum (K : PySem.W.Frag) (C : Addr) : Sp := fun vs H Q _ => ∃ n : Int, vs = [.int n] ∧ ∀ (p : Addr) (H' : Hp), Same H H' → ExAt K C H' (.num n) p → Q (.ref p) H'
theorem scN : FnScope ["n"] ["n"] (defScope sNum) := ⟨rfl, rfl, rfl, by decide +kernel, rfl, by decide +kernel, by decide +kernel⟩
theorem ok_num (F : Fun K "number" "number" sNum f fd) (T : Xc K mg C fI) (FI : XI P w K mg base C fI dI) (bI : Binds K dI ["self", "kind", "parts"] []) : FnOk P w K mg base CX0 4 f fd ["n"] (spNum K C) := by
  refine F.ok scN (fun vs H Q E h => ?_) (fun cdv A outer s H vs Q E hr h => ?_)
  · obtain ⟨n, rfl, _⟩ := h
    rfl
  obtain ⟨n, rfl, k⟩ := h
  refine ⟨_, pss_one (ps_ret (pe_make T.mkC FI hr (by rfl) T.mC bI .nil pass0 (pa_cons pe_str (pa_cons (pe_tup (pa_cons (pv 0) pa_nil)) pa_nil)))), ?_⟩
  refine ⟨_, rfl, (by show 1 ≤ sizeLine; decide), fun tp htp => ?_⟩
  have g1 := same_new htp (.tup [.int n])
  intro x dx hx hd _
  exact newEx (os := [none]) (own := []) (as := []) (SqT.of upd_same) (.cons (.inl ⟨n, rfl⟩) .nil) (by show 1 ≤ 10; decide) (.inr ⟨kne "number" "access", rfl⟩) rfl (by decide) (by decide) hx hd (fun H' g h => ⟨rfl, k x H' (g1.trans g) h⟩)
def spChkE (K : PySem.W.Frag) (C : Addr) : Sp := fun vs H Q _ => ∃ (p : Addr) (e : Ex), vs = [.ref p] ∧ ExAt K C H e p ∧ Q .non H
theorem scCE : FnScope ["x"] ["x"] (defScope sChkE) := ⟨rfl, rfl, rfl, by decide +kernel, rfl, by decide +kernel, by decide +kernel⟩
/-- the constants of the text -/
structure Kc (K : PySem.W.Frag) (mg : Str → Option Value) (AK : Addr) : Prop where
  mA : mg "ASSIGNED_KINDS" = some (.ref AK)
  tA : ∀ H : Hp, SqT K H AK [.str "gain", .str "loss"]
theorem ok_chkE {AK : Addr} (F : Fun K "check_expression" "check_expression" sChkE f fd) (T : Xc K mg C fI) (Kx : Kc K mg AK) : FnOk P w K mg base CX0 1 f fd ["x"] (spChkE K C) := by
  refine F.ok scCE (fun vs H Q E h => ?_) (fun cdv A outer s H vs Q E hr h => ?_)
  · obtain ⟨p, e, rfl, _⟩ := h
    rfl
  obtain ⟨p, e, rfl, he, k⟩ := h
  refine ⟨_, pss_one (ps_if (pt_cmpR (r := rIn K false) op_in_seq (pe_fld (pv 0) rfl) (pe_glob (v := .ref AK) (by rfl) Kx.mA rfl) (by rfl)) (pss_one ps_never) pss_nil), ?_⟩
  obtain ⟨_, dx, _, _, _, _, _, hp, _⟩ := he.hd
  obtain ⟨n1, n2⟩ := he.noGain
  refine ⟨_, rfl, p, C, dx, _, _, rfl, hp, T.ic.cl, T.nK, fE_k, AK, _, rfl, .inr (Kx.tA H), rfl, rfl, _, rfl, ?_⟩
  have z : inV (.str e.kind) [.str "gain", .str "loss"] = false := by
    have z2 := in_strs e.kind ["gain", "loss"]
    rw [show inV (.str e.kind) [.str "gain", .str "loss"] = inV (.str e.kind) ((["gain", "loss"] : List Str).map V.str) from rfl, z2]
    simp [n1, n2]
  exact iteN (c := inV (.str e.kind) [.str "gain", .str "loss"]) z k
/-- an operand: an int, or an expression -/
def OpV (K : PySem.W.Frag) (C : Addr) (H : Hp) (v : V) (e : Ex) : Prop := (∃ i : Int, v = .int i ∧ e = .num i) ∨ ∃ p, v = .ref p ∧ ExAt K C H e p
theorem OpV.same {H H' : Hp} {v : V} {e : Ex} (g : Same H H') : OpV K C H v e → OpV K C H' v e
  | .inl h => .inl h
  | .inr ⟨p, ep, h⟩ => .inr ⟨p, ep, h.same g⟩
def spOpd (K : PySem.W.Frag) (C : Addr) : Sp := fun vs H Q _ => ∃ (v : V) (e : Ex), vs = [v] ∧ OpV K C H v e ∧ ∀ (p : Addr) (H' : Hp), Same H H' → ExAt K C H' e p → Q (.ref p) H'
theorem scOp : FnScope ["x"] ["x"] (defScope sOpd) := ⟨rfl, rfl, rfl, by decide +kernel, rfl, by decide +kernel, by decide +kernel⟩
theorem ok_opd (F : Fun K "operand_of" "operand_of" sOpd f fd) (T : Xc K mg C fI) (B : Bt mg) (GW : FnOk P w K mg base CX0 1 g gd ["n"] (spWh C)) (bW : Binds K gd ["n"] []) (kW : PySem.W.keepIn K (.ref g) = true) (mW : mg "is_whole" = some (.ref g))
    (GN : FnOk P w K mg base CX0 4 g2 gd2 ["n"] (spNum K C)) (bN : Binds K gd2 ["n"] []) (kN : PySem.W.keepIn K (.ref g2) = true) (mN : mg "number" = some (.ref g2))
    (GE : FnOk P w K mg base CX0 1 g3 gd3 ["x"] (spChkE K C)) (bE : Binds K gd3 ["x"] []) (kE : PySem.W.keepIn K (.ref g3) = true) (mE : mg "check_expression" = some (.ref g3)) : FnOk P w K mg base CX0 5 f fd ["x"] (spOpd K C) := by
  refine F.ok scOp (fun vs H Q E h => ?_) (fun cdv A outer s H vs Q E hr h => ?_)
  · obtain ⟨v, e, rfl, _⟩ := h
    rfl
  obtain ⟨v, e, rfl, hv, k⟩ := h
  have hr1 := hr.mono (show 1 ≤ 4 by decide)
  refine ⟨_, pss_cons (ps_if (pt_val (pe_call GW hr1 rfl mW kW bW .nil pass0 (pa_cons (pv 0) pa_nil))) (pss_one (ps_ret (pe_call GN hr rfl mN kN bN .nil pass0 (pa_cons (pv 0) pa_nil)))) pss_nil)
    (pss_cons (ps_if (pt_not (pt_val (pe_callB (C8.call_isC T.ic) (by rfl) B.isi (by decide +kernel) (pa_cons (pv 0) (pa_cons (pe_glob (v := .ref C) (by rfl) T.mC rfl) pa_nil))))) (pss_one ps_never) pss_nil)
    (pss_cons (ps_expr (pe_call GE hr1 rfl mE kE bE .nil pass0 (pa_cons (pv 0) pa_nil))) (pss_one (ps_ret (pv 0))))), ?_⟩
  rcases hv with ⟨i, rfl, rfl⟩ | ⟨p, rfl, he⟩
  · refine ⟨_, rfl, _, rfl, .inl ⟨i, rfl, _, rfl, iteT ?_⟩⟩
    exact ⟨_, rfl, i, rfl, fun p H' g h => k p H' g h⟩
  · obtain ⟨_, dx, _, _, _, _, _, hp, _⟩ := he.hd
    refine ⟨_, rfl, _, rfl, .inr ⟨p, dx, _, rfl, hp, _, rfl, iteF ?_⟩⟩
    refine ⟨_, rfl, p, dx, _, rfl, hp, _, rfl, iteF ?_⟩
    exact ⟨_, rfl, p, e, rfl, he, _, rfl, k p H (Same.refl H) he⟩
def spJoin (K : PySem.W.Frag) (C : Addr) : Sp := fun vs H Q _ => ∃ (k : Str) (v u : V) (x y : Ex), vs = [.str k, v, u] ∧ okK k ∧ OpV K C H v x ∧ OpV K C H u y ∧ Sm0 x ∧ Sm0 y ∧ ∀ (p : Addr) (H' : Hp), Same H H' → ExAt K C H' (.bi k x y) p → Q (.ref p) H'
theorem scJ : FnScope ["kind", "x", "y"] ["kind", "x", "y"] (defScope sJoin) := ⟨rfl, rfl, rfl, by decide +kernel, rfl, by decide +kernel, by decide +kernel⟩
theorem ok_join (F : Fun K "joined" "joined" sJoin f fd) (T : Xc K mg C fI) (FI : XI P w K mg base C fI dI) (bI : Binds K dI ["self", "kind", "parts"] [])
    (GO : FnOk P w K mg base CX0 5 g gd ["x"] (spOpd K C)) (bO : Binds K gd ["x"] []) (kO : PySem.W.keepIn K (.ref g) = true) (mO : mg "operand_of" = some (.ref g)) : FnOk P w K mg base CX0 6 f fd ["kind", "x", "y"] (spJoin K C) := by
  refine F.ok scJ (fun vs H Q E h => ?_) (fun cdv A outer s H vs Q E hr h => ?_)
  · obtain ⟨k, v, u, x, y, rfl, _⟩ := h
    rfl
  obtain ⟨k, v, u, x, y, rfl, hk, hv, hu, sx, sy, q⟩ := h
  refine ⟨_, pss_one (ps_ret (pe_make T.mkC FI (hr.mono (by decide)) (by rfl) T.mC bI .nil pass0 (pa_cons (pv 0) (pa_cons (pe_tup (pa_cons (pe_call GO hr rfl mO kO bO .nil pass0 (pa_cons (pv 1) pa_nil)) (pa_cons (pe_call GO hr rfl mO kO bO .nil pass0 (pa_cons (pv 2) pa_nil)) pa_nil))) pa_nil)))), ?_⟩
  refine ⟨_, rfl, _, rfl, v, x, rfl, hv, fun a H1 g1 ha => ?_⟩
  refine ⟨_, rfl, u, y, rfl, hu.same g1, fun b H2 g2 hb => ?_⟩
  refine ⟨(by show 2 ≤ sizeLine; decide), fun tp htp => ?_⟩
  have g3 := same_new htp (.tup [.ref a, .ref b])
  have ha3 := ha.same (g2.trans g3)
  have hb3 := hb.same g3
  intro p dx hp hd _
  refine newEx (os := [some x, some y]) (own := []) (as := x.accs ++ y.accs) (SqT.of upd_same) (.cons ⟨a, rfl, ha3⟩ (.cons ⟨b, rfl, hb3⟩ .nil)) (by show 2 ≤ 10; decide) (.inr ⟨hk.1, rfl⟩) (by show _ = [] ++ (x.accs ++ (y.accs ++ [])); simp) ?_ ?_ hp hd (fun H' g h => ⟨rfl, q p H' (((g1.trans g2).trans g3).trans g) ?_⟩)
  · rw [List.length_append]
    have := sx.as
    have := sy.as
    omega
  · rw [lts_app, List.length_append]
    have := sx.ls
    have := sy.ls
    omega
  · refine ⟨hk, a, b, ?_, ha3.same g, hb3.same g⟩
    have e : (1 : Int) + (([x, y] : List Ex).map Ex.nodes).sum = 1 + (x.nodes + y.nodes) := by simp
    rw [← e]
    exact h
def spChkL (K : PySem.W.Frag) : Sp := fun vs H Q _ => ∃ (t : Addr) (ls : List Str), vs = [.ref t] ∧ SqT K H t (ls.map V.str) ∧ ls.length ≤ 100 ∧ ls.Nodup ∧ ∀ H' : Hp, Same H H' → Q .non H'
theorem scCL : FnScope ["letters", "at", "letter"] ["letters"] (defScope sChkL) := ⟨rfl, rfl, rfl, by decide +kernel, rfl, by decide +kernel, by decide +kernel⟩
theorem ok_chkL (F : Fun K "check_letters" "check_letters" sChkL f fd) (B2 : Bx mg) : FnOk P w K mg base CX0 1 f fd ["letters"] (spChkL K) := by
  refine F.ok scCL (fun vs H Q E h => ?_) (fun cdv A outer s H vs Q E hr h => ?_)
  · obtain ⟨t, ls, rfl, _⟩ := h
    rfl
  obtain ⟨t, ls, rfl, ht, hl, hn, k⟩ := h
  refine ⟨_, pss_one (ps_for PassesOwn.never rfl (EnT.pi_enumT (by rfl) B2.enum (pa_cons (pv 0) pa_nil)) (pg_tup rfl (pgs_cons (pg_name (i := 1) scCL.nd rfl (Or.inl rfl)) (pgs_cons (pg_name (i := 2) scCL.nd rfl (Or.inl rfl)) pgs_nil)))
    (pss_one (ps_if (pt_cmpR (r := rIn K false) op_in_seq (pv 2) (pe_slice sl_tupA (pv 0) po_none (po_some (pv 1))) (by rfl)) (pss_one ps_never) pss_nil))), ?_⟩
  refine ⟨_, rfl, t, _, rfl, ht, for_enumT (K := K) (a := t) (xs := ls.map V.str) (fun i σ' H' => (∃ u v : Option V, σ' = [some (.ref t), u, v]) ∧ Same H H') ⟨⟨_, _, rfl⟩, Same.refl H⟩ (fun i σ' H' ⟨_, g⟩ => seqT g ht) (fun i σ' H' x T hx ⟨⟨u, v, e⟩, g⟩ hT => ?_) (fun σ' H' ⟨_, g⟩ => k H' g)⟩
  subst e
  rw [List.getElem?_map] at hx
  cases ez : ls[i]? with
  | none => rw [ez] at hx; cases hx
  | some z =>
    rw [ez] at hx
    cases hx
    have hi : i < ls.length := (List.getElem?_eq_some_iff.mp ez).1
    have gT := same_new hT (.tup [.int (i : Nat), .str z])
    have htT := seqT (g.trans gT) ht
    have no : decide (z ∈ ls.take i) = false := by
      refine decide_eq_false fun hm => ?_
      obtain ⟨j, hj, ej⟩ := List.getElem_of_mem hm
      rw [List.length_take] at hj
      rw [List.getElem_take] at ej
      obtain ⟨_, e2⟩ := List.getElem?_eq_some_iff.mp ez
      exact absurd ((List.getElem_inj hn).mp (ej.trans e2.symm)) (by omega)
    have ecut : cutV (ls.map V.str) none (some (i : Int)) = (ls.take i).map V.str := by
      rw [cut_take _ _ (by rw [List.length_map]; omega), List.map_take]
    refine ⟨T, _, rfl, SqT.of upd_same, rfl, _, _, rfl, _, _, rfl, rfl, ?_⟩
    refine ⟨_, rfl, _, rfl, _, rfl, _, rfl, t, _, rfl, htT, fun hw => ?_, fun _ p hp => ?_⟩
    · exfalso
      have z2 := hw.2
      rw [sIx_nat, List.length_map] at z2
      omega
    · have gp := same_new hp (.tup (cutV (ls.map V.str) none (some (i : Int))))
      refine ⟨p, _, rfl, .inr (SqT.of upd_same), rfl, by rw [ecut]; exact flat_strs' _, _, rfl, ?_⟩
      have e3 : inV (.str z) (cutV (ls.map V.str) none (some (i : Int))) = false := by
        rw [ecut, in_strs]
        exact no
      exact iteN (c := inV (.str z) (cutV (ls.map V.str) none (some (i : Int)))) e3 ⟨⟨_, _, rfl⟩, (g.trans gT).trans gp⟩
end
end Lw
/-! abs(x) by an own __abs__; n op x, n an int, by an own __radd__ and its like -/
namespace OwB
open PySem PySem.Spec PyProof.Rows L2
section
variable {X : Cx} {CX : CXT} {k : Nat} {g C : Addr} {gd : FuncData} {ps : List Str} {sp : Sp} {E : XK}
/-- abs(x), x an instance of the class at C -/
def rAbs (C : Addr) (sp : Sp) (E : XK) : List V → Hp → VK → Prop := fun xs H Q => ∃ a dx fs, xs = [.ref a] ∧ H a = some (.ins C dx fs) ∧ sp [.ref a] H Q E
theorem call_absO (D : OpD X.K C g "__abs__") (F : FnR X.prog X.w X.K X.mg X.base CX k g sp) (hr : Room (k + 1) X.A) (hx : Passes CX X E) : CallR X (.builtin "abs") (rAbs C sp E) := by
  intro pins s σ H xs us Q I r h
  obtain ⟨a, dx, fs, rfl, ha, q⟩ := h
  obtain ⟨u, rfl, ru⟩ := r.one
  cases (show u = Value.ref a from ru)
  obtain ⟨od, J⟩ := inst_of I ha
  refine Calls.call_function_entry kind_abs plain_abs entry_abs (args_abs _) ?_
  unfold Builtin.«abs»
  refine wpAny_bind (m := oneArg "abs" ⟨[.ref a], []⟩) (wpAny_of_eq (a := Value.ref a) rfl ?_)
  show wpAny _ _ (callSpecial? (.ref a) "__abs__" >>= _) _ _ s
  refine wpAny_bind (PySem.W.special_fn I.kIn J D.at_ (beq_iff_eq.mp D.fn) (wpAny_mono (wpAny_call (SlX.run_at (us := [.ref a]) (ws := [.ref a]) F hr.in1 I.env0.in1 hx I (.cons rfl .nil) q)) (fun v s' z => ?_) fun _ _ x => x))
  show wpAny _ _ (ret v) _ _ _
  exact wpAny_pure ⟨_, rfl, z⟩
end
end OwB
namespace OwB
open PySem PySem.Spec PyProof.Rows L2
/-- an int's slot refuses an instance -/
theorem intB_no {M : Model} {A : Around} {E : Value → Shared → Prop} {s : Shared} {name : String} {fn : Int → Int → Sem Fin} {i : Int} {t : Tok} {p C dx : Addr} {od : Option Obj} (J : PySem.W.InstAt s.heap p (PySem.W.instObj C dx) C od) {Q : Fin → Shared → Prop} (h : Q (.done (.ret .notImplemented)) s) :
    wpAny M A (PySem.Builtin.Int.intBinary name fn false ⟨[.int i t, .ref p], []⟩) Q E s := by
  unfold PySem.Builtin.Int.intBinary
  refine wpAny_bind (m := slotArgs name 1 ⟨[.int i t, .ref p], []⟩) (wpAny_of_eq (a := (Value.int i t, [Value.ref p])) rfl ?_)
  refine wpAny_bind (m := PySem.Builtin.Int.intOfSelf (.int i t)) (wpAny_of_eq (a := i) rfl ?_)
  refine wpAny_bind (m := asInt? (.ref p)) (wpAny_bind (m := load p) (wpAny_load J.at_ ?_))
  show wpAny M A (pure none) _ E s
  refine wpAny_pure ?_
  exact wpAny_bind (m := rule "int.binary.not-an-int") (wpAny_rule (wpAny_pure h))
/-- what the slot of int is -/
structure IntS (op : Operator) : Prop where
  slot : ∃ id b name fn, Slot "int" (PySem.dunder op.info.2) id ∧ entryFor table id = some b ∧ b = PySem.Builtin.Int.intBinary name fn false ∧ ∀ a c : Value, argsOk id ⟨[a, c], []⟩
  fills : fillsNumberSlot (.type "int") op.info.2 = pure true
theorem iAdd : IntS .Add := ⟨⟨_, _, _, _, slot_int_add, entry_int_add, rfl, args_int_add⟩, fills_int_add⟩
theorem iSub : IntS .Sub := ⟨⟨_, _, _, _, slot_int_sub, entry_int_sub, rfl, args_int_sub⟩, fills_int_sub⟩
theorem iMul : IntS .Mult := ⟨⟨_, _, _, _, slot_int_mul, entry_int_mul, rfl, args_int_mul⟩, fills_int_mul⟩
theorem iAnd : IntS .BitAnd := ⟨⟨_, _, _, _, slot_int_and, entry_int_and, rfl, args_int_and⟩, fills_int_and⟩
theorem iOr : IntS .BitOr := ⟨⟨_, _, _, _, slot_int_or, entry_int_or, rfl, args_int_or⟩, fills_int_or⟩
theorem iXor : IntS .BitXor := ⟨⟨_, _, _, _, slot_int_xor, entry_int_xor, rfl, args_int_xor⟩, fills_int_xor⟩
section
variable {prog : Program} {w : World} {A : Around} {E : Value → Shared → Prop} {s : Shared} {K : PySem.W.Frag} {x C L f : Addr} {h₀ : Heap} {m : Str → Option Value} {ox : Obj} {od : Option Obj}
theorem tryInt {op : Operator} (S : IntS op) {i : Int} {t : Tok} {p dx : Addr} (J : PySem.W.InstAt s.heap p (PySem.W.instObj C dx) C od) {Q : Option Value → Shared → Prop} (h : Q none s) :
    wpAny (model prog w) A (tryMethod (.int i t) (PySem.dunder op.info.2) (.ref p)) Q E s := by
  obtain ⟨id, b, name, fn, sl, en, rfl, ar⟩ := S.slot
  unfold tryMethod
  refine wpAny_bind (wpAny_callSpecial?_slot (name := PySem.dunder op.info.2) (typeIs_int s i t) sl (wpAny_call_entry sl (typeIs_int s i t) en ?_ (ar _ _)))
  refine intB_no J ⟨_, rfl, ?_⟩
  exact wpAny_pure h
open PySem.W in
/-- n op x, n an int, x an instance whose class has the def and the reflected one -/
theorem ksp_refl {op : Operator} {i : Int} {t : Tok} {g0 dx : Addr} {Q : Value → Shared → Prop} (S : IntS op) (F : Fr h₀ L s.heap m) (X₀ : K.In h₀) (I : InstAt s.heap x (instObj C dx) C od) (hc : selfFirst K C = true)
    (hs0 : findIn K (.ref C) (PySem.dunder op.info.2) = some (some (.ref g0))) (hs : findIn K (.ref C) (dunderR op.info.2) = some (some (.ref f))) (hf : isFn K (.ref f) = true)
    (hsub : subIn K (.ref C) (.type "int") = some false)
    (h : wpAny (model prog w) A (call (.ref f) [.ref x, .int i t]) (PySem.W.CmpBack Q) E s) : wpAny (model prog w) A (binaryOp op (.int i t) (.ref x)) Q E s := by
  have X := X₀.keeps F.keep
  obtain ⟨cd, rest, hcd, hm⟩ := ksp_first hc
  have one := ksp_try X I hs hf h
  have tri : ∀ Q' : Option Value → Shared → Prop, Q' none s → wpAny (model prog w) A (tryMethod (.int i t) (PySem.dunder op.info.2) (.ref x)) Q' E s := fun Q' q => tryInt S I q
  have fil := S.fills
  rcases hi : op.info with ⟨sym, nm'⟩
  rw [hi] at hs hs0 tri fil one
  dsimp only at hs hs0 tri fil one
  obtain ⟨hh, g, d, tt, os⟩ := s
  have L1 : Looks (model prog w) hh (typeOf (.ref x)) (.ref C) := I.type
  have L2 : Looks (model prog w) hh (typeOf (.int i t)) (.type "int") := Looks.of_pure rfl
  have L3 : Looks (model prog w) hh (fillsNumberSlot (.ref C) nm') true := fills_K X hcd hm hs0
  have L4 : Looks (model prog w) hh (fillsNumberSlot (.type "int") nm') true := Looks.of_pure fil
  have L5 : Looks (model prog w) hh (isSubtype (.ref C) (.type "int")) false := looks_subIn X hsub
  have L6 : Looks (model prog w) hh (numberSlotInPython (.type "int") nm') false := Looks.of_pure rfl
  have hne : (Value.type "int" == Value.ref C) = false := Bool.eq_false_iff.mpr fun q => by cases beq_iff_eq.mp q
  simp only [binaryOp, hi]
  refine wpAny_holding (wpAny_bind ?_)
  unfold binaryOp1
  refine wpAny_bind (L2.at (wpAny_bind (L1.at (wpAny_bind (L4.at ?_)))))
  simp only [hne, Bool.false_eq_true, if_false]
  ksp_lk
  refine tri _ ?_
  ksp_lk
  refine wpAny_mono one (fun r s' hr' => ?_) fun _ _ e => e
  obtain ⟨v, rfl, hq⟩ := hr'
  ksp_lk
  exact hq
end
section
variable {X : Cx} {CX : CXT} {k : Nat} {g g0 C : Addr} {gd : FuncData} {ps : List Str} {sp : Sp} {E : XK}
/-- i op x, x an instance, i an int -/
def rOwnR (C : Addr) (sp : Sp) (E : XK) : R2 := fun x y H Q => ∃ a dx fs i, x = .int i ∧ y = .ref a ∧ H a = some (.ins C dx fs) ∧ sp [y, x] H Q E
theorem op_ownR {op : Operator} (S : IntS op) (hc : PySem.W.selfFirst X.K C = true) (D0 : OpD X.K C g0 (PySem.dunder op.info.2)) (D : OpD X.K C g (PySem.dunderR op.info.2)) (hsub : PySem.W.subIn X.K (.ref C) (.type "int") = some false)
    (F : FnOk X.prog X.w X.K X.mg X.base CX k g gd ps sp) (hr : Room k X.A) (hb : Binds X.K gd ps []) (hx : Passes CX X E) : OpR X (binaryOp op) (rOwnR C sp E) := by
  intro pins s σ H x y v u Q I rx ry h
  obtain ⟨a, dx, fs, i, rfl, rfl, ha, q⟩ := h
  cases (show u = Value.ref a from ry)
  obtain ⟨t, rfl⟩ := (show ∃ t, v = Value.int i t from rx)
  obtain ⟨od, J⟩ := inst_of I ha
  obtain ⟨m, hF⟩ := I.fr
  refine ksp_refl S hF I.ok.mod.kin J hc D0.at_ D.at_ D.fn hsub ?_
  exact wpAny_mono (run_fn (us := [.ref a, .int i t]) (vs := [.ref a, .int i]) F hr hb .nil hx I (.cons rfl (.cons ⟨t, rfl⟩ .nil)) q) (fun w s' z => back_of z) fun _ _ x => x
end
end OwB
namespace Lw
open PySem L2 OwB
abbrev sAlw : Stmt := topS 22
abbrev sNbd : Stmt := topS 23
section
variable {X : Cx} {CX : CXT} {k : Nat} {f : Addr} {sp : Sp} {E : XK} {x : Str} {e : Expr} {es : List Expr} {t : TA} {p pos : Pos}
/-- x(e, ..), x a def by its promise alone -/
theorem pe_callR (F : FnR X.prog X.w X.K X.mg X.base CX k f sp) (hr : Room k X.A) (hg : Gl X x) (hm : X.mg x = some (.ref f)) (hk : PySem.W.keepIn X.K (.ref f) = true) (hx : Passes CX X E)
    (ha : PA X (e :: es) t) (hdb : (x == ("__debug__" : Str)) = false := by decide) (he : starEach (e :: es) X.env = (false, eval e X.env) :: starEach es X.env := by rfl) (hpl : (backTo pos (starEach es X.env)).any (·.1) = false := by rfl) :
    PE X (.Call (.Name x p) (e :: es) [] pos) (fun σ H Q => t σ H fun vs H1 => sp vs H1 Q E) := by
  refine ⟨fun pins s σ H Q I h => ?_⟩
  refine wpAny_Call_Name_kw (ld_glob I hg hm ?_ hdb)
  refine PySem.W.callWith_K (h₀ := X.base) I.ok.mod.kin hk (thn (ha.run pos pins s σ H _ I h) fun us s1 ⟨vs, H1, I1, r, q⟩ => ⟨I1.kIn, ?_⟩) he hpl
  exact wpAny_call (run_fnR F hr hx I1 r q)
end
section
variable {P : Program} {w : World} {K : PySem.W.Frag} {mg : Str → Option Value} {base : Heap} {f g g2 g3 C fI : Addr} {fd gd gd2 gd3 dI : FuncData}
/-- access(nm, letters ..) -/
def spAcc (K : PySem.W.Frag) (C : Addr) : Sp := fun vs H Q _ => ∃ (nm : Str) (ls : List Str), vs = .str nm :: ls.map V.str ∧ ls.length ≤ 20 ∧ ls.Nodup ∧ ∀ (p : Addr) (H' : Hp), Same H H' → ExAt K C H' (.acc nm ls) p → Q (.ref p) H'
theorem scAc : FnScope ["name", "letters"] ["name", "letters"] (defScope sAcc) := ⟨rfl, rfl, rfl, by decide +kernel, rfl, by decide +kernel, by decide +kernel⟩
theorem ok_acc (F : Fun K "access" "access" sAcc f fd) (T : Xc K mg C fI) (B : Bt mg) (FI : XI P w K mg base C fI dI) (bI : Binds K dI ["self", "kind", "parts"] [])
    (GL : FnOk P w K mg base CX0 1 g gd ["letters"] (spChkL K)) (bL : Binds K gd ["letters"] []) (kL : PySem.W.keepIn K (.ref g) = true) (mL : mg "check_letters" = some (.ref g)) : FnR P w K mg base CX0 4 f (spAcc K C) := by
  obtain ⟨oc, od, kV, doc, pm, an, cdv, ct, osl, rfl, lk, hcd⟩ := F.ex
  have z := StX.fn_star (P := P) (w := w) (mg := mg) (base := base) (CX := CX0) (k := 3) (ps := ["name"]) (pv := "letters") (N := ["name", "letters"])
    (sp := fun vs H Q _ => ∃ (nm : Str) (ls : List Str) (t : Addr), vs = [.str nm, .ref t] ∧ SqT K H t (ls.map V.str) ∧ ls.length ≤ 20 ∧ ls.Nodup ∧ ∀ (p : Addr) (H' : Hp), Same H H' → ExAt K C H' (.acc nm ls) p → Q (.ref p) H')
    lk hcd scAc StX.cxUp_none (StX.bind_star1 (B := fun us => bindArgs (PySem.W.fnOf "access" "access" (defArgs sAcc) (defBody sAcc) (defScope sAcc) .none kV doc pm an cdv ct) ⟨us, []⟩) (fun a => rfl) (fun a r rs => rfl)) (fun A outer s H vs Q E hr h => ?_)
  · refine z.imp fun vs H Q E h => ?_
    obtain ⟨nm, ls, rfl, hl, hn, k⟩ := h
    refine ⟨[.str nm], ls.map V.str, rfl, rfl, by rw [List.length_map]; exact Nat.le_trans hl (by decide), fun p hp => ⟨nm, ls, p, rfl, SqT.of upd_same, hl, hn, fun q H' g => k q H' ((same_new hp _).trans g)⟩⟩
  obtain ⟨nm, ls, t, rfl, ht, hl, hn, k⟩ := h
  suffices hh : ∃ t', PSs (cxOf CX0 P w K mg base ["name", "letters"] "access" (defScope sAcc) f cdv A outer s H E).nox (defBody sAcc) t' ∧ t' { nx := fun _ H' => Q .non H', rt := Q } (start ["name", "letters"] [.str nm, .ref t]) H by
    obtain ⟨t', h1, h2⟩ := hh
    exact ⟨t', h1.nox, h2⟩
  refine ⟨_, pss_cons (ps_expr (pe_call GL (hr.mono (by decide)) rfl mL kL bL .nil pass0 (pa_cons (pv 1) pa_nil)))
    (pss_one (ps_ret (pe_make T.mkC FI hr (by rfl) T.mC bI .nil pass0 (pa_cons pe_str (pa_cons (pe_tup (pa_cons (pv 0) (pa_cons (pe_callTy call_tuple_of (by rfl) B.tup (by decide +kernel) (pa_cons (pv 1) pa_nil)) pa_nil))) pa_nil))))), ?_⟩
  refine ⟨_, rfl, t, ls, rfl, ht, by omega, hn, fun H1 g1 => ?_⟩
  refine ⟨_, rfl, _, rfl, t, ls.map V.str, rfl, .inr ⟨seqT g1 ht, (by show 2 ≤ sizeLine; decide), fun tp htp => ?_⟩⟩
  have g2 := same_new htp (.tup [.str nm, .ref t])
  have ht2 := seqT (g1.trans g2) ht
  intro x dx hx hd _
  refine newEx (os := [none, none]) (own := [(nm, ls)]) (as := [(nm, ls)]) (SqT.of upd_same) (.cons (.inr (.inl ⟨nm, rfl⟩)) (.cons (.inr (.inr ⟨t, _, rfl, ht2⟩)) .nil)) (by show 2 ≤ 10; decide) (.inl ⟨rfl, _, rfl, tp, t, rfl, SqT.of upd_same, ht2⟩) rfl (by show 1 ≤ 900; decide) ?_ hx hd (fun H' g h => ⟨rfl, k x H' ((g1.trans g2).trans g) ⟨t, h, seqT g ht2⟩⟩)
  show ((ls ++ []) : List Str).length < 64
  rw [List.append_nil]
  omega
/-- the limits of the kinds with an integer -/
structure Lc (K : PySem.W.Frag) (w : World) (mg : Str → Option Value) (LA : Addr) : Prop where
  mL : mg "LIMITS" = some (.ref LA)
  D : ∃ es n, KDict K w LA es n
  q : PySem.W.nsIn K LA "quotient" = some none
  kd : ∀ k : Str, k = "power" ∨ k = "left" ∨ k = "right" → ∃ T : Addr, PySem.W.nsIn K LA k = some (some (.ref T)) ∧ ∀ H : Hp, SqT K H T [.int (if k = "power" then 1 else 0), .int (if k = "power" then 4 else 60)]
def okN (k : Str) (n : Int) : Prop := (k = "quotient" ∧ n ≠ 0) ∨ ((k = "power" ∨ k = "left" ∨ k = "right") ∧ (if k = "power" then 1 else 0) ≤ n ∧ n ≤ (if k = "power" then 4 else 60))
def spAlw : Sp := fun vs H Q _ => ∃ (k : Str) (n : Int), vs = [.str k, .int n] ∧ okN k n ∧ Q (.bl true) H
theorem scAl : FnScope ["kind", "n", "least", "greatest"] ["kind", "n"] (defScope sAlw) := ⟨rfl, rfl, rfl, by decide +kernel, rfl, by decide +kernel, by decide +kernel⟩
theorem ok_alw {LA : Addr} (F : Fun K "is_allowed" "is_allowed" sAlw f fd) (Lx : Lc K w mg LA) : FnOk P w K mg base CX0 1 f fd ["kind", "n"] spAlw := by
  refine F.ok scAl (fun vs H Q E h => ?_) (fun cdv A outer s H vs Q E hr h => ?_)
  · obtain ⟨k, n, rfl, _⟩ := h
    rfl
  obtain ⟨es, en, D⟩ := Lx.D
  obtain ⟨k, n, rfl, hk, q⟩ := h
  refine ⟨_, pss_cons (ps_if (pt_cmpR (op_in_kd D) (pv 0) (pe_glob (v := .ref LA) (by rfl) Lx.mL rfl) (by rfl))
    (pss_cons (ps_asg (pe_ix ix_kdict (pe_glob (v := .ref LA) (by rfl) Lx.mL rfl) (pv 0) (fun _ _ => rfl)) (pg_tup rfl (pgs_cons (pg_name (i := 2) scAl.nd rfl (Or.inl rfl)) (pgs_cons (pg_name (i := 3) scAl.nd rfl (Or.inl rfl)) pgs_nil))))
      (pss_one (ps_ret (pe_chain op_le op_le (pv 2) (pv 1) (pv 3))))) pss_nil)
    (pss_one (ps_ret (pe_cmpR op_ne (pv 1) pe_int (nomark _)))), ?_⟩
  rcases hk with ⟨rfl, hn⟩ | ⟨hk, hlo, hhi⟩
  · refine ⟨_, rfl, _, _, rfl, rfl, Lx.q, _, rfl, iteF ?_⟩
    refine ⟨_, rfl, rfl, ?_⟩
    rw [dec_int, show (n == (0 : Int)) = false from beq_eq_false_iff_ne.mpr hn]
    exact q
  · obtain ⟨T, e, hT⟩ := Lx.kd k hk
    refine ⟨_, rfl, _, _, rfl, rfl, e, _, rfl, iteT ?_⟩
    refine ⟨_, rfl, LA, k, .ref T, rfl, rfl, ⟨es, en, _, D.at_, D.lit, e, rfl⟩, T, _, rfl, hT H, rfl, _, _, rfl, _, _, rfl, rfl, ?_⟩
    refine ⟨_, rfl, _, rfl, _, _, rfl, rfl, _, rfl, ?_⟩
    rw [decide_eq_true hlo]
    refine iteT ⟨_, rfl, _, _, rfl, rfl, ?_⟩
    show Q (V.bl (decide (n ≤ if k = ("power" : Str) then (4 : Int) else 60))) H
    rw [decide_eq_true hhi]
    exact q
def spNbd (K : PySem.W.Frag) (C : Addr) : Sp := fun vs H Q _ => ∃ (k : Str) (v : V) (n : Int) (x : Ex), vs = [.str k, v, .int n] ∧ okN k n ∧ OpV K C H v x ∧ Sm0 x ∧ ∀ (p : Addr) (H' : Hp), Same H H' → ExAt K C H' (.nu k x n) p → Q (.ref p) H'
theorem scNb : FnScope ["kind", "x", "n"] ["kind", "x", "n"] (defScope sNbd) := ⟨rfl, rfl, rfl, by decide +kernel, rfl, by decide +kernel, by decide +kernel⟩
theorem okN.ok {k : Str} {n : Int} (h : okN k n) : okK k := by
  rcases h with ⟨rfl, _⟩ | ⟨rfl | rfl | rfl, _⟩ <;> exact ⟨kne _ _, kne _ _, kne _ _, kne _ _⟩
theorem ok_nbd {h hA : Addr} {hd dA : FuncData} (F : Fun K "numbered" "numbered" sNbd f fd) (T : Xc K mg C fI) (FI : XI P w K mg base C fI dI) (bI : Binds K dI ["self", "kind", "parts"] [])
    (GW : FnOk P w K mg base CX0 1 g gd ["n"] (spWh C)) (bW : Binds K gd ["n"] []) (kW : PySem.W.keepIn K (.ref g) = true) (mW : mg "is_whole" = some (.ref g))
    (GA : FnOk P w K mg base CX0 1 hA dA ["kind", "n"] spAlw) (bA : Binds K dA ["kind", "n"] []) (kA : PySem.W.keepIn K (.ref hA) = true) (mA : mg "is_allowed" = some (.ref hA))
    (GO : FnOk P w K mg base CX0 5 g2 gd2 ["x"] (spOpd K C)) (bO : Binds K gd2 ["x"] []) (kO : PySem.W.keepIn K (.ref g2) = true) (mO : mg "operand_of" = some (.ref g2)) : FnOk P w K mg base CX0 6 f fd ["kind", "x", "n"] (spNbd K C) := by
  refine F.ok scNb (fun vs H Q E h => ?_) (fun cdv A outer s H vs Q E hr h => ?_)
  · obtain ⟨k, v, n, x, rfl, _⟩ := h
    rfl
  obtain ⟨k, v, n, x, rfl, hk, hv, sx, q⟩ := h
  have hr1 := hr.mono (show 1 ≤ 5 by decide)
  refine ⟨_, pss_cons (ps_if (pt_not (pt_val (pe_call GW hr1 rfl mW kW bW .nil pass0 (pa_cons (pv 2) pa_nil)))) pss_never pss_nil)
    (pss_cons (ps_if (pt_not (pt_val (pe_call GA hr1 rfl mA kA bA .nil pass0 (pa_cons (pv 0) (pa_cons (pv 2) pa_nil))))) pss_never pss_nil)
    (pss_one (ps_ret (pe_make T.mkC FI (hr.mono (by decide)) (by rfl) T.mC bI .nil pass0 (pa_cons (pv 0) (pa_cons (pe_tup (pa_cons (pe_call GO hr rfl mO kO bO .nil pass0 (pa_cons (pv 1) pa_nil)) (pa_cons (pv 2) pa_nil))) pa_nil)))))), ?_⟩
  refine ⟨_, rfl, _, rfl, .inl ⟨n, rfl, _, rfl, iteF ?_⟩⟩
  refine ⟨_, rfl, _, rfl, k, n, rfl, hk, _, rfl, iteF ?_⟩
  refine ⟨_, rfl, _, rfl, v, x, rfl, hv, fun a H1 g1 ha => ?_⟩
  refine ⟨_, rfl, (by show 2 ≤ sizeLine; decide), fun tp htp => ?_⟩
  have g3 := same_new htp (.tup [.ref a, .int n])
  have ha3 := ha.same g3
  intro p dx hp hd _
  refine newEx (os := [some x, none]) (own := []) (as := x.accs) (SqT.of upd_same) (.cons ⟨a, rfl, ha3⟩ (.cons (.inl ⟨n, rfl⟩) .nil)) (by show 2 ≤ 10; decide) (.inr ⟨hk.ok.1, rfl⟩) (by show _ = [] ++ (x.accs ++ []); simp) ?_ ?_ hp hd (fun H' g h => ⟨rfl, q p H' ((g1.trans g3).trans g) ⟨hk.ok, a, ?_, ha3.same g⟩⟩)
  · have := sx.as
    omega
  · have := sx.ls
    omega
  · have e : (1 : Int) + (([x] : List Ex).map Ex.nodes).sum = 1 + x.nodes := by simp
    rw [← e]
    exact h
end
end Lw
namespace Lw
open PySem L2 OwB
abbrev s_add : Stmt := inClass (topS 14) 2
abbrev s_radd : Stmt := inClass (topS 14) 3
abbrev s_sub : Stmt := inClass (topS 14) 4
abbrev s_rsub : Stmt := inClass (topS 14) 5
abbrev s_mul : Stmt := inClass (topS 14) 6
abbrev s_rmul : Stmt := inClass (topS 14) 7
abbrev s_and : Stmt := inClass (topS 14) 8
abbrev s_rand : Stmt := inClass (topS 14) 9
abbrev s_or : Stmt := inClass (topS 14) 10
abbrev s_ror : Stmt := inClass (topS 14) 11
abbrev s_xor : Stmt := inClass (topS 14) 12
abbrev s_rxor : Stmt := inClass (topS 14) 13
abbrev s_floordiv : Stmt := inClass (topS 14) 14
abbrev s_mod : Stmt := inClass (topS 14) 15
abbrev s_pow : Stmt := inClass (topS 14) 16
abbrev s_lshift : Stmt := inClass (topS 14) 17
abbrev s_rshift : Stmt := inClass (topS 14) 18
abbrev s_neg : Stmt := inClass (topS 14) 19
abbrev s_pos : Stmt := inClass (topS 14) 20
abbrev s_invert : Stmt := inClass (topS 14) 21
abbrev s_abs : Stmt := inClass (topS 14) 22
abbrev s_greater : Stmt := topS 26
abbrev s_lesser : Stmt := topS 27
abbrev s_below : Stmt := topS 28
abbrev s_at_most : Stmt := topS 29
abbrev s_equal : Stmt := topS 30
abbrev s_unequal : Stmt := topS 31
section
variable {P : Program} {w : World} {K : PySem.W.Frag} {mg : Str → Option Value} {base : Heap} {f g C fI : Addr} {fd gd dI : FuncData}
/-- what joined promises, for a kind; the operands as they come, or turned -/
def spJ2 (K : PySem.W.Frag) (C : Addr) (k : Str) : Sp := fun vs H Q E => ∃ v u, vs = [v, u] ∧ spJoin K C [.str k, v, u] H Q E
def spJ2r (K : PySem.W.Frag) (C : Addr) (k : Str) : Sp := fun vs H Q E => ∃ v u, vs = [v, u] ∧ spJoin K C [.str k, u, v] H Q E
def spN2 (K : PySem.W.Frag) (C : Addr) (k : Str) : Sp := fun vs H Q E => ∃ v u, vs = [v, u] ∧ spNbd K C [.str k, v, u] H Q E
def spU1 (K : PySem.W.Frag) (C : Addr) (k : Str) : Sp := fun vs H Q _ => ∃ (v : V) (x : Ex), vs = [v] ∧ OpV K C H v x ∧ Sm0 x ∧ okK k ∧ ∀ (p : Addr) (H' : Hp), Same H H' → ExAt K C H' (.un k x) p → Q (.ref p) H'
/-- joined, as the defs of the text find it -/
structure Jn (P : Program) (w : World) (K : PySem.W.Frag) (mg : Str → Option Value) (base : Heap) (C : Addr) (g : Addr) (gd : FuncData) : Prop where
  G : FnOk P w K mg base CX0 6 g gd ["kind", "x", "y"] (spJoin K C)
  b : Binds K gd ["kind", "x", "y"] []
  k : PySem.W.keepIn K (.ref g) = true
  m : mg "joined" = some (.ref g)
structure Nb (P : Program) (w : World) (K : PySem.W.Frag) (mg : Str → Option Value) (base : Heap) (C : Addr) (g : Addr) (gd : FuncData) : Prop where
  G : FnOk P w K mg base CX0 6 g gd ["kind", "x", "n"] (spNbd K C)
  b : Binds K gd ["kind", "x", "n"] []
  k : PySem.W.keepIn K (.ref g) = true
  m : mg "numbered" = some (.ref g)
structure Od (P : Program) (w : World) (K : PySem.W.Frag) (mg : Str → Option Value) (base : Heap) (C : Addr) (g : Addr) (gd : FuncData) : Prop where
  G : FnOk P w K mg base CX0 5 g gd ["x"] (spOpd K C)
  b : Binds K gd ["x"] []
  k : PySem.W.keepIn K (.ref g) = true
  m : mg "operand_of" = some (.ref g)
theorem sc_add : FnScope ["self", "other"] ["self", "other"] (defScope s_add) := ⟨rfl, rfl, rfl, by decide +kernel, rfl, by decide +kernel, by decide +kernel⟩
theorem ok_add (F : Fun K "__add__" "Expression.__add__" s_add f fd) (J : Jn P w K mg base C g gd) : FnOk P w K mg base CX0 7 f fd ["self", "other"] (spJ2 K C "plus") := by
  refine F.ok sc_add (fun vs H Q E h => ?_) (fun cdv A outer s H vs Q E hr h => ?_)
  · obtain ⟨v, u, rfl, _⟩ := h
    rfl
  obtain ⟨v, u, rfl, q⟩ := h
  refine ⟨_, pss_one (ps_ret (pe_call J.G hr rfl J.m J.k J.b .nil pass0 (pa_cons pe_str (pa_cons (pv 0) (pa_cons (pv 1) pa_nil))))), ?_⟩
  exact ⟨_, rfl, _, rfl, q⟩
theorem sc_radd : FnScope ["self", "other"] ["self", "other"] (defScope s_radd) := ⟨rfl, rfl, rfl, by decide +kernel, rfl, by decide +kernel, by decide +kernel⟩
theorem ok_radd (F : Fun K "__radd__" "Expression.__radd__" s_radd f fd) (J : Jn P w K mg base C g gd) : FnOk P w K mg base CX0 7 f fd ["self", "other"] (spJ2r K C "plus") := by
  refine F.ok sc_radd (fun vs H Q E h => ?_) (fun cdv A outer s H vs Q E hr h => ?_)
  · obtain ⟨v, u, rfl, _⟩ := h
    rfl
  obtain ⟨v, u, rfl, q⟩ := h
  refine ⟨_, pss_one (ps_ret (pe_call J.G hr rfl J.m J.k J.b .nil pass0 (pa_cons pe_str (pa_cons (pv 1) (pa_cons (pv 0) pa_nil))))), ?_⟩
  exact ⟨_, rfl, _, rfl, q⟩
theorem sc_sub : FnScope ["self", "other"] ["self", "other"] (defScope s_sub) := ⟨rfl, rfl, rfl, by decide +kernel, rfl, by decide +kernel, by decide +kernel⟩
theorem ok_sub (F : Fun K "__sub__" "Expression.__sub__" s_sub f fd) (J : Jn P w K mg base C g gd) : FnOk P w K mg base CX0 7 f fd ["self", "other"] (spJ2 K C "minus") := by
  refine F.ok sc_sub (fun vs H Q E h => ?_) (fun cdv A outer s H vs Q E hr h => ?_)
  · obtain ⟨v, u, rfl, _⟩ := h
    rfl
  obtain ⟨v, u, rfl, q⟩ := h
  refine ⟨_, pss_one (ps_ret (pe_call J.G hr rfl J.m J.k J.b .nil pass0 (pa_cons pe_str (pa_cons (pv 0) (pa_cons (pv 1) pa_nil))))), ?_⟩
  exact ⟨_, rfl, _, rfl, q⟩
theorem sc_rsub : FnScope ["self", "other"] ["self", "other"] (defScope s_rsub) := ⟨rfl, rfl, rfl, by decide +kernel, rfl, by decide +kernel, by decide +kernel⟩
theorem ok_rsub (F : Fun K "__rsub__" "Expression.__rsub__" s_rsub f fd) (J : Jn P w K mg base C g gd) : FnOk P w K mg base CX0 7 f fd ["self", "other"] (spJ2r K C "minus") := by
  refine F.ok sc_rsub (fun vs H Q E h => ?_) (fun cdv A outer s H vs Q E hr h => ?_)
  · obtain ⟨v, u, rfl, _⟩ := h
    rfl
  obtain ⟨v, u, rfl, q⟩ := h
  refine ⟨_, pss_one (ps_ret (pe_call J.G hr rfl J.m J.k J.b .nil pass0 (pa_cons pe_str (pa_cons (pv 1) (pa_cons (pv 0) pa_nil))))), ?_⟩
  exact ⟨_, rfl, _, rfl, q⟩
theorem sc_mul : FnScope ["self", "other"] ["self", "other"] (defScope s_mul) := ⟨rfl, rfl, rfl, by decide +kernel, rfl, by decide +kernel, by decide +kernel⟩
theorem ok_mul (F : Fun K "__mul__" "Expression.__mul__" s_mul f fd) (J : Jn P w K mg base C g gd) : FnOk P w K mg base CX0 7 f fd ["self", "other"] (spJ2 K C "times") := by
  refine F.ok sc_mul (fun vs H Q E h => ?_) (fun cdv A outer s H vs Q E hr h => ?_)
  · obtain ⟨v, u, rfl, _⟩ := h
    rfl
  obtain ⟨v, u, rfl, q⟩ := h
  refine ⟨_, pss_one (ps_ret (pe_call J.G hr rfl J.m J.k J.b .nil pass0 (pa_cons pe_str (pa_cons (pv 0) (pa_cons (pv 1) pa_nil))))), ?_⟩
  exact ⟨_, rfl, _, rfl, q⟩
theorem sc_rmul : FnScope ["self", "other"] ["self", "other"] (defScope s_rmul) := ⟨rfl, rfl, rfl, by decide +kernel, rfl, by decide +kernel, by decide +kernel⟩
theorem ok_rmul (F : Fun K "__rmul__" "Expression.__rmul__" s_rmul f fd) (J : Jn P w K mg base C g gd) : FnOk P w K mg base CX0 7 f fd ["self", "other"] (spJ2r K C "times") := by
  refine F.ok sc_rmul (fun vs H Q E h => ?_) (fun cdv A outer s H vs Q E hr h => ?_)
  · obtain ⟨v, u, rfl, _⟩ := h
    rfl
  obtain ⟨v, u, rfl, q⟩ := h
  refine ⟨_, pss_one (ps_ret (pe_call J.G hr rfl J.m J.k J.b .nil pass0 (pa_cons pe_str (pa_cons (pv 1) (pa_cons (pv 0) pa_nil))))), ?_⟩
  exact ⟨_, rfl, _, rfl, q⟩
theorem sc_and : FnScope ["self", "other"] ["self", "other"] (defScope s_and) := ⟨rfl, rfl, rfl, by decide +kernel, rfl, by decide +kernel, by decide +kernel⟩
theorem ok_and (F : Fun K "__and__" "Expression.__and__" s_and f fd) (J : Jn P w K mg base C g gd) : FnOk P w K mg base CX0 7 f fd ["self", "other"] (spJ2 K C "both") := by
  refine F.ok sc_and (fun vs H Q E h => ?_) (fun cdv A outer s H vs Q E hr h => ?_)
  · obtain ⟨v, u, rfl, _⟩ := h
    rfl
  obtain ⟨v, u, rfl, q⟩ := h
  refine ⟨_, pss_one (ps_ret (pe_call J.G hr rfl J.m J.k J.b .nil pass0 (pa_cons pe_str (pa_cons (pv 0) (pa_cons (pv 1) pa_nil))))), ?_⟩
  exact ⟨_, rfl, _, rfl, q⟩
theorem sc_rand : FnScope ["self", "other"] ["self", "other"] (defScope s_rand) := ⟨rfl, rfl, rfl, by decide +kernel, rfl, by decide +kernel, by decide +kernel⟩
theorem ok_rand (F : Fun K "__rand__" "Expression.__rand__" s_rand f fd) (J : Jn P w K mg base C g gd) : FnOk P w K mg base CX0 7 f fd ["self", "other"] (spJ2r K C "both") := by
  refine F.ok sc_rand (fun vs H Q E h => ?_) (fun cdv A outer s H vs Q E hr h => ?_)
  · obtain ⟨v, u, rfl, _⟩ := h
    rfl
  obtain ⟨v, u, rfl, q⟩ := h
  refine ⟨_, pss_one (ps_ret (pe_call J.G hr rfl J.m J.k J.b .nil pass0 (pa_cons pe_str (pa_cons (pv 1) (pa_cons (pv 0) pa_nil))))), ?_⟩
  exact ⟨_, rfl, _, rfl, q⟩
theorem sc_or : FnScope ["self", "other"] ["self", "other"] (defScope s_or) := ⟨rfl, rfl, rfl, by decide +kernel, rfl, by decide +kernel, by decide +kernel⟩
theorem ok_or (F : Fun K "__or__" "Expression.__or__" s_or f fd) (J : Jn P w K mg base C g gd) : FnOk P w K mg base CX0 7 f fd ["self", "other"] (spJ2 K C "either") := by
  refine F.ok sc_or (fun vs H Q E h => ?_) (fun cdv A outer s H vs Q E hr h => ?_)
  · obtain ⟨v, u, rfl, _⟩ := h
    rfl
  obtain ⟨v, u, rfl, q⟩ := h
  refine ⟨_, pss_one (ps_ret (pe_call J.G hr rfl J.m J.k J.b .nil pass0 (pa_cons pe_str (pa_cons (pv 0) (pa_cons (pv 1) pa_nil))))), ?_⟩
  exact ⟨_, rfl, _, rfl, q⟩
theorem sc_ror : FnScope ["self", "other"] ["self", "other"] (defScope s_ror) := ⟨rfl, rfl, rfl, by decide +kernel, rfl, by decide +kernel, by decide +kernel⟩
theorem ok_ror (F : Fun K "__ror__" "Expression.__ror__" s_ror f fd) (J : Jn P w K mg base C g gd) : FnOk P w K mg base CX0 7 f fd ["self", "other"] (spJ2r K C "either") := by
  refine F.ok sc_ror (fun vs H Q E h => ?_) (fun cdv A outer s H vs Q E hr h => ?_)
  · obtain ⟨v, u, rfl, _⟩ := h
    rfl
  obtain ⟨v, u, rfl, q⟩ := h
  refine ⟨_, pss_one (ps_ret (pe_call J.G hr rfl J.m J.k J.b .nil pass0 (pa_cons pe_str (pa_cons (pv 1) (pa_cons (pv 0) pa_nil))))), ?_⟩
  exact ⟨_, rfl, _, rfl, q⟩
theorem sc_xor : FnScope ["self", "other"] ["self", "other"] (defScope s_xor) := ⟨rfl, rfl, rfl, by decide +kernel, rfl, by decide +kernel, by decide +kernel⟩
theorem ok_xor (F : Fun K "__xor__" "Expression.__xor__" s_xor f fd) (J : Jn P w K mg base C g gd) : FnOk P w K mg base CX0 7 f fd ["self", "other"] (spJ2 K C "unlike") := by
  refine F.ok sc_xor (fun vs H Q E h => ?_) (fun cdv A outer s H vs Q E hr h => ?_)
  · obtain ⟨v, u, rfl, _⟩ := h
    rfl
  obtain ⟨v, u, rfl, q⟩ := h
  refine ⟨_, pss_one (ps_ret (pe_call J.G hr rfl J.m J.k J.b .nil pass0 (pa_cons pe_str (pa_cons (pv 0) (pa_cons (pv 1) pa_nil))))), ?_⟩
  exact ⟨_, rfl, _, rfl, q⟩
theorem sc_rxor : FnScope ["self", "other"] ["self", "other"] (defScope s_rxor) := ⟨rfl, rfl, rfl, by decide +kernel, rfl, by decide +kernel, by decide +kernel⟩
theorem ok_rxor (F : Fun K "__rxor__" "Expression.__rxor__" s_rxor f fd) (J : Jn P w K mg base C g gd) : FnOk P w K mg base CX0 7 f fd ["self", "other"] (spJ2r K C "unlike") := by
  refine F.ok sc_rxor (fun vs H Q E h => ?_) (fun cdv A outer s H vs Q E hr h => ?_)
  · obtain ⟨v, u, rfl, _⟩ := h
    rfl
  obtain ⟨v, u, rfl, q⟩ := h
  refine ⟨_, pss_one (ps_ret (pe_call J.G hr rfl J.m J.k J.b .nil pass0 (pa_cons pe_str (pa_cons (pv 1) (pa_cons (pv 0) pa_nil))))), ?_⟩
  exact ⟨_, rfl, _, rfl, q⟩
theorem sc_floordiv : FnScope ["self", "other"] ["self", "other"] (defScope s_floordiv) := ⟨rfl, rfl, rfl, by decide +kernel, rfl, by decide +kernel, by decide +kernel⟩
theorem ok_floordiv (F : Fun K "__floordiv__" "Expression.__floordiv__" s_floordiv f fd) (J : Nb P w K mg base C g gd) : FnOk P w K mg base CX0 7 f fd ["self", "other"] (spN2 K C "quotient") := by
  refine F.ok sc_floordiv (fun vs H Q E h => ?_) (fun cdv A outer s H vs Q E hr h => ?_)
  · obtain ⟨v, u, rfl, _⟩ := h
    rfl
  obtain ⟨v, u, rfl, q⟩ := h
  refine ⟨_, pss_one (ps_ret (pe_call J.G hr rfl J.m J.k J.b .nil pass0 (pa_cons pe_str (pa_cons (pv 0) (pa_cons (pv 1) pa_nil))))), ?_⟩
  exact ⟨_, rfl, _, rfl, q⟩
theorem sc_mod : FnScope ["self", "other"] ["self", "other"] (defScope s_mod) := ⟨rfl, rfl, rfl, by decide +kernel, rfl, by decide +kernel, by decide +kernel⟩
theorem ok_mod (F : Fun K "__mod__" "Expression.__mod__" s_mod f fd) (J : Nb P w K mg base C g gd) : FnOk P w K mg base CX0 7 f fd ["self", "other"] (spN2 K C "remainder") := by
  refine F.ok sc_mod (fun vs H Q E h => ?_) (fun cdv A outer s H vs Q E hr h => ?_)
  · obtain ⟨v, u, rfl, _⟩ := h
    rfl
  obtain ⟨v, u, rfl, q⟩ := h
  refine ⟨_, pss_one (ps_ret (pe_call J.G hr rfl J.m J.k J.b .nil pass0 (pa_cons pe_str (pa_cons (pv 0) (pa_cons (pv 1) pa_nil))))), ?_⟩
  exact ⟨_, rfl, _, rfl, q⟩
theorem sc_pow : FnScope ["self", "other"] ["self", "other"] (defScope s_pow) := ⟨rfl, rfl, rfl, by decide +kernel, rfl, by decide +kernel, by decide +kernel⟩
theorem ok_pow (F : Fun K "__pow__" "Expression.__pow__" s_pow f fd) (J : Nb P w K mg base C g gd) : FnOk P w K mg base CX0 7 f fd ["self", "other"] (spN2 K C "power") := by
  refine F.ok sc_pow (fun vs H Q E h => ?_) (fun cdv A outer s H vs Q E hr h => ?_)
  · obtain ⟨v, u, rfl, _⟩ := h
    rfl
  obtain ⟨v, u, rfl, q⟩ := h
  refine ⟨_, pss_one (ps_ret (pe_call J.G hr rfl J.m J.k J.b .nil pass0 (pa_cons pe_str (pa_cons (pv 0) (pa_cons (pv 1) pa_nil))))), ?_⟩
  exact ⟨_, rfl, _, rfl, q⟩
theorem sc_lshift : FnScope ["self", "other"] ["self", "other"] (defScope s_lshift) := ⟨rfl, rfl, rfl, by decide +kernel, rfl, by decide +kernel, by decide +kernel⟩
theorem ok_lshift (F : Fun K "__lshift__" "Expression.__lshift__" s_lshift f fd) (J : Nb P w K mg base C g gd) : FnOk P w K mg base CX0 7 f fd ["self", "other"] (spN2 K C "left") := by
  refine F.ok sc_lshift (fun vs H Q E h => ?_) (fun cdv A outer s H vs Q E hr h => ?_)
  · obtain ⟨v, u, rfl, _⟩ := h
    rfl
  obtain ⟨v, u, rfl, q⟩ := h
  refine ⟨_, pss_one (ps_ret (pe_call J.G hr rfl J.m J.k J.b .nil pass0 (pa_cons pe_str (pa_cons (pv 0) (pa_cons (pv 1) pa_nil))))), ?_⟩
  exact ⟨_, rfl, _, rfl, q⟩
theorem sc_rshift : FnScope ["self", "other"] ["self", "other"] (defScope s_rshift) := ⟨rfl, rfl, rfl, by decide +kernel, rfl, by decide +kernel, by decide +kernel⟩
theorem ok_rshift (F : Fun K "__rshift__" "Expression.__rshift__" s_rshift f fd) (J : Nb P w K mg base C g gd) : FnOk P w K mg base CX0 7 f fd ["self", "other"] (spN2 K C "right") := by
  refine F.ok sc_rshift (fun vs H Q E h => ?_) (fun cdv A outer s H vs Q E hr h => ?_)
  · obtain ⟨v, u, rfl, _⟩ := h
    rfl
  obtain ⟨v, u, rfl, q⟩ := h
  refine ⟨_, pss_one (ps_ret (pe_call J.G hr rfl J.m J.k J.b .nil pass0 (pa_cons pe_str (pa_cons (pv 0) (pa_cons (pv 1) pa_nil))))), ?_⟩
  exact ⟨_, rfl, _, rfl, q⟩
theorem sc_greater : FnScope ["x", "y"] ["x", "y"] (defScope s_greater) := ⟨rfl, rfl, rfl, by decide +kernel, rfl, by decide +kernel, by decide +kernel⟩
theorem ok_greater (F : Fun K "greater" "greater" s_greater f fd) (J : Jn P w K mg base C g gd) : FnOk P w K mg base CX0 7 f fd ["x", "y"] (spJ2 K C "greater") := by
  refine F.ok sc_greater (fun vs H Q E h => ?_) (fun cdv A outer s H vs Q E hr h => ?_)
  · obtain ⟨v, u, rfl, _⟩ := h
    rfl
  obtain ⟨v, u, rfl, q⟩ := h
  refine ⟨_, pss_one (ps_ret (pe_call J.G hr rfl J.m J.k J.b .nil pass0 (pa_cons pe_str (pa_cons (pv 0) (pa_cons (pv 1) pa_nil))))), ?_⟩
  exact ⟨_, rfl, _, rfl, q⟩
theorem sc_lesser : FnScope ["x", "y"] ["x", "y"] (defScope s_lesser) := ⟨rfl, rfl, rfl, by decide +kernel, rfl, by decide +kernel, by decide +kernel⟩
theorem ok_lesser (F : Fun K "lesser" "lesser" s_lesser f fd) (J : Jn P w K mg base C g gd) : FnOk P w K mg base CX0 7 f fd ["x", "y"] (spJ2 K C "lesser") := by
  refine F.ok sc_lesser (fun vs H Q E h => ?_) (fun cdv A outer s H vs Q E hr h => ?_)
  · obtain ⟨v, u, rfl, _⟩ := h
    rfl
  obtain ⟨v, u, rfl, q⟩ := h
  refine ⟨_, pss_one (ps_ret (pe_call J.G hr rfl J.m J.k J.b .nil pass0 (pa_cons pe_str (pa_cons (pv 0) (pa_cons (pv 1) pa_nil))))), ?_⟩
  exact ⟨_, rfl, _, rfl, q⟩
theorem sc_below : FnScope ["x", "y"] ["x", "y"] (defScope s_below) := ⟨rfl, rfl, rfl, by decide +kernel, rfl, by decide +kernel, by decide +kernel⟩
theorem ok_below (F : Fun K "below" "below" s_below f fd) (J : Jn P w K mg base C g gd) : FnOk P w K mg base CX0 7 f fd ["x", "y"] (spJ2 K C "below") := by
  refine F.ok sc_below (fun vs H Q E h => ?_) (fun cdv A outer s H vs Q E hr h => ?_)
  · obtain ⟨v, u, rfl, _⟩ := h
    rfl
  obtain ⟨v, u, rfl, q⟩ := h
  refine ⟨_, pss_one (ps_ret (pe_call J.G hr rfl J.m J.k J.b .nil pass0 (pa_cons pe_str (pa_cons (pv 0) (pa_cons (pv 1) pa_nil))))), ?_⟩
  exact ⟨_, rfl, _, rfl, q⟩
theorem sc_at_most : FnScope ["x", "y"] ["x", "y"] (defScope s_at_most) := ⟨rfl, rfl, rfl, by decide +kernel, rfl, by decide +kernel, by decide +kernel⟩
theorem ok_at_most (F : Fun K "at_most" "at_most" s_at_most f fd) (J : Jn P w K mg base C g gd) : FnOk P w K mg base CX0 7 f fd ["x", "y"] (spJ2 K C "at_most") := by
  refine F.ok sc_at_most (fun vs H Q E h => ?_) (fun cdv A outer s H vs Q E hr h => ?_)
  · obtain ⟨v, u, rfl, _⟩ := h
    rfl
  obtain ⟨v, u, rfl, q⟩ := h
  refine ⟨_, pss_one (ps_ret (pe_call J.G hr rfl J.m J.k J.b .nil pass0 (pa_cons pe_str (pa_cons (pv 0) (pa_cons (pv 1) pa_nil))))), ?_⟩
  exact ⟨_, rfl, _, rfl, q⟩
theorem sc_equal : FnScope ["x", "y"] ["x", "y"] (defScope s_equal) := ⟨rfl, rfl, rfl, by decide +kernel, rfl, by decide +kernel, by decide +kernel⟩
theorem ok_equal (F : Fun K "equal" "equal" s_equal f fd) (J : Jn P w K mg base C g gd) : FnOk P w K mg base CX0 7 f fd ["x", "y"] (spJ2 K C "equal") := by
  refine F.ok sc_equal (fun vs H Q E h => ?_) (fun cdv A outer s H vs Q E hr h => ?_)
  · obtain ⟨v, u, rfl, _⟩ := h
    rfl
  obtain ⟨v, u, rfl, q⟩ := h
  refine ⟨_, pss_one (ps_ret (pe_call J.G hr rfl J.m J.k J.b .nil pass0 (pa_cons pe_str (pa_cons (pv 0) (pa_cons (pv 1) pa_nil))))), ?_⟩
  exact ⟨_, rfl, _, rfl, q⟩
theorem sc_unequal : FnScope ["x", "y"] ["x", "y"] (defScope s_unequal) := ⟨rfl, rfl, rfl, by decide +kernel, rfl, by decide +kernel, by decide +kernel⟩
theorem ok_unequal (F : Fun K "unequal" "unequal" s_unequal f fd) (J : Jn P w K mg base C g gd) : FnOk P w K mg base CX0 7 f fd ["x", "y"] (spJ2 K C "unequal") := by
  refine F.ok sc_unequal (fun vs H Q E h => ?_) (fun cdv A outer s H vs Q E hr h => ?_)
  · obtain ⟨v, u, rfl, _⟩ := h
    rfl
  obtain ⟨v, u, rfl, q⟩ := h
  refine ⟨_, pss_one (ps_ret (pe_call J.G hr rfl J.m J.k J.b .nil pass0 (pa_cons pe_str (pa_cons (pv 0) (pa_cons (pv 1) pa_nil))))), ?_⟩
  exact ⟨_, rfl, _, rfl, q⟩
theorem un_end {k : Str} {a p tp dx : Addr} {x : Ex} {H : Hp} {Q : VK} (ha : ExAt K C (upd H tp (.tup [.ref a])) x a) (hk : okK k) (sx : Sm0 x) (q : ∀ H' : Hp, Same (upd H tp (.tup [.ref a])) H' → ExAt K C H' (.un k x) p → Q (.ref p) H')
    (hp : upd H tp (.tup [.ref a]) p = none) (hd : upd H tp (.tup [.ref a]) dx = none) : spXini K C [.ref p, .str k, .ref tp] (upd (upd (upd H tp (.tup [.ref a])) dx (.own p)) p (.ins C dx [])) (fun v H' => v = .non ∧ Q (.ref p) H') E0 := by
  refine newEx (os := [some x]) (own := []) (as := x.accs) (SqT.of upd_same) (.cons ⟨a, rfl, ha⟩ .nil) (by show 1 ≤ 10; decide) (.inr ⟨hk.1, rfl⟩) (by show _ = [] ++ (x.accs ++ []); simp) ?_ ?_ hp hd (fun H' g h => ⟨rfl, q H' g ⟨hk, a, ?_, ha.same g⟩⟩)
  · have := sx.as
    omega
  · have := sx.ls
    omega
  · have e : (1 : Int) + (([x] : List Ex).map Ex.nodes).sum = 1 + x.nodes := by simp
    rw [← e]
    exact h
theorem sc_neg : FnScope ["self"] ["self"] (defScope s_neg) := ⟨rfl, rfl, rfl, by decide +kernel, rfl, by decide +kernel, by decide +kernel⟩
theorem ok_neg (F : Fun K "__neg__" "Expression.__neg__" s_neg f fd) (T : Xc K mg C fI) (FI : XI P w K mg base C fI dI) (bI : Binds K dI ["self", "kind", "parts"] []) (J : Od P w K mg base C g gd) : FnOk P w K mg base CX0 6 f fd ["self"] (spU1 K C "negative") := by
  refine F.ok sc_neg (fun vs H Q E h => ?_) (fun cdv A outer s H vs Q E hr h => ?_)
  · obtain ⟨v, x, rfl, _⟩ := h
    rfl
  obtain ⟨v, x, rfl, hv, sx, hk, q⟩ := h
  refine ⟨_, pss_one (ps_ret (pe_make T.mkC FI (hr.mono (by decide)) (by rfl) T.mC bI .nil pass0 (pa_cons pe_str (pa_cons (pe_tup (pa_cons (pe_call J.G hr rfl J.m J.k J.b .nil pass0 (pa_cons (pv 0) pa_nil)) pa_nil)) pa_nil)))), ?_⟩
  refine ⟨_, rfl, v, x, rfl, hv, fun a H1 g1 ha => ?_⟩
  refine ⟨(by show 1 ≤ sizeLine; decide), fun tp htp => ?_⟩
  have g3 := same_new htp (.tup [.ref a])
  have ha3 := ha.same g3
  intro p dx hp hd _
  exact un_end ha3 hk sx (fun H' g => q p H' ((g1.trans g3).trans g)) hp hd
theorem sc_invert : FnScope ["self"] ["self"] (defScope s_invert) := ⟨rfl, rfl, rfl, by decide +kernel, rfl, by decide +kernel, by decide +kernel⟩
theorem ok_invert (F : Fun K "__invert__" "Expression.__invert__" s_invert f fd) (T : Xc K mg C fI) (FI : XI P w K mg base C fI dI) (bI : Binds K dI ["self", "kind", "parts"] []) (J : Od P w K mg base C g gd) : FnOk P w K mg base CX0 6 f fd ["self"] (spU1 K C "inverse") := by
  refine F.ok sc_invert (fun vs H Q E h => ?_) (fun cdv A outer s H vs Q E hr h => ?_)
  · obtain ⟨v, x, rfl, _⟩ := h
    rfl
  obtain ⟨v, x, rfl, hv, sx, hk, q⟩ := h
  refine ⟨_, pss_one (ps_ret (pe_make T.mkC FI (hr.mono (by decide)) (by rfl) T.mC bI .nil pass0 (pa_cons pe_str (pa_cons (pe_tup (pa_cons (pe_call J.G hr rfl J.m J.k J.b .nil pass0 (pa_cons (pv 0) pa_nil)) pa_nil)) pa_nil)))), ?_⟩
  refine ⟨_, rfl, v, x, rfl, hv, fun a H1 g1 ha => ?_⟩
  refine ⟨(by show 1 ≤ sizeLine; decide), fun tp htp => ?_⟩
  have g3 := same_new htp (.tup [.ref a])
  have ha3 := ha.same g3
  intro p dx hp hd _
  exact un_end ha3 hk sx (fun H' g => q p H' ((g1.trans g3).trans g)) hp hd
theorem sc_abs : FnScope ["self"] ["self"] (defScope s_abs) := ⟨rfl, rfl, rfl, by decide +kernel, rfl, by decide +kernel, by decide +kernel⟩
theorem ok_abs (F : Fun K "__abs__" "Expression.__abs__" s_abs f fd) (T : Xc K mg C fI) (FI : XI P w K mg base C fI dI) (bI : Binds K dI ["self", "kind", "parts"] []) (J : Od P w K mg base C g gd) : FnOk P w K mg base CX0 6 f fd ["self"] (spU1 K C "absolute") := by
  refine F.ok sc_abs (fun vs H Q E h => ?_) (fun cdv A outer s H vs Q E hr h => ?_)
  · obtain ⟨v, x, rfl, _⟩ := h
    rfl
  obtain ⟨v, x, rfl, hv, sx, hk, q⟩ := h
  refine ⟨_, pss_one (ps_ret (pe_make T.mkC FI (hr.mono (by decide)) (by rfl) T.mC bI .nil pass0 (pa_cons pe_str (pa_cons (pe_tup (pa_cons (pe_call J.G hr rfl J.m J.k J.b .nil pass0 (pa_cons (pv 0) pa_nil)) pa_nil)) pa_nil)))), ?_⟩
  refine ⟨_, rfl, v, x, rfl, hv, fun a H1 g1 ha => ?_⟩
  refine ⟨(by show 1 ≤ sizeLine; decide), fun tp htp => ?_⟩
  have g3 := same_new htp (.tup [.ref a])
  have ha3 := ha.same g3
  intro p dx hp hd _
  exact un_end ha3 hk sx (fun H' g => q p H' ((g1.trans g3).trans g)) hp hd
theorem sc_pos : FnScope ["self"] ["self"] (defScope s_pos) := ⟨rfl, rfl, rfl, by decide +kernel, rfl, by decide +kernel, by decide +kernel⟩
theorem ok_pos (F : Fun K "__pos__" "Expression.__pos__" s_pos f fd) (J : Od P w K mg base C g gd) : FnOk P w K mg base CX0 6 f fd ["self"] (spOpd K C) := by
  refine F.ok sc_pos (fun vs H Q E h => ?_) (fun cdv A outer s H vs Q E hr h => ?_)
  · obtain ⟨v, x, rfl, _⟩ := h
    rfl
  obtain ⟨v, x, rfl, hv, q⟩ := h
  refine ⟨_, pss_one (ps_ret (pe_call J.G hr rfl J.m J.k J.b .nil pass0 (pa_cons (pv 0) pa_nil))), ?_⟩
  exact ⟨_, rfl, v, x, rfl, hv, q⟩
end
end Lw
/-! list(text): its signs -/
namespace LiS
open PySem PySem.Spec PyProof.Rows L2
section
variable {prog : Program} {w : World} {A : Around} {E : Value → Shared → Prop} {s : Shared} {x : Str} {t : Tok}
theorem hint_str {Q : Bool → Shared → Prop} (h : Q false s) : wpAny (model prog w) A (Builtin.List.listLengthHint (.str x t)) Q E s := by
  unfold Builtin.List.listLengthHint
  refine wpAny_bind (wpAny_specialOf (typeIs_str s x t) PySem.F.slot_str_len.lookup ?_)
  generalize hid : ("str.__len__" : String) = id0
  wp_delta
  rw [show splitId id0 = some ("str", "__len__") from by subst hid; decide +kernel]
  subst hid
  refine wpAny_bind (wpAny_isInstance (T := "str") (b := true) (typeIs_str s x t) (by rw [isSubtype_type]; kernel_rfl) ?_)
  refine wpAny_ite_split (fun hab => absurd hab (by decide)) (fun _ => ?_)
  refine wpAny_ite_split (fun _ => ?_) (fun hab => absurd (by decide +kernel) hab)
  refine wpAny_bind (wpAny_typeOf (typeIs_str s x t) ?_)
  exact wpAny_pure h
theorem ext_str {R : Result → Shared → Prop} (hh : A.handled = none) (ha : x.cps.all (· < 128) = true) (S : Addr) (res : Value) (c₀ : Nat) (hS : s.heap.get? S = some { cls := .type "list", data := .seq #[] c₀ })
    (hR : ∀ h' tk acc' c', (∀ b o, b ≠ S → s.heap.get? b = some o → h'.get? b = some o) → h'.get? S = some { cls := .type "list", dict := none, data := .seq acc' c', slots := #[] } → ItemsOf (SignAt x) acc' x.cps.size → R (.ok (.ret res)) { s with heap := h', toks := tk }) (hn : x.cps.size ≤ sizeLine) :
    wpAny (model prog w) A.in1 (Builtin.List.listExtendWith (.ref S) (.str x t) res)
      (fun fin s' => match fin with | .done f => R (.ok f) s' | .again c' => c'.quiet = true ∧ codeAny (model prog w) A c' R s') (fun e s' => R (.error e) s') s := by
  have hSI : S ≠ s.heap.objs.size := Nat.ne_of_lt (Heap.lt_size hS)
  have hSf : S ∉ [s.heap.objs.size] := by simp only [List.mem_cons, List.not_mem_nil, or_false]; exact hSI
  have W := Walks.strAscii (prog := prog) (w := w) (A := A.in1) hh s.heap.objs.size x t
  have key : ∀ (h : Heap) (c₁ tk : Nat), h.IsStrIter s.heap.objs.size "str_ascii_iterator" x t 0 → (∀ b o, b ≠ S → s.heap.get? b = some o → h.get? b = some o) →
      h.get? S = some { cls := .type "list", data := .seq #[] c₁ } → codeAny (model prog w) A (.builtin "list.extend.loop" ⟨[.ref S, .ref s.heap.objs.size, res], []⟩) R { s with heap := h, toks := tk } := by
    intro h c₁ tk hst hk hS₁
    refine codeAny_extend_loopS W.toS hn S hSf res x.cps.size 0 _ #[] c₁ rfl (Nat.zero_le _) hst hS₁ (ItemsOf.nil _) fun s' acc' c' hm hS' hacc => ?_
    rw [Moved.eq_with hm]
    refine hR s'.heap s'.toks acc' c' (fun b o hb e => hm.heap b o (fun hmem => ?_) (hk b o hb e)) hS' hacc
    rcases List.mem_cons.mp hmem with e' | hmem
    · exact hb e'
    · exact absurd (Heap.lt_size e) (by rw [List.mem_singleton.mp hmem]; exact Nat.lt_irrefl _)
  unfold Builtin.List.listExtendWith
  refine wpAny_bind (wpAny_typeOf (T := "str") (typeIs_str s x t) ?_)
  have h1 : Builtin.List.listSameRef (.ref S) (.str x t) = false := rfl
  have h2 : (Value.type "str" == Value.type "list") = false := by decide
  have h3 : (Value.type "str" == Value.type "tuple") = false := by decide
  simp only [h1, h2, h3, Bool.or_false, Bool.false_eq_true, if_false]
  refine wpAny_bind (wpAny_pyIter_ascii ha ?_)
  have hS₁ := Heap.get?_push_of_some { cls := .type "str_ascii_iterator", data := .fields #[.str x t, .int 0 0] } hS
  have st : (s.heap.push { cls := .type "str_ascii_iterator", data := .fields #[.str x t, .int 0 0] }).IsStrIter s.heap.objs.size "str_ascii_iterator" x t 0 := ⟨_, Heap.get?_push_size _ rfl, rfl, rfl⟩
  refine wpAny_bind (wpAny_holding (hint_str ?_))
  refine wpAny_ite_split (fun _ => ?_) (fun _ => wpAny_pure ⟨plainId_quiet PySem.F.plain_extend_loop _, key _ c₀ _ st (fun b o _ e => Heap.get?_push_of_some _ e) hS₁⟩)
  refine wpAny_bind (wpAny_rule ?_)
  refine wpAny_bind ?_
  show wpAny _ _ (updateSeq S (·.push .none) >>= fun _ => updateSeq S (·.pop)) _ _ _
  refine wpAny_bind (wpAny_updateSeq hS₁ rfl ?_)
  have hS₂ := Heap.get?_update_self (Obj.mapSeq (·.push Value.none)) hS₁ rfl
  refine wpAny_updateSeq (hz := by seq_fits) hS₂ rfl ?_
  have hS₃ := Heap.get?_update_self (Obj.mapSeq (·.pop)) hS₂ rfl
  refine wpAny_pure ⟨plainId_quiet PySem.F.plain_extend_loop _, key _ _ _ ?_ (fun b o hb e => ?_) hS₃⟩
  · refine W.frame 0 _ _ st fun b hb o e => ?_
    have hbS : b ≠ S := fun h => hSf (h ▸ hb)
    exact (Heap.get?_update_other _ _ (Ne.symm hbS)).trans ((Heap.get?_update_other _ _ (Ne.symm hbS)).trans e)
  · exact (Heap.get?_update_other _ _ (Ne.symm hb)).trans ((Heap.get?_update_other _ _ (Ne.symm hb)).trans (Heap.get?_push_of_some _ e))
theorem ini_str {R : Result → Shared → Prop} (hh : A.handled = none) (ha : x.cps.all (· < 128) = true) (S : Addr) (hS : s.heap.get? S = some { cls := .type "list", data := .seq #[] })
    (hR : ∀ h' tk acc' c', (∀ b o, b ≠ S → s.heap.get? b = some o → h'.get? b = some o) → h'.get? S = some { cls := .type "list", dict := none, data := .seq acc' c', slots := #[] } → ItemsOf (SignAt x) acc' x.cps.size → R (.ok (.ret .none)) { s with heap := h', toks := tk }) (hn : x.cps.size ≤ sizeLine) :
    wpAny (model prog w) A.in1 (Builtin.«list.__init__» ⟨[.ref S, .str x t], []⟩)
      (fun fin s' => match fin with | .done f => R (.ok f) s' | .again c' => c'.quiet = true ∧ codeAny (model prog w) A c' R s') (fun e s' => R (.error e) s') s := by
  show wpAny _ _ (do let old ← Builtin.List.listItems (.ref S); Builtin.List.listUpdate (.ref S) (fun _ => #[]); letGo old.toList.reverse; Builtin.List.listExtendWith (.ref S) (.str x t) .none) _ _ s
  refine wpAny_bind ?_
  unfold Builtin.List.listItems
  refine wpAny_bind (wpAny_seqItems hS rfl (wpAny_pure ?_))
  show wpAny _ _ (updateSeq S (fun _ => #[]) >>= fun _ => letGo (#[] : Array Value).toList.reverse >>= fun _ => Builtin.List.listExtendWith (.ref S) (.str x t) .none) _ _ s
  refine wpAny_bind (wpAny_updateSeq hS rfl ?_)
  have hS₂ := Heap.get?_update_self (Obj.mapSeq (fun _ => (#[] : Array Value))) hS rfl
  have oth : ∀ b o, b ≠ S → s.heap.get? b = some o → (s.heap.update S (Obj.mapSeq (fun _ => (#[] : Array Value)))).get? b = some o :=
    fun b o hb e => (Heap.get?_update_other _ _ (Ne.symm hb)).trans e
  refine wpAny_bind (wpAny_letGo ?_)
  refine ext_str hh ha S .none _ hS₂ (fun h' tk acc' c' hk hS' hacc => ?_) hn
  exact hR h' tk acc' c' (fun b o hb e => hk b o hb (oth b o hb e)) hS' hacc
theorem call_str {Q : Value → Shared → Prop} (hh : A.handled = none) (ha : x.cps.all (· < 128) = true) (hn : x.cps.size ≤ sizeLine)
    (hQ : ∀ h' tk acc' c', (∀ b o, s.heap.get? b = some o → h'.get? b = some o) → h'.get? s.heap.objs.size = some { cls := .type "list", dict := none, data := .seq acc' c', slots := #[] } → ItemsOf (SignAt x) acc' x.cps.size → Q (.ref s.heap.objs.size) { s with heap := h', toks := tk }) :
    wpAny (model prog w) A (call (.type "list") [.str x t]) Q E s := by
  refine callType_codes (Q₁ := fun obj s₁ => obj = .ref s.heap.objs.size ∧ s₁ = { s with heap := s.heap.push { cls := .type "list", data := .seq #[] } }) PySem.F.called_list (PySem.F.typeCall_list_1 _) PySem.F.entry_list_init
    (code_list_new _ ⟨rfl, rfl⟩) fun obj s₁ h₁ => ?_
  obtain ⟨rfl, rfl⟩ := h₁
  have hS : (s.heap.push { cls := .type "list", data := .seq #[] }).get? s.heap.objs.size = some { cls := .type "list", data := .seq #[] } := Heap.get?_push_size _ rfl
  refine ⟨⟨_, hS, rfl⟩, PySem.F.args_list_init_2 _ _, ini_str (A := A.in1) hh ha _ hS (fun h' tk acc' c' hk hS' hacc => ?_) hn⟩
  exact ⟨rfl, hQ h' tk acc' c' (fun b o e => hk b o (Nat.ne_of_lt (Heap.lt_size e)) (Heap.get?_push_of_some _ e)) hS' hacc⟩
end
/-- the signs of a text, each a text -/
def signs (z : Str) : List V := z.cps.toList.map fun c => V.str ⟨#[c]⟩
theorem call_listS {X : Cx} (hc : X.calm = true) : CallR X (.type "list") (fun xs H Q => ∃ z, xs = [.str z] ∧ z.cps.all (· < 128) = true ∧ z.cps.size ≤ sizeLine ∧ ∀ l, H l = none → Q (.ref l) (upd H l (.lst (signs z)))) := by
  intro pins s σ H xs us Q I r h
  obtain ⟨z, e, ha, hn, q⟩ := h
  subst e
  obtain ⟨u, rfl, rx⟩ := vals1 r
  obtain ⟨t, rfl⟩ := rx
  refine call_str (I.ok.hd hc) ha hn fun h' tk acc' c' hkeep hS hacc => ?_
  refine ⟨.ref s.heap.objs.size, upd H s.heap.objs.size (.lst (signs z)), I.laid hkeep (Nat.le_refl _) (show ObjOk X.prog X.w _ _ _ (.lst (signs z)) from ⟨?_, acc'.toList, c', ?_, ?_⟩), rfl, q _ (I.hok.fresh (Nat.le_refl _))⟩
  · unfold signs
    rw [List.length_map, Array.length_toList]
    exact hn
  · have el : acc'.toList.length = acc'.size := by simp
    refine vals_of_at (by unfold signs; rw [List.length_map, Array.length_toList, el, hacc.1]) fun j v u h1 h2 => ?_
    obtain ⟨c, tk', hc', rfl⟩ := hacc.2 j u (by rw [← Array.getElem?_toList]; exact h2)
    unfold signs at h1
    rw [List.getElem?_map, Array.getElem?_toList, hc'] at h1
    cases h1
    exact ⟨tk', rfl⟩
  · rw [Array.toArray_toList]; exact hS
end LiS
namespace Lw
open PySem L2 OwB
abbrev sMixed : Stmt := topS 37
abbrev sLet : Stmt := topS 41
theorem SX.upd_out {st q D : Addr} {H H' : Hp} {o : HO} (g : SX st q H H') (n : H D = none) : SX st q H (upd H' D o) := fun b u h1 h2 e => by rw [upd_ne (ne_of_none e n)]; exact g b u h1 h2 e
theorem Spr.upd {st q D : Addr} {H : Hp} {b : Int} {o : HO} (s : Spr H st q b) (n1 : D ≠ st) (n2 : D ≠ q) : Spr (upd H D o) st q b := by
  obtain ⟨ns, a, c, h1, h2, r⟩ := s
  exact ⟨ns, a, c, by rw [upd_ne n1.symm]; exact h1, by rw [upd_ne n2.symm]; exact h2, r⟩
theorem Spr.out {st q D : Addr} {H : Hp} {b : Int} (s : Spr H st q b) (n : H D = none) : D ≠ st ∧ D ≠ q := by
  obtain ⟨ns, a, c, h1, h2, _⟩ := s
  exact ⟨(ne_of_none h1 n).symm, (ne_of_none h2 n).symm⟩
theorem er_perm {α : Type} : ∀ (l : List α) (k : Nat) (h : k < l.length), (l[k] :: l.eraseIdx k).Perm l
  | a :: r, 0, _ => List.Perm.refl _
  | a :: r, k + 1, h => (List.Perm.swap _ _ _).trans (List.Perm.cons a (er_perm r k (Nat.lt_of_succ_lt_succ h)))
theorem er_map {α β : Type} (f : α → β) : ∀ (l : List α) (k : Nat), (l.map f).eraseIdx k = (l.eraseIdx k).map f
  | [], _ => rfl
  | a :: r, 0 => rfl
  | a :: r, k + 1 => congrArg (f a :: ·) (er_map f r k)
theorem pop_at {ls : List Str} {r : Int} (h0 : 0 ≤ r) (h1 : r < (ls.length : Int)) : ∃ (k : Nat) (n : Str), seqIndex? r (ls.map V.str).length = some k ∧ (ls.map V.str)[k]? = some (.str n) ∧ (ls.map V.str).eraseIdx k = (ls.eraseIdx k).map V.str ∧ (n :: ls.eraseIdx k).Perm ls ∧ (ls.eraseIdx k).length + 1 = ls.length := by
  have hk : r.toNat < ls.length := by omega
  refine ⟨r.toNat, ls[r.toNat], ?_, by rw [List.getElem?_map, List.getElem?_eq_getElem hk] <;> rfl, ?_, er_perm ls _ hk, by rw [List.length_eraseIdx_of_lt hk]; omega⟩
  · refine (ixN_seq (n := (ls.map V.str).length) (i := r) (j := r.toNat) ?_).1
    unfold ixN
    rw [if_pos h0, if_pos (by rw [List.length_map]; exact h1)]
  · rw [er_map]
/-- drawing one by one, out of ls -/
def InvMx (H0 : Hp) (st q L D : Addr) (b : Int) (is : List Str) (i : Nat) (H : Hp) : Prop := ∃ acc ls : List Str, H D = some (.lst (acc.map V.str)) ∧ H L = some (.lst (ls.map V.str)) ∧ acc.length = i ∧ ls.length + i = is.length ∧ (acc ++ ls).Perm is ∧ Spr H st q (b + i) ∧ SX st q H0 H
section
variable {P : Program} {w : World} {K : PySem.W.Frag} {mg : Str → Option Value} {base : Heap} {f g : Addr} {fd gd : FuncData}
abbrev tPop (K : PySem.W.Frag) (i : Nat) : TE := tBM K "list" rPopAt (tVar i) (tCons (tCall spDraw [] E0 (tCons (tVar 0) (tCons (tCB (fun xs H Q => ∃ p ys, xs = [.ref p] ∧ (SqL K H p ys ∨ SqT K H p ys) ∧ Q (.int ys.length) H) (tCons (tVar i) tNil)) tNil))) tNil)
/-- one turn -/
theorem pop_turn {st q L D : Addr} {b : Int} {is : List Str} {i : Nat} {H H2 : Hp} {σ : St} {Nx : Hp → Prop} (nL1 : L ≠ st) (nL2 : L ≠ q) (nD1 : D ≠ st) (nD2 : D ≠ q) (nDL : D ≠ L) (hL : H L = none) (hD : H D = none) (hb0 : 0 ≤ b) (hb1 : b ≤ 900) (h26 : is.length ≤ 50)
    (e0 : σ[0]? = some (some (.ref st))) (e2 : σ[2]? = some (some (.ref L))) (inv : InvMx H st q L D b is i H2) (hi : i < is.length) (nx : ∀ H3, InvMx H st q L D b is (i + 1) H3 → Nx H3) :
    tPop K 2 σ H2 fun y H3 => ∃ acc, H3 D = some (.lst acc) ∧ acc.length < sizeLine ∧ Nx (upd H3 D (.lst (acc ++ [y]))) := by
  obtain ⟨acc, ls, hd, hl2, ha, hn, hp2, hs2, gx⟩ := inv
  have hlen : (((ls.map V.str).length : Nat) : Int) = (ls.length : Int) := by rw [List.length_map]
  refine ⟨_, e2, .inl ⟨rfl, _, SqL.of hl2⟩, _, e0, _, e2, L, _, rfl, .inl (SqL.of hl2), st, q, b + i, _, rfl, hs2, by omega, by omega, by rw [hlen]; omega, by rw [hlen]; omega, fun r H3 r0 r1 hs3 g3 => ?_⟩
  have hd3 := g3 _ _ nD1 nD2 hd
  have hl3 := g3 _ _ nL1 nL2 hl2
  obtain ⟨j, n, e1, e2, e3, e4, e5⟩ := pop_at r0 (by rw [hlen] at r1; exact r1)
  refine ⟨L, _, r, j, _, rfl, rfl, hl3, by omega, by rw [hlen] at r1; omega, e1, e2, ?_⟩
  have hd4 := (upd_ne (o := .lst ((ls.map V.str).eraseIdx j)) nDL).trans hd3
  refine ⟨_, hd4, by rw [List.length_map]; exact small1000 (by omega), nx _ ⟨acc ++ [n], ls.eraseIdx j, by rw [upd_same, List.map_append] <;> rfl, by rw [upd_ne nDL.symm, upd_same, e3], by rw [List.length_append, ha] <;> rfl, by omega, ?_, ?_, ?_⟩⟩
  · rw [List.append_assoc]
    exact (List.Perm.append_left acc e4).trans hp2
  · have e6 : b + (i : Int) + 1 = b + ((i + 1 : Nat) : Int) := by omega
    rw [← e6]
    exact (hs3.upd nL1 nL2).upd nD1 nD2
  · exact ((gx.trans g3).upd_out hL).upd_out hD
def spMixed : Sp := fun vs H Q _ => ∃ (st q p : Addr) (b : Int) (is : List Str), vs = [.ref st, .ref p] ∧ Spr H st q b ∧ 0 ≤ b ∧ b ≤ 900 ∧ H p = some (.lst (is.map V.str)) ∧ is.length ≤ 10 ∧
  ∀ (r : Addr) (os : List Str) (H' : Hp), os.Perm is → Spr H' st q (b + is.length) → SX st q H H' → H' r = some (.lst (os.map V.str)) → H r = none → Q (.ref r) H'
abbrev namesM : List Str := ["_law_stream", "_law_some", "_law_left", "_law_k"]
theorem scM : FnScope namesM ["_law_stream", "_law_some"] (defScope sMixed) := ⟨rfl, rfl, rfl, by decide +kernel, rfl, by decide +kernel, by decide +kernel⟩
theorem ok_mixed (F : Fun K "_law_mixed" "_law_mixed" sMixed f fd) (G : FnOk P w K mg base CX0 1 g gd ["_law_stream", "_law_many"] spDraw) (bG : Binds K gd ["_law_stream", "_law_many"] []) (kG : PySem.W.keepIn K (.ref g) = true) (mG : mg "_law_draw" = some (.ref g)) (B : Bt mg) :
    FnOk P w K mg base CX0 2 f fd ["_law_stream", "_law_some"] spMixed := by
  refine F.ok scM (fun vs H Q E h => ?_) (fun cdv A outer s H vs Q E hr h => ?_)
  · obtain ⟨st, q, p, b, is, rfl, _⟩ := h
    rfl
  obtain ⟨st, q, p, b, is, rfl, hs, hb0, hb1, hp, hl, k⟩ := h
  refine ⟨_, pss_cons (ps_set (i := 2) scM.nd rfl (Or.inr rfl) (pe_callTy call_list_of (by rfl) B.lst (by decide +kernel) (pa_cons (pv 1) pa_nil)))
    (pss_one (ps_ret (pe_lc (own := [("_law_k", 3)]) (g := gName 3) (tt := tYes) (te := tPop K 2) rfl scM.nd (pi_range1 (by rfl) B.range (pa_cons (pe_callB call_len_seq (by rfl) B.len PySem.boot_len (pa_cons (pv 2) pa_nil)) pa_nil)) (blkOk_by (N := namesM) (sc := defScope sMixed) (by decide +kernel))
      (fun _ _ _ _ _ => pg_name (i := 3) scM.nd rfl (Or.inl rfl)) (fun _ _ _ _ _ => pts_nil)
      (fun _ _ _ _ _ => pe_bm PySem.F.plainAttrs_list PySem.F.slot_list_pop PySem.F.type_list_pop mt_popAt (pv 2) (pa_cons (pe_call G hr rfl mG kG bG .nil pass0 (pa_cons (pv 0) (pa_cons (pe_callB call_len_seq (by rfl) B.len PySem.boot_len (pa_cons (pv 2) pa_nil)) pa_nil))) pa_nil))))), ?_⟩
  refine ⟨_, rfl, p, _, rfl, .inl (SqL.of hp), fun L hL => ?_⟩
  have gL := same_new hL (.lst (is.map V.str))
  obtain ⟨nL1, nL2⟩ := hs.out hL
  have hsL := hs.same gL
  refine ⟨_, rfl, L, _, rfl, .inl (SqL.of upd_same), _, rfl, by rw [List.length_map]; omega, by rw [List.length_map]; omega, fun D hD => ?_⟩
  obtain ⟨nD1, nD2⟩ := hsL.out hD
  have nDL : D ≠ L := (ne_of_none (upd_same (H := H) (a := L) (o := .lst (is.map V.str))) hD).symm
  have hD0 : H D = none := gL.free hD
  have gD := same_new hD (.lst [])
  have elm : (is.map V.str).length = is.length := List.length_map _
  refine lc_range (lo := 0) (n := (is.map V.str).length) (InvMx H st q L D b is) ⟨[], is, upd_same, gD _ _ upd_same, rfl, rfl, List.Perm.refl _, ?_, .of (gL.trans gD)⟩ ?_ ?_
  · rw [show b + ((0 : Nat) : Int) = b from Int.add_zero b]
    exact hsL.same gD
  · intro i H2 hi inv
    rw [elm] at hi
    exact ⟨rfl, kept (pop_turn nL1 nL2 nD1 nD2 nDL hL hD0 hb0 hb1 (by omega) rfl rfl inv hi fun _ h => h)⟩
  · rintro H2 ⟨acc, ls, hd, hl2, ha, hn, hp2, hs2, gx⟩
    rw [elm] at hs2
    have els : ls = [] := List.length_eq_zero_iff.mp (by omega)
    subst els
    rw [List.append_nil] at hp2
    exact k D acc H2 hp2 hs2 gx hd hD0
/-! the letters -/
def abc : Str := "abcdefghijklmnopqrstuvwxyz"
def abcL : List Str := abc.cps.toList.map fun c => (⟨#[c]⟩ : Str)
theorem abc_signs : LiS.signs abc = abcL.map V.str := by
  unfold LiS.signs abcL
  rw [List.map_map] <;> rfl
theorem abc_len : abcL.length = 26 := by decide +kernel
theorem abc_nd : abcL.Nodup := by decide +kernel
def spLet : Sp := fun vs H Q _ => ∃ (st q : Addr) (b : Int) (m : Nat), vs = [.ref st, .int m] ∧ Spr H st q b ∧ 0 ≤ b ∧ b ≤ 900 ∧ m ≤ 10 ∧
  ∀ (r : Addr) (os : List Str) (H' : Hp), os.Nodup → os.length = m → Spr H' st q (b + m) → SX st q H H' → H' r = some (.lst (os.map V.str)) → H r = none → Q (.ref r) H'
abbrev namesL : List Str := ["_law_stream", "_law_many", "_law_left", "_law_k"]
theorem scLt : FnScope namesL ["_law_stream", "_law_many"] (defScope sLet) := ⟨rfl, rfl, rfl, by decide +kernel, rfl, by decide +kernel, by decide +kernel⟩
theorem ok_let (F : Fun K "_law_letters" "_law_letters" sLet f fd) (G : FnOk P w K mg base CX0 1 g gd ["_law_stream", "_law_many"] spDraw) (bG : Binds K gd ["_law_stream", "_law_many"] []) (kG : PySem.W.keepIn K (.ref g) = true) (mG : mg "_law_draw" = some (.ref g)) (B : Bt mg) :
    FnOk P w K mg base CX0 2 f fd ["_law_stream", "_law_many"] spLet := by
  refine F.ok scLt (fun vs H Q E h => ?_) (fun cdv A outer s H vs Q E hr h => ?_)
  · obtain ⟨st, q, b, m, rfl, _⟩ := h
    rfl
  obtain ⟨st, q, b, m, rfl, hs, hb0, hb1, hm, k⟩ := h
  refine ⟨_, pss_cons (ps_set (i := 2) scLt.nd rfl (Or.inr rfl) (pe_callTy (LiS.call_listS rfl) (by rfl) B.lst (by decide +kernel) (pa_cons pe_str pa_nil)))
    (pss_one (ps_ret (pe_lc (own := [("_law_k", 3)]) (g := gName 3) (tt := tYes) (te := tPop K 2) rfl scLt.nd (pi_range1 (by rfl) B.range (pa_cons (pv 1) pa_nil)) (blkOk_by (N := namesL) (sc := defScope sLet) (by decide +kernel))
      (fun _ _ _ _ _ => pg_name (i := 3) scLt.nd rfl (Or.inl rfl)) (fun _ _ _ _ _ => pts_nil)
      (fun _ _ _ _ _ => pe_bm PySem.F.plainAttrs_list PySem.F.slot_list_pop PySem.F.type_list_pop mt_popAt (pv 2) (pa_cons (pe_call G hr rfl mG kG bG .nil pass0 (pa_cons (pv 0) (pa_cons (pe_callB call_len_seq (by rfl) B.len PySem.boot_len (pa_cons (pv 2) pa_nil)) pa_nil))) pa_nil))))), ?_⟩
  refine ⟨abc, rfl, by decide +kernel, Nat.le_trans (show abc.cps.size ≤ 26 by decide +kernel) (by decide), fun L hL => ?_⟩
  rw [abc_signs]
  have gL := same_new hL (.lst (abcL.map V.str))
  obtain ⟨nL1, nL2⟩ := hs.out hL
  have hsL := hs.same gL
  refine ⟨_, rfl, _, rfl, by omega, by omega, fun D hD => ?_⟩
  obtain ⟨nD1, nD2⟩ := hsL.out hD
  have nDL : D ≠ L := (ne_of_none (upd_same (H := H) (a := L) (o := .lst (abcL.map V.str))) hD).symm
  have hD0 : H D = none := gL.free hD
  have gD := same_new hD (.lst [])
  have h26 := abc_len
  refine lc_range (lo := 0) (n := m) (InvMx H st q L D b abcL) ⟨[], abcL, upd_same, gD _ _ upd_same, rfl, rfl, List.Perm.refl _, ?_, .of (gL.trans gD)⟩ ?_ ?_
  · rw [show b + ((0 : Nat) : Int) = b from Int.add_zero b]
    exact hsL.same gD
  · intro i H2 hi inv
    exact ⟨rfl, kept (pop_turn nL1 nL2 nD1 nD2 nDL hL hD0 hb0 hb1 (by omega) rfl rfl inv (by omega) fun _ h => h)⟩
  · rintro H2 ⟨acc, ls, hd, hl2, ha, hn, hp2, hs2, gx⟩
    have nd : (acc ++ ls).Nodup := hp2.nodup_iff.mpr abc_nd
    exact k D acc H2 (List.Nodup.sublist (List.sublist_append_left acc ls) nd) ha hs2 gx hd hD0
end
end Lw
namespace Lw
open PySem L2 OwB TL
abbrev sName : Stmt := topS 39
abbrev sNames : Stmt := topS 40
theorem ne_tl {x y : Str} (h : tl x ≠ tl y) : x ≠ y := fun e => h (congrArg tl e)
theorem cutS_le (z : Str) (lo hi : Option Int) : (cutS z lo hi).length ≤ z.length := by
  unfold cutS
  show (List.toArray _).size ≤ z.length
  have e : z.cps.toList.length = z.length := by rw [Array.length_toList] <;> rfl
  rw [List.size_toArray, List.length_take, List.length_drop, e]
  omega
/-- four unlike ones don't fit into three -/
theorem pig {ns : List Str} (h : ns.length ≤ 3) (f : Nat → Str) (inj : ∀ i j, i < 4 → j < 4 → f i = f j → i = j) : ∃ i, i < 4 ∧ f i ∉ ns := by
  refine Classical.byContradiction fun no => ?_
  have all : ∀ i, i < 4 → ∃ j, j < 3 ∧ ns[j]? = some (f i) := fun i hi => by
    have hm : f i ∈ ns := Classical.byContradiction fun q => no ⟨i, hi, q⟩
    obtain ⟨j, hj, e⟩ := List.getElem_of_mem hm
    exact ⟨j, by omega, by rw [List.getElem?_eq_getElem hj, e]⟩
  have ne : ∀ i j a b : Nat, i < 4 → j < 4 → i ≠ j → ns[(a : Nat)]? = some (f i) → ns[(b : Nat)]? = some (f j) → a ≠ b := fun i j a b hi hj n e1 e2 q => by
    subst q
    exact n (inj i j hi hj (Option.some.inj (e1.symm.trans e2)))
  obtain ⟨a, ha, ea⟩ := all 0 (by decide)
  obtain ⟨b, hb, eb⟩ := all 1 (by decide)
  obtain ⟨c, hc, ec⟩ := all 2 (by decide)
  obtain ⟨d, hd, ed⟩ := all 3 (by decide)
  have n1 := ne 0 1 a b (by decide) (by decide) (by decide) ea eb
  have n2 := ne 0 2 a c (by decide) (by decide) (by decide) ea ec
  have n3 := ne 0 3 a d (by decide) (by decide) (by decide) ea ed
  have n4 := ne 1 2 b c (by decide) (by decide) (by decide) eb ec
  have n5 := ne 1 3 b d (by decide) (by decide) (by decide) eb ed
  have n6 := ne 2 3 c d (by decide) (by decide) (by decide) ec ed
  omega
/-- another name in its place -/
def zz (c : Nat) (x : Str) : Str := ("zz" : Str) ++ ⟨#[c]⟩ ++ x
theorem zz_ne {a b : Nat} {x : Str} (h : zz a x = zz b x) : a = b := by
  have e : tl (zz a x) = tl (zz b x) := congrArg tl h
  unfold zz at e
  rw [tl_append, tl_append, tl_append, tl_append] at e
  have e2 : ([122, 122, a] : List Nat) ++ tl x = [122, 122, b] ++ tl x := e
  injection e2 with _ e3
  injection e3 with _ e4
  injection e4 with e5 _
def abch : Str := "abcdefgh"
theorem abch_at : ∀ i, i < 4 → abch.cps[i]? = some (97 + i) := by
  intro i hi
  have h : i = 0 ∨ i = 1 ∨ i = 2 ∨ i = 3 := by omega
  rcases h with rfl | rfl | rfl | rfl <;> decide +kernel
section
variable {P : Program} {w : World} {K : PySem.W.Frag} {mg : Str → Option Value} {base : Heap} {f g g2 : Addr} {fd gd gd2 : FuncData}
/-- one sign of a text -/
def spPickS : Sp := fun vs H Q _ => ∃ (st q : Addr) (b : Int) (z : Str), vs = [.ref st, .str z] ∧ Spr H st q b ∧ 0 ≤ b ∧ b ≤ 1000 ∧ 0 < z.length ∧ z.length ≤ 1000 ∧
  ∀ (c : Nat) (H' : Hp), Spr H' st q (b + 1) → SX st q H H' → Q (.str ⟨#[c]⟩) H'
theorem ok_pickS (F : Fun K "_law_pick" "_law_pick" sPick f fd) (G : FnOk P w K mg base CX0 1 g gd ["_law_stream", "_law_many"] spDraw) (bG : Binds K gd ["_law_stream", "_law_many"] []) (kG : PySem.W.keepIn K (.ref g) = true) (mG : mg "_law_draw" = some (.ref g)) (B : Bt mg) :
    FnOk P w K mg base CX0 2 f fd ["_law_stream", "_law_some"] spPickS := by
  refine F.ok scP (fun vs H Q E h => ?_) (fun cdv A outer s H vs Q E hr h => ?_)
  · obtain ⟨st, q, b, z, rfl, _⟩ := h
    rfl
  obtain ⟨st, q, b, z, rfl, hs, hb0, hb1, hx0, hx1, k⟩ := h
  refine ⟨_, pss_one (ps_ret (pe_ix ix_str (pv 1) (pe_call G hr rfl mG kG bG .nil pass0 (pa_cons (pv 0) (pa_cons (pe_callB call_len_str (by rfl) B.len PySem.boot_len (pa_cons (pv 1) pa_nil)) pa_nil))) (fun _ _ => rfl))), ?_⟩
  refine ⟨_, rfl, _, rfl, _, rfl, z, rfl, Nat.le_trans hx1 (by decide), st, q, b, _, rfl, hs, hb0, hb1, by omega, by omega, fun r H' r0 r1 hs' gx => ?_⟩
  have hk : r.toNat < z.cps.toList.length := by rw [Array.length_toList]; show r.toNat < z.length; omega
  have q2 := atI_nat (xs := z.cps.toList) (j := r.toNat) (v := z.cps.toList[r.toNat]) (List.getElem?_eq_getElem hk)
  rw [show ((r.toNat : Nat) : Int) = r by omega] at q2
  exact ⟨z, r, _, rfl, rfl, Nat.le_trans hx1 (by decide), q2, k _ H' hs' gx⟩
def spName : Sp := fun vs H Q _ => ∃ (st q : Addr) (b : Int), vs = [.ref st] ∧ Spr H st q b ∧ 0 ≤ b ∧ b ≤ 900 ∧
  ∀ (nm : Str) (b' : Int) (H' : Hp), nm.length ≤ 8 → b ≤ b' → b' ≤ b + 9 → Spr H' st q b' → SX st q H H' → Q (.str nm) H'
abbrev namesN : List Str := ["_law_stream", "_law_k"]
theorem scNm : FnScope namesN ["_law_stream"] (defScope sName) := ⟨rfl, rfl, rfl, by decide +kernel, rfl, by decide +kernel, by decide +kernel⟩
def InvNm (H0 : Hp) (st q D : Addr) (b : Int) (i : Nat) (H : Hp) : Prop := ∃ acc : List Str, H D = some (.lst (acc.map V.str)) ∧ acc.length = i ∧ (acc.map (·.length)).sum = i ∧ Spr H st q (b + i) ∧ SX st q H0 H
theorem ok_name (F : Fun K "_law_name" "_law_name" sName f fd) (G : FnOk P w K mg base CX0 1 g gd ["_law_stream", "_law_many"] spDraw) (bG : Binds K gd ["_law_stream", "_law_many"] []) (kG : PySem.W.keepIn K (.ref g) = true) (mG : mg "_law_draw" = some (.ref g)) (B : Bt mg)
    (GP : FnOk P w K mg base CX0 2 g2 gd2 ["_law_stream", "_law_some"] spPickS) (bP : Binds K gd2 ["_law_stream", "_law_some"] []) (kP : PySem.W.keepIn K (.ref g2) = true) (mP : mg "_law_pick" = some (.ref g2)) :
    FnOk P w K mg base CX0 3 f fd ["_law_stream"] spName := by
  refine F.ok scNm (fun vs H Q E h => ?_) (fun cdv A outer s H vs Q E hr h => ?_)
  · obtain ⟨st, q, b, rfl, _⟩ := h
    rfl
  obtain ⟨st, q, b, rfl, hs, hb0, hb1, k⟩ := h
  refine ⟨_, pss_one (ps_ret (pe_join pe_str (pe_lc (own := [("_law_k", 1)]) (g := gName 1) (tt := tYes) (te := tCall spPickS [] E0 (tCons (tVar 0) (tCons (tC (.str abc)) tNil))) rfl scNm.nd (pi_range1 (by rfl) B.range (pa_cons (pe_op op_add pe_int (pe_call G (hr.mono (by decide)) rfl mG kG bG .nil pass0 (pa_cons (pv 0) (pa_cons pe_int pa_nil)))) pa_nil)) (blkOk_by (N := namesN) (sc := defScope sName) (by decide +kernel))
      (fun _ _ _ _ _ => pg_name (i := 1) scNm.nd rfl (Or.inl rfl)) (fun _ _ _ _ _ => pts_nil)
      (fun _ _ _ _ _ => pe_call GP hr rfl mP kP bP .nil pass0 (pa_cons (pv 0) (pa_cons pe_str pa_nil)))))), ?_⟩
  refine ⟨⟨_, rfl⟩, _, rfl, st, q, b, 8, rfl, hs, hb0, by omega, by decide, by decide, fun r H1 r0 r1 hs1 gx1 => ?_⟩
  obtain ⟨m, hm⟩ : ∃ m : Nat, (1 : Int) + r = (m : Int) := ⟨(1 + r).toNat, by omega⟩
  refine ⟨_, _, rfl, rfl, 1 + r, rfl, by omega, by omega, fun D hD => ?_⟩
  have em : (1 + r).toNat = m := by omega
  rw [em]
  obtain ⟨nD1, nD2⟩ := hs1.out hD
  have gD := same_new hD (.lst [])
  refine lc_range (lo := 0) (n := m) (InvNm H1 st q D (b + 1)) ⟨[], upd_same, rfl, rfl, ?_, .of gD⟩ ?_ ?_
  · rw [show b + 1 + ((0 : Nat) : Int) = b + 1 from Int.add_zero _]
    exact hs1.same gD
  · rintro i H2 hi ⟨acc, hd, ha, hsum, hs2, gx⟩
    refine ⟨rfl, kept ?_⟩
    refine ⟨_, rfl, st, q, _, abc, rfl, hs2, by omega, by omega, by decide +kernel, Nat.le_trans (show abc.length ≤ 26 by decide +kernel) (by decide), fun c H3 hs3 g3 => ?_⟩
    refine ⟨_, g3 _ _ nD1 nD2 hd, by rw [List.length_map]; exact small1000 (by omega), acc ++ [⟨#[c]⟩], by rw [upd_same, List.map_append] <;> rfl, by rw [List.length_append, ha] <;> rfl, ?_, ?_, (gx.trans g3).upd_out hD⟩
    · rw [List.map_append, List.sum_append, hsum] <;> rfl
    · rw [show b + 1 + ((i + 1 : Nat) : Int) = b + 1 + (i : Int) + 1 by omega]
      exact hs3.upd nD1 nD2
  · rintro H2 ⟨acc, hd, ha, hsum, hs2, gx⟩
    refine ⟨_, D, acc, rfl, rfl, .inl (SqL.of hd), ?_, ?_⟩
    · rw [hsum]
      show m + acc.length * 0 ≤ 16777216
      omega
    · refine k _ _ H2 ?_ ?_ ?_ hs2 (gx1.trans gx)
      · show (Builtin.Str.glued _ acc).length ≤ 8
        rw [size_glued, hsum]
        show m + (acc.length - 1) * 0 ≤ 8
        omega
      · omega
      · omega
end
end Lw
namespace Lw
open PySem L2 OwB TL
abbrev rCatS : R2 := fun x y H Q => ∃ i j, x = .str i ∧ y = .str j ∧ i.length + j.length ≤ sizeLine ∧ Q (.str (i ++ j)) H
section
variable {P : Program} {w : World} {K : PySem.W.Frag} {mg : Str → Option Value} {base : Heap} {f g g2 : Addr} {fd gd gd2 : FuncData}
def spNames : Sp := fun vs H Q _ => ∃ (st q : Addr) (b : Int) (m : Nat), vs = [.ref st, .int m] ∧ Spr H st q b ∧ 0 ≤ b ∧ b ≤ 800 ∧ m ≤ 4 ∧
  ∀ (r : Addr) (os : List Str) (b' : Int) (H' : Hp), os.length = m → b ≤ b' → b' ≤ b + 9 * m → Spr H' st q b' → SX st q H H' → H' r = some (.lst (os.map V.str)) → H r = none → Q (.ref r) H'
abbrev namesNs : List Str := ["_law_stream", "_law_many", "_law_names_here", "_law_k", "_law_name_here", "_law_one", "_law_sign"]
theorem scNs : FnScope namesNs ["_law_stream", "_law_many"] (defScope sNames) := ⟨rfl, rfl, rfl, by decide +kernel, rfl, by decide +kernel, by decide +kernel⟩
/-- the candidates behind a name -/
def cands (x : Str) (n : Nat) : List Str := ((abch.cps.toList.take n).map fun c => zz c (cutS x none (some 5)))
def InvZz (H0 : Hp) (D : Addr) (x : Str) (i : Nat) (H : Hp) : Prop := H D = some (.lst ((cands x i).map V.str)) ∧ Same H0 H
def InvF (H0 : Hp) (D : Addr) (cs ns : List Str) (i : Nat) (H : Hp) : Prop := ∃ acc : List Str, H D = some (.lst (acc.map V.str)) ∧ acc.length ≤ i ∧ (∀ j z, j < i → cs[j]? = some z → z ∉ ns → acc ≠ []) ∧ Same H0 H
theorem ok_names (F : Fun K "_law_names" "_law_names" sNames f fd) (B : Bt mg)
    (GP : FnOk P w K mg base CX0 3 g gd ["_law_stream"] spName) (bP : Binds K gd ["_law_stream"] []) (kP : PySem.W.keepIn K (.ref g) = true) (mP : mg "_law_name" = some (.ref g)) :
    FnOk P w K mg base CX0 4 f fd ["_law_stream", "_law_many"] spNames := by
  refine F.ok scNs (fun vs H Q E h => ?_) (fun cdv A outer s H vs Q E hr h => ?_)
  · obtain ⟨st, q, b, m, rfl, _⟩ := h
    rfl
  obtain ⟨st, q, b, m, rfl, hs, hb0, hb1, hm, k⟩ := h
  refine ⟨_, pss_cons (ps_set (i := 2) scNs.nd rfl (Or.inr rfl) (pe_lst pa_nil))
    (pss_cons (ps_for PassesOwn.never rfl (pi_range1 (by rfl) B.range (pa_cons (pv 1) pa_nil)) (pg_name (i := 3) scNs.nd rfl (Or.inl rfl))
      (pss_cons (ps_set (i := 4) scNs.nd rfl (Or.inr rfl) (pe_call GP hr rfl mP kP bP .nil pass0 (pa_cons (pv 0) pa_nil)))
      (pss_one (ps_expr (pe_bm PySem.F.plainAttrs_list PySem.F.slot_list_append PySem.F.type_list_append mt_append (pv 2) (pa_cons
        (pe_ix ix_list (pe_lc (own := [("_law_one", 5)]) (g := gName 5) (tt := tTest (tOp (rIn K true) (tVar 5) (tVar 2))) (te := tVar 5) rfl scNs.nd (pi_list (pe_op op_cat (pe_lst (pa_cons (pv 4) pa_nil))
            (pe_lc (own := [("_law_sign", 6)]) (g := gName 6) (tt := tYes) (te := tOp rCatS (tOp rCatS (tC (.str "zz")) (tVar 6)) (tSl rSlS (tVar 4) tNoPart (tPart (tC (.int 5))))) rfl scNs.nd (pi_str pe_str) (blkOk_by (N := namesNs) (sc := defScope sNames) (by decide +kernel)) (fun _ _ _ _ _ => pg_name (i := 6) scNs.nd rfl (Or.inl rfl)) (fun _ _ _ _ _ => pts_nil)
              (fun _ _ _ _ _ => pe_op op_add_str (pe_op op_add_str pe_str (pv 6)) (pe_slice sl_str (pv 4) po_none (po_some pe_int))))))
          (blkOk_by (N := namesNs) (sc := defScope sNames) (by decide +kernel)) (fun _ _ _ _ _ => pg_name (i := 5) scNs.nd rfl (Or.inl rfl)) (fun _ _ _ _ _ => pts_one (pt_cmpR op_notIn_seq (pv 5) (pv 2) (by rfl))) (fun _ _ _ _ _ => pv 5)) pe_int (fun _ _ => rfl)) pa_nil))))))
    (pss_one (ps_ret (pv 2)))), ?_⟩
  refine ⟨(by show 0 ≤ sizeLine; exact Nat.zero_le _), fun L hL => ?_⟩
  obtain ⟨nL1, nL2⟩ := hs.out hL
  have gL := same_new hL (.lst [])
  refine ⟨_, rfl, (m : Int), rfl, by omega, by omega, for_range (lo := 0) (n := m) (fun i σ' H' => ∃ (ns : List Str) (b' : Int) (u v : Option V), σ' = [some (.ref st), some (.int m), some (.ref L), u, v, none, none] ∧ H' L = some (.lst (ns.map V.str)) ∧ ns.length = i ∧ b ≤ b' ∧ b' ≤ b + 9 * i ∧ Spr H' st q b' ∧ SX st q H H')
    ⟨[], b, _, _, rfl, upd_same, rfl, by omega, by omega, hs.same gL, .of gL⟩ ?_ ?_⟩
  · rintro i σ' H1 hi ⟨ns, b1, u, v, rfl, hl1, hn, hb2, hb3, hs1, gx1⟩
    refine ⟨_, rfl, st, q, b1, rfl, hs1, by omega, by omega, fun nm b2 H2 hnm hb4 hb5 hs2 g2 => ?_⟩
    have hl2 := g2 _ _ nL1 nL2 hl1
    refine ⟨_, rfl, .inl ⟨rfl, _, SqL.of hl2⟩, ?_⟩
    refine ⟨_, rfl, (by show 1 ≤ sizeLine; decide), fun t1 ht1 => ?_⟩
    have k1 := same_new ht1 (.lst [.str nm])
    refine ⟨abch, rfl, fun D hD => ?_⟩
    refine lc_it (walk_str (z := abch)) (InvZz (upd H2 t1 (.lst [.str nm])) D nm) ⟨upd_same, same_new hD _⟩ (fun _ _ _ _ => trivial) ?_ ?_
    · rintro j y H3 H4 hj ⟨hd, g3⟩ ⟨rfl, c, hc, rfl⟩
      refine ⟨rfl, kept ?_⟩
      have e2 : ("zz" : Str).length = 2 := by decide +kernel
      have hz := cutS_le nm none (some 5)
      refine ⟨_, rfl, _, _, rfl, rfl, (by rw [e2]; show 2 + 1 ≤ sizeLine; decide), _, rfl, 5, rfl, nm, rfl, Nat.le_trans hnm (by decide), _, _, rfl, rfl, ?_, ?_⟩
      · have e3 : (("zz" : Str) ++ (⟨#[c]⟩ : Str)).length = 3 := by
          rw [len_tl, tl_append, List.length_append, ← len_tl, e2] <;> rfl
        rw [e3]
        exact Nat.le_trans (Nat.add_le_add_left (Nat.le_trans hz hnm) 3) (by decide)
      · have hc2 : abch.cps.toList[j]? = some c := by rw [Array.getElem?_toList]; exact hc
        refine ⟨_, hd, ?_, ?_, same_over g3 hD _⟩
        · rw [List.length_map]
          unfold cands
          rw [List.length_map, List.length_take]
          have e8 : abch.cps.toList.length = 8 := by decide +kernel
          exact small1000 (by omega)
        · rw [upd_same]
          unfold cands
          rw [List.take_succ, hc2, List.map_append, List.map_append] <;> rfl
    · rintro H3 ⟨hd, g3⟩
      have ht3 := g3 _ _ (upd_same (H := H2) (a := t1) (o := .lst [.str nm]))
      have e8 : abch.cps.size = 8 := by decide +kernel
      refine ⟨t1, D, _, _, rfl, rfl, ht3, hd, ?_, fun p hp => ?_⟩
      · rw [List.length_map]
        unfold cands
        rw [List.length_map, List.length_take]
        have e8 : abch.cps.toList.length = 8 := by decide +kernel
        exact Nat.le_trans (show _ ≤ 10 by simp only [List.length_cons, List.length_nil]; omega) (by decide)
      have l9 : (nm :: cands nm abch.cps.size).length ≤ 9 := by
        unfold cands
        rw [List.length_cons, List.length_map, List.length_take]
        have e8 : abch.cps.toList.length = 8 := by decide +kernel
        omega
      obtain ⟨i0, hi0, hout⟩ := pig (ns := ns) (by omega) (fun i => zz (97 + i) (cutS nm none (some 5))) (fun i j _ _ e => by have := zz_ne e; omega)
      have hat : (nm :: cands nm abch.cps.size)[i0 + 1]? = some (zz (97 + i0) (cutS nm none (some 5))) := by
        rw [List.getElem?_cons_succ]
        unfold cands
        have e9 : abch.cps.toList[i0]? = some (97 + i0) := by rw [Array.getElem?_toList]; exact abch_at i0 hi0
        rw [List.getElem?_map, List.getElem?_take, if_pos (by omega), e9] <;> rfl
      have gp := same_new hp (.lst ([V.str nm] ++ (cands nm abch.cps.size).map V.str))
      have gA : Same H2 (upd H3 p (.lst ([V.str nm] ++ (cands nm abch.cps.size).map V.str))) := (k1.trans g3).trans gp
      have hcs : upd H3 p (.lst ([V.str nm] ++ (cands nm abch.cps.size).map V.str)) p = some (.lst ((nm :: cands nm abch.cps.size).map V.str)) := upd_same
      generalize upd H3 p (.lst ([V.str nm] ++ (cands nm abch.cps.size).map V.str)) = H5 at gA hcs
      generalize nm :: cands nm abch.cps.size = cs at hcs l9 hat
      have hl5 := gA _ _ hl2
      refine ⟨p, rfl, ⟨_, SqL.of hcs⟩, fun E' hE => ?_⟩
      refine lc_list (InvF H5 E' cs ns) ⟨[], upd_same, Nat.le_refl _, fun j z hj => absurd hj (Nat.not_lt_zero _), same_new hE _⟩ (fun j H6 _ ⟨_, _, _, _, g6⟩ => Same.seq g6 (SqL.of hcs)) ?_ ?_
      · rintro j y H6 hy ⟨acc, hd6, hle, hne, g6⟩
        rw [List.getElem?_map] at hy
        cases ez : cs[j]? with
        | none => rw [ez] at hy; cases hy
        | some z =>
          rw [ez] at hy
          cases hy
          refine ⟨rfl, ?_⟩
          refine ⟨_, rfl, _, rfl, L, _, rfl, .inl (SqL.of (g6 _ _ hl5)), rfl, flat_strs' ns, _, rfl, ?_⟩
          have hj9 : j < cs.length := (List.getElem?_eq_some_iff.mp ez).1
          have ein := in_strs z ns
          refine ite2 (fun ct => ?_) (fun ct => ?_)
          · refine ⟨_, rfl, _, hd6, by rw [List.length_map]; exact small1000 (by omega), acc ++ [z], by rw [upd_same, List.map_append] <;> rfl, by rw [List.length_append]; exact Nat.succ_le_succ hle, fun j' z' _ _ _ e => ?_, same_over g6 hE _⟩
            exact absurd e (by simp)
          · have hin : z ∈ ns := by
              have z2 : (!inV (.str z) (ns.map V.str)) = false := Bool.eq_false_iff.mpr ct
              rw [ein] at z2
              simpa using z2
            refine ⟨acc, hd6, by omega, fun j' z' hj' ez' hz' => ?_, g6⟩
            by_cases ejj : j' = j
            · subst ejj
              rw [ez] at ez'
              cases ez'
              exact absurd hin hz'
            · exact hne j' z' (by omega) ez' hz'
      · rintro H6 ⟨acc, hd6, hle, hne, g6⟩
        rw [List.length_map] at hne
        have hacc := hne (i0 + 1) _ (List.getElem?_eq_some_iff.mp hat).1 hat hout
        cases acc with
        | nil => exact absurd rfl hacc
        | cons z0 r0 =>
          have hl6 := g6 _ _ hl5
          have gAll : Same H2 H6 := gA.trans g6
          refine ⟨E', _, 0, .str z0, rfl, rfl, SqL.of hd6, atI_nat (j := 0) rfl, ?_⟩
          refine ⟨L, _, .str z0, rfl, rfl, hl6, by rw [List.length_map]; exact small1000 (by omega), ?_⟩
          refine ⟨ns ++ [z0], b2, _, _, rfl, by rw [upd_same, List.map_append] <;> rfl, by rw [List.length_append, hn] <;> rfl, by omega, by omega, (hs2.same gAll).upd nL1 nL2, ?_⟩
          exact (gx1.trans (g2.trans (.of gAll))).upd_out hL
  · rintro σ' H1 ⟨ns, b1, u, v, rfl, hl1, hn, hb2, hb3, hs1, gx1⟩
    exact ⟨_, rfl, k L ns b1 H1 hn hb2 hb3 hs1 gx1 hl1 hL⟩
end
end Lw
namespace Lw
open PySem L2 OwB TL
abbrev sOwn : Stmt := topS 33
theorem PairAt.tk {K : PySem.W.Frag} {H H' : Hp} {v : V} {p : Str × List Str} (g : TK K H H') : PairAt K H v p → PairAt K H' v p
  | ⟨a, t, e, h1, h2⟩ => ⟨a, t, e, g _ _ h1, g _ _ h2⟩
theorem PairsAt.tk {K : PySem.W.Frag} {H H' : Hp} (g : TK K H H') : ∀ {vs : List V} {ps : List (Str × List Str)}, PairsAt K H vs ps → PairsAt K H' vs ps
  | _, _, .nil => .nil
  | _, _, .cons h t => .cons (h.tk g) (PairsAt.tk g t)
theorem all_strs (ls : List Str) : ∀ v ∈ ls.map V.str, ∃ z, v = .str z := fun v h => by
  obtain ⟨z, _, e⟩ := List.mem_map.mp h
  exact ⟨z, e.symm⟩
def okP (p : Str × List Str) : Prop := p.2.Nodup ∧ p.2.length ≤ 3
section
variable {P : Program} {w : World} {K : PySem.W.Frag} {mg : Str → Option Value} {base : Heap} {f g g1 g2 g3 g4 : Addr} {fd gd gd1 gd2 gd3 gd4 : FuncData}
def spOwn (K : PySem.W.Frag) : Sp := fun vs H Q _ => ∃ (st q : Addr) (b : Int), vs = [.ref st, .int 2] ∧ Spr H st q b ∧ 0 ≤ b ∧ b ≤ 700 ∧
  ∀ (r : Addr) (us : List V) (ps : List (Str × List Str)) (b' : Int) (H' : Hp), us.length = 2 → PairsAt K H' us ps → (∀ p ∈ ps, okP p) → b ≤ b' → b' ≤ b + 60 → Spr H' st q b' → SX st q H H' → H' r = some (.lst us) → H r = none → Q (.ref r) H'
abbrev namesO : List Str := ["_law_stream", "_law_many", "_law_letters_here", "_law_names_here", "_law_own", "_law_word", "_law_name_here"]
theorem scO : FnScope namesO ["_law_stream", "_law_many"] (defScope sOwn) := ⟨rfl, rfl, rfl, by decide +kernel, rfl, by decide +kernel, by decide +kernel⟩
theorem ok_own (F : Fun K "_law_own_accesses" "_law_own_accesses" sOwn f fd) (B : Bt mg)
    (G : FnOk P w K mg base CX0 1 g gd ["_law_stream", "_law_many"] spDraw) (bG : Binds K gd ["_law_stream", "_law_many"] []) (kG : PySem.W.keepIn K (.ref g) = true) (mG : mg "_law_draw" = some (.ref g))
    (GP : FnOk P w K mg base CX0 2 g1 gd1 ["_law_stream", "_law_some"] (spPick K)) (bP : Binds K gd1 ["_law_stream", "_law_some"] []) (kP : PySem.W.keepIn K (.ref g1) = true) (mP : mg "_law_pick" = some (.ref g1))
    (GM : FnOk P w K mg base CX0 2 g2 gd2 ["_law_stream", "_law_some"] spMixed) (bM : Binds K gd2 ["_law_stream", "_law_some"] []) (kM : PySem.W.keepIn K (.ref g2) = true) (mM : mg "_law_mixed" = some (.ref g2))
    (GL : FnOk P w K mg base CX0 2 g3 gd3 ["_law_stream", "_law_many"] spLet) (bL : Binds K gd3 ["_law_stream", "_law_many"] []) (kL : PySem.W.keepIn K (.ref g3) = true) (mL : mg "_law_letters" = some (.ref g3))
    (GN : FnOk P w K mg base CX0 4 g4 gd4 ["_law_stream", "_law_many"] spNames) (bN : Binds K gd4 ["_law_stream", "_law_many"] []) (kN : PySem.W.keepIn K (.ref g4) = true) (mN : mg "_law_names" = some (.ref g4)) :
    FnOk P w K mg base CX0 5 f fd ["_law_stream", "_law_many"] (spOwn K) := by
  refine F.ok scO (fun vs H Q E h => ?_) (fun cdv A outer s H vs Q E hr h => ?_)
  · obtain ⟨st, q, b, rfl, _⟩ := h
    rfl
  obtain ⟨st, q, b, rfl, hs, hb0, hb1, k⟩ := h
  have hr1 := hr.mono (show 1 ≤ 4 by decide)
  have hr2 := hr.mono (show 2 ≤ 4 by decide)
  refine ⟨_, pss_cons (ps_par3 (i := 2) (j := 3) (l := 4) rfl scO.nd rfl rfl rfl (by decide) (by decide) (by decide) rfl rfl rfl (pa_cons (pe_call GL hr2 rfl mL kL bL .nil pass0 (pa_cons (pv 0) (pa_cons pe_int pa_nil))) (pa_cons (pe_call GN hr rfl mN kN bN .nil pass0 (pa_cons (pv 0) (pa_cons pe_int pa_nil))) (pa_cons (pe_lst pa_nil) pa_nil))) (by rfl))
    (pss_cons (ps_set (i := 5) scO.nd rfl (Or.inl rfl) (pe_call GP hr2 rfl mP kP bP .nil pass0 (pa_cons (pv 0) (pa_cons (pe_lst (pa_cons pe_str (pa_cons pe_str (pa_cons pe_str (pa_cons pe_str (pa_cons pe_str (pa_cons pe_str (pa_cons pe_str (pa_cons pe_str (pa_cons pe_str pa_nil)))))))))) pa_nil))))
    (C8.pss_cut (ps_if (PW.pt (pw_and (pt_cmpR op_notIn_seq (pv 5) (pv 3) (by rfl)) (pw_and1 (pt_cmpR op_eq (pe_call G hr1 rfl mG kG bG .nil pass0 (pa_cons (pv 0) (pa_cons pe_int pa_nil))) pe_int (nomark _))))) (pss_one (ps_asg (pv 5) (pg_sub (pv 3) pe_int set_list))) pss_nil)
    (pss_cons (ps_for PassesOwn.never rfl (pi_list (pe_slice sl_list (pv 3) po_none (po_some (pv 1)))) (pg_name (i := 6) scO.nd rfl (Or.inl rfl))
      (pss_one (ps_expr (pe_bm PySem.F.plainAttrs_list PySem.F.slot_list_append PySem.F.type_list_append mt_append (pv 4) (pa_cons (pe_tup (pa_cons (pv 6) (pa_cons
        (pe_callTy call_tuple_of (by rfl) B.tup (by decide +kernel) (pa_cons (pe_slice sl_list (pe_call GM hr2 rfl mM kM bM .nil pass0 (pa_cons (pv 0) (pa_cons (pv 2) pa_nil))) po_none (po_some (pe_call G hr1 rfl mG kG bG .nil pass0 (pa_cons (pv 0) (pa_cons pe_int pa_nil))))) pa_nil)) pa_nil))) pa_nil)))))
    (pss_one (ps_ret (pv 4)))))), ?_⟩
  refine ⟨_, rfl, st, q, b, 4, rfl, hs, hb0, by omega, by decide, fun L ls H1 nd e4 hs1 g1 hl1 hL => ?_⟩
  refine ⟨_, rfl, st, q, _, 4, rfl, hs1, by omega, by omega, by decide, fun N ns b2 H2 e5 hb2 hb3 hs2 g2 hn2 hN => ?_⟩
  refine ⟨(by show 0 ≤ sizeLine; exact Nat.zero_le _), fun O hO => ?_⟩
  obtain ⟨nL1, nL2⟩ := hs.out hL
  obtain ⟨nN1, nN2⟩ := hs1.out hN
  obtain ⟨nO1, nO2⟩ := hs2.out hO
  have hL2 := g2 _ _ nL1 nL2 hl1
  have nNL : N ≠ L := (ne_of_none hl1 hN).symm
  have nOL : O ≠ L := (ne_of_none hL2 hO).symm
  have nON : O ≠ N := (ne_of_none hn2 hO).symm
  have gO := same_new hO (.lst [])
  have outN : H N = none := by
    cases e : H N with
    | none => rfl
    | some o => exact absurd ((g1 _ _ nN1 nN2 e).symm.trans hN) (by simp)
  have outO : H O = none := by
    cases e : H O with
    | none => rfl
    | some o => exact absurd ((g2 _ _ nO1 nO2 (g1 _ _ nO1 nO2 e)).symm.trans hO) (by simp)
  have gx0 : SX st q H (upd H2 O (.lst [])) := (g1.trans g2).upd_out outO
  refine ⟨_, _, _, rfl, ?_⟩
  refine ⟨_, rfl, (by show 9 ≤ sizeLine; decide), fun p hp => ?_⟩
  have gp := same_new hp (.lst [.str "below", .str "equal", .str "greater", .str "lesser", .str "unequal", .str "absolute", .str "all", .str "none", .str "add"])
  obtain ⟨np1, np2⟩ := (hs2.same gO).out hp
  refine ⟨st, q, p, b2, _, rfl, (hs2.same gO).same gp, by omega, by omega, upd_same, np1, np2, by show 0 < 9; decide, by show 9 ≤ 1000; decide, fun v H3 hv hs3 g3 => ?_⟩
  obtain ⟨wd, rfl⟩ : ∃ wd, v = .str wd := all_strs ["below", "equal", "greater", "lesser", "unequal", "absolute", "all", "none", "add"] v hv
  have hN3 := g3 _ _ nN1 nN2 (gp _ _ (gO _ _ hn2))
  have hL3 := g3 _ _ nL1 nL2 (gp _ _ (gO _ _ hL2))
  have hO3 := g3 _ _ nO1 nO2 (gp _ _ (upd_same (H := H2) (a := O) (o := .lst [])))
  have gx3 : SX st q H H3 := (gx0.trans (.of gp)).trans g3
  refine ⟨fun σ' H' => σ' = [some (.ref st), some (.int 2), some (.ref L), some (.ref N), some (.ref O), some (.str wd), none] ∧ ∃ (ns' : List Str) (b' : Int), H' N = some (.lst (ns'.map V.str)) ∧ ns'.length = 4 ∧ H' L = some (.lst (ls.map V.str)) ∧ H' O = some (.lst []) ∧ Spr H' st q b' ∧ b ≤ b' ∧ b' ≤ b + 44 ∧ SX st q H H', ?_, ?_⟩
  · refine ⟨_, rfl, _, rfl, N, _, rfl, .inl (SqL.of hN3), rfl, flat_strs' ns, _, rfl, ?_⟩
    refine ite2 (fun _ => ?_) (fun _ => ?_)
    · refine ⟨_, rfl, st, q, _, 3, rfl, hs3, by omega, by omega, by decide, by decide, fun r H4 r0 r1 hs4 g4 => ?_⟩
      have hN4 := g4 _ _ nN1 nN2 hN3
      have hL4 := g4 _ _ nL1 nL2 hL3
      have hO4 := g4 _ _ nO1 nO2 hO3
      refine ⟨rfl, _, rfl, ite2 (fun _ => ?_) (fun _ => ⟨rfl, ns, _, hN4, e5, hL4, hO4, hs4, by omega, by omega, gx3.trans g4⟩)⟩
      refine ⟨_, rfl, _, rfl, N, _, 0, 0, rfl, rfl, hN4, by rw [List.length_map, e5] <;> rfl, ?_⟩
      refine ⟨rfl, ns.set 0 wd, _, by rw [upd_same, List.map_set], by rw [List.length_set, e5], by rw [upd_ne nNL.symm]; exact hL4, by rw [upd_ne nON]; exact hO4, hs4.upd nN1 nN2, by omega, by omega, (gx3.trans g4).upd_out outN⟩
    · exact ⟨rfl, ns, _, hN3, e5, hL3, hO3, hs3, by omega, by omega, gx3⟩
  · rintro σ' H4 ⟨rfl, ns', b4, hN4, e6, hL4, hO4, hs4, hb4, hb5, gx4⟩
    refine ⟨_, rfl, _, rfl, 2, rfl, N, _, rfl, SqL.of hN4, fun p2 hp2 => ?_⟩
    have gp2 := same_new hp2 (.lst (cutV (ns'.map V.str) none (some 2)))
    have ecut : cutV (ns'.map V.str) none (some 2) = (ns'.take 2).map V.str := by
      rw [show (2 : Int) = ((2 : Nat) : Int) from rfl, cut_take _ _ (by rw [List.length_map]; omega), List.map_take]
    rw [ecut] at gp2 ⊢
    obtain ⟨nq1, nq2⟩ := hs4.out hp2
    refine ⟨p2, rfl, ⟨_, SqL.of upd_same⟩, for_list (fun i σ' H' => ∃ (us : List V) (ps : List (Str × List Str)) (b' : Int) (u : Option V), σ' = [some (.ref st), some (.int 2), some (.ref L), some (.ref N), some (.ref O), some (.str wd), u] ∧ H' O = some (.lst us) ∧ us.length = i ∧ PairsAt K H' us ps ∧ (∀ p ∈ ps, okP p) ∧ H' L = some (.lst (ls.map V.str)) ∧ H' p2 = some (.lst ((ns'.take 2).map V.str)) ∧ b ≤ b' ∧ b' ≤ b + 44 + 5 * i ∧ Spr H' st q b' ∧ SX st q H H')
      ⟨[], [], b4, _, rfl, gp2 _ _ hO4, rfl, PairsAt.nil, (fun p h => by cases h), gp2 _ _ hL4, upd_same, hb4, by omega, hs4.same gp2, gx4.trans (.of gp2)⟩ (fun i σ' H' _ ⟨_, _, _, _, _, _, _, _, _, _, h, _⟩ => SqL.of h) ?_ ?_⟩
    · rintro i x σ' H5 hx ⟨us, ps, b5, u, rfl, hO5, hlen, hps, hok, hL5, hp5, hb6, hb7, hs5, gx5⟩
      have hi2 : i < 2 := by
        have z := (List.getElem?_eq_some_iff.mp hx).1
        rw [List.length_map, List.length_take] at z
        omega
      rw [List.getElem?_map] at hx
      cases ez : (ns'.take 2)[i]? with
      | none => rw [ez] at hx; cases hx
      | some nm =>
        rw [ez] at hx
        cases hx
        refine ⟨_, rfl, .inl ⟨rfl, _, SqL.of hO5⟩, _, rfl, _, rfl, _, rfl, st, q, L, b5, ls, rfl, hs5, by omega, by omega, hL5, by omega, fun r os H6 perm hs6 g6 hr6 hr0 => ?_⟩
        have hlo : os.length = 4 := perm.length_eq.trans e4
        refine ⟨_, rfl, st, q, _, 4, rfl, hs6, by omega, by omega, by decide, by decide, fun d H7 d0 d1 hs7 g7 => ?_⟩
        obtain ⟨nr1, nr2⟩ := hs5.out hr0
        refine ⟨d, rfl, r, _, rfl, SqL.of (g7 _ _ nr1 nr2 hr6), fun c hc => ?_⟩
        have ecd : cutV (os.map V.str) none (some d) = (os.take d.toNat).map V.str := by
          rw [show (d : Int) = ((d.toNat : Nat) : Int) by omega, cut_take _ _ (by rw [List.length_map]; omega), List.map_take]
          rfl
        rw [ecd]
        have gc := same_new hc (.lst ((os.take d.toNat).map V.str))
        refine ⟨c, _, rfl, .inl ⟨SqL.of upd_same, fun t ht => ?_⟩⟩
        have gt := same_new ht (.tup ((os.take d.toNat).map V.str))
        refine ⟨(by show 2 ≤ sizeLine; decide), fun tp htp => ?_⟩
        have gtp := same_new htp (.tup [.str nm, .ref t])
        have g8 := (gc.trans gt).trans gtp
        have htt : SqT K (upd (upd (upd H7 c (.lst ((os.take d.toNat).map V.str))) t (.tup ((os.take d.toNat).map V.str))) tp (.tup [.str nm, .ref t])) t ((os.take d.toNat).map V.str) := seqT gtp (SqT.of upd_same)
        have htu : SqT K (upd (upd (upd H7 c (.lst ((os.take d.toNat).map V.str))) t (.tup ((os.take d.toNat).map V.str))) tp (.tup [.str nm, .ref t])) tp [.str nm, .ref t] := SqT.of upd_same
        generalize upd (upd (upd H7 c (.lst ((os.take d.toNat).map V.str))) t (.tup ((os.take d.toNat).map V.str))) tp (.tup [.str nm, .ref t]) = H8 at g8 htt htu
        have hO8 := g8 _ _ (g7 _ _ nO1 nO2 (g6 _ _ nO1 nO2 hO5))
        have hL8 := g8 _ _ (g7 _ _ nL1 nL2 (g6 _ _ nL1 nL2 hL5))
        have hp8 := g8 _ _ (g7 _ _ nq1 nq2 (g6 _ _ nq1 nq2 hp5))
        have nOp : O ≠ p2 := ne_of_none hO4 hp2
        refine ⟨O, us, .ref tp, rfl, rfl, hO8, small1000 (by omega), ?_⟩
        refine ⟨us ++ [.ref tp], ps ++ [(nm, os.take d.toNat)], b5 + ls.length + 1, _, rfl, upd_same, by rw [List.length_append, hlen] <;> rfl, ?_, ?_, by rw [upd_ne nOL.symm]; exact hL8, by rw [upd_ne nOp.symm]; exact hp8, by omega, by omega, (hs7.same g8).upd nO1 nO2, ?_⟩
        · have tk := (TK.sx hs5 (g6.trans (g7.trans (.of g8)))).trans (TK.lst (K := K) (ys := us ++ [.ref tp]) hO8)
          exact (hps.tk tk).app (.cons ⟨tp, t, rfl, TK.lst hO8 _ _ htu, TK.lst hO8 _ _ htt⟩ .nil)
        · intro p hp
          rcases List.mem_append.mp hp with hp | hp
          · exact hok p hp
          · cases List.mem_singleton.mp hp
            exact ⟨List.Nodup.sublist (List.take_sublist _ _) (perm.nodup_iff.mpr nd), by show (os.take d.toNat).length ≤ 3; rw [List.length_take]; omega⟩
        · exact (gx5.trans (g6.trans (g7.trans (.of g8)))).upd_out outO
    · rintro σ' H5 ⟨us, ps, b5, u, rfl, hO5, hlen, hps, hok, hL5, hp5, hb6, hb7, hs5, gx5⟩
      have e2 : ((ns'.take 2).map V.str).length = 2 := by rw [List.length_map, List.length_take]; omega
      rw [e2] at hlen hb7
      exact ⟨_, rfl, k O us ps b5 H5 hlen hps hok hb6 (by omega) hs5 gx5 hO5 outO⟩
end
end Lw
namespace Lw
open PySem L2 OwB TL
abbrev sLacc : Stmt := topS 42
abbrev sPair : Stmt := topS 43
abbrev sBes : Stmt := topS 46
abbrev sBeh : Stmt := topS 47
/-- a method of the class at C, by its promise -/
structure Mb (P : Program) (w : World) (K : PySem.W.Frag) (mg : Str → Option Value) (base : Heap) (C : Addr) (x : Str) (ps : List Str) (sp : Sp) : Prop where
  ex : ∃ (g : Addr) (gd : FuncData), OpD K C g x ∧ FnOk P w K mg base CX0 7 g gd ps sp ∧ Binds K gd ps []
structure Fb (P : Program) (w : World) (K : PySem.W.Frag) (mg : Str → Option Value) (base : Heap) (x : Str) (ps : List Str) (sp : Sp) : Prop where
  ex : ∃ (g : Addr) (gd : FuncData), FnOk P w K mg base CX0 7 g gd ps sp ∧ Binds K gd ps [] ∧ PySem.W.keepIn K (.ref g) = true ∧ mg x = some (.ref g)
/-- the operators of Expression, and the functions -/
structure Opx (P : Program) (w : World) (K : PySem.W.Frag) (mg : Str → Option Value) (base : Heap) (C : Addr) : Prop where
  sf : PySem.W.selfFirst K C = true
  sI : PySem.W.subIn K (.ref C) (.type "int") = some false
  r_floordiv : PySem.W.findIn K (.ref C) "__rfloordiv__" = some none
  r_pow : PySem.W.findIn K (.ref C) "__rpow__" = some none
  r_lshift : PySem.W.findIn K (.ref C) "__rlshift__" = some none
  r_rshift : PySem.W.findIn K (.ref C) "__rrshift__" = some none
  add_ : Mb P w K mg base C "__add__" ["self", "other"] (spJ2 K C "plus")
  radd_ : Mb P w K mg base C "__radd__" ["self", "other"] (spJ2r K C "plus")
  sub_ : Mb P w K mg base C "__sub__" ["self", "other"] (spJ2 K C "minus")
  rsub_ : Mb P w K mg base C "__rsub__" ["self", "other"] (spJ2r K C "minus")
  mul_ : Mb P w K mg base C "__mul__" ["self", "other"] (spJ2 K C "times")
  rmul_ : Mb P w K mg base C "__rmul__" ["self", "other"] (spJ2r K C "times")
  and_ : Mb P w K mg base C "__and__" ["self", "other"] (spJ2 K C "both")
  rand_ : Mb P w K mg base C "__rand__" ["self", "other"] (spJ2r K C "both")
  or_ : Mb P w K mg base C "__or__" ["self", "other"] (spJ2 K C "either")
  ror_ : Mb P w K mg base C "__ror__" ["self", "other"] (spJ2r K C "either")
  xor_ : Mb P w K mg base C "__xor__" ["self", "other"] (spJ2 K C "unlike")
  rxor_ : Mb P w K mg base C "__rxor__" ["self", "other"] (spJ2r K C "unlike")
  floordiv_ : Mb P w K mg base C "__floordiv__" ["self", "other"] (spN2 K C "quotient")
  pow_ : Mb P w K mg base C "__pow__" ["self", "other"] (spN2 K C "power")
  lshift_ : Mb P w K mg base C "__lshift__" ["self", "other"] (spN2 K C "left")
  rshift_ : Mb P w K mg base C "__rshift__" ["self", "other"] (spN2 K C "right")
  neg_ : Mb P w K mg base C "__neg__" ["self"] (spU1 K C "negative")
  invert_ : Mb P w K mg base C "__invert__" ["self"] (spU1 K C "inverse")
  abs_ : Mb P w K mg base C "__abs__" ["self"] (spU1 K C "absolute")
  pos_ : Mb P w K mg base C "__pos__" ["self"] (spOpd K C)
  greater_ : Fb P w K mg base "greater" ["x", "y"] (spJ2 K C "greater")
  lesser_ : Fb P w K mg base "lesser" ["x", "y"] (spJ2 K C "lesser")
  below_ : Fb P w K mg base "below" ["x", "y"] (spJ2 K C "below")
  at_most_ : Fb P w K mg base "at_most" ["x", "y"] (spJ2 K C "at_most")
  equal_ : Fb P w K mg base "equal" ["x", "y"] (spJ2 K C "equal")
  unequal_ : Fb P w K mg base "unequal" ["x", "y"] (spJ2 K C "unequal")
theorem fsub (K : PySem.W.Frag) (C : Addr) : PySem.W.subIn K (.type "int") (.ref C) = some false := by kernel_rfl
theorem fi_add (K : PySem.W.Frag) : PySem.W.findIn K (.type "int") (PySem.dunder "add") = some (some (.builtin "int.__add__")) := by kernel_rfl
theorem fr_add (K : PySem.W.Frag) : PySem.W.findIn K (.type "int") (PySem.dunderR "add") = some (some (.builtin "int.__radd__")) := by kernel_rfl
theorem fi_sub (K : PySem.W.Frag) : PySem.W.findIn K (.type "int") (PySem.dunder "sub") = some (some (.builtin "int.__sub__")) := by kernel_rfl
theorem fr_sub (K : PySem.W.Frag) : PySem.W.findIn K (.type "int") (PySem.dunderR "sub") = some (some (.builtin "int.__rsub__")) := by kernel_rfl
theorem fi_mul (K : PySem.W.Frag) : PySem.W.findIn K (.type "int") (PySem.dunder "mul") = some (some (.builtin "int.__mul__")) := by kernel_rfl
theorem fr_mul (K : PySem.W.Frag) : PySem.W.findIn K (.type "int") (PySem.dunderR "mul") = some (some (.builtin "int.__rmul__")) := by kernel_rfl
theorem fi_and (K : PySem.W.Frag) : PySem.W.findIn K (.type "int") (PySem.dunder "and") = some (some (.builtin "int.__and__")) := by kernel_rfl
theorem fr_and (K : PySem.W.Frag) : PySem.W.findIn K (.type "int") (PySem.dunderR "and") = some (some (.builtin "int.__rand__")) := by kernel_rfl
theorem fi_or (K : PySem.W.Frag) : PySem.W.findIn K (.type "int") (PySem.dunder "or") = some (some (.builtin "int.__or__")) := by kernel_rfl
theorem fr_or (K : PySem.W.Frag) : PySem.W.findIn K (.type "int") (PySem.dunderR "or") = some (some (.builtin "int.__ror__")) := by kernel_rfl
theorem fi_xor (K : PySem.W.Frag) : PySem.W.findIn K (.type "int") (PySem.dunder "xor") = some (some (.builtin "int.__xor__")) := by kernel_rfl
theorem fr_xor (K : PySem.W.Frag) : PySem.W.findIn K (.type "int") (PySem.dunderR "xor") = some (some (.builtin "int.__rxor__")) := by kernel_rfl
theorem fi_floordiv (K : PySem.W.Frag) : PySem.W.findIn K (.type "int") (PySem.dunder "floordiv") = some (some (.builtin "int.__floordiv__")) := by kernel_rfl
theorem fr_floordiv (K : PySem.W.Frag) : PySem.W.findIn K (.type "int") (PySem.dunderR "floordiv") = some (some (.builtin "int.__rfloordiv__")) := by kernel_rfl
theorem fi_pow (K : PySem.W.Frag) : PySem.W.findIn K (.type "int") (PySem.dunder "pow") = some (some (.builtin "int.__pow__")) := by kernel_rfl
theorem fr_pow (K : PySem.W.Frag) : PySem.W.findIn K (.type "int") (PySem.dunderR "pow") = some (some (.builtin "int.__rpow__")) := by kernel_rfl
theorem fi_lshift (K : PySem.W.Frag) : PySem.W.findIn K (.type "int") (PySem.dunder "lshift") = some (some (.builtin "int.__lshift__")) := by kernel_rfl
theorem fr_lshift (K : PySem.W.Frag) : PySem.W.findIn K (.type "int") (PySem.dunderR "lshift") = some (some (.builtin "int.__rlshift__")) := by kernel_rfl
theorem fi_rshift (K : PySem.W.Frag) : PySem.W.findIn K (.type "int") (PySem.dunder "rshift") = some (some (.builtin "int.__rshift__")) := by kernel_rfl
theorem fr_rshift (K : PySem.W.Frag) : PySem.W.findIn K (.type "int") (PySem.dunderR "rshift") = some (some (.builtin "int.__rrshift__")) := by kernel_rfl
theorem dec_str {a b : Str} : decide (V.str a = V.str b) = decide (a = b) := by
  by_cases h : a = b
  · subst h
    rw [decide_eq_true rfl, decide_eq_true rfl]
  · rw [decide_eq_false h, decide_eq_false fun e => h (V.str.inj e)]
theorem rd_eqS {σ : St} {H : Hp} {Q : Bool → Hp → Prop} {i : Nat} {k a : Str} (e : σ[i]? = some (some (.str k))) (h : Q (decide (k = a)) H) : tTest (tOp rEq (tVar i) (tC (.str a))) σ H Q := by
  refine ⟨_, e, rfl, _, rfl, ?_⟩
  rw [dec_str]
  exact h
theorem rd_inS {K : PySem.W.Frag} {σ : St} {H : Hp} {Q : Bool → Hp → Prop} {k : Str} (as : List Str) {t : TA} (ht : ∀ R : List V → Hp → Prop, R (as.map V.str) H → t σ H R) (hl : as.length ≤ 100) {i : Nat} (e : σ[i]? = some (some (.str k))) (h : ∀ H' : Hp, Same H H' → Q (decide (k ∈ as)) H') :
    tTest (tOp (rIn K false) (tVar i) (tTup t)) σ H Q := by
  refine ⟨_, e, ht _ ⟨by rw [List.length_map]; exact Nat.le_trans hl (by decide), fun p hp => ⟨p, _, rfl, .inr (SqT.of upd_same), rfl, flat_strs' as, _, rfl, ?_⟩⟩⟩
  rw [if_neg Bool.false_ne_true, in_strs]
  exact h _ (same_new hp _)
theorem ExAt.inst {K : PySem.W.Frag} {C : Addr} {H : Hp} {e : Ex} {p : Addr} (h : ExAt K C H e p) : ∃ dx fs, H p = some (.ins C dx fs) := by
  obtain ⟨_, dx, _, _, _, _, _, hp, _⟩ := h.hd
  exact ⟨dx, _, hp⟩
/-- the kinds of two operands -/
def PairK (k : Str) : Prop := k ∈ (["plus", "minus", "times", "both", "either", "unlike", "greater", "lesser", "below", "at_most", "equal", "unequal"] : List Str)
theorem PairK.ok {k : Str} (h : PairK k) : okK k := by
  unfold PairK at h
  simp only [List.mem_cons, List.not_mem_nil, or_false] at h
  rcases h with rfl | rfl | rfl | rfl | rfl | rfl | rfl | rfl | rfl | rfl | rfl | rfl <;> exact ⟨kne _ _, kne _ _, kne _ _, kne _ _⟩
section
variable {P : Program} {w : World} {K : PySem.W.Frag} {mg : Str → Option Value} {base : Heap} {f g C fI : Addr} {fd gd dI : FuncData}
def spLacc (K : PySem.W.Frag) (C : Addr) : Sp := fun vs H Q _ => ∃ (nm : Str) (ls : List Str) (t : Addr), vs = [.str nm, .ref t] ∧ SqT K H t (ls.map V.str) ∧ ls.length ≤ 3 ∧ ls.Nodup ∧ ∀ (p : Addr) (H' : Hp), Same H H' → ExAt K C H' (.acc nm ls) p → Q (.ref p) H'
theorem scLacc : FnScope ["_law_name_here", "_law_letters_here"] ["_law_name_here", "_law_letters_here"] (defScope sLacc) := ⟨rfl, rfl, rfl, by decide +kernel, rfl, by decide +kernel, by decide +kernel⟩
theorem ok_lacc (F : Fun K "_law_access" "_law_access" sLacc f fd) (B : Bt mg) (G : FnR P w K mg base CX0 4 g (spAcc K C)) (kG : PySem.W.keepIn K (.ref g) = true) (mG : mg "access" = some (.ref g)) : FnOk P w K mg base CX0 5 f fd ["_law_name_here", "_law_letters_here"] (spLacc K C) := by
  refine F.ok scLacc (fun vs H Q E h => ?_) (fun cdv A outer s H vs Q E hr h => ?_)
  · obtain ⟨nm, ls, t, rfl, _⟩ := h
    rfl
  obtain ⟨nm, ls, t, rfl, ht, hl, nd, k⟩ := h
  refine ⟨_, pss_cons (ps_if (pt_cmpR op_eq (pe_callB call_len_seq (by rfl) B.len PySem.boot_len (pa_cons (pv 1) pa_nil)) pe_int (nomark _)) (pss_one (ps_ret (pe_callR G hr rfl mG kG pass0 (pa_cons (pv 0) pa_nil)))) pss_nil)
    (pss_cons (ps_if (pt_cmpR op_eq (pe_callB call_len_seq (by rfl) B.len PySem.boot_len (pa_cons (pv 1) pa_nil)) pe_int (nomark _)) (pss_one (ps_ret (pe_callR G hr rfl mG kG pass0 (pa_cons (pv 0) (pa_cons (pe_ix ix_tup (pv 1) pe_int (fun _ _ => rfl)) pa_nil))))) pss_nil)
    (pss_cons (ps_if (pt_cmpR op_eq (pe_callB call_len_seq (by rfl) B.len PySem.boot_len (pa_cons (pv 1) pa_nil)) pe_int (nomark _)) (pss_one (ps_ret (pe_callR G hr rfl mG kG pass0 (pa_cons (pv 0) (pa_cons (pe_ix ix_tup (pv 1) pe_int (fun _ _ => rfl)) (pa_cons (pe_ix ix_tup (pv 1) pe_int (fun _ _ => rfl)) pa_nil)))))) pss_nil)
    (pss_one (ps_ret (pe_callR G hr rfl mG kG pass0 (pa_cons (pv 0) (pa_cons (pe_ix ix_tup (pv 1) pe_int (fun _ _ => rfl)) (pa_cons (pe_ix ix_tup (pv 1) pe_int (fun _ _ => rfl)) (pa_cons (pe_ix ix_tup (pv 1) pe_int (fun _ _ => rfl)) pa_nil))))))))), ?_⟩
  have len : ∀ (n : Nat) (R : Bool → Hp → Prop), R (decide ((ls.length : Int) = n)) H → tTest (tOp rEq (tCB (fun xs H Q => ∃ p ys, xs = [.ref p] ∧ (SqL K H p ys ∨ SqT K H p ys) ∧ Q (.int ys.length) H) (tCons (tVar 1) tNil)) (tC (.int (n : Int)))) [some (.str nm), some (.ref t)] H R := fun n R h => by
    refine ⟨_, rfl, t, _, rfl, .inr ht, rfl, _, rfl, ?_⟩
    rw [List.length_map, dec_int]
    exact h
  have at_ : ∀ (i : Nat) (z : Str) (R : V → Hp → Prop), ls[i]? = some z → R (.str z) H → tOp (rIxT K) (tVar 1) (tC (.int (i : Int))) [some (.str nm), some (.ref t)] H R := fun i z R e h => by
    refine ⟨_, rfl, t, _, (i : Int), .str z, rfl, rfl, ht, atI_nat (by rw [List.getElem?_map, e] <;> rfl), h⟩
  refine len 0 _ (ite2 (fun c => ?_) (fun c => len 1 _ (ite2 (fun c1 => ?_) (fun c1 => len 2 _ (ite2 (fun c2 => ?_) (fun c2 => ?_))))))
  · have e : ls = [] := List.length_eq_zero_iff.mp (by have := of_decide_eq_true c; omega)
    subst e
    exact ⟨_, rfl, nm, [], rfl, by decide, nd, k⟩
  · have e1 : ls.length = 1 := by have := of_decide_eq_true c1; omega
    obtain ⟨a, rfl⟩ := List.length_eq_one_iff.mp e1
    refine ⟨_, rfl, at_ 0 a _ rfl ⟨nm, [a], rfl, (by show 1 ≤ 20; decide), nd, k⟩⟩
  · have e1 : ls.length = 2 := by have := of_decide_eq_true c2; omega
    match ls, e1, ht, at_, nd, k with
    | [a, b], _, ht, at_, nd, k => exact ⟨_, rfl, at_ 0 a _ rfl (at_ 1 b _ rfl ⟨nm, [a, b], rfl, (by show 2 ≤ 20; decide), nd, k⟩)⟩
  · have e1 : ls.length = 3 := by
      have h0 : ¬ (ls.length : Int) = 0 := fun e => c (decide_eq_true e)
      have h1 : ¬ (ls.length : Int) = 1 := fun e => c1 (decide_eq_true e)
      have h2 : ¬ (ls.length : Int) = 2 := fun e => c2 (decide_eq_true e)
      omega
    match ls, e1, ht, at_, nd, k with
    | [a, b, d], _, ht, at_, nd, k => exact ⟨_, rfl, at_ 0 a _ rfl (at_ 1 b _ rfl (at_ 2 d _ rfl ⟨nm, [a, b, d], rfl, (by show 3 ≤ 20; decide), nd, k⟩))⟩
def sppairB (K : PySem.W.Frag) (C : Addr) : Sp := fun vs H Q _ => ∃ (k : Str) (v u : V) (x y : Ex), vs = [.str k, v, u] ∧ PairK k ∧ (∃ p r, v = .ref p ∧ u = .ref r ∧ ExAt K C H x p ∧ ExAt K C H y r) ∧ Sm0 x ∧ Sm0 y ∧ ∀ (p : Addr) (H' : Hp), Same H H' → ExAt K C H' (.bi k x y) p → Q (.ref p) H'
theorem scpairB : FnScope ["_law_kind", "_law_x", "_law_y"] ["_law_kind", "_law_x", "_law_y"] (defScope sPair) := ⟨rfl, rfl, rfl, by decide +kernel, rfl, by decide +kernel, by decide +kernel⟩
theorem ok_pairB (F : Fun K "_law_pair_built" "_law_pair_built" sPair f fd) (M : Opx P w K mg base C) : FnOk P w K mg base CX0 8 f fd ["_law_kind", "_law_x", "_law_y"] (sppairB K C) := by
  refine F.ok scpairB (fun vs H Q E h => ?_) (fun cdv A outer s H vs Q E hr h => ?_)
  · obtain ⟨k, v, u, x, y, rfl, _⟩ := h
    rfl
  obtain ⟨g_add, d_add, D_add, F_add, b_add⟩ := M.add_.ex
  obtain ⟨h_add, e_add, R_add, S_add, c_add⟩ := M.radd_.ex
  obtain ⟨g_sub, d_sub, D_sub, F_sub, b_sub⟩ := M.sub_.ex
  obtain ⟨h_sub, e_sub, R_sub, S_sub, c_sub⟩ := M.rsub_.ex
  obtain ⟨g_mul, d_mul, D_mul, F_mul, b_mul⟩ := M.mul_.ex
  obtain ⟨h_mul, e_mul, R_mul, S_mul, c_mul⟩ := M.rmul_.ex
  obtain ⟨g_and, d_and, D_and, F_and, b_and⟩ := M.and_.ex
  obtain ⟨h_and, e_and, R_and, S_and, c_and⟩ := M.rand_.ex
  obtain ⟨g_or, d_or, D_or, F_or, b_or⟩ := M.or_.ex
  obtain ⟨h_or, e_or, R_or, S_or, c_or⟩ := M.ror_.ex
  obtain ⟨g_xor, d_xor, D_xor, F_xor, b_xor⟩ := M.xor_.ex
  obtain ⟨h_xor, e_xor, R_xor, S_xor, c_xor⟩ := M.rxor_.ex
  obtain ⟨g_greater, d_greater, F_greater, b_greater, k_greater, m_greater⟩ := M.greater_.ex
  obtain ⟨g_lesser, d_lesser, F_lesser, b_lesser, k_lesser, m_lesser⟩ := M.lesser_.ex
  obtain ⟨g_below, d_below, F_below, b_below, k_below, m_below⟩ := M.below_.ex
  obtain ⟨g_at_most, d_at_most, F_at_most, b_at_most, k_at_most, m_at_most⟩ := M.at_most_.ex
  obtain ⟨g_equal, d_equal, F_equal, b_equal, k_equal, m_equal⟩ := M.equal_.ex
  obtain ⟨g_unequal, d_unequal, F_unequal, b_unequal, k_unequal, m_unequal⟩ := M.unequal_.ex
  obtain ⟨k, v, u, x, y, rfl, hk, hv, sx, sy, q⟩ := h
  obtain ⟨p, r, rfl, rfl, hx, hy⟩ := hv
  refine ⟨_, pss_cons (ps_if (pt_cmpR op_in_seq (pv 0) (pe_tup (pa_cons pe_str (pa_cons pe_str (pa_cons pe_str pa_nil)))) (by rfl)) (pss_one (ps_ret (pe_ifExp (pt_cmpR op_eq (pv 0) pe_str (nomark _)) (pe_op (op_ownB (op := .Add) M.sf D_add F_add hr b_add pass0) (pv 1) (pv 2)) (pe_ifExp (pt_cmpR op_eq (pv 0) pe_str (nomark _)) (pe_op (op_ownB (op := .Sub) M.sf D_sub F_sub hr b_sub pass0) (pv 1) (pv 2)) (pe_op (op_ownB (op := .Mult) M.sf D_mul F_mul hr b_mul pass0) (pv 1) (pv 2)))))) pss_nil)
    (pss_cons (ps_if (pt_cmpR op_in_seq (pv 0) (pe_tup (pa_cons pe_str (pa_cons pe_str (pa_cons pe_str pa_nil)))) (by rfl)) (pss_one (ps_ret (pe_ifExp (pt_cmpR op_eq (pv 0) pe_str (nomark _)) (pe_op (op_ownB (op := .BitAnd) M.sf D_and F_and hr b_and pass0) (pv 1) (pv 2)) (pe_ifExp (pt_cmpR op_eq (pv 0) pe_str (nomark _)) (pe_op (op_ownB (op := .BitOr) M.sf D_or F_or hr b_or pass0) (pv 1) (pv 2)) (pe_op (op_ownB (op := .BitXor) M.sf D_xor F_xor hr b_xor pass0) (pv 1) (pv 2)))))) pss_nil)
    (pss_cons (ps_if (pt_cmpR op_in_seq (pv 0) (pe_tup (pa_cons pe_str (pa_cons pe_str pa_nil))) (by rfl)) (pss_one (ps_ret (pe_ifExp (pt_cmpR op_eq (pv 0) pe_str (nomark _)) (pe_call F_greater hr rfl m_greater k_greater b_greater .nil pass0 (pa_cons (pv 1) (pa_cons (pv 2) pa_nil))) (pe_call F_lesser hr rfl m_lesser k_lesser b_lesser .nil pass0 (pa_cons (pv 1) (pa_cons (pv 2) pa_nil)))))) pss_nil)
    (pss_cons (ps_if (pt_cmpR op_in_seq (pv 0) (pe_tup (pa_cons pe_str (pa_cons pe_str pa_nil))) (by rfl)) (pss_one (ps_ret (pe_ifExp (pt_cmpR op_eq (pv 0) pe_str (nomark _)) (pe_call F_below hr rfl m_below k_below b_below .nil pass0 (pa_cons (pv 1) (pa_cons (pv 2) pa_nil))) (pe_call F_at_most hr rfl m_at_most k_at_most b_at_most .nil pass0 (pa_cons (pv 1) (pa_cons (pv 2) pa_nil)))))) pss_nil)
    (pss_one (ps_ret (pe_ifExp (pt_cmpR op_eq (pv 0) pe_str (nomark _)) (pe_call F_equal hr rfl m_equal k_equal b_equal .nil pass0 (pa_cons (pv 1) (pa_cons (pv 2) pa_nil))) (pe_call F_unequal hr rfl m_unequal k_unequal b_unequal .nil pass0 (pa_cons (pv 1) (pa_cons (pv 2) pa_nil))))))))), ?_⟩
  refine rd_inS ["plus", "minus", "times"] (fun R h => h) (by decide) rfl fun H1 g => ite2 (fun c => ?_) (fun ca => ?_)
  · have g := g
    refine rd_eqS rfl (ite2 (fun c1 => ?_) (fun c1 => rd_eqS rfl (ite2 (fun c2 => ?_) (fun c2 => ?_))))
    · have e := of_decide_eq_true c1
      subst e
      obtain ⟨dx, fs, hp⟩ := (hx.same g).inst
      obtain ⟨dy, gs, hr'⟩ := (hy.same g).inst
      exact ⟨_, rfl, _, rfl, p, r, dx, dy, fs, gs, rfl, rfl, hp, hr', _, _, rfl, _, _, _, _, _, rfl, hk.ok, .inr ⟨p, rfl, hx.same g⟩, .inr ⟨r, rfl, hy.same g⟩, sx, sy, fun p' H2 g2 h => q p' H2 (g.trans g2) h⟩
    · have e := of_decide_eq_true c2
      subst e
      obtain ⟨dx, fs, hp⟩ := (hx.same g).inst
      obtain ⟨dy, gs, hr'⟩ := (hy.same g).inst
      exact ⟨_, rfl, _, rfl, p, r, dx, dy, fs, gs, rfl, rfl, hp, hr', _, _, rfl, _, _, _, _, _, rfl, hk.ok, .inr ⟨p, rfl, hx.same g⟩, .inr ⟨r, rfl, hy.same g⟩, sx, sy, fun p' H2 g2 h => q p' H2 (g.trans g2) h⟩
    · have e : k = "times" := by
        have n1 : ¬ k = "plus" := fun e => c1 (decide_eq_true e)
        have n2 : ¬ k = "minus" := fun e => c2 (decide_eq_true e)
        have z := of_decide_eq_true c
        simp only [List.mem_cons, List.not_mem_nil, or_false] at z
        rcases z with z | z | z
        · exact absurd z n1
        · exact absurd z n2
        · exact z
      subst e
      obtain ⟨dx, fs, hp⟩ := (hx.same g).inst
      obtain ⟨dy, gs, hr'⟩ := (hy.same g).inst
      exact ⟨_, rfl, _, rfl, p, r, dx, dy, fs, gs, rfl, rfl, hp, hr', _, _, rfl, _, _, _, _, _, rfl, hk.ok, .inr ⟨p, rfl, hx.same g⟩, .inr ⟨r, rfl, hy.same g⟩, sx, sy, fun p' H2 g2 h => q p' H2 (g.trans g2) h⟩
  refine rd_inS ["both", "either", "unlike"] (fun R h => h) (by decide) rfl fun H1a ga => ite2 (fun c => ?_) (fun cb => ?_)
  · have g := g.trans ga
    refine rd_eqS rfl (ite2 (fun c1 => ?_) (fun c1 => rd_eqS rfl (ite2 (fun c2 => ?_) (fun c2 => ?_))))
    · have e := of_decide_eq_true c1
      subst e
      obtain ⟨dx, fs, hp⟩ := (hx.same g).inst
      obtain ⟨dy, gs, hr'⟩ := (hy.same g).inst
      exact ⟨_, rfl, _, rfl, p, r, dx, dy, fs, gs, rfl, rfl, hp, hr', _, _, rfl, _, _, _, _, _, rfl, hk.ok, .inr ⟨p, rfl, hx.same g⟩, .inr ⟨r, rfl, hy.same g⟩, sx, sy, fun p' H2 g2 h => q p' H2 (g.trans g2) h⟩
    · have e := of_decide_eq_true c2
      subst e
      obtain ⟨dx, fs, hp⟩ := (hx.same g).inst
      obtain ⟨dy, gs, hr'⟩ := (hy.same g).inst
      exact ⟨_, rfl, _, rfl, p, r, dx, dy, fs, gs, rfl, rfl, hp, hr', _, _, rfl, _, _, _, _, _, rfl, hk.ok, .inr ⟨p, rfl, hx.same g⟩, .inr ⟨r, rfl, hy.same g⟩, sx, sy, fun p' H2 g2 h => q p' H2 (g.trans g2) h⟩
    · have e : k = "unlike" := by
        have n1 : ¬ k = "both" := fun e => c1 (decide_eq_true e)
        have n2 : ¬ k = "either" := fun e => c2 (decide_eq_true e)
        have z := of_decide_eq_true c
        simp only [List.mem_cons, List.not_mem_nil, or_false] at z
        rcases z with z | z | z
        · exact absurd z n1
        · exact absurd z n2
        · exact z
      subst e
      obtain ⟨dx, fs, hp⟩ := (hx.same g).inst
      obtain ⟨dy, gs, hr'⟩ := (hy.same g).inst
      exact ⟨_, rfl, _, rfl, p, r, dx, dy, fs, gs, rfl, rfl, hp, hr', _, _, rfl, _, _, _, _, _, rfl, hk.ok, .inr ⟨p, rfl, hx.same g⟩, .inr ⟨r, rfl, hy.same g⟩, sx, sy, fun p' H2 g2 h => q p' H2 (g.trans g2) h⟩
  refine rd_inS ["greater", "lesser"] (fun R h => h) (by decide) rfl fun H1b gb => ite2 (fun c => ?_) (fun cc => ?_)
  · have g := (g.trans ga).trans gb
    refine rd_eqS rfl (ite2 (fun c1 => ?_) (fun c1 => ?_))
    · have e := of_decide_eq_true c1
      subst e
      exact ⟨_, rfl, _, rfl, _, _, rfl, _, _, _, _, _, rfl, hk.ok, .inr ⟨p, rfl, hx.same g⟩, .inr ⟨r, rfl, hy.same g⟩, sx, sy, fun p' H2 g2 h => q p' H2 (g.trans g2) h⟩
    · have e : k = "lesser" := by
        have n1 : ¬ k = "greater" := fun e => c1 (decide_eq_true e)
        have z := of_decide_eq_true c
        simp only [List.mem_cons, List.not_mem_nil, or_false] at z
        rcases z with z | z
        · exact absurd z n1
        · exact z
      subst e
      exact ⟨_, rfl, _, rfl, _, _, rfl, _, _, _, _, _, rfl, hk.ok, .inr ⟨p, rfl, hx.same g⟩, .inr ⟨r, rfl, hy.same g⟩, sx, sy, fun p' H2 g2 h => q p' H2 (g.trans g2) h⟩
  refine rd_inS ["below", "at_most"] (fun R h => h) (by decide) rfl fun H1c gc => ite2 (fun c => ?_) (fun cd => ?_)
  · have g := ((g.trans ga).trans gb).trans gc
    refine rd_eqS rfl (ite2 (fun c1 => ?_) (fun c1 => ?_))
    · have e := of_decide_eq_true c1
      subst e
      exact ⟨_, rfl, _, rfl, _, _, rfl, _, _, _, _, _, rfl, hk.ok, .inr ⟨p, rfl, hx.same g⟩, .inr ⟨r, rfl, hy.same g⟩, sx, sy, fun p' H2 g2 h => q p' H2 (g.trans g2) h⟩
    · have e : k = "at_most" := by
        have n1 : ¬ k = "below" := fun e => c1 (decide_eq_true e)
        have z := of_decide_eq_true c
        simp only [List.mem_cons, List.not_mem_nil, or_false] at z
        rcases z with z | z
        · exact absurd z n1
        · exact z
      subst e
      exact ⟨_, rfl, _, rfl, _, _, rfl, _, _, _, _, _, rfl, hk.ok, .inr ⟨p, rfl, hx.same g⟩, .inr ⟨r, rfl, hy.same g⟩, sx, sy, fun p' H2 g2 h => q p' H2 (g.trans g2) h⟩
  · have g := ((g.trans ga).trans gb).trans gc
    refine rd_eqS rfl (ite2 (fun c1 => ?_) (fun c1 => ?_))
    · have e := of_decide_eq_true c1
      subst e
      exact ⟨_, rfl, _, rfl, _, _, rfl, _, _, _, _, _, rfl, hk.ok, .inr ⟨p, rfl, hx.same g⟩, .inr ⟨r, rfl, hy.same g⟩, sx, sy, fun p' H2 g2 h => q p' H2 (g.trans g2) h⟩
    · have e : k = "unequal" := by
        have n1 : ¬ k = "equal" := fun e => c1 (decide_eq_true e)
        unfold PairK at hk
        simp only [List.mem_cons, List.not_mem_nil, or_false] at hk
        have m1 := of_decide_eq_false (Bool.eq_false_iff.mpr ca)
        have m2 := of_decide_eq_false (Bool.eq_false_iff.mpr cb)
        have m3 := of_decide_eq_false (Bool.eq_false_iff.mpr cc)
        have m4 := of_decide_eq_false (Bool.eq_false_iff.mpr cd)
        simp only [List.mem_cons, List.not_mem_nil, or_false, not_or] at m1 m2 m3 m4
        rcases hk with z | z | z | z | z | z | z | z | z | z | z | z
        · exact absurd z m1.1
        · exact absurd z m1.2.1
        · exact absurd z m1.2.2
        · exact absurd z m2.1
        · exact absurd z m2.2.1
        · exact absurd z m2.2.2
        · exact absurd z m3.1
        · exact absurd z m3.2
        · exact absurd z m4.1
        · exact absurd z m4.2
        · exact absurd z n1
        · exact z
      subst e
      exact ⟨_, rfl, _, rfl, _, _, rfl, _, _, _, _, _, rfl, hk.ok, .inr ⟨p, rfl, hx.same g⟩, .inr ⟨r, rfl, hy.same g⟩, sx, sy, fun p' H2 g2 h => q p' H2 (g.trans g2) h⟩
end
end Lw
namespace Lw
open PySem L2 OwB TL
section
variable {P : Program} {w : World} {K : PySem.W.Frag} {mg : Str → Option Value} {base : Heap} {f g C fI : Addr} {fd gd dI : FuncData}
def spbesB (K : PySem.W.Frag) (C : Addr) : Sp := fun vs H Q _ => ∃ (k : Str) (v u : V) (x y : Ex), vs = [.str k, v, u] ∧ PairK k ∧ (∃ p i, v = .ref p ∧ u = .int i ∧ ExAt K C H x p ∧ y = .num i) ∧ Sm0 x ∧ Sm0 y ∧ ∀ (p : Addr) (H' : Hp), Same H H' → ExAt K C H' (.bi k x y) p → Q (.ref p) H'
theorem scbesB : FnScope ["_law_kind", "_law_x", "_law_n"] ["_law_kind", "_law_x", "_law_n"] (defScope sBes) := ⟨rfl, rfl, rfl, by decide +kernel, rfl, by decide +kernel, by decide +kernel⟩
theorem ok_besB (F : Fun K "_law_beside" "_law_beside" sBes f fd) (M : Opx P w K mg base C) : FnOk P w K mg base CX0 8 f fd ["_law_kind", "_law_x", "_law_n"] (spbesB K C) := by
  refine F.ok scbesB (fun vs H Q E h => ?_) (fun cdv A outer s H vs Q E hr h => ?_)
  · obtain ⟨k, v, u, x, y, rfl, _⟩ := h
    rfl
  obtain ⟨g_add, d_add, D_add, F_add, b_add⟩ := M.add_.ex
  obtain ⟨h_add, e_add, R_add, S_add, c_add⟩ := M.radd_.ex
  obtain ⟨g_sub, d_sub, D_sub, F_sub, b_sub⟩ := M.sub_.ex
  obtain ⟨h_sub, e_sub, R_sub, S_sub, c_sub⟩ := M.rsub_.ex
  obtain ⟨g_mul, d_mul, D_mul, F_mul, b_mul⟩ := M.mul_.ex
  obtain ⟨h_mul, e_mul, R_mul, S_mul, c_mul⟩ := M.rmul_.ex
  obtain ⟨g_and, d_and, D_and, F_and, b_and⟩ := M.and_.ex
  obtain ⟨h_and, e_and, R_and, S_and, c_and⟩ := M.rand_.ex
  obtain ⟨g_or, d_or, D_or, F_or, b_or⟩ := M.or_.ex
  obtain ⟨h_or, e_or, R_or, S_or, c_or⟩ := M.ror_.ex
  obtain ⟨g_xor, d_xor, D_xor, F_xor, b_xor⟩ := M.xor_.ex
  obtain ⟨h_xor, e_xor, R_xor, S_xor, c_xor⟩ := M.rxor_.ex
  obtain ⟨g_greater, d_greater, F_greater, b_greater, k_greater, m_greater⟩ := M.greater_.ex
  obtain ⟨g_lesser, d_lesser, F_lesser, b_lesser, k_lesser, m_lesser⟩ := M.lesser_.ex
  obtain ⟨g_below, d_below, F_below, b_below, k_below, m_below⟩ := M.below_.ex
  obtain ⟨g_at_most, d_at_most, F_at_most, b_at_most, k_at_most, m_at_most⟩ := M.at_most_.ex
  obtain ⟨g_equal, d_equal, F_equal, b_equal, k_equal, m_equal⟩ := M.equal_.ex
  obtain ⟨g_unequal, d_unequal, F_unequal, b_unequal, k_unequal, m_unequal⟩ := M.unequal_.ex
  obtain ⟨k, v, u, x, y, rfl, hk, hv, sx, sy, q⟩ := h
  obtain ⟨p, i, rfl, rfl, hx, rfl⟩ := hv
  refine ⟨_, pss_cons (ps_if (pt_cmpR op_in_seq (pv 0) (pe_tup (pa_cons pe_str (pa_cons pe_str (pa_cons pe_str pa_nil)))) (by rfl)) (pss_one (ps_ret (pe_ifExp (pt_cmpR op_eq (pv 0) pe_str (nomark _)) (pe_op (op_ownN (op := .Add) M.sf D_add R_add.at_ (.inr ⟨_, rfl⟩) (fi_add K) (fr_add K) (fsub K C) F_add hr b_add pass0) (pv 1) (pv 2)) (pe_ifExp (pt_cmpR op_eq (pv 0) pe_str (nomark _)) (pe_op (op_ownN (op := .Sub) M.sf D_sub R_sub.at_ (.inr ⟨_, rfl⟩) (fi_sub K) (fr_sub K) (fsub K C) F_sub hr b_sub pass0) (pv 1) (pv 2)) (pe_op (op_ownN (op := .Mult) M.sf D_mul R_mul.at_ (.inr ⟨_, rfl⟩) (fi_mul K) (fr_mul K) (fsub K C) F_mul hr b_mul pass0) (pv 1) (pv 2)))))) pss_nil)
    (pss_cons (ps_if (pt_cmpR op_in_seq (pv 0) (pe_tup (pa_cons pe_str (pa_cons pe_str (pa_cons pe_str pa_nil)))) (by rfl)) (pss_one (ps_ret (pe_ifExp (pt_cmpR op_eq (pv 0) pe_str (nomark _)) (pe_op (op_ownN (op := .BitAnd) M.sf D_and R_and.at_ (.inr ⟨_, rfl⟩) (fi_and K) (fr_and K) (fsub K C) F_and hr b_and pass0) (pv 1) (pv 2)) (pe_ifExp (pt_cmpR op_eq (pv 0) pe_str (nomark _)) (pe_op (op_ownN (op := .BitOr) M.sf D_or R_or.at_ (.inr ⟨_, rfl⟩) (fi_or K) (fr_or K) (fsub K C) F_or hr b_or pass0) (pv 1) (pv 2)) (pe_op (op_ownN (op := .BitXor) M.sf D_xor R_xor.at_ (.inr ⟨_, rfl⟩) (fi_xor K) (fr_xor K) (fsub K C) F_xor hr b_xor pass0) (pv 1) (pv 2)))))) pss_nil)
    (pss_cons (ps_if (pt_cmpR op_in_seq (pv 0) (pe_tup (pa_cons pe_str (pa_cons pe_str pa_nil))) (by rfl)) (pss_one (ps_ret (pe_ifExp (pt_cmpR op_eq (pv 0) pe_str (nomark _)) (pe_call F_greater hr rfl m_greater k_greater b_greater .nil pass0 (pa_cons (pv 1) (pa_cons (pv 2) pa_nil))) (pe_call F_lesser hr rfl m_lesser k_lesser b_lesser .nil pass0 (pa_cons (pv 1) (pa_cons (pv 2) pa_nil)))))) pss_nil)
    (pss_cons (ps_if (pt_cmpR op_in_seq (pv 0) (pe_tup (pa_cons pe_str (pa_cons pe_str pa_nil))) (by rfl)) (pss_one (ps_ret (pe_ifExp (pt_cmpR op_eq (pv 0) pe_str (nomark _)) (pe_call F_below hr rfl m_below k_below b_below .nil pass0 (pa_cons (pv 1) (pa_cons (pv 2) pa_nil))) (pe_call F_at_most hr rfl m_at_most k_at_most b_at_most .nil pass0 (pa_cons (pv 1) (pa_cons (pv 2) pa_nil)))))) pss_nil)
    (pss_one (ps_ret (pe_ifExp (pt_cmpR op_eq (pv 0) pe_str (nomark _)) (pe_call F_equal hr rfl m_equal k_equal b_equal .nil pass0 (pa_cons (pv 1) (pa_cons (pv 2) pa_nil))) (pe_call F_unequal hr rfl m_unequal k_unequal b_unequal .nil pass0 (pa_cons (pv 1) (pa_cons (pv 2) pa_nil))))))))), ?_⟩
  refine rd_inS ["plus", "minus", "times"] (fun R h => h) (by decide) rfl fun H1 g => ite2 (fun c => ?_) (fun ca => ?_)
  · have g := g
    refine rd_eqS rfl (ite2 (fun c1 => ?_) (fun c1 => rd_eqS rfl (ite2 (fun c2 => ?_) (fun c2 => ?_))))
    · have e := of_decide_eq_true c1
      subst e
      obtain ⟨dx, fs, hp⟩ := (hx.same g).inst
      exact ⟨_, rfl, _, rfl, p, dx, fs, i, rfl, rfl, hp, _, _, rfl, _, _, _, _, _, rfl, hk.ok, .inr ⟨p, rfl, hx.same g⟩, .inl ⟨i, rfl, rfl⟩, sx, sy, fun p' H2 g2 h => q p' H2 (g.trans g2) h⟩
    · have e := of_decide_eq_true c2
      subst e
      obtain ⟨dx, fs, hp⟩ := (hx.same g).inst
      exact ⟨_, rfl, _, rfl, p, dx, fs, i, rfl, rfl, hp, _, _, rfl, _, _, _, _, _, rfl, hk.ok, .inr ⟨p, rfl, hx.same g⟩, .inl ⟨i, rfl, rfl⟩, sx, sy, fun p' H2 g2 h => q p' H2 (g.trans g2) h⟩
    · have e : k = "times" := by
        have n1 : ¬ k = "plus" := fun e => c1 (decide_eq_true e)
        have n2 : ¬ k = "minus" := fun e => c2 (decide_eq_true e)
        have z := of_decide_eq_true c
        simp only [List.mem_cons, List.not_mem_nil, or_false] at z
        rcases z with z | z | z
        · exact absurd z n1
        · exact absurd z n2
        · exact z
      subst e
      obtain ⟨dx, fs, hp⟩ := (hx.same g).inst
      exact ⟨_, rfl, _, rfl, p, dx, fs, i, rfl, rfl, hp, _, _, rfl, _, _, _, _, _, rfl, hk.ok, .inr ⟨p, rfl, hx.same g⟩, .inl ⟨i, rfl, rfl⟩, sx, sy, fun p' H2 g2 h => q p' H2 (g.trans g2) h⟩
  refine rd_inS ["both", "either", "unlike"] (fun R h => h) (by decide) rfl fun H1a ga => ite2 (fun c => ?_) (fun cb => ?_)
  · have g := g.trans ga
    refine rd_eqS rfl (ite2 (fun c1 => ?_) (fun c1 => rd_eqS rfl (ite2 (fun c2 => ?_) (fun c2 => ?_))))
    · have e := of_decide_eq_true c1
      subst e
      obtain ⟨dx, fs, hp⟩ := (hx.same g).inst
      exact ⟨_, rfl, _, rfl, p, dx, fs, i, rfl, rfl, hp, _, _, rfl, _, _, _, _, _, rfl, hk.ok, .inr ⟨p, rfl, hx.same g⟩, .inl ⟨i, rfl, rfl⟩, sx, sy, fun p' H2 g2 h => q p' H2 (g.trans g2) h⟩
    · have e := of_decide_eq_true c2
      subst e
      obtain ⟨dx, fs, hp⟩ := (hx.same g).inst
      exact ⟨_, rfl, _, rfl, p, dx, fs, i, rfl, rfl, hp, _, _, rfl, _, _, _, _, _, rfl, hk.ok, .inr ⟨p, rfl, hx.same g⟩, .inl ⟨i, rfl, rfl⟩, sx, sy, fun p' H2 g2 h => q p' H2 (g.trans g2) h⟩
    · have e : k = "unlike" := by
        have n1 : ¬ k = "both" := fun e => c1 (decide_eq_true e)
        have n2 : ¬ k = "either" := fun e => c2 (decide_eq_true e)
        have z := of_decide_eq_true c
        simp only [List.mem_cons, List.not_mem_nil, or_false] at z
        rcases z with z | z | z
        · exact absurd z n1
        · exact absurd z n2
        · exact z
      subst e
      obtain ⟨dx, fs, hp⟩ := (hx.same g).inst
      exact ⟨_, rfl, _, rfl, p, dx, fs, i, rfl, rfl, hp, _, _, rfl, _, _, _, _, _, rfl, hk.ok, .inr ⟨p, rfl, hx.same g⟩, .inl ⟨i, rfl, rfl⟩, sx, sy, fun p' H2 g2 h => q p' H2 (g.trans g2) h⟩
  refine rd_inS ["greater", "lesser"] (fun R h => h) (by decide) rfl fun H1b gb => ite2 (fun c => ?_) (fun cc => ?_)
  · have g := (g.trans ga).trans gb
    refine rd_eqS rfl (ite2 (fun c1 => ?_) (fun c1 => ?_))
    · have e := of_decide_eq_true c1
      subst e
      exact ⟨_, rfl, _, rfl, _, _, rfl, _, _, _, _, _, rfl, hk.ok, .inr ⟨p, rfl, hx.same g⟩, .inl ⟨i, rfl, rfl⟩, sx, sy, fun p' H2 g2 h => q p' H2 (g.trans g2) h⟩
    · have e : k = "lesser" := by
        have n1 : ¬ k = "greater" := fun e => c1 (decide_eq_true e)
        have z := of_decide_eq_true c
        simp only [List.mem_cons, List.not_mem_nil, or_false] at z
        rcases z with z | z
        · exact absurd z n1
        · exact z
      subst e
      exact ⟨_, rfl, _, rfl, _, _, rfl, _, _, _, _, _, rfl, hk.ok, .inr ⟨p, rfl, hx.same g⟩, .inl ⟨i, rfl, rfl⟩, sx, sy, fun p' H2 g2 h => q p' H2 (g.trans g2) h⟩
  refine rd_inS ["below", "at_most"] (fun R h => h) (by decide) rfl fun H1c gc => ite2 (fun c => ?_) (fun cd => ?_)
  · have g := ((g.trans ga).trans gb).trans gc
    refine rd_eqS rfl (ite2 (fun c1 => ?_) (fun c1 => ?_))
    · have e := of_decide_eq_true c1
      subst e
      exact ⟨_, rfl, _, rfl, _, _, rfl, _, _, _, _, _, rfl, hk.ok, .inr ⟨p, rfl, hx.same g⟩, .inl ⟨i, rfl, rfl⟩, sx, sy, fun p' H2 g2 h => q p' H2 (g.trans g2) h⟩
    · have e : k = "at_most" := by
        have n1 : ¬ k = "below" := fun e => c1 (decide_eq_true e)
        have z := of_decide_eq_true c
        simp only [List.mem_cons, List.not_mem_nil, or_false] at z
        rcases z with z | z
        · exact absurd z n1
        · exact z
      subst e
      exact ⟨_, rfl, _, rfl, _, _, rfl, _, _, _, _, _, rfl, hk.ok, .inr ⟨p, rfl, hx.same g⟩, .inl ⟨i, rfl, rfl⟩, sx, sy, fun p' H2 g2 h => q p' H2 (g.trans g2) h⟩
  · have g := ((g.trans ga).trans gb).trans gc
    refine rd_eqS rfl (ite2 (fun c1 => ?_) (fun c1 => ?_))
    · have e := of_decide_eq_true c1
      subst e
      exact ⟨_, rfl, _, rfl, _, _, rfl, _, _, _, _, _, rfl, hk.ok, .inr ⟨p, rfl, hx.same g⟩, .inl ⟨i, rfl, rfl⟩, sx, sy, fun p' H2 g2 h => q p' H2 (g.trans g2) h⟩
    · have e : k = "unequal" := by
        have n1 : ¬ k = "equal" := fun e => c1 (decide_eq_true e)
        unfold PairK at hk
        simp only [List.mem_cons, List.not_mem_nil, or_false] at hk
        have m1 := of_decide_eq_false (Bool.eq_false_iff.mpr ca)
        have m2 := of_decide_eq_false (Bool.eq_false_iff.mpr cb)
        have m3 := of_decide_eq_false (Bool.eq_false_iff.mpr cc)
        have m4 := of_decide_eq_false (Bool.eq_false_iff.mpr cd)
        simp only [List.mem_cons, List.not_mem_nil, or_false, not_or] at m1 m2 m3 m4
        rcases hk with z | z | z | z | z | z | z | z | z | z | z | z
        · exact absurd z m1.1
        · exact absurd z m1.2.1
        · exact absurd z m1.2.2
        · exact absurd z m2.1
        · exact absurd z m2.2.1
        · exact absurd z m2.2.2
        · exact absurd z m3.1
        · exact absurd z m3.2
        · exact absurd z m4.1
        · exact absurd z m4.2
        · exact absurd z n1
        · exact z
      subst e
      exact ⟨_, rfl, _, rfl, _, _, rfl, _, _, _, _, _, rfl, hk.ok, .inr ⟨p, rfl, hx.same g⟩, .inl ⟨i, rfl, rfl⟩, sx, sy, fun p' H2 g2 h => q p' H2 (g.trans g2) h⟩
def spbehB (K : PySem.W.Frag) (C : Addr) : Sp := fun vs H Q _ => ∃ (k : Str) (v u : V) (x y : Ex), vs = [.str k, v, u] ∧ PairK k ∧ (∃ i r, v = .int i ∧ u = .ref r ∧ x = .num i ∧ ExAt K C H y r) ∧ Sm0 x ∧ Sm0 y ∧ ∀ (p : Addr) (H' : Hp), Same H H' → ExAt K C H' (.bi k x y) p → Q (.ref p) H'
theorem scbehB : FnScope ["_law_kind", "_law_n", "_law_x"] ["_law_kind", "_law_n", "_law_x"] (defScope sBeh) := ⟨rfl, rfl, rfl, by decide +kernel, rfl, by decide +kernel, by decide +kernel⟩
theorem ok_behB (F : Fun K "_law_behind" "_law_behind" sBeh f fd) (M : Opx P w K mg base C) : FnOk P w K mg base CX0 8 f fd ["_law_kind", "_law_n", "_law_x"] (spbehB K C) := by
  refine F.ok scbehB (fun vs H Q E h => ?_) (fun cdv A outer s H vs Q E hr h => ?_)
  · obtain ⟨k, v, u, x, y, rfl, _⟩ := h
    rfl
  obtain ⟨g_add, d_add, D_add, F_add, b_add⟩ := M.add_.ex
  obtain ⟨h_add, e_add, R_add, S_add, c_add⟩ := M.radd_.ex
  obtain ⟨g_sub, d_sub, D_sub, F_sub, b_sub⟩ := M.sub_.ex
  obtain ⟨h_sub, e_sub, R_sub, S_sub, c_sub⟩ := M.rsub_.ex
  obtain ⟨g_mul, d_mul, D_mul, F_mul, b_mul⟩ := M.mul_.ex
  obtain ⟨h_mul, e_mul, R_mul, S_mul, c_mul⟩ := M.rmul_.ex
  obtain ⟨g_and, d_and, D_and, F_and, b_and⟩ := M.and_.ex
  obtain ⟨h_and, e_and, R_and, S_and, c_and⟩ := M.rand_.ex
  obtain ⟨g_or, d_or, D_or, F_or, b_or⟩ := M.or_.ex
  obtain ⟨h_or, e_or, R_or, S_or, c_or⟩ := M.ror_.ex
  obtain ⟨g_xor, d_xor, D_xor, F_xor, b_xor⟩ := M.xor_.ex
  obtain ⟨h_xor, e_xor, R_xor, S_xor, c_xor⟩ := M.rxor_.ex
  obtain ⟨g_greater, d_greater, F_greater, b_greater, k_greater, m_greater⟩ := M.greater_.ex
  obtain ⟨g_lesser, d_lesser, F_lesser, b_lesser, k_lesser, m_lesser⟩ := M.lesser_.ex
  obtain ⟨g_below, d_below, F_below, b_below, k_below, m_below⟩ := M.below_.ex
  obtain ⟨g_at_most, d_at_most, F_at_most, b_at_most, k_at_most, m_at_most⟩ := M.at_most_.ex
  obtain ⟨g_equal, d_equal, F_equal, b_equal, k_equal, m_equal⟩ := M.equal_.ex
  obtain ⟨g_unequal, d_unequal, F_unequal, b_unequal, k_unequal, m_unequal⟩ := M.unequal_.ex
  obtain ⟨k, v, u, x, y, rfl, hk, hv, sx, sy, q⟩ := h
  obtain ⟨i, r, rfl, rfl, rfl, hy⟩ := hv
  refine ⟨_, pss_cons (ps_if (pt_cmpR op_in_seq (pv 0) (pe_tup (pa_cons pe_str (pa_cons pe_str (pa_cons pe_str pa_nil)))) (by rfl)) (pss_one (ps_ret (pe_ifExp (pt_cmpR op_eq (pv 0) pe_str (nomark _)) (pe_op (op_ownR (op := .Add) iAdd M.sf D_add R_add M.sI S_add hr c_add pass0) (pv 1) (pv 2)) (pe_ifExp (pt_cmpR op_eq (pv 0) pe_str (nomark _)) (pe_op (op_ownR (op := .Sub) iSub M.sf D_sub R_sub M.sI S_sub hr c_sub pass0) (pv 1) (pv 2)) (pe_op (op_ownR (op := .Mult) iMul M.sf D_mul R_mul M.sI S_mul hr c_mul pass0) (pv 1) (pv 2)))))) pss_nil)
    (pss_cons (ps_if (pt_cmpR op_in_seq (pv 0) (pe_tup (pa_cons pe_str (pa_cons pe_str (pa_cons pe_str pa_nil)))) (by rfl)) (pss_one (ps_ret (pe_ifExp (pt_cmpR op_eq (pv 0) pe_str (nomark _)) (pe_op (op_ownR (op := .BitAnd) iAnd M.sf D_and R_and M.sI S_and hr c_and pass0) (pv 1) (pv 2)) (pe_ifExp (pt_cmpR op_eq (pv 0) pe_str (nomark _)) (pe_op (op_ownR (op := .BitOr) iOr M.sf D_or R_or M.sI S_or hr c_or pass0) (pv 1) (pv 2)) (pe_op (op_ownR (op := .BitXor) iXor M.sf D_xor R_xor M.sI S_xor hr c_xor pass0) (pv 1) (pv 2)))))) pss_nil)
    (pss_cons (ps_if (pt_cmpR op_in_seq (pv 0) (pe_tup (pa_cons pe_str (pa_cons pe_str pa_nil))) (by rfl)) (pss_one (ps_ret (pe_ifExp (pt_cmpR op_eq (pv 0) pe_str (nomark _)) (pe_call F_greater hr rfl m_greater k_greater b_greater .nil pass0 (pa_cons (pv 1) (pa_cons (pv 2) pa_nil))) (pe_call F_lesser hr rfl m_lesser k_lesser b_lesser .nil pass0 (pa_cons (pv 1) (pa_cons (pv 2) pa_nil)))))) pss_nil)
    (pss_cons (ps_if (pt_cmpR op_in_seq (pv 0) (pe_tup (pa_cons pe_str (pa_cons pe_str pa_nil))) (by rfl)) (pss_one (ps_ret (pe_ifExp (pt_cmpR op_eq (pv 0) pe_str (nomark _)) (pe_call F_below hr rfl m_below k_below b_below .nil pass0 (pa_cons (pv 1) (pa_cons (pv 2) pa_nil))) (pe_call F_at_most hr rfl m_at_most k_at_most b_at_most .nil pass0 (pa_cons (pv 1) (pa_cons (pv 2) pa_nil)))))) pss_nil)
    (pss_one (ps_ret (pe_ifExp (pt_cmpR op_eq (pv 0) pe_str (nomark _)) (pe_call F_equal hr rfl m_equal k_equal b_equal .nil pass0 (pa_cons (pv 1) (pa_cons (pv 2) pa_nil))) (pe_call F_unequal hr rfl m_unequal k_unequal b_unequal .nil pass0 (pa_cons (pv 1) (pa_cons (pv 2) pa_nil))))))))), ?_⟩
  refine rd_inS ["plus", "minus", "times"] (fun R h => h) (by decide) rfl fun H1 g => ite2 (fun c => ?_) (fun ca => ?_)
  · have g := g
    refine rd_eqS rfl (ite2 (fun c1 => ?_) (fun c1 => rd_eqS rfl (ite2 (fun c2 => ?_) (fun c2 => ?_))))
    · have e := of_decide_eq_true c1
      subst e
      obtain ⟨dx, fs, hp⟩ := (hy.same g).inst
      exact ⟨_, rfl, _, rfl, r, dx, fs, i, rfl, rfl, hp, _, _, rfl, _, _, _, _, _, rfl, hk.ok, .inl ⟨i, rfl, rfl⟩, .inr ⟨r, rfl, hy.same g⟩, sx, sy, fun p' H2 g2 h => q p' H2 (g.trans g2) h⟩
    · have e := of_decide_eq_true c2
      subst e
      obtain ⟨dx, fs, hp⟩ := (hy.same g).inst
      exact ⟨_, rfl, _, rfl, r, dx, fs, i, rfl, rfl, hp, _, _, rfl, _, _, _, _, _, rfl, hk.ok, .inl ⟨i, rfl, rfl⟩, .inr ⟨r, rfl, hy.same g⟩, sx, sy, fun p' H2 g2 h => q p' H2 (g.trans g2) h⟩
    · have e : k = "times" := by
        have n1 : ¬ k = "plus" := fun e => c1 (decide_eq_true e)
        have n2 : ¬ k = "minus" := fun e => c2 (decide_eq_true e)
        have z := of_decide_eq_true c
        simp only [List.mem_cons, List.not_mem_nil, or_false] at z
        rcases z with z | z | z
        · exact absurd z n1
        · exact absurd z n2
        · exact z
      subst e
      obtain ⟨dx, fs, hp⟩ := (hy.same g).inst
      exact ⟨_, rfl, _, rfl, r, dx, fs, i, rfl, rfl, hp, _, _, rfl, _, _, _, _, _, rfl, hk.ok, .inl ⟨i, rfl, rfl⟩, .inr ⟨r, rfl, hy.same g⟩, sx, sy, fun p' H2 g2 h => q p' H2 (g.trans g2) h⟩
  refine rd_inS ["both", "either", "unlike"] (fun R h => h) (by decide) rfl fun H1a ga => ite2 (fun c => ?_) (fun cb => ?_)
  · have g := g.trans ga
    refine rd_eqS rfl (ite2 (fun c1 => ?_) (fun c1 => rd_eqS rfl (ite2 (fun c2 => ?_) (fun c2 => ?_))))
    · have e := of_decide_eq_true c1
      subst e
      obtain ⟨dx, fs, hp⟩ := (hy.same g).inst
      exact ⟨_, rfl, _, rfl, r, dx, fs, i, rfl, rfl, hp, _, _, rfl, _, _, _, _, _, rfl, hk.ok, .inl ⟨i, rfl, rfl⟩, .inr ⟨r, rfl, hy.same g⟩, sx, sy, fun p' H2 g2 h => q p' H2 (g.trans g2) h⟩
    · have e := of_decide_eq_true c2
      subst e
      obtain ⟨dx, fs, hp⟩ := (hy.same g).inst
      exact ⟨_, rfl, _, rfl, r, dx, fs, i, rfl, rfl, hp, _, _, rfl, _, _, _, _, _, rfl, hk.ok, .inl ⟨i, rfl, rfl⟩, .inr ⟨r, rfl, hy.same g⟩, sx, sy, fun p' H2 g2 h => q p' H2 (g.trans g2) h⟩
    · have e : k = "unlike" := by
        have n1 : ¬ k = "both" := fun e => c1 (decide_eq_true e)
        have n2 : ¬ k = "either" := fun e => c2 (decide_eq_true e)
        have z := of_decide_eq_true c
        simp only [List.mem_cons, List.not_mem_nil, or_false] at z
        rcases z with z | z | z
        · exact absurd z n1
        · exact absurd z n2
        · exact z
      subst e
      obtain ⟨dx, fs, hp⟩ := (hy.same g).inst
      exact ⟨_, rfl, _, rfl, r, dx, fs, i, rfl, rfl, hp, _, _, rfl, _, _, _, _, _, rfl, hk.ok, .inl ⟨i, rfl, rfl⟩, .inr ⟨r, rfl, hy.same g⟩, sx, sy, fun p' H2 g2 h => q p' H2 (g.trans g2) h⟩
  refine rd_inS ["greater", "lesser"] (fun R h => h) (by decide) rfl fun H1b gb => ite2 (fun c => ?_) (fun cc => ?_)
  · have g := (g.trans ga).trans gb
    refine rd_eqS rfl (ite2 (fun c1 => ?_) (fun c1 => ?_))
    · have e := of_decide_eq_true c1
      subst e
      exact ⟨_, rfl, _, rfl, _, _, rfl, _, _, _, _, _, rfl, hk.ok, .inl ⟨i, rfl, rfl⟩, .inr ⟨r, rfl, hy.same g⟩, sx, sy, fun p' H2 g2 h => q p' H2 (g.trans g2) h⟩
    · have e : k = "lesser" := by
        have n1 : ¬ k = "greater" := fun e => c1 (decide_eq_true e)
        have z := of_decide_eq_true c
        simp only [List.mem_cons, List.not_mem_nil, or_false] at z
        rcases z with z | z
        · exact absurd z n1
        · exact z
      subst e
      exact ⟨_, rfl, _, rfl, _, _, rfl, _, _, _, _, _, rfl, hk.ok, .inl ⟨i, rfl, rfl⟩, .inr ⟨r, rfl, hy.same g⟩, sx, sy, fun p' H2 g2 h => q p' H2 (g.trans g2) h⟩
  refine rd_inS ["below", "at_most"] (fun R h => h) (by decide) rfl fun H1c gc => ite2 (fun c => ?_) (fun cd => ?_)
  · have g := ((g.trans ga).trans gb).trans gc
    refine rd_eqS rfl (ite2 (fun c1 => ?_) (fun c1 => ?_))
    · have e := of_decide_eq_true c1
      subst e
      exact ⟨_, rfl, _, rfl, _, _, rfl, _, _, _, _, _, rfl, hk.ok, .inl ⟨i, rfl, rfl⟩, .inr ⟨r, rfl, hy.same g⟩, sx, sy, fun p' H2 g2 h => q p' H2 (g.trans g2) h⟩
    · have e : k = "at_most" := by
        have n1 : ¬ k = "below" := fun e => c1 (decide_eq_true e)
        have z := of_decide_eq_true c
        simp only [List.mem_cons, List.not_mem_nil, or_false] at z
        rcases z with z | z
        · exact absurd z n1
        · exact z
      subst e
      exact ⟨_, rfl, _, rfl, _, _, rfl, _, _, _, _, _, rfl, hk.ok, .inl ⟨i, rfl, rfl⟩, .inr ⟨r, rfl, hy.same g⟩, sx, sy, fun p' H2 g2 h => q p' H2 (g.trans g2) h⟩
  · have g := ((g.trans ga).trans gb).trans gc
    refine rd_eqS rfl (ite2 (fun c1 => ?_) (fun c1 => ?_))
    · have e := of_decide_eq_true c1
      subst e
      exact ⟨_, rfl, _, rfl, _, _, rfl, _, _, _, _, _, rfl, hk.ok, .inl ⟨i, rfl, rfl⟩, .inr ⟨r, rfl, hy.same g⟩, sx, sy, fun p' H2 g2 h => q p' H2 (g.trans g2) h⟩
    · have e : k = "unequal" := by
        have n1 : ¬ k = "equal" := fun e => c1 (decide_eq_true e)
        unfold PairK at hk
        simp only [List.mem_cons, List.not_mem_nil, or_false] at hk
        have m1 := of_decide_eq_false (Bool.eq_false_iff.mpr ca)
        have m2 := of_decide_eq_false (Bool.eq_false_iff.mpr cb)
        have m3 := of_decide_eq_false (Bool.eq_false_iff.mpr cc)
        have m4 := of_decide_eq_false (Bool.eq_false_iff.mpr cd)
        simp only [List.mem_cons, List.not_mem_nil, or_false, not_or] at m1 m2 m3 m4
        rcases hk with z | z | z | z | z | z | z | z | z | z | z | z
        · exact absurd z m1.1
        · exact absurd z m1.2.1
        · exact absurd z m1.2.2
        · exact absurd z m2.1
        · exact absurd z m2.2.1
        · exact absurd z m2.2.2
        · exact absurd z m3.1
        · exact absurd z m3.2
        · exact absurd z m4.1
        · exact absurd z m4.2
        · exact absurd z n1
        · exact z
      subst e
      exact ⟨_, rfl, _, rfl, _, _, rfl, _, _, _, _, _, rfl, hk.ok, .inl ⟨i, rfl, rfl⟩, .inr ⟨r, rfl, hy.same g⟩, sx, sy, fun p' H2 g2 h => q p' H2 (g.trans g2) h⟩
end
end Lw
namespace Lw
open PySem L2 OwB TL
abbrev sSing : Stmt := topS 48
/-- all but lists stay -/
def KI (H H' : Hp) : Prop := ∀ (b : Addr) (o : HO), (∀ xs, o ≠ .lst xs) → H b = some o → H' b = some o
theorem KI.of {H H' : Hp} (g : Same H H') : KI H H' := fun b o _ e => g b o e
theorem KI.trans {H H1 H2 : Hp} (g : KI H H1) (g' : KI H1 H2) : KI H H2 := fun b o n e => g' b o n (g b o n e)
theorem KI.sx {H H' : Hp} {st q : Addr} {b : Int} (s : Spr H st q b) (g : SX st q H H') : KI H H' := by
  obtain ⟨ns, a, c, h1, h2, _⟩ := s
  exact fun t o no h => g _ _ (fun e => by rw [e, h1] at h; exact no _ (Option.some.inj h).symm) (fun e => by rw [e, h2] at h; exact no _ (Option.some.inj h).symm) h
theorem KI.lst {H : Hp} {D : Addr} {xs ys : List V} (h : H D = some (.lst xs)) : KI H (upd H D (.lst ys)) := fun b o no q => by
  rw [upd_ne (fun e => by rw [e, h] at q; exact no _ (Option.some.inj q).symm)]
  exact q
theorem KI.tk {K : PySem.W.Frag} {H H' : Hp} (g : KI H H') : TK K H H' := .but g
theorem HdE.ki {K : PySem.W.Frag} {C p : Addr} {H H' : Hp} {k : Str} {vs : List V} {as : List (Str × List Str)} {m : Int} (g : KI H H') : HdE K C H p k vs as m → HdE K C H' p k vs as m
  | ⟨dx, tp, ta, tl, us, ys, h1, h2, h3, h4, h5, h6⟩ => ⟨dx, tp, ta, tl, us, ys, g _ _ (fun xs e => by cases e) h1, g.tk _ _ h2, g.tk _ _ h3, h4.tk g.tk, g.tk _ _ h5, h6⟩
theorem ExAt.ki {K : PySem.W.Frag} {C : Addr} {H H' : Hp} (g : KI H H') : ∀ {e : Ex} {p : Addr}, ExAt K C H e p → ExAt K C H' e p
  | .num n, p, h => HdE.ki g h
  | .acc nm ls, p, ⟨t, h1, h2⟩ => ⟨t, h1.ki g, g.tk _ _ h2⟩
  | .bi k x y, p, ⟨o, a, b, h1, h2, h3⟩ => ⟨o, a, b, h1.ki g, ExAt.ki g h2, ExAt.ki g h3⟩
  | .nu k x n, p, ⟨o, a, h1, h2⟩ => ⟨o, a, h1.ki g, ExAt.ki g h2⟩
  | .un k x, p, ⟨o, a, h1, h2⟩ => ⟨o, a, h1.ki g, ExAt.ki g h2⟩
def Ex.dep : Ex → Nat
  | .num _ => 1
  | .acc _ _ => 1
  | .bi _ x y => 1 + max x.dep y.dep
  | .nu _ x _ => 1 + x.dep
  | .un _ x => 1 + x.dep
/-- the law's own expression at a tuple -/
def DtAt (K : PySem.W.Frag) (H : Hp) : Ex → Addr → Prop
  | .num n, p => SqT K H p [.str "number", .int n]
  | .acc nm ls, p => ∃ t, SqT K H p [.str "access", .str nm, .ref t] ∧ SqT K H t (ls.map V.str)
  | .bi k x y, p => okK k ∧ ∃ a b, SqT K H p [.str k, .ref a, .ref b] ∧ DtAt K H x a ∧ DtAt K H y b
  | .nu k x n, p => okK k ∧ ∃ a, SqT K H p [.str k, .ref a, .int n] ∧ DtAt K H x a
  | .un k x, p => okK k ∧ ∃ a, SqT K H p [.str k, .ref a] ∧ DtAt K H x a
theorem DtAt.tk {K : PySem.W.Frag} {H H' : Hp} (g : TK K H H') : ∀ {e : Ex} {p : Addr}, DtAt K H e p → DtAt K H' e p
  | .num n, p, h => g _ _ h
  | .acc nm ls, p, ⟨t, h1, h2⟩ => ⟨t, g _ _ h1, g _ _ h2⟩
  | .bi k x y, p, ⟨o, a, b, h1, h2, h3⟩ => ⟨o, a, b, g _ _ h1, DtAt.tk g h2, DtAt.tk g h3⟩
  | .nu k x n, p, ⟨o, a, h1, h2⟩ => ⟨o, a, g _ _ h1, DtAt.tk g h2⟩
  | .un k x, p, ⟨o, a, h1, h2⟩ => ⟨o, a, g _ _ h1, DtAt.tk g h2⟩
section
variable {P : Program} {w : World} {K : PySem.W.Frag} {mg : Str → Option Value} {base : Heap} {f g g1 C fI : Addr} {fd gd gd1 dI : FuncData}
def spSing (K : PySem.W.Frag) (C : Addr) : Sp := fun vs H Q _ => ∃ (st q d p : Addr) (b : Int) (e : Ex), vs = [.ref st, .ref d, .ref p] ∧ Spr H st q b ∧ 0 ≤ b ∧ b ≤ 900 ∧ DtAt K H e d ∧ ExAt K C H e p ∧ Sm0 e ∧
  ∀ (e' : Ex) (d' p' T : Addr) (b' : Int) (H' : Hp), SqT K H' T [.ref d', .ref p'] → DtAt K H' e' d' → ExAt K C H' e' p' → e'.accs = e.accs → e'.dep = 1 + e.dep → b ≤ b' → b' ≤ b + 3 → Spr H' st q b' → SX st q H H' → Q (.ref T) H'
abbrev namesSg : List Str := ["_law_stream", "_law_e", "_law_x", "_law_kind", "_law_n"]
theorem scSg : FnScope namesSg ["_law_stream", "_law_e", "_law_x"] (defScope sSing) := ⟨rfl, rfl, rfl, by decide +kernel, rfl, by decide +kernel, by decide +kernel⟩
theorem ok_sing (F : Fun K "_law_single" "_law_single" sSing f fd) (M : Opx P w K mg base C) (ma : mg "abs" = none)
    (G : FnOk P w K mg base CX0 1 g gd ["_law_stream", "_law_many"] spDraw) (bG : Binds K gd ["_law_stream", "_law_many"] []) (kG : PySem.W.keepIn K (.ref g) = true) (mG : mg "_law_draw" = some (.ref g))
    (GP : FnOk P w K mg base CX0 2 g1 gd1 ["_law_stream", "_law_some"] (spPick K)) (bP : Binds K gd1 ["_law_stream", "_law_some"] []) (kP : PySem.W.keepIn K (.ref g1) = true) (mP : mg "_law_pick" = some (.ref g1)) :
    FnOk P w K mg base CX0 9 f fd ["_law_stream", "_law_e", "_law_x"] (spSing K C) := by
  refine F.ok scSg (fun vs H Q E h => ?_) (fun cdv A outer s H vs Q E hr h => ?_)
  · obtain ⟨st, q, d, p, b, e, rfl, _⟩ := h
    rfl
  obtain ⟨g_neg, d_neg, D_neg, F_neg, b_neg⟩ := M.neg_.ex
  obtain ⟨g_inv, d_inv, D_inv, F_inv, b_inv⟩ := M.invert_.ex
  obtain ⟨g_abs, d_abs, D_abs, F_abs, b_abs⟩ := M.abs_.ex
  obtain ⟨g_floordiv, d_floordiv, D_floordiv, F_floordiv, b_floordiv⟩ := M.floordiv_.ex
  obtain ⟨g_pow, d_pow, D_pow, F_pow, b_pow⟩ := M.pow_.ex
  obtain ⟨g_lshift, d_lshift, D_lshift, F_lshift, b_lshift⟩ := M.lshift_.ex
  obtain ⟨g_rshift, d_rshift, D_rshift, F_rshift, b_rshift⟩ := M.rshift_.ex
  obtain ⟨st, q, d, p, b, e, rfl, hs, hb0, hb1, hd, hp, hsm, k⟩ := h
  have hr7 := hr.mono (show 7 ≤ 8 by decide)
  have hr1 := hr.mono (show 1 ≤ 8 by decide)
  have hr2 := hr.mono (show 2 ≤ 8 by decide)
  refine ⟨_, pss_cons (ps_par (i := 3) (j := 4) rfl scSg.nd rfl rfl (by decide) rfl rfl (pa_cons (pe_call GP hr2 rfl mP kP bP .nil pass0 (pa_cons (pv 0) (pa_cons (pe_lst (pa_cons pe_str (pa_cons pe_str (pa_cons pe_str (pa_cons pe_str (pa_cons pe_str (pa_cons pe_str (pa_cons pe_str pa_nil)))))))) pa_nil))) (pa_cons pe_int pa_nil)) (by rfl))
    (pss_cons (ps_if (pt_cmpR op_in_seq (pv 3) (pe_tup (pa_cons pe_str (pa_cons pe_str (pa_cons pe_str pa_nil)))) (by rfl))
      (pss_one (ps_ret (pe_tup (pa_cons (pe_tup (pa_cons (pv 3) (pa_cons (pv 1) pa_nil))) (pa_cons (pe_ifExp (pt_cmpR op_eq (pv 3) pe_str (nomark _)) (pe_un (un_own_neg D_neg F_neg hr7 b_neg pass0) (pv 2)) (pe_ifExp (pt_cmpR op_eq (pv 3) pe_str (nomark _)) (pe_un (un_own_inv D_inv F_inv hr7 b_inv pass0) (pv 2))
        (pe_callB (call_absO D_abs (F_abs.raw b_abs .nil) hr pass0) (by rfl) ma (by decide +kernel) (pa_cons (pv 2) pa_nil)))) pa_nil))))) pss_nil)
    (pss_cons (ps_if (pt_cmpR op_eq (pv 3) pe_str (nomark _))
      (pss_cons (ps_set (i := 4) scSg.nd rfl (Or.inl rfl) (pe_ix ix_list (pe_lst (pa_cons pe_int (pa_cons (pe_un un_neg pe_int) (pa_cons (pe_op op_pow pe_int pe_int) pa_nil)))) (pe_call G hr1 rfl mG kG bG .nil pass0 (pa_cons (pv 0) (pa_cons pe_int pa_nil))) (fun _ _ => rfl)))
      (pss_one (ps_ret (pe_tup (pa_cons (pe_tup (pa_cons (pv 3) (pa_cons (pv 1) (pa_cons (pv 4) pa_nil)))) (pa_cons (pe_op (op_ownN (op := .FloorDiv) M.sf D_floordiv M.r_floordiv (.inl rfl) (fi_floordiv K) (fr_floordiv K) (fsub K C) F_floordiv hr7 b_floordiv pass0) (pv 2) (pv 4)) pa_nil)))))) pss_nil)
    (pss_cons (ps_if (pt_cmpR op_eq (pv 3) pe_str (nomark _))
      (pss_cons (ps_set (i := 4) scSg.nd rfl (Or.inl rfl) (pe_call G hr1 rfl mG kG bG .nil pass0 (pa_cons (pv 0) (pa_cons pe_int pa_nil))))
      (pss_one (ps_ret (pe_tup (pa_cons (pe_tup (pa_cons (pv 3) (pa_cons (pv 1) (pa_cons (pe_op op_add (pv 4) pe_int) pa_nil)))) (pa_cons (pe_ix ix_list (pe_lst (pa_cons (pe_op (op_ownN (op := .Pow) M.sf D_pow M.r_pow (.inl rfl) (fi_pow K) (fr_pow K) (fsub K C) F_pow hr7 b_pow pass0) (pv 2) pe_int) (pa_cons (pe_op (op_ownN (op := .Pow) M.sf D_pow M.r_pow (.inl rfl) (fi_pow K) (fr_pow K) (fsub K C) F_pow hr7 b_pow pass0) (pv 2) pe_int) pa_nil))) (pv 4) (fun _ _ => rfl)) pa_nil)))))) pss_nil)
    (pss_cons (ps_set (i := 4) scSg.nd rfl (Or.inl rfl) (pe_call GP hr2 rfl mP kP bP .nil pass0 (pa_cons (pv 0) (pa_cons (pe_lst (pa_cons pe_int (pa_cons pe_int (pa_cons (pe_op op_add pe_int (pe_call G hr1 rfl mG kG bG .nil pass0 (pa_cons (pv 0) (pa_cons pe_int pa_nil)))) pa_nil)))) pa_nil))))
    (pss_one (ps_ret (pe_tup (pa_cons (pe_tup (pa_cons (pv 3) (pa_cons (pv 1) (pa_cons (pv 4) pa_nil)))) (pa_cons (pe_ifExp (pt_cmpR op_eq (pv 3) pe_str (nomark _)) (pe_op (op_ownN (op := .LShift) M.sf D_lshift M.r_lshift (.inl rfl) (fi_lshift K) (fr_lshift K) (fsub K C) F_lshift hr7 b_lshift pass0) (pv 2) (pv 4)) (pe_op (op_ownN (op := .RShift) M.sf D_rshift M.r_rshift (.inl rfl) (fi_rshift K) (fr_rshift K) (fsub K C) F_rshift hr7 b_rshift pass0) (pv 2) (pv 4))) pa_nil))))))))), ?_⟩
  refine ⟨_, rfl, (by show 7 ≤ sizeLine; decide), fun l hl => ?_⟩
  have gl := same_new hl (.lst [.str "negative", .str "inverse", .str "absolute", .str "quotient", .str "power", .str "left", .str "right"])
  obtain ⟨nl1, nl2⟩ := hs.out hl
  refine ⟨st, q, l, b, _, rfl, hs.same gl, hb0, by omega, upd_same, nl1, nl2, by show 0 < 7; decide, by show 7 ≤ 1000; decide, fun v H1 hv hs1 g1 => ?_⟩
  obtain ⟨kd, hkd, rfl⟩ := List.mem_map.mp (show v ∈ (["negative", "inverse", "absolute", "quotient", "power", "left", "right"] : List Str).map V.str from hv)
  have gx : SX st q H H1 := (SX.of gl).trans g1
  have ki := KI.sx hs gx
  have hd1 := hd.tk (K := K) ki.tk
  have hp1 := hp.ki ki
  have okk : okK kd := by
    simp only [List.mem_cons, List.not_mem_nil, or_false] at hkd
    rcases hkd with rfl | rfl | rfl | rfl | rfl | rfl | rfl <;> exact ⟨kne _ _, kne _ _, kne _ _, kne _ _⟩
  have fin : ∀ (e' : Ex) (t1 p' : Addr) (H4 : Hp) (b' : Int), SX st q H H4 → Spr H4 st q b' → b ≤ b' → b' ≤ b + 3 → DtAt K H4 e' t1 → ExAt K C H4 e' p' → e'.accs = e.accs → e'.dep = 1 + e.dep →
      [V.ref t1, V.ref p'].length ≤ sizeLine ∧ ∀ T, H4 T = none → Q (.ref T) (upd H4 T (.tup [.ref t1, .ref p'])) := fun e' t1 p' H4 b' x1 x2 x3 x4 x5 x6 x7 x8 =>
    ⟨by show 2 ≤ sizeLine; decide, fun T hT => by
      have gT := same_new hT (.tup [.ref t1, .ref p'])
      exact k e' t1 p' T b' _ (SqT.of upd_same) (x5.tk (.of gT)) (x6.same gT) x7 x8 x3 x4 (x2.same gT) (x1.trans (.of gT))⟩
  refine ⟨_, _, rfl, ?_⟩
  refine rd_inS ["negative", "inverse", "absolute"] (fun R h => h) (by decide) rfl fun H2 g2 => ite2 (fun c => ?_) (fun ca => ?_)
  · refine ⟨_, rfl, _, rfl, (by show 2 ≤ sizeLine; decide), fun t1 ht1 => ?_⟩
    have g12 := g2.trans (same_new ht1 (.tup [.str kd, .ref d]))
    have hp3 := hp1.same g12
    obtain ⟨dx, fs, hpi⟩ := hp3.inst
    have ht3 : SqT K (upd H2 t1 (.tup [.str kd, .ref d])) t1 [.str kd, .ref d] := SqT.of upd_same
    generalize upd H2 t1 (.tup [.str kd, .ref d]) = H3 at g12 hp3 hpi ht3
    have fin1 : ∀ (p' : Addr) (H4 : Hp), Same H3 H4 → ExAt K C H4 (.un kd e) p' → [V.ref t1, V.ref p'].length ≤ sizeLine ∧ ∀ T, H4 T = none → Q (.ref T) (upd H4 T (.tup [.ref t1, .ref p'])) := fun p' H4 g4 h4 =>
      fin (.un kd e) t1 p' H4 _ (gx.trans (.of (g12.trans g4))) (hs1.same (g12.trans g4)) (by omega) (by omega) ⟨okk, d, seqT g4 ht3, hd1.tk (.of (g12.trans g4))⟩ h4 rfl rfl
    refine rd_eqS rfl (ite2 (fun c1 => ?_) (fun c1 => rd_eqS rfl (ite2 (fun c2 => ?_) (fun c2 => ?_))))
    · have ek := of_decide_eq_true c1
      subst ek
      exact ⟨_, rfl, p, dx, fs, rfl, hpi, _, _, rfl, .inr ⟨p, rfl, hp3⟩, hsm, okk, fin1⟩
    · have ek := of_decide_eq_true c2
      subst ek
      exact ⟨_, rfl, p, dx, fs, rfl, hpi, _, _, rfl, .inr ⟨p, rfl, hp3⟩, hsm, okk, fin1⟩
    · have ek : kd = "absolute" := by
        have n1 : ¬ kd = "negative" := fun e => c1 (decide_eq_true e)
        have n2 : ¬ kd = "inverse" := fun e => c2 (decide_eq_true e)
        have z := of_decide_eq_true c
        simp only [List.mem_cons, List.not_mem_nil, or_false] at z
        rcases z with z | z | z
        · exact absurd z n1
        · exact absurd z n2
        · exact z
      subst ek
      exact ⟨_, rfl, p, dx, fs, rfl, hpi, _, _, rfl, .inr ⟨p, rfl, hp3⟩, hsm, okk, fin1⟩
  have gx2 := gx.trans (.of g2)
  have hs2 := hs1.same g2
  have hd2 := hd1.tk (K := K) (.of g2)
  have hp2 := hp1.same g2
  refine rd_eqS rfl (ite2 (fun c1 => ?_) (fun c1 => ?_))
  · have ek := of_decide_eq_true c1
    subst ek
    refine ⟨_, rfl, _, _, rfl, rfl, ⟨by decide, by decide, by decide⟩, (by show 3 ≤ sizeLine; decide), fun l2 hl2 => ?_⟩
    have gl2 := same_new hl2 (.lst [.int 7, .int (-3), .int ((10 : Int) ^ (19 : Int).toNat)])
    obtain ⟨nm1, nm2⟩ := hs2.out hl2
    refine ⟨_, rfl, st, q, _, 3, rfl, hs2.same gl2, by omega, by omega, by decide, by decide, fun r H5 r0 r1 hs5 g5 => ?_⟩
    have hl5 := g5 _ _ nm1 nm2 (upd_same (H := H2) (a := l2) (o := .lst [.int 7, .int (-3), .int ((10 : Int) ^ (19 : Int).toNat)]))
    have gx5 := (gx2.trans (.of gl2)).trans g5
    have ki5 : KI H2 H5 := KI.sx hs2 ((SX.of gl2).trans g5)
    have hd5 := hd2.tk (K := K) ki5.tk
    have hp5 := hp2.ki ki5
    obtain ⟨n, hn0, hn1⟩ : ∃ n : Int, n ≠ 0 ∧ atI [V.int 7, V.int (-3), V.int ((10 : Int) ^ (19 : Int).toNat)] r = some (.int n) := by
      have hr3 : r = ((0 : Nat) : Int) ∨ r = ((1 : Nat) : Int) ∨ r = ((2 : Nat) : Int) := by omega
      rcases hr3 with rfl | rfl | rfl
      · exact ⟨7, by decide, atI_nat (j := 0) rfl⟩
      · exact ⟨-3, by decide, atI_nat (j := 1) rfl⟩
      · exact ⟨_, by decide, atI_nat (j := 2) rfl⟩
    refine ⟨l2, _, r, .int n, rfl, rfl, SqL.of hl5, hn1, ?_⟩
    refine ⟨_, rfl, _, rfl, _, rfl, (by show 3 ≤ sizeLine; decide), fun t1 ht1 => ?_⟩
    have gt := same_new ht1 (.tup [.str "quotient", .ref d, .int n])
    have hp6 := hp5.same gt
    obtain ⟨dx, fs, hpi⟩ := hp6.inst
    have ht6 : SqT K (upd H5 t1 (.tup [.str "quotient", .ref d, .int n])) t1 [.str "quotient", .ref d, .int n] := SqT.of upd_same
    refine ⟨_, rfl, _, rfl, p, dx, fs, n, rfl, rfl, hpi, _, _, rfl, _, _, _, _, rfl, .inl ⟨rfl, hn0⟩, .inr ⟨p, rfl, hp6⟩, hsm, fun p' H7 g7 h7 => ?_⟩
    exact fin (.nu "quotient" e n) t1 p' H7 _ (gx5.trans (.of (gt.trans g7))) (hs5.same (gt.trans g7)) (by omega) (by omega) ⟨okk, d, seqT g7 ht6, hd5.tk (.of (gt.trans g7))⟩ h7 rfl rfl
  refine rd_eqS rfl (ite2 (fun c2 => ?_) (fun c2 => ?_))
  · have ek := of_decide_eq_true c2
    subst ek
    refine ⟨_, rfl, st, q, _, 2, rfl, hs2, by omega, by omega, by decide, by decide, fun r H5 r0 r1 hs5 g5 => ?_⟩
    have gx5 := gx2.trans g5
    have ki5 : KI H2 H5 := KI.sx hs2 g5
    have hd5 := hd2.tk (K := K) ki5.tk
    have hp5 := hp2.ki ki5
    refine ⟨_, rfl, _, rfl, _, rfl, _, _, rfl, rfl, (by show 3 ≤ sizeLine; decide), fun t1 ht1 => ?_⟩
    have gt := same_new ht1 (.tup [.str "power", .ref d, .int (r + 1)])
    have hp6 := hp5.same gt
    obtain ⟨dx, fs, hpi⟩ := hp6.inst
    have ht6 : SqT K (upd H5 t1 (.tup [.str "power", .ref d, .int (r + 1)])) t1 [.str "power", .ref d, .int (r + 1)] := SqT.of upd_same
    refine ⟨_, rfl, p, dx, fs, 1, rfl, rfl, hpi, _, _, rfl, _, _, _, _, rfl, .inr ⟨.inl rfl, by decide, by decide⟩, .inr ⟨p, rfl, hp6⟩, hsm, fun p1 H7 g7 h7 => ?_⟩
    have hp7 := hp6.same g7
    refine ⟨_, rfl, p, dx, fs, 2, rfl, rfl, g7 _ _ hpi, _, _, rfl, _, _, _, _, rfl, .inr ⟨.inl rfl, by decide, by decide⟩, .inr ⟨p, rfl, hp7⟩, hsm, fun p2 H8 g8 h8 => ?_⟩
    refine ⟨(by show 2 ≤ sizeLine; decide), fun l2 hl2 => ?_⟩
    have gl2 := same_new hl2 (.lst [.ref p1, .ref p2])
    have gA := ((gt.trans g7).trans g8).trans gl2
    have hr2 : r = ((0 : Nat) : Int) ∨ r = ((1 : Nat) : Int) := by omega
    rcases hr2 with rfl | rfl
    · refine ⟨_, rfl, l2, _, _, .ref p1, rfl, rfl, SqL.of upd_same, atI_nat (j := 0) rfl, ?_⟩
      exact fin (.nu "power" e (((0 : Nat) : Int) + 1)) t1 p1 _ _ (gx5.trans (.of gA)) (hs5.same gA) (by omega) (by omega) ⟨okk, d, seqT ((g7.trans g8).trans gl2) ht6, hd5.tk (.of gA)⟩ (h7.same (g8.trans gl2)) rfl rfl
    · refine ⟨_, rfl, l2, _, _, .ref p2, rfl, rfl, SqL.of upd_same, atI_nat (j := 1) rfl, ?_⟩
      exact fin (.nu "power" e (((1 : Nat) : Int) + 1)) t1 p2 _ _ (gx5.trans (.of gA)) (hs5.same gA) (by omega) (by omega) ⟨okk, d, seqT ((g7.trans g8).trans gl2) ht6, hd5.tk (.of gA)⟩ (h8.same gl2) rfl rfl
  have hlr : kd = "left" ∨ kd = "right" := by
    have n1 : ¬ kd = "quotient" := fun e => c1 (decide_eq_true e)
    have n2 : ¬ kd = "power" := fun e => c2 (decide_eq_true e)
    have n3 := of_decide_eq_false (Bool.eq_false_iff.mpr ca)
    simp only [List.mem_cons, List.not_mem_nil, or_false, not_or] at hkd n3
    rcases hkd with z | z | z | z | z | z | z
    · exact absurd z n3.1
    · exact absurd z n3.2.1
    · exact absurd z n3.2.2
    · exact absurd z n1
    · exact absurd z n2
    · exact .inl z
    · exact .inr z
  have npow : ¬ kd = "power" := fun e => c2 (decide_eq_true e)
  refine ⟨_, rfl, _, rfl, st, q, _, 59, rfl, hs2, by omega, by omega, by decide, by decide, fun r H5 r0 r1 hs5 g5 => ?_⟩
  refine ⟨_, _, rfl, rfl, (by show 3 ≤ sizeLine; decide), fun l2 hl2 => ?_⟩
  have gl2 := same_new hl2 (.lst [.int 0, .int 60, .int (1 + r)])
  obtain ⟨nm1, nm2⟩ := hs5.out hl2
  refine ⟨st, q, l2, _, _, rfl, hs5.same gl2, by omega, by omega, upd_same, nm1, nm2, by show 0 < 3; decide, by show 3 ≤ 1000; decide, fun v2 H6 hv2 hs6 g6 => ?_⟩
  obtain ⟨n, rfl, n0, n60⟩ : ∃ n : Int, v2 = .int n ∧ 0 ≤ n ∧ n ≤ 60 := by
    have hv3 : v2 ∈ [V.int 0, V.int 60, V.int (1 + r)] := hv2
    simp only [List.mem_cons, List.not_mem_nil, or_false] at hv3
    rcases hv3 with rfl | rfl | rfl
    · exact ⟨0, rfl, by decide, by decide⟩
    · exact ⟨60, rfl, by decide, by decide⟩
    · exact ⟨1 + r, rfl, by omega, by omega⟩
  have gx6 := ((gx2.trans g5).trans (.of gl2)).trans g6
  have ki6 : KI H2 H6 := KI.sx hs2 ((g5.trans (.of gl2)).trans g6)
  have hd6 := hd2.tk (K := K) ki6.tk
  have hp6 := hp2.ki ki6
  refine ⟨_, rfl, _, rfl, _, rfl, (by show 3 ≤ sizeLine; decide), fun t1 ht1 => ?_⟩
  have gt := same_new ht1 (.tup [.str kd, .ref d, .int n])
  have hp7 := hp6.same gt
  obtain ⟨dx, fs, hpi⟩ := hp7.inst
  have ht7 : SqT K (upd H6 t1 (.tup [.str kd, .ref d, .int n])) t1 [.str kd, .ref d, .int n] := SqT.of upd_same
  have okn : okN kd n := .inr ⟨hlr.elim (fun z => .inr (.inl z)) (fun z => .inr (.inr z)), by rw [if_neg npow]; exact n0, by rw [if_neg npow]; exact n60⟩
  have fin2 : ∀ (p' : Addr) (H8 : Hp), Same (upd H6 t1 (.tup [.str kd, .ref d, .int n])) H8 → ExAt K C H8 (.nu kd e n) p' → [V.ref t1, V.ref p'].length ≤ sizeLine ∧ ∀ T, H8 T = none → Q (.ref T) (upd H8 T (.tup [.ref t1, .ref p'])) := fun p' H8 g8 h8 =>
    fin (.nu kd e n) t1 p' H8 _ (gx6.trans (.of (gt.trans g8))) (hs6.same (gt.trans g8)) (by omega) (by omega) ⟨okk, d, seqT g8 ht7, hd6.tk (.of (gt.trans g8))⟩ h8 rfl rfl
  refine rd_eqS rfl (ite2 (fun c3 => ?_) (fun c3 => ?_))
  · have ek := of_decide_eq_true c3
    subst ek
    exact ⟨_, rfl, _, rfl, p, dx, fs, n, rfl, rfl, hpi, _, _, rfl, _, _, _, _, rfl, okn, .inr ⟨p, rfl, hp7⟩, hsm, fin2⟩
  · have ek : kd = "right" := hlr.elim (fun z => absurd (decide_eq_true z) c3) id
    subst ek
    exact ⟨_, rfl, _, rfl, p, dx, fs, n, rfl, rfl, hpi, _, _, rfl, _, _, _, _, rfl, okn, .inr ⟨p, rfl, hp7⟩, hsm, fin2⟩
end
end Lw
namespace Lw
open PySem L2 OwB TL
abbrev sSeen : Stmt := topS 44
abbrev sDue : Stmt := topS 45
/-- what the law sees of an expression; its lists are N -/
def ViewAt (K : PySem.W.Frag) (N : Addr → Prop) (H : Hp) : Ex → V → Prop
  | .num n, v => ∃ a L, v = .ref a ∧ SqT K H a [.str "number", .bl true, .ref L] ∧ N L ∧ H L = some (.lst [.int n])
  | .acc nm ls, v => ∃ a L t, v = .ref a ∧ SqT K H a [.str "access", .bl true, .ref L] ∧ N L ∧ H L = some (.lst [.str nm, .ref t]) ∧ SqT K H t (ls.map V.str)
  | .bi k x y, v => ∃ a L vx vy, v = .ref a ∧ SqT K H a [.str k, .bl true, .ref L] ∧ N L ∧ H L = some (.lst [vx, vy]) ∧ ViewAt K N H x vx ∧ ViewAt K N H y vy
  | .nu k x n, v => ∃ a L vx, v = .ref a ∧ SqT K H a [.str k, .bl true, .ref L] ∧ N L ∧ H L = some (.lst [vx, .int n]) ∧ ViewAt K N H x vx
  | .un k x, v => ∃ a L vx, v = .ref a ∧ SqT K H a [.str k, .bl true, .ref L] ∧ N L ∧ H L = some (.lst [vx]) ∧ ViewAt K N H x vx
theorem ViewAt.to {K : PySem.W.Frag} {N N' : Addr → Prop} {H H' : Hp} (g : TK K H H') (gl : ∀ L xs, N L → H L = some (.lst xs) → H' L = some (.lst xs)) (gn : ∀ L, N L → N' L) : ∀ {e : Ex} {v : V}, ViewAt K N H e v → ViewAt K N' H' e v
  | .num n, v, ⟨a, L, e, h1, h0, h2⟩ => ⟨a, L, e, g _ _ h1, gn _ h0, gl _ _ h0 h2⟩
  | .acc nm ls, v, ⟨a, L, t, e, h1, h0, h2, h3⟩ => ⟨a, L, t, e, g _ _ h1, gn _ h0, gl _ _ h0 h2, g _ _ h3⟩
  | .bi k x y, v, ⟨a, L, vx, vy, e, h1, h0, h2, h3, h4⟩ => ⟨a, L, vx, vy, e, g _ _ h1, gn _ h0, gl _ _ h0 h2, ViewAt.to g gl gn h3, ViewAt.to g gl gn h4⟩
  | .nu k x n, v, ⟨a, L, vx, e, h1, h0, h2, h3⟩ => ⟨a, L, vx, e, g _ _ h1, gn _ h0, gl _ _ h0 h2, ViewAt.to g gl gn h3⟩
  | .un k x, v, ⟨a, L, vx, e, h1, h0, h2, h3⟩ => ⟨a, L, vx, e, g _ _ h1, gn _ h0, gl _ _ h0 h2, ViewAt.to g gl gn h3⟩
theorem ViewAt.same {K : PySem.W.Frag} {N : Addr → Prop} {H H' : Hp} (g : Same H H') {e : Ex} {v : V} (h : ViewAt K N H e v) : ViewAt K N H' e v := ViewAt.to (.of g) (fun L xs _ e => g _ _ e) (fun _ n => n) h
theorem strs_all {K : PySem.W.Frag} {H : Hp} {n : Nat} : ∀ ls : List Str, SmAll K H (n + 1) (ls.map V.str) (ls.map V.str)
  | [] => .nil
  | z :: r => .cons (.str z) (strs_all r)
/-- two views of the same are the same -/
theorem ViewAt.sm {K : PySem.W.Frag} {N N' : Addr → Prop} {H : Hp} : ∀ {e : Ex} {n : Nat} {v w : V}, e.accs.length ≤ 400 → (∀ p ∈ e.accs, okP p) → 2 * e.dep + 2 ≤ n → ViewAt K N H e v → ViewAt K N' H e w → Sm K H n v w
  | .num i, n, v, w, _, _, hn, ⟨a, L, e, h1, _, h2⟩, ⟨a', L', e', h1', _, h2'⟩ => by
    subst e e'
    obtain ⟨m, rfl⟩ : ∃ m, n = m + 3 := ⟨n - 3, by simp only [Ex.dep] at hn; omega⟩
    exact .tup h1 h1' (by show 3 ≤ 1000; decide) (.cons (.str _) (.cons (.bl _) (.cons (.lst h2 h2' (by show 1 ≤ 1000; decide) (.cons (.int _) .nil)) .nil)))
  | .acc nm ls, n, v, w, _, hok, hn, ⟨a, L, t, e, h1, _, h2, h3⟩, ⟨a', L', t', e', h1', _, h2', h3'⟩ => by
    subst e e'
    obtain ⟨m, rfl⟩ : ∃ m, n = m + 4 := ⟨n - 4, by simp only [Ex.dep] at hn; omega⟩
    have h3l : ls.length ≤ 3 := (hok (nm, ls) (List.mem_singleton.mpr rfl)).2
    exact .tup h1 h1' (by show 3 ≤ 1000; decide) (.cons (.str _) (.cons (.bl _) (.cons (.lst h2 h2' (by show 2 ≤ 1000; decide) (.cons (.str _) (.cons (.tup h3 h3' (by rw [List.length_map]; omega) (strs_all ls)) .nil))) .nil)))
  | .bi k x y, n, v, w, hl, hok, hn, ⟨a, L, vx, vy, e, h1, _, h2, h3, h4⟩, ⟨a', L', vx', vy', e', h1', _, h2', h3', h4'⟩ => by
    subst e e'
    obtain ⟨m, rfl⟩ : ∃ m, n = m + 2 := ⟨n - 2, by simp only [Ex.dep] at hn; omega⟩
    have hl2 : (x.accs ++ y.accs).length ≤ 400 := hl
    rw [List.length_append] at hl2
    have hn2 : 2 * (1 + max x.dep y.dep) + 2 ≤ m + 2 := hn
    obtain ⟨j, rfl⟩ : ∃ j, m = j + 1 := ⟨m - 1, by omega⟩
    exact .tup h1 h1' (by show 3 ≤ 1000; decide) (.cons (.str _) (.cons (.bl _) (.cons (.lst h2 h2' (by show 2 ≤ 1000; decide) (.cons (ViewAt.sm (by omega) (fun p hp => hok p (List.mem_append.mpr (.inl hp))) (by omega) h3 h3') (.cons (ViewAt.sm (by omega) (fun p hp => hok p (List.mem_append.mpr (.inr hp))) (by omega) h4 h4') .nil))) .nil)))
  | .nu k x i, n, v, w, hl, hok, hn, ⟨a, L, vx, e, h1, _, h2, h3⟩, ⟨a', L', vx', e', h1', _, h2', h3'⟩ => by
    subst e e'
    have hn2 : 2 * (1 + x.dep) + 2 ≤ n := hn
    obtain ⟨m, rfl⟩ : ∃ m, n = m + 4 := ⟨n - 4, by omega⟩
    exact .tup h1 h1' (by show 3 ≤ 1000; decide) (.cons (.str _) (.cons (.bl _) (.cons (.lst h2 h2' (by show 2 ≤ 1000; decide) (.cons (ViewAt.sm (e := x) hl hok (by omega) h3 h3') (.cons (.int _) .nil))) .nil)))
  | .un k x, n, v, w, hl, hok, hn, ⟨a, L, vx, e, h1, _, h2, h3⟩, ⟨a', L', vx', e', h1', _, h2', h3'⟩ => by
    subst e e'
    have hn2 : 2 * (1 + x.dep) + 2 ≤ n := hn
    obtain ⟨m, rfl⟩ : ∃ m, n = m + 4 := ⟨n - 4, by omega⟩
    exact .tup h1 h1' (by show 3 ≤ 1000; decide) (.cons (.str _) (.cons (.bl _) (.cons (.lst h2 h2' (by show 1 ≤ 1000; decide) (.cons (ViewAt.sm (e := x) hl hok (by omega) h3 h3') .nil)) .nil)))
/-! part by part -/
inductive Each (R : V → Option Ex → Prop) : List V → List (Option Ex) → Prop where
  | nil : Each R [] []
  | cons {v : V} {o : Option Ex} {vs : List V} {os : List (Option Ex)} (h : R v o) (t : Each R vs os) : Each R (v :: vs) (o :: os)
theorem Each.get {R : V → Option Ex → Prop} : ∀ {vs : List V} {os : List (Option Ex)} {i : Nat} {v : V}, Each R vs os → vs[i]? = some v → ∃ o, os[i]? = some o ∧ R v o
  | _, _, i, _, .nil, e => by cases e
  | _, _, 0, _, .cons h _, e => by cases e; exact ⟨_, rfl, h⟩
  | _, _, i + 1, _, .cons _ t, e => Each.get (i := i) t e
theorem Each.len {R : V → Option Ex → Prop} : ∀ {vs : List V} {os : List (Option Ex)}, Each R vs os → vs.length = os.length
  | _, _, .nil => rfl
  | _, _, .cons _ t => congrArg Nat.succ t.len
def OutAt (K : PySem.W.Frag) (N : Addr → Prop) (H : Hp) (v : V) : Option Ex → V → Prop
  | none, w => w = v
  | some e, w => ViewAt K N H e w
theorem OutAt.to {K : PySem.W.Frag} {N N' : Addr → Prop} {H H' : Hp} {v w : V} (g : TK K H H') (gl : ∀ L xs, N L → H L = some (.lst xs) → H' L = some (.lst xs)) (gn : ∀ L, N L → N' L) : ∀ {o : Option Ex}, OutAt K N H v o w → OutAt K N' H' v o w
  | none, h => h
  | some e, h => ViewAt.to g gl gn h
inductive OutsAt (K : PySem.W.Frag) (N : Addr → Prop) (H : Hp) : List V → List (Option Ex) → List V → Prop where
  | nil : OutsAt K N H [] [] []
  | cons {v w : V} {o : Option Ex} {vs ws : List V} {os : List (Option Ex)} (h : OutAt K N H v o w) (t : OutsAt K N H vs os ws) : OutsAt K N H (v :: vs) (o :: os) (w :: ws)
theorem OutsAt.to {K : PySem.W.Frag} {N N' : Addr → Prop} {H H' : Hp} (g : TK K H H') (gl : ∀ L xs, N L → H L = some (.lst xs) → H' L = some (.lst xs)) (gn : ∀ L, N L → N' L) : ∀ {vs ws : List V} {os : List (Option Ex)}, OutsAt K N H vs os ws → OutsAt K N' H' vs os ws
  | _, _, _, .nil => .nil
  | _, _, _, .cons h t => .cons (h.to g gl gn) (OutsAt.to g gl gn t)
theorem OutsAt.snoc {K : PySem.W.Frag} {N : Addr → Prop} {H : Hp} {v w : V} {o : Option Ex} (h : OutAt K N H v o w) : ∀ {vs ws : List V} {os : List (Option Ex)}, OutsAt K N H vs os ws → OutsAt K N H (vs ++ [v]) (os ++ [o]) (ws ++ [w])
  | _, _, _, .nil => .cons h .nil
  | _, _, _, .cons q t => .cons q (OutsAt.snoc h t)
theorem OutsAt.len {K : PySem.W.Frag} {N : Addr → Prop} {H : Hp} : ∀ {vs ws : List V} {os : List (Option Ex)}, OutsAt K N H vs os ws → ws.length = vs.length
  | _, _, _, .nil => rfl
  | _, _, _, .cons _ t => congrArg Nat.succ t.len
/-- a part of an expression -/
def PtE (K : PySem.W.Frag) (C : Addr) (H : Hp) (n : Nat) (v : V) : Option Ex → Prop
  | none => (∃ i, v = .int i) ∨ (∃ s, v = .str s) ∨ ∃ t xs, v = .ref t ∧ SqT K H t xs
  | some e => ∃ a, v = .ref a ∧ ExAt K C H e a ∧ e.dep ≤ n
def PtD (K : PySem.W.Frag) (H : Hp) (n : Nat) (v : V) : Option Ex → Prop
  | none => ∃ i, v = .int i
  | some e => ∃ a, v = .ref a ∧ DtAt K H e a ∧ e.dep ≤ n
/-- from the parts to the view -/
def Bld (K : PySem.W.Frag) (H : Hp) (e : Ex) (vs : List V) (os : List (Option Ex)) : Prop :=
  ∀ (N : Addr → Prop) (H' : Hp) (ws : List V) (a L : Addr), Same H H' → OutsAt K N H' vs os ws → SqT K H' a [.str e.kind, .bl true, .ref L] → N L → H' L = some (.lst ws) → ViewAt K N H' e (.ref a)
theorem ExAt.parts {K : PySem.W.Frag} {C : Addr} {H : Hp} {n : Nat} : ∀ {e : Ex} {p : Addr}, ExAt K C H e p → e.dep ≤ n + 1 → ∃ vs os, HdE K C H p e.kind vs e.accs e.nodes ∧ vs.length ≤ 2 ∧ Each (PtE K C H n) vs os ∧ Bld K H e vs os
  | .num i, p, h, hn => ⟨_, [none], h, by show 1 ≤ 2; decide, .cons (.inl ⟨i, rfl⟩) .nil, fun N H' ws a L g h1 h2 h0 h3 => by
      cases h1 with
      | cons q t =>
        cases t
        cases (show _ = V.int i from q)
        exact ⟨a, L, rfl, h2, h0, h3⟩⟩
  | .acc nm ls, p, ⟨t, h, ht⟩, hn => ⟨_, [none, none], h, by show 2 ≤ 2; decide, .cons (.inr (.inl ⟨nm, rfl⟩)) (.cons (.inr (.inr ⟨t, _, rfl, ht⟩)) .nil), fun N H' ws a L g h1 h2 h0 h3 => by
      cases h1 with
      | cons q r =>
        cases r with
        | cons q2 r =>
          cases r
          cases (show _ = V.str nm from q)
          cases (show _ = V.ref t from q2)
          exact ⟨a, L, t, rfl, h2, h0, h3, seqT g ht⟩⟩
  | .bi k x y, p, ⟨o, b, c, h, hx, hy⟩, hn => ⟨_, [some x, some y], h, by show 2 ≤ 2; decide, .cons ⟨b, rfl, hx, by have : 1 + max x.dep y.dep ≤ n + 1 := hn; omega⟩ (.cons ⟨c, rfl, hy, by have : 1 + max x.dep y.dep ≤ n + 1 := hn; omega⟩ .nil), fun N H' ws a L g h1 h2 h0 h3 => by
      cases h1 with
      | cons q r =>
        cases r with
        | cons q2 r =>
          cases r
          exact ⟨a, L, _, _, rfl, h2, h0, h3, q, q2⟩⟩
  | .nu k x i, p, ⟨o, b, h, hx⟩, hn => ⟨_, [some x, none], h, by show 2 ≤ 2; decide, .cons ⟨b, rfl, hx, by have : 1 + x.dep ≤ n + 1 := hn; omega⟩ (.cons (.inl ⟨i, rfl⟩) .nil), fun N H' ws a L g h1 h2 h0 h3 => by
      cases h1 with
      | cons q r =>
        cases r with
        | cons q2 r =>
          cases r
          cases (show _ = V.int i from q2)
          exact ⟨a, L, _, rfl, h2, h0, h3, q⟩⟩
  | .un k x, p, ⟨o, b, h, hx⟩, hn => ⟨_, [some x], h, by show 1 ≤ 2; decide, .cons ⟨b, rfl, hx, by have : 1 + x.dep ≤ n + 1 := hn; omega⟩ .nil, fun N H' ws a L g h1 h2 h0 h3 => by
      cases h1 with
      | cons q r =>
        cases r
        exact ⟨a, L, _, rfl, h2, h0, h3, q⟩⟩
theorem DtAt.parts {K : PySem.W.Frag} {H : Hp} {n : Nat} : ∀ {e : Ex} {p : Addr}, DtAt K H e p → e.dep ≤ n + 1 → e.kind ≠ "access" → ∃ vs os, SqT K H p (.str e.kind :: vs) ∧ 1 ≤ vs.length ∧ vs.length ≤ 2 ∧ Each (PtD K H n) vs os ∧ Bld K H e vs os
  | .num i, p, h, hn, _ => ⟨_, [none], h, by show 1 ≤ 1; decide, by show 1 ≤ 2; decide, .cons ⟨i, rfl⟩ .nil, fun N H' ws a L g h1 h2 h0 h3 => by
      cases h1 with
      | cons q t =>
        cases t
        cases (show _ = V.int i from q)
        exact ⟨a, L, rfl, h2, h0, h3⟩⟩
  | .acc nm ls, p, _, hn, hk => absurd rfl hk
  | .bi k x y, p, ⟨o, b, c, h, hx, hy⟩, hn, _ => ⟨_, [some x, some y], h, by show 1 ≤ 2; decide, by show 2 ≤ 2; decide, .cons ⟨b, rfl, hx, by have : 1 + max x.dep y.dep ≤ n + 1 := hn; omega⟩ (.cons ⟨c, rfl, hy, by have : 1 + max x.dep y.dep ≤ n + 1 := hn; omega⟩ .nil), fun N H' ws a L g h1 h2 h0 h3 => by
      cases h1 with
      | cons q r =>
        cases r with
        | cons q2 r =>
          cases r
          exact ⟨a, L, _, _, rfl, h2, h0, h3, q, q2⟩⟩
  | .nu k x i, p, ⟨o, b, h, hx⟩, hn, _ => ⟨_, [some x, none], h, by show 1 ≤ 2; decide, by show 2 ≤ 2; decide, .cons ⟨b, rfl, hx, by have : 1 + x.dep ≤ n + 1 := hn; omega⟩ (.cons ⟨i, rfl⟩ .nil), fun N H' ws a L g h1 h2 h0 h3 => by
      cases h1 with
      | cons q r =>
        cases r with
        | cons q2 r =>
          cases r
          cases (show _ = V.int i from q2)
          exact ⟨a, L, _, rfl, h2, h0, h3, q⟩⟩
  | .un k x, p, ⟨o, b, h, hx⟩, hn, _ => ⟨_, [some x], h, by show 1 ≤ 1; decide, by show 1 ≤ 2; decide, .cons ⟨b, rfl, hx, by have : 1 + x.dep ≤ n + 1 := hn; omega⟩ .nil, fun N H' ws a L g h1 h2 h0 h3 => by
      cases h1 with
      | cons q r =>
        cases r
        exact ⟨a, L, _, rfl, h2, h0, h3, q⟩⟩
end Lw
namespace Lw
open PySem L2 OwB TL
theorem cut_from (x : V) (xs : List V) : cutV (x :: xs) (some 1) none = xs := by
  unfold cutV
  rw [show (1 : Int) = ((1 : Nat) : Int) from rfl, sIx_nat, sIx_none, List.length_cons]
  rw [show min 1 (xs.length + 1) = 1 by omega, List.drop_one, List.tail_cons, show xs.length + 1 - 1 = xs.length by omega, List.take_length]
theorem is3 {K : PySem.W.Frag} {t : Value} {b1 b2 b3 : Bool} (h1 : PySem.W.kitOne K t (.type "int") = some b1) (h2 : PySem.W.kitOne K t (.type "str") = some b2) (h3 : PySem.W.kitOne K t (.type "tuple") = some b3) : PySem.W.kitAny K t [.type "int", .type "str", .type "tuple"] = some (b1 || b2 || b3) := by
  refine kitAny_cons h1 (fun e => kitAny_cons h2 (fun e2 => kitAny_cons h3 (fun e3 => by rw [e, e2, e3]; exact kitAny_nil) (fun e3 => by rw [e, e2, e3] <;> rfl)) (fun e2 => by rw [e, e2] <;> rfl)) (fun e => by rw [e] <;> rfl)
section
variable {P : Program} {w : World} {K : PySem.W.Frag} {mg : Str → Option Value} {base : Heap} {f g C fI : Addr} {fd gd dI : FuncData}
/-- new since H0, and not D -/
def Nw (H0 : Hp) (D : Addr) : Addr → Prop := fun L => H0 L = none ∧ L ≠ D
def New (H0 : Hp) : Addr → Prop := fun L => H0 L = none
/-- the parts as they are seen, one by one -/
def InvPt (K : PySem.W.Frag) (H0 : Hp) (D : Addr) (vs : List V) (os : List (Option Ex)) (i : Nat) (H : Hp) : Prop := ∃ acc : List V, H D = some (.lst acc) ∧ OutsAt K (Nw H0 D) H (vs.take i) (os.take i) acc ∧ Same H0 H
theorem InvPt.push {K : PySem.W.Frag} {H0 H : Hp} {D : Addr} {vs : List V} {os : List (Option Ex)} {i : Nat} {acc : List V} {v w : V} {o : Option Ex} (hD0 : H0 D = none) (hd : H D = some (.lst acc)) (ho : OutsAt K (Nw H0 D) H (vs.take i) (os.take i) acc) (g : Same H0 H) (ev : vs[i]? = some v) (eo : os[i]? = some o) (hw : OutAt K (Nw H0 D) H v o w) :
    InvPt K H0 D vs os (i + 1) (upd H D (.lst (acc ++ [w]))) := by
  refine ⟨_, upd_same, ?_, same_over g hD0 _⟩
  rw [List.take_add_one, ev, List.take_add_one, eo]
  exact (ho.snoc hw).to (TK.lst hd) (fun L xs n e => by rw [upd_ne n.2]; exact e) (fun _ n => n)
theorem OutsAt.same {K : PySem.W.Frag} {N : Addr → Prop} {H H' : Hp} (g : Same H H') {vs ws : List V} {os : List (Option Ex)} (h : OutsAt K N H vs os ws) : OutsAt K N H' vs os ws := h.to (.of g) (fun L xs _ e => g _ _ e) (fun _ n => n)
theorem new_nw {H0 H : Hp} {D : Addr} {acc : List V} (g : Same H0 H) (hd : H D = some (.lst acc)) (L : Addr) (h : New H L) : Nw H0 D L := ⟨g.free h, fun e => by
  have h2 : H L = none := h
  rw [e, hd] at h2
  cases h2⟩
theorem DtAt.sq {K : PySem.W.Frag} {H : Hp} : ∀ {e : Ex} {p : Addr}, DtAt K H e p → ∃ xs, SqT K H p xs
  | .num n, p, h => ⟨_, h⟩
  | .acc nm ls, p, ⟨t, h, _⟩ => ⟨_, h⟩
  | .bi k x y, p, ⟨_, a, b, h, _⟩ => ⟨_, h⟩
  | .nu k x n, p, ⟨_, a, h, _⟩ => ⟨_, h⟩
  | .un k x, p, ⟨_, a, h, _⟩ => ⟨_, h⟩
theorem DtAt.acc_of {K : PySem.W.Frag} {H : Hp} : ∀ {e : Ex} {p : Addr}, DtAt K H e p → e.kind = "access" → ∃ nm ls, e = .acc nm ls
  | .num n, p, h, k => absurd k (kne _ _)
  | .acc nm ls, p, _, _ => ⟨nm, ls, rfl⟩
  | .bi k x y, p, ⟨o, _⟩, h => absurd h o.1
  | .nu k x n, p, ⟨o, _⟩, h => absurd h o.1
  | .un k x, p, ⟨o, _⟩, h => absurd h o.1
def spSeen (K : PySem.W.Frag) (C : Addr) (n : Nat) : Sp := fun vs H Q _ => ∃ (p : Addr) (e : Ex), vs = [.ref p] ∧ ExAt K C H e p ∧ e.dep ≤ n ∧ ∀ (v : V) (H' : Hp), Same H H' → ViewAt K (New H) H' e v → Q v H'
abbrev namesSe : List Str := ["_law_e", "_law_parts", "_law_part"]
theorem scSe : FnScope namesSe ["_law_e"] (defScope sSeen) := ⟨rfl, rfl, rfl, by decide +kernel, rfl, by decide +kernel, by decide +kernel⟩
theorem ok_seen {n : Nat} (F : Fun K "_law_seen" "_law_seen" sSeen f fd) (G : FnOk P w K mg base CX0 n f fd ["_law_e"] (spSeen K C n)) (bF : Binds K fd ["_law_e"] []) (kF : PySem.W.keepIn K (.ref f) = true) (mF : mg "_law_seen" = some (.ref f)) (B : Bt mg) (B2 : Bx mg) (T : Xc K mg C fI)
    (cS : PySem.W.kitOne K (.ref C) (.type "str") = some false) (cT : PySem.W.kitOne K (.ref C) (.type "tuple") = some false) :
    FnOk P w K mg base CX0 (n + 1) f fd ["_law_e"] (spSeen K C (n + 1)) := by
  refine F.ok scSe (fun vs H Q E h => ?_) (fun cdv A outer s H vs Q E hr h => ?_)
  · obtain ⟨p, e, rfl, _⟩ := h
    rfl
  obtain ⟨p, e, rfl, he, hn, q⟩ := h
  refine ⟨_, pss_cons (ps_setLc (i := 1) (own := [("_law_part", 2)]) (g := gName 2) (tt := tYes) (te := tIf (tB (tCB (rIsiT K) (tCons (tVar 2) (tCons (tTup (tCons (tC (.ty "int")) (tCons (tC (.ty "str")) (tCons (tC (.ty "tuple")) tNil)))) tNil)))) (tVar 2) (tCall (spSeen K C n) [] E0 (tCons (tVar 2) tNil)))
      rfl scSe.nd rfl rfl (sw_true rfl rfl rfl (by decide +kernel)) (pi_tup (pe_fld (pv 0) rfl)) (blkOk_by (N := namesSe) (sc := defScope sSeen) (by decide +kernel)) (fun _ _ _ _ _ => pg_name (i := 2) scSe.nd rfl (Or.inl rfl)) (fun _ _ _ _ _ => pts_nil)
      (fun _ _ _ _ _ => pe_ifExp (pt_val (pe_callB call_isiT (by rfl) B.isi (by decide +kernel) (pa_cons (pv 2) (pa_cons (pe_tup (pa_cons (pe_bltn (v := .ty "int") (by rfl) B.int (by decide +kernel) rfl) (pa_cons (pe_bltn (v := .ty "str") (by rfl) B2.str (by decide +kernel) rfl) (pa_cons (pe_bltn (v := .ty "tuple") (by rfl) B.tup (by decide +kernel) rfl) pa_nil)))) pa_nil)))) (pv 2)
        (pe_call G hr rfl mF kF bF .nil pass0 (pa_cons (pv 2) pa_nil))))
    (pss_one (ps_ret (pe_tup (pa_cons (pe_fld (pv 0) rfl) (pa_cons (pe_callB call_isi (by rfl) B.isi (by decide +kernel) (pa_cons (pe_fld (pv 0) rfl) (pa_cons (pe_bltn (v := .ty "tuple") (by rfl) B.tup (by decide +kernel) rfl) pa_nil))) (pa_cons (pv 1) pa_nil)))))), ?_⟩
  obtain ⟨vs, os, ⟨dx, tp, ta, tl, us, ys, hp, htp, _⟩, hl2, hE, hB⟩ := he.parts hn
  have hlo := hE.len
  refine ⟨_, rfl, p, C, dx, _, _, rfl, hp, T.ic.cl, T.nP, fE_p, tp, rfl, ⟨_, htp⟩, fun D hD => ?_⟩
  refine lc_tup (K := K) (a := tp) (xs := vs) (InvPt K H D vs os) ⟨[], upd_same, .nil, same_new hD _⟩ (fun i H' _ ⟨_, _, _, g⟩ => seqT g htp) (fun i x H' hx ⟨acc, hd, ho, g⟩ => ?_) ?_
  · have hal := ho.len
    rw [List.length_take] at hal
    refine ⟨rfl, kept ?_⟩
    refine ⟨_, rfl, (by show 3 ≤ sizeLine; decide), fun t1 ht1 => ?_⟩
    have g1 := same_new ht1 (.tup [.ty "int", .ty "str", .ty "tuple"])
    have hd1 := g1 _ _ hd
    have ho1 := ho.same g1
    have gg := g.trans g1
    have htt : upd H' t1 (.tup [.ty "int", .ty "str", .ty "tuple"]) t1 = some (.tup [.ty "int", .ty "str", .ty "tuple"]) := upd_same
    generalize upd H' t1 (.tup [.ty "int", .ty "str", .ty "tuple"]) = H2 at g1 hd1 ho1 gg htt
    obtain ⟨o, eo, hpt⟩ := hE.get hx
    cases o with
    | none =>
      have fin : ∃ acc, H2 D = some (.lst acc) ∧ acc.length < sizeLine ∧ InvPt K H D vs os (i + 1) (upd H2 D (.lst (acc ++ [x]))) := ⟨acc, hd1, small1000 (by omega), InvPt.push hD hd1 ho1 gg hx eo rfl⟩
      rcases hpt with ⟨j, rfl⟩ | ⟨z, rfl⟩ | ⟨t, xs, rfl, ht⟩
      · exact ⟨_, t1, _, .type "int", [.type "int", .type "str", .type "tuple"], _, rfl, htt, .cons (.ty _) (.cons (.ty _) (.cons (.ty _) .nil)), .base (.int j), is3 (kit_ty (b := "int") (r := true) (by decide +kernel)) (kit_ty (b := "str") (r := false) (by decide +kernel)) (kit_ty (b := "tuple") (r := false) (by decide +kernel)), _, rfl, iteT ⟨_, rfl, fin⟩⟩
      · exact ⟨_, t1, _, .type "str", [.type "int", .type "str", .type "tuple"], _, rfl, htt, .cons (.ty _) (.cons (.ty _) (.cons (.ty _) .nil)), .base (.str z), is3 (kit_ty (b := "int") (r := false) (by decide +kernel)) (kit_ty (b := "str") (r := true) (by decide +kernel)) (kit_ty (b := "tuple") (r := false) (by decide +kernel)), _, rfl, iteT ⟨_, rfl, fin⟩⟩
      · exact ⟨_, t1, _, .type "tuple", [.type "int", .type "str", .type "tuple"], _, rfl, htt, .cons (.ty _) (.cons (.ty _) (.cons (.ty _) .nil)), tyT (seqT gg ht), is3 (kit_ty (b := "int") (r := false) (by decide +kernel)) (kit_ty (b := "str") (r := false) (by decide +kernel)) (kit_ty (b := "tuple") (r := true) (by decide +kernel)), _, rfl, iteT ⟨_, rfl, fin⟩⟩
    | some e' =>
      obtain ⟨a, rfl, he', hdp⟩ := hpt
      have he2 := he'.same gg
      obtain ⟨dx', fs', hia⟩ := he2.inst
      refine ⟨_, t1, _, .ref C, [.type "int", .type "str", .type "tuple"], _, rfl, htt, .cons (.ty _) (.cons (.ty _) (.cons (.ty _) .nil)), tyI T.ic hia, is3 T.cI cS cT, _, rfl, iteF ?_⟩
      refine ⟨_, rfl, a, e', rfl, he2, hdp, fun v H3 g3 hv => ?_⟩
      exact ⟨acc, g3 _ _ hd1, small1000 (by omega), InvPt.push hD (g3 _ _ hd1) (ho1.same g3) (gg.trans g3) hx eo (ViewAt.to (.of (Same.refl H3)) (fun _ _ _ e => e) (new_nw gg hd1) hv)⟩
  rintro H1 ⟨acc, hd, ho, g⟩
  rw [List.take_of_length_le (Nat.le_refl _), List.take_of_length_le (by rw [hlo]; exact Nat.le_refl _)] at ho
  have hp1 := g _ _ hp
  refine ⟨_, rfl, p, C, dx, _, _, rfl, hp1, T.ic.cl, T.nK, fE_k, _, rfl, p, C, dx, _, _, rfl, hp1, T.ic.cl, T.nP, fE_p, _, _, .type "tuple", .type "tuple", true, rfl, .ty _, tyT (seqT g htp), kit_ty (by decide +kernel), _, rfl, (by show 3 ≤ sizeLine; decide), fun tq htq => ?_⟩
  have gq := same_new htq (.tup [.str e.kind, .bl true, .ref D])
  exact q _ _ (g.trans gq) (hB _ _ acc tq D (g.trans gq) ((ho.same gq).to (.of (Same.refl _)) (fun _ _ _ e => e) (fun L n => n.1)) (SqT.of upd_same) hD (gq _ _ hd))
def spDue (K : PySem.W.Frag) (n : Nat) : Sp := fun vs H Q _ => ∃ (p : Addr) (e : Ex), vs = [.ref p] ∧ DtAt K H e p ∧ e.dep ≤ n ∧ ∀ (v : V) (H' : Hp), Same H H' → ViewAt K (New H) H' e v → Q v H'
abbrev namesDu : List Str := ["_law_e", "_law_part"]
theorem scDu : FnScope namesDu ["_law_e"] (defScope sDue) := ⟨rfl, rfl, rfl, by decide +kernel, rfl, by decide +kernel, by decide +kernel⟩
theorem ok_due {n : Nat} (F : Fun K "_law_due" "_law_due" sDue f fd) (G : FnOk P w K mg base CX0 n f fd ["_law_e"] (spDue K n)) (bF : Binds K fd ["_law_e"] []) (kF : PySem.W.keepIn K (.ref f) = true) (mF : mg "_law_due" = some (.ref f)) (B : Bt mg) :
    FnOk P w K mg base CX0 (n + 1) f fd ["_law_e"] (spDue K (n + 1)) := by
  refine F.ok scDu (fun vs H Q E h => ?_) (fun cdv A outer s H vs Q E hr h => ?_)
  · obtain ⟨p, e, rfl, _⟩ := h
    rfl
  obtain ⟨p, e, rfl, he, hn, q⟩ := h
  refine ⟨_, pss_cons (ps_if (pt_cmpR op_eq (pe_ix ix_tup (pv 0) pe_int (fun _ _ => rfl)) pe_str (nomark _)) (pss_one (ps_ret (pe_tup (pa_cons pe_str (pa_cons pe_bl (pa_cons (pe_lst (pa_cons (pe_ix ix_tup (pv 0) pe_int (fun _ _ => rfl)) (pa_cons (pe_ix ix_tup (pv 0) pe_int (fun _ _ => rfl)) pa_nil))) pa_nil)))))) pss_nil)
    (pss_one (ps_ret (pe_tup (pa_cons (pe_ix ix_tup (pv 0) pe_int (fun _ _ => rfl)) (pa_cons pe_bl (pa_cons (pe_lc (own := [("_law_part", 1)]) (g := gName 1) (tt := tYes) (te := tIf (tB (tCB (rIsi K) (tCons (tVar 1) (tCons (tC (.ty "tuple")) tNil)))) (tCall (spDue K n) [] E0 (tCons (tVar 1) tNil)) (tVar 1)) rfl scDu.nd (pi_tup (pe_slice sl_tupA (pv 0) (po_some pe_int) po_none)) (blkOk_by (N := namesDu) (sc := defScope sDue) (by decide +kernel)) (fun _ _ _ _ _ => pg_name (i := 1) scDu.nd rfl (Or.inl rfl)) (fun _ _ _ _ _ => pts_nil)
        (fun _ _ _ _ _ => pe_ifExp (pt_val (pe_callB call_isi (by rfl) B.isi (by decide +kernel) (pa_cons (pv 1) (pa_cons (pe_bltn (v := .ty "tuple") (by rfl) B.tup (by decide +kernel) rfl) pa_nil)))) (pe_call G hr rfl mF kF bF .nil pass0 (pa_cons (pv 1) pa_nil)) (pv 1))) pa_nil)))))), ?_⟩
  by_cases hk : e.kind = "access"
  · obtain ⟨nm, ls, rfl⟩ := he.acc_of hk
    obtain ⟨t, h, ht⟩ := he
    refine ⟨_, rfl, p, _, 0, .str "access", rfl, rfl, h, atI_nat (j := 0) rfl, rfl, _, rfl, ?_⟩
    rw [dec_str, decide_eq_true rfl]
    refine iteT ?_
    refine ⟨_, rfl, p, _, 1, .str nm, rfl, rfl, h, atI_nat (j := 1) rfl, _, rfl, p, _, 2, .ref t, rfl, rfl, h, atI_nat (j := 2) rfl, (by show 2 ≤ sizeLine; decide), fun D hD => ?_⟩
    have gD := same_new hD (.lst [.str nm, .ref t])
    refine ⟨(by show 3 ≤ sizeLine; decide), fun tq htq => ?_⟩
    have gq := same_new htq (.tup [.str "access", .bl true, .ref D])
    exact q _ _ (gD.trans gq) ⟨tq, D, t, rfl, SqT.of upd_same, hD, gq _ _ upd_same, seqT (gD.trans gq) ht⟩
  obtain ⟨vs, os, h, hl1, hl2, hE, hB⟩ := he.parts hn hk
  have hlo := hE.len
  refine ⟨_, rfl, p, _, 0, .str e.kind, rfl, rfl, h, atI_nat (j := 0) rfl, rfl, _, rfl, ?_⟩
  rw [dec_str, decide_eq_false hk]
  refine iteF ?_
  refine ⟨_, rfl, p, _, 0, .str e.kind, rfl, rfl, h, atI_nat (j := 0) rfl, ?_⟩
  refine ⟨_, rfl, 1, rfl, p, _, rfl, h, fun hw => ?_, fun _ pn hpn => ?_⟩
  · exfalso
    have z := hw.1
    rw [show (1 : Int) = ((1 : Nat) : Int) from rfl, sIx_nat, List.length_cons] at z
    omega
  rw [cut_from]
  have gn := same_new hpn (.tup vs)
  have htp : SqT K (upd H pn (.tup vs)) pn vs := SqT.of upd_same
  generalize upd H pn (.tup vs) = H0 at gn htp
  refine ⟨pn, rfl, ⟨_, htp⟩, fun D hD => ?_⟩
  refine lc_tup (K := K) (a := pn) (xs := vs) (InvPt K H0 D vs os) ⟨[], upd_same, .nil, same_new hD _⟩ (fun i H' _ ⟨_, _, _, g⟩ => seqT g htp) (fun i x H' hx ⟨acc, hd, ho, g⟩ => ?_) ?_
  · have hal := ho.len
    rw [List.length_take] at hal
    refine ⟨rfl, kept ?_⟩
    obtain ⟨o, eo, hpt⟩ := hE.get hx
    cases o with
    | none =>
      obtain ⟨j, rfl⟩ := hpt
      exact ⟨_, rfl, _, _, .type "int", .type "tuple", false, rfl, .ty _, .base (.int j), kit_ty (by decide +kernel), _, rfl, iteF ⟨_, rfl, acc, hd, small1000 (by omega), InvPt.push hD hd ho g hx eo rfl⟩⟩
    | some e' =>
      obtain ⟨a, rfl, he', hdp⟩ := hpt
      have he2 := he'.tk (K := K) (.of (gn.trans g))
      obtain ⟨xs, hxs⟩ := he2.sq
      refine ⟨_, rfl, _, _, .type "tuple", .type "tuple", true, rfl, .ty _, tyT hxs, kit_ty (by decide +kernel), _, rfl, iteT ?_⟩
      refine ⟨_, rfl, a, e', rfl, he2, hdp, fun v H3 g3 hv => ?_⟩
      exact ⟨acc, g3 _ _ hd, small1000 (by omega), InvPt.push hD (g3 _ _ hd) (ho.same g3) (g.trans g3) hx eo (ViewAt.to (.of (Same.refl H3)) (fun _ _ _ e => e) (new_nw g hd) hv)⟩
  rintro H1 ⟨acc, hd, ho, g⟩
  rw [List.take_of_length_le (Nat.le_refl _), List.take_of_length_le (by rw [hlo]; exact Nat.le_refl _)] at ho
  refine ⟨(by show 3 ≤ sizeLine; decide), fun tq htq => ?_⟩
  have gq := same_new htq (.tup [.str e.kind, .bl true, .ref D])
  have gA := (gn.trans g).trans gq
  exact q _ _ gA (hB _ _ acc tq D gA ((ho.same gq).to (.of (Same.refl _)) (fun _ _ _ e => e) (fun L n => gn.free n.1)) (SqT.of upd_same) (gn.free hD) (gq _ _ hd))
end
end Lw
namespace Lw
open PySem L2 OwB TL
abbrev sLaw : Stmt := topS 49
/-- a def of the text, by its promise -/
structure Ca (P : Program) (w : World) (K : PySem.W.Frag) (mg : Str → Option Value) (base : Heap) (n : Nat) (x : Str) (ps : List Str) (sp : Sp) : Prop where
  ex : ∃ (g : Addr) (gd : FuncData), FnOk P w K mg base CX0 n g gd ps sp ∧ Binds K gd ps [] ∧ PySem.W.keepIn K (.ref g) = true ∧ mg x = some (.ref g)
/-- all that the law calls -/
structure Lg (P : Program) (w : World) (K : PySem.W.Frag) (mg : Str → Option Value) (base : Heap) (C : Addr) : Prop where
  st_ : Ca P w K mg base 1 "_law_start" ["_law_script"] (spStart K)
  ow_ : Ca P w K mg base 5 "_law_own_accesses" ["_law_stream", "_law_many"] (spOwn K)
  dr_ : Ca P w K mg base 1 "_law_draw" ["_law_stream", "_law_many"] (spDraw)
  la_ : Ca P w K mg base 5 "_law_access" ["_law_name_here", "_law_letters_here"] (spLacc K C)
  nu_ : Ca P w K mg base 4 "number" ["n"] (spNum K C)
  pi_ : Ca P w K mg base 2 "_law_pick" ["_law_stream", "_law_some"] (spPick K)
  pa_ : Ca P w K mg base 8 "_law_pair_built" ["_law_kind", "_law_x", "_law_y"] (sppairB K C)
  be_ : Ca P w K mg base 8 "_law_beside" ["_law_kind", "_law_x", "_law_n"] (spbesB K C)
  bh_ : Ca P w K mg base 8 "_law_behind" ["_law_kind", "_law_n", "_law_x"] (spbehB K C)
  si_ : Ca P w K mg base 9 "_law_single" ["_law_stream", "_law_e", "_law_x"] (spSing K C)
  sa_ : Ca P w K mg base 11 "_law_same" ["_law_found", "_law_due_here"] (spSame K 11)
  se_ : Ca P w K mg base 5 "_law_seen" ["_law_e"] (spSeen K C 5)
  du_ : Ca P w K mg base 5 "_law_due" ["_law_e"] (spDue K 5)
abbrev namesL2 : List Str := ["_law_script", "_law_stream", "_law_pairs", "_law_turn", "_law_name_here", "_law_letters_here", "_law_other", "_law_more", "_law_n", "_law_e", "_law_x", "_law_f", "_law_y", "_law_k", "_law_kind", "_law_made", "_law_data", "_law_built", "_law_one", "_law_due_here"]
theorem scL : FnScope namesL2 ["_law_script"] (defScope sLaw) := ⟨rfl, rfl, rfl, by decide +kernel, rfl, by decide +kernel, by decide +kernel⟩
theorem lts_le : ∀ as : List (Str × List Str), (∀ p ∈ as, okP p) → (lts as).length ≤ 3 * as.length
  | [], _ => Nat.le_refl _
  | p :: r, h => by
    have h1 := lts_le r fun q hq => h q (List.mem_cons_of_mem _ hq)
    have h2 := (h p (List.mem_cons_self ..)).2
    show (p.2 ++ lts r).length ≤ 3 * (r.length + 1)
    rw [List.length_append]
    omega
/-- a good expression of that depth -/
structure Gd (e : Ex) (n : Nat) : Prop where
  as : e.accs.length ≤ n
  dp : e.dep ≤ n
  ok : ∀ p ∈ e.accs, okP p
theorem Gd.sm {e : Ex} {n : Nat} (g : Gd e n) (h : n ≤ 10) : Sm0 e := ⟨by have := g.as; omega, by have := lts_le _ g.ok; have := g.as; omega⟩
theorem Gd.mono {e : Ex} {n m : Nat} (g : Gd e n) (h : n ≤ m) : Gd e m := ⟨Nat.le_trans g.as h, Nat.le_trans g.dp h, g.ok⟩
theorem Gd.num (i : Int) : Gd (.num i) 1 := ⟨Nat.zero_le _, Nat.le_refl _, fun p h => by cases h⟩
theorem Gd.acc {nm : Str} {ls : List Str} (h : okP (nm, ls)) : Gd (.acc nm ls) 1 := ⟨Nat.le_refl _, Nat.le_refl _, fun p hp => by cases List.mem_singleton.mp hp; exact h⟩
theorem Gd.bi {k : Str} {x y : Ex} {n : Nat} (gx : Gd x n) (gy : Gd y 1) (hn : 1 ≤ n) : Gd (.bi k x y) (n + 1) := by
  refine ⟨?_, ?_, fun p hp => (List.mem_append.mp hp).elim (gx.ok p) (gy.ok p)⟩
  · show (x.accs ++ y.accs).length ≤ n + 1
    rw [List.length_append]
    have := gx.as
    have := gy.as
    omega
  · show 1 + max x.dep y.dep ≤ n + 1
    have := gx.dp
    have := gy.dp
    omega
theorem Gd.bi' {k : Str} {x y : Ex} {n : Nat} (gx : Gd x 1) (gy : Gd y n) (hn : 1 ≤ n) : Gd (.bi k x y) (n + 1) := by
  refine ⟨?_, ?_, fun p hp => (List.mem_append.mp hp).elim (gx.ok p) (gy.ok p)⟩
  · show (x.accs ++ y.accs).length ≤ n + 1
    rw [List.length_append]
    have := gx.as
    have := gy.as
    omega
  · show 1 + max x.dep y.dep ≤ n + 1
    have := gx.dp
    have := gy.dp
    omega
theorem Gd.of {e e' : Ex} {n : Nat} (g : Gd e n) (h1 : e'.accs = e.accs) (h2 : e'.dep = 1 + e.dep) : Gd e' (n + 1) := ⟨by rw [h1]; exact Nat.le_succ_of_le g.as, by rw [h2]; have := g.dp; omega, by rw [h1]; exact g.ok⟩
/-- a pair: the package's expression and the law's -/
def OneAt (K : PySem.W.Frag) (C : Addr) (H : Hp) (v : V) (e : Ex) : Prop := ∃ T p d, v = .ref T ∧ SqT K H T [.ref p, .ref d] ∧ ExAt K C H e p ∧ DtAt K H e d
theorem OneAt.ki {K : PySem.W.Frag} {C : Addr} {H H' : Hp} {v : V} {e : Ex} (g : KI H H') : OneAt K C H v e → OneAt K C H' v e
  | ⟨T, p, d, e1, h1, h2, h3⟩ => ⟨T, p, d, e1, g.tk _ _ h1, h2.ki g, h3.tk g.tk⟩
inductive MadeAt (K : PySem.W.Frag) (C : Addr) (H : Hp) : List V → List Ex → Prop where
  | nil : MadeAt K C H [] []
  | cons {v : V} {e : Ex} {vs : List V} {es : List Ex} (h : OneAt K C H v e) (t : MadeAt K C H vs es) : MadeAt K C H (v :: vs) (e :: es)
theorem MadeAt.ki {K : PySem.W.Frag} {C : Addr} {H H' : Hp} (g : KI H H') : ∀ {vs : List V} {es : List Ex}, MadeAt K C H vs es → MadeAt K C H' vs es
  | _, _, .nil => .nil
  | _, _, .cons h t => .cons (h.ki g) (MadeAt.ki g t)
theorem MadeAt.len {K : PySem.W.Frag} {C : Addr} {H : Hp} : ∀ {vs : List V} {es : List Ex}, MadeAt K C H vs es → vs.length = es.length
  | _, _, .nil => rfl
  | _, _, .cons _ t => congrArg Nat.succ t.len
theorem MadeAt.get {K : PySem.W.Frag} {C : Addr} {H : Hp} : ∀ {vs : List V} {es : List Ex} {i : Nat} {v : V}, MadeAt K C H vs es → vs[i]? = some v → ∃ e, es[i]? = some e ∧ OneAt K C H v e
  | _, _, i, _, .nil, e => by cases e
  | _, _, 0, _, .cons h _, e => by cases e; exact ⟨_, rfl, h⟩
  | _, _, i + 1, _, .cons _ t, e => MadeAt.get (i := i) t e
theorem OutsAt.sm {K : PySem.W.Frag} {N N' : Addr → Prop} {H : Hp} {n : Nat} : ∀ {es : List Ex} {vs ws ws' : List V}, (∀ e ∈ es, e.accs.length ≤ 400 ∧ (∀ p ∈ e.accs, okP p) ∧ 2 * e.dep + 2 ≤ n) → OutsAt K N H vs (es.map some) ws → OutsAt K N' H vs (es.map some) ws' → SmAll K H n ws ws'
  | [], _, _, _, _, .nil, .nil => .nil
  | e :: es, _, _, _, h, .cons h1 t1, .cons h2 t2 => .cons (ViewAt.sm (h e (List.mem_cons_self ..)).1 (h e (List.mem_cons_self ..)).2.1 (h e (List.mem_cons_self ..)).2.2 h1 h2) (OutsAt.sm (fun e' he' => h e' (List.mem_cons_of_mem _ he')) t1 t2)
def pairsL : List Str := ["plus", "minus", "times", "both", "either", "unlike", "greater", "lesser", "below", "at_most", "equal", "unequal"]
theorem KI.refl (H : Hp) : KI H H := fun _ _ _ e => e
section
variable {P : Program} {w : World} {K : PySem.W.Frag} {mg : Str → Option Value} {base : Heap} {f g C fI : Addr} {fd gd dI : FuncData}
def spLaw (K : PySem.W.Frag) : Sp := fun vs H Q _ => ∃ (a : Addr) (ns : List Int), vs = [.ref a] ∧ SqL K H a (ns.map V.int) ∧ ns.length ≤ 63 ∧ ∀ H' : Hp, Q (.bl true) H'
theorem ok_law (F : Fun K "law" "law" sLaw f fd) (B : Bt mg) (M : Opx P w K mg base C) (X : Lg P w K mg base C) : FnOk P w K mg base CX0 12 f fd ["_law_script"] (spLaw K) := by
  refine F.ok scL (fun vs H Q E h => ?_) (fun cdv A outer s H vs Q E hr h => ?_)
  · obtain ⟨a, ns, rfl, _⟩ := h
    rfl
  obtain ⟨a, ns, rfl, hS, hn, k⟩ := h
  obtain ⟨g_pos, d_pos, D_pos, F_pos, b_pos⟩ := M.pos_.ex
  obtain ⟨g_st, d_st, G_st, b_st, k_st, m_st⟩ := X.st_.ex
  obtain ⟨g_ow, d_ow, G_ow, b_ow, k_ow, m_ow⟩ := X.ow_.ex
  obtain ⟨g_dr, d_dr, G_dr, b_dr, k_dr, m_dr⟩ := X.dr_.ex
  obtain ⟨g_la, d_la, G_la, b_la, k_la, m_la⟩ := X.la_.ex
  obtain ⟨g_nu, d_nu, G_nu, b_nu, k_nu, m_nu⟩ := X.nu_.ex
  obtain ⟨g_pi, d_pi, G_pi, b_pi, k_pi, m_pi⟩ := X.pi_.ex
  obtain ⟨g_pa, d_pa, G_pa, b_pa, k_pa, m_pa⟩ := X.pa_.ex
  obtain ⟨g_be, d_be, G_be, b_be, k_be, m_be⟩ := X.be_.ex
  obtain ⟨g_bh, d_bh, G_bh, b_bh, k_bh, m_bh⟩ := X.bh_.ex
  obtain ⟨g_si, d_si, G_si, b_si, k_si, m_si⟩ := X.si_.ex
  obtain ⟨g_sa, d_sa, G_sa, b_sa, k_sa, m_sa⟩ := X.sa_.ex
  obtain ⟨g_se, d_se, G_se, b_se, k_se, m_se⟩ := X.se_.ex
  obtain ⟨g_du, d_du, G_du, b_du, k_du, m_du⟩ := X.du_.ex
  refine ⟨_, (pss_cons (ps_set (i := 1) scL.nd rfl (Or.inl rfl) (pe_call G_st (hr.mono (by decide)) rfl m_st k_st b_st .nil pass0 (pa_cons (pv 0) pa_nil))) (pss_cons (ps_set (i := 2) scL.nd rfl (Or.inl rfl) (pe_lst (pa_cons pe_str (pa_cons pe_str (pa_cons pe_str (pa_cons pe_str (pa_cons pe_str (pa_cons pe_str (pa_cons pe_str (pa_cons pe_str pa_nil)))))))))) (pss_cons (ps_set (i := 2) scL.nd rfl (Or.inl rfl) (pe_op op_cat (pv 2) (pe_lst (pa_cons pe_str (pa_cons pe_str (pa_cons pe_str (pa_cons pe_str pa_nil))))))) (pss_cons (ps_for PassesOwn.never rfl (pi_range1 (by rfl) B.range (pa_cons pe_int pa_nil)) (pg_name (i := 3) scL.nd rfl (Or.inl rfl)) (pss_cons (ps_asg (pe_call G_ow (hr.mono (by decide)) rfl m_ow k_ow b_ow .nil pass0 (pa_cons (pv 1) (pa_cons pe_int pa_nil))) (pg_unl rfl (pgs_cons (pg_tup rfl (pgs_cons (pg_name (i := 4) scL.nd rfl (Or.inl rfl)) (pgs_cons (pg_name (i := 5) scL.nd rfl (Or.inl rfl)) pgs_nil))) (pgs_cons (pg_tup rfl (pgs_cons (pg_name (i := 6) scL.nd rfl (Or.inl rfl)) (pgs_cons (pg_name (i := 7) scL.nd rfl (Or.inl rfl)) pgs_nil))) pgs_nil)))) (pss_cons (ps_set (i := 8) scL.nd rfl (Or.inl rfl) (pe_ix ix_list (pe_lst (pa_cons (pe_op op_sub (pe_call G_dr (hr.mono (by decide)) rfl m_dr k_dr b_dr .nil pass0 (pa_cons (pv 1) (pa_cons pe_int pa_nil))) pe_int) (pa_cons (pe_op op_add (pe_op op_pow pe_int pe_int) pe_int) pa_nil))) (pe_callTy call_int1 (by rfl) B.int (by decide +kernel) (pa_cons (pe_cmpR op_eq (pe_call G_dr (hr.mono (by decide)) rfl m_dr k_dr b_dr .nil pass0 (pa_cons (pv 1) (pa_cons pe_int pa_nil))) pe_int (nomark _)) pa_nil)) (fun _ _ => rfl))) (pss_cons (ps_par (i := 9) (j := 10) rfl scL.nd rfl rfl (by decide) rfl rfl (pa_cons (pe_tup (pa_cons pe_str (pa_cons (pv 4) (pa_cons (pv 5) pa_nil)))) (pa_cons (pe_call G_la (hr.mono (by decide)) rfl m_la k_la b_la .nil pass0 (pa_cons (pv 4) (pa_cons (pv 5) pa_nil))) pa_nil)) (by rfl)) (pss_cons (ps_asg (pe_ix ix_list (pe_lst (pa_cons (pe_tup (pa_cons (pe_tup (pa_cons pe_str (pa_cons (pv 6) (pa_cons (pv 7) pa_nil)))) (pa_cons (pe_call G_la (hr.mono (by decide)) rfl m_la k_la b_la .nil pass0 (pa_cons (pv 6) (pa_cons (pv 7) pa_nil))) pa_nil))) (pa_cons (pe_tup (pa_cons (pe_tup (pa_cons pe_str (pa_cons (pv 8) pa_nil))) (pa_cons (pe_call G_nu (hr.mono (by decide)) rfl m_nu k_nu b_nu .nil pass0 (pa_cons (pv 8) pa_nil)) pa_nil))) pa_nil))) (pe_call G_dr (hr.mono (by decide)) rfl m_dr k_dr b_dr .nil pass0 (pa_cons (pv 1) (pa_cons pe_int pa_nil))) (fun _ _ => rfl)) (pg_tup rfl (pgs_cons (pg_name (i := 11) scL.nd rfl (Or.inl rfl)) (pgs_cons (pg_name (i := 12) scL.nd rfl (Or.inl rfl)) pgs_nil)))) (pss_one (ps_for PassesOwn.never rfl (pi_range1 (by rfl) B.range (pa_cons pe_int pa_nil)) (pg_name (i := 13) scL.nd rfl (Or.inl rfl)) (pss_cons (ps_set (i := 14) scL.nd rfl (Or.inl rfl) (pe_call G_pi (hr.mono (by decide)) rfl m_pi k_pi b_pi .nil pass0 (pa_cons (pv 1) (pa_cons (pv 2) pa_nil)))) (pss_cons (ps_set (i := 15) scL.nd rfl (Or.inl rfl) (pe_lst (pa_cons (pe_tup (pa_cons (pv 10) (pa_cons (pv 9) pa_nil))) (pa_cons (pe_tup (pa_cons (pe_call G_pa (hr.mono (by decide)) rfl m_pa k_pa b_pa .nil pass0 (pa_cons (pv 14) (pa_cons (pv 10) (pa_cons (pv 12) pa_nil)))) (pa_cons (pe_tup (pa_cons (pv 14) (pa_cons (pv 9) (pa_cons (pv 11) pa_nil)))) pa_nil))) pa_nil)))) (pss_cons (ps_expr (pe_bm PySem.F.plainAttrs_list PySem.F.slot_list_append PySem.F.type_list_append mt_append (pv 15) (pa_cons (pe_tup (pa_cons (pe_call G_be (hr.mono (by decide)) rfl m_be k_be b_be .nil pass0 (pa_cons (pv 14) (pa_cons (pv 10) (pa_cons (pv 8) pa_nil)))) (pa_cons (pe_tup (pa_cons (pv 14) (pa_cons (pv 9) (pa_cons (pe_tup (pa_cons pe_str (pa_cons (pv 8) pa_nil))) pa_nil)))) pa_nil))) pa_nil))) (pss_cons (ps_expr (pe_bm PySem.F.plainAttrs_list PySem.F.slot_list_append PySem.F.type_list_append mt_append (pv 15) (pa_cons (pe_tup (pa_cons (pe_call G_bh (hr.mono (by decide)) rfl m_bh k_bh b_bh .nil pass0 (pa_cons (pv 14) (pa_cons (pv 8) (pa_cons (pv 10) pa_nil)))) (pa_cons (pe_tup (pa_cons (pv 14) (pa_cons (pe_tup (pa_cons pe_str (pa_cons (pv 8) pa_nil))) (pa_cons (pv 9) pa_nil)))) pa_nil))) pa_nil))) (pss_cons (ps_asg (pe_call G_si (hr.mono (by decide)) rfl m_si k_si b_si .nil pass0 (pa_cons (pv 1) (pa_cons (pv 9) (pa_cons (pv 10) pa_nil)))) (pg_tup rfl (pgs_cons (pg_name (i := 16) scL.nd rfl (Or.inl rfl)) (pgs_cons (pg_name (i := 17) scL.nd rfl (Or.inl rfl)) pgs_nil)))) (pss_cons (ps_expr (pe_bm PySem.F.plainAttrs_list PySem.F.slot_list_extend PySem.F.type_list_extend mt_extend (pv 15) (pa_cons (pe_lst (pa_cons (pe_tup (pa_cons (pv 17) (pa_cons (pv 16) pa_nil))) (pa_cons (pe_tup (pa_cons (pe_un (un_own_pos D_pos F_pos (hr.mono (by decide)) b_pos pass0) (pv 10)) (pa_cons (pv 9) pa_nil))) (pa_cons (pe_tup (pa_cons (pv 12) (pa_cons (pv 11) pa_nil))) pa_nil)))) pa_nil))) (pss_cons (ps_if (pt_not (pt_val (pe_call G_sa (hr.mono (by decide)) rfl m_sa k_sa b_sa .nil pass0 (pa_cons (pe_lc (own := [("_law_one", 18), ("_law_due_here", 19)]) (g := gTup K 2 (gCons (gName 18) (gCons (gName 19) gNil))) (tt := tYes) (te := tCall (spSeen K C 5) [] E0 (tCons (tVar 18) tNil)) rfl scL.nd (pi_list (pv 15)) (blkOk_by (N := namesL2) (sc := defScope sLaw) (by decide +kernel)) (fun _ _ _ _ _ => pg_tup rfl (pgs_cons (pg_name (i := 18) scL.nd rfl (Or.inl rfl)) (pgs_cons (pg_name (i := 19) scL.nd rfl (Or.inl rfl)) pgs_nil))) (fun _ _ _ _ _ => pts_nil) (fun _ _ _ _ _ => (pe_call G_se (hr.mono (by decide)) rfl m_se k_se b_se .nil pass0 (pa_cons (pv 18) pa_nil)))) (pa_cons (pe_lc (own := [("_law_one", 18), ("_law_due_here", 19)]) (g := gTup K 2 (gCons (gName 18) (gCons (gName 19) gNil))) (tt := tYes) (te := tCall (spDue K 5) [] E0 (tCons (tVar 19) tNil)) rfl scL.nd (pi_list (pv 15)) (blkOk_by (N := namesL2) (sc := defScope sLaw) (by decide +kernel)) (fun _ _ _ _ _ => pg_tup rfl (pgs_cons (pg_name (i := 18) scL.nd rfl (Or.inl rfl)) (pgs_cons (pg_name (i := 19) scL.nd rfl (Or.inl rfl)) pgs_nil))) (fun _ _ _ _ _ => pts_nil) (fun _ _ _ _ _ => (pe_call G_du (hr.mono (by decide)) rfl m_du k_du b_du .nil pass0 (pa_cons (pv 19) pa_nil)))) pa_nil))))) (pss_one ps_never) pss_nil) (pss_one (ps_asg (pe_ix ix_list (pv 15) (pe_op op_add pe_int (pe_call G_dr (hr.mono (by decide)) rfl m_dr k_dr b_dr .nil pass0 (pa_cons (pv 1) (pa_cons pe_int pa_nil)))) (fun _ _ => rfl)) (pg_tup rfl (pgs_cons (pg_name (i := 10) scL.nd rfl (Or.inl rfl)) (pgs_cons (pg_name (i := 9) scL.nd rfl (Or.inl rfl)) pgs_nil))))))))))))))))))) (pss_one (ps_ret pe_bl)))))), ?_⟩
  refine ⟨_, rfl, a, ns, rfl, hS, hn, fun st q H1 g1 hs1 => ?_⟩
  refine ⟨(by show 8 ≤ sizeLine; decide), fun l1 hl1 => ?_⟩
  have k1 := same_new hl1 (.lst [.str "plus", .str "minus", .str "times", .str "both", .str "either", .str "unlike", .str "greater", .str "lesser"])
  refine ⟨_, rfl, (by show 4 ≤ sizeLine; decide), fun l2 hl2 => ?_⟩
  have k2 := same_new hl2 (.lst [.str "below", .str "at_most", .str "equal", .str "unequal"])
  refine ⟨l1, l2, _, _, rfl, rfl, k2 _ _ upd_same, upd_same, (by show 8 + 4 ≤ sizeLine; decide), fun Pp hPp => ?_⟩
  have k3 := same_new hPp (.lst (pairsL.map V.str))
  have hs2 := (hs1.same k1).same k2
  obtain ⟨nP1, nP2⟩ := hs2.out hPp
  refine ⟨6, rfl, by decide, by decide, for_range (lo := 0) (n := 6) (fun i σ' H' => ∃ (b : Int) (x3 x4 x5 x6 x7 x8 x9 x10 x11 x12 x13 x14 x15 x16 x17 : Option V),
    σ' = [some (.ref a), some (.ref st), some (.ref Pp), x3, x4, x5, x6, x7, x8, x9, x10, x11, x12, x13, x14, x15, x16, x17, none, none] ∧ H' Pp = some (.lst (pairsL.map V.str)) ∧ Spr H' st q b ∧ 0 ≤ b ∧ b ≤ 80 * i)
    ⟨0, _, _, _, _, _, _, _, _, _, _, _, _, _, _, _, rfl, upd_same, hs2.same k3, by decide, by decide⟩ ?_ ?_⟩
  · rintro i σ' H2 hi ⟨b, x3, x4, x5, x6, x7, x8, x9, x10, x11, x12, x13, x14, x15, x16, x17, rfl, hP2, hs2, hb0, hb1⟩
    refine ⟨_, rfl, st, q, b, rfl, hs2, by omega, by omega, fun r us ps b1 H3 hl2 hps hok hb2 hb3 hs3 g3 hr3 hr0 => ?_⟩
    have hP3 := g3 _ _ nP1 nP2 hP2
    cases hps with
    | nil => cases hl2
    | cons pr1 hps =>
      cases hps with
      | nil => cases hl2
      | cons pr2 hps =>
        cases hps with
        | cons _ _ => cases hl2
        | nil =>
          rename_i v1 q1 v2 q2
          obtain ⟨a1, t1, rfl, h1, h1'⟩ := pr1
          obtain ⟨a2, t2, rfl, h2, h2'⟩ := pr2
          obtain ⟨nm1, ls1⟩ := q1
          obtain ⟨nm2, ls2⟩ := q2
          have ok1 : okP (nm1, ls1) := hok _ (List.mem_cons_self ..)
          have ok2 : okP (nm2, ls2) := hok _ (List.mem_cons_of_mem _ (List.mem_cons_self ..))
          refine ⟨r, _, rfl, SqL.of hr3, rfl, _, _, rfl, a1, _, rfl, h1, rfl, _, _, rfl, _, _, rfl, rfl, _, _, rfl, a2, _, rfl, h2, rfl, _, _, rfl, _, _, rfl, rfl, rfl, ?_⟩
          refine ⟨_, rfl, st, q, b1, 30, rfl, hs3, by omega, by omega, by decide, by decide, fun d1 H4 _ _ hs4 g4 => ?_⟩
          refine ⟨_, _, rfl, rfl, _, _, rfl, rfl, ⟨by decide, by decide, by decide⟩, _, _, rfl, rfl, (by show 2 ≤ sizeLine; decide), fun ln hln => ?_⟩
          have k4 := same_new hln (.lst [.int (d1 - 9), .int ((10 : Int) ^ (19 : Int).toNat + 1)])
          obtain ⟨nn1, nn2⟩ := hs4.out hln
          have hln4 : upd H4 ln (.lst [.int (d1 - 9), .int ((10 : Int) ^ (19 : Int).toNat + 1)]) ln = some (.lst [.int (d1 - 9), .int ((10 : Int) ^ (19 : Int).toNat + 1)]) := upd_same
          have hs4' := hs4.same k4
          have hP4 := k4 _ _ (g4 _ _ nP1 nP2 hP3)
          have ki4 : KI H3 (upd H4 ln (.lst [.int (d1 - 9), .int ((10 : Int) ^ (19 : Int).toNat + 1)])) := (KI.sx hs3 g4).trans (.of k4)
          refine ⟨_, rfl, st, q, _, 5, rfl, hs4', by omega, by omega, by decide, by decide, fun d2 H5 _ _ hs5 g5 => ?_⟩
          have key : ∀ k : Bool, ∃ n : Int, atI [V.int (d1 - 9), V.int ((10 : Int) ^ (19 : Int).toNat + 1)] (if k = true then 1 else 0) = some (.int n) := fun k => by
            cases k with
            | false => exact ⟨_, atI_nat (j := 0) rfl⟩
            | true => exact ⟨_, atI_nat (j := 1) rfl⟩
          obtain ⟨n, hn5⟩ := key (decide (V.int d2 = V.int 0))
          refine ⟨rfl, .inr ⟨_, rfl, ln, _, _, .int n, rfl, rfl, SqL.of (g5 _ _ nn1 nn2 hln4), hn5, ?_⟩⟩
          have hP5 := g5 _ _ nP1 nP2 hP4
          have ki5 : KI H3 H5 := ki4.trans (KI.sx hs4' g5)
          have sq1 := ki5.tk (K := K) _ _ h1'
          have sq2 := ki5.tk (K := K) _ _ h2'
          clear hln4 ki4 k4 hP4 g5 hs4'
          -- e, x
          refine ⟨_, rfl, _, rfl, (by show 3 ≤ sizeLine; decide), fun de hde => ?_⟩
          have k6 := same_new hde (.tup [.str "access", .str nm1, .ref t1])
          have sde : SqT K (upd H5 de (.tup [.str "access", .str nm1, .ref t1])) de [.str "access", .str nm1, .ref t1] := SqT.of upd_same
          generalize upd H5 de (.tup [.str "access", .str nm1, .ref t1]) = H6 at k6 sde ⊢
          refine ⟨_, rfl, _, rfl, nm1, ls1, t1, rfl, seqT k6 sq1, ok1.2, ok1.1, fun p H7 g7 he7 => ⟨_, _, rfl, ?_⟩⟩
          have dt7 : DtAt K H7 (.acc nm1 ls1) de := ⟨t1, seqT g7 sde, seqT (k6.trans g7) sq1⟩
          -- f, y
          refine ⟨_, rfl, _, rfl, (by show 3 ≤ sizeLine; decide), fun df hdf => ?_⟩
          have k8 := same_new hdf (.tup [.str "access", .str nm2, .ref t2])
          have sdf : SqT K (upd H7 df (.tup [.str "access", .str nm2, .ref t2])) df [.str "access", .str nm2, .ref t2] := SqT.of upd_same
          generalize upd H7 df (.tup [.str "access", .str nm2, .ref t2]) = H8 at k8 sdf ⊢
          have k58 := (k6.trans g7).trans k8
          refine ⟨_, rfl, _, rfl, nm2, ls2, t2, rfl, seqT k58 sq2, ok2.2, ok2.1, fun p2 H9 g9 he9 => ?_⟩
          refine ⟨(by show 2 ≤ sizeLine; decide), fun T1 hT1 => ?_⟩
          have k10 := same_new hT1 (.tup [.ref df, .ref p2])
          have sT1 : SqT K (upd H9 T1 (.tup [.ref df, .ref p2])) T1 [.ref df, .ref p2] := SqT.of upd_same
          generalize upd H9 T1 (.tup [.ref df, .ref p2]) = H10 at k10 sT1 ⊢
          refine ⟨_, rfl, (by show 2 ≤ sizeLine; decide), fun dn hdn => ?_⟩
          have k11 := same_new hdn (.tup [.str "number", .int n])
          have sdn : SqT K (upd H10 dn (.tup [.str "number", .int n])) dn [.str "number", .int n] := SqT.of upd_same
          generalize upd H10 dn (.tup [.str "number", .int n]) = H11 at k11 sdn ⊢
          refine ⟨_, rfl, n, rfl, fun p3 H12 g12 he12 => ?_⟩
          refine ⟨(by show 2 ≤ sizeLine; decide), fun T2 hT2 => ?_⟩
          have k13 := same_new hT2 (.tup [.ref dn, .ref p3])
          have sT2 : SqT K (upd H12 T2 (.tup [.ref dn, .ref p3])) T2 [.ref dn, .ref p3] := SqT.of upd_same
          generalize upd H12 T2 (.tup [.ref dn, .ref p3]) = H13 at k13 sT2 ⊢
          refine ⟨(by show 2 ≤ sizeLine; decide), fun lf hlf => ?_⟩
          have k14 := same_new hlf (.lst [.ref T1, .ref T2])
          have slf : upd H13 lf (.lst [.ref T1, .ref T2]) lf = some (.lst [.ref T1, .ref T2]) := upd_same
          have k713 := (((k8.trans g9).trans k10).trans k11).trans (g12.trans k13)
          have hs13 := hs5.same ((k6.trans g7).trans k713)
          obtain ⟨nf1, nf2⟩ := hs13.out hlf
          generalize upd H13 lf (.lst [.ref T1, .ref T2]) = H14 at k14 slf ⊢
          have hs14 := hs13.same k14
          refine ⟨_, rfl, st, q, _, 2, rfl, hs14, by omega, by omega, by decide, by decide, fun d3 H15 r0 r1 hs15 g15 => ?_⟩
          have ki15 : KI H14 H15 := KI.sx hs14 g15
          have k714 := k713.trans k14
          have hP15 := g15 _ _ nP1 nP2 (k714 _ _ (g7 _ _ (k6 _ _ hP5)))
          have ex15 := (he7.same k714).ki ki15
          have dt15 := (dt7.tk (K := K) (.of k714)).tk ki15.tk
          obtain ⟨T, dy, ry, ey, hat, sT, hey, hdy, gdy⟩ : ∃ (T dy ry : Addr) (ey : Ex), atI [V.ref T1, V.ref T2] d3 = some (.ref T) ∧ SqT K H15 T [.ref dy, .ref ry] ∧ ExAt K C H15 ey ry ∧ DtAt K H15 ey dy ∧ Gd ey 1 := by
            have h01 : d3 = ((0 : Nat) : Int) ∨ d3 = ((1 : Nat) : Int) := by omega
            have kA : KI H9 H14 := .of (((k10.trans k11).trans (g12.trans k13)).trans k14)
            rcases h01 with rfl | rfl
            · refine ⟨T1, df, p2, .acc nm2 ls2, atI_nat (j := 0) rfl, ki15.tk _ _ (seqT ((k11.trans (g12.trans k13)).trans k14) sT1), (he9.ki kA).ki ki15, ?_, Gd.acc ok2⟩
              exact ⟨t2, ki15.tk _ _ (kA.tk _ _ (seqT g9 sdf)), ki15.tk _ _ (kA.tk _ _ (seqT (k58.trans g9) sq2))⟩
            · refine ⟨T2, dn, p3, .num n, atI_nat (j := 1) rfl, ki15.tk _ _ (seqT k14 sT2), (he12.same (k13.trans k14)).ki ki15, ?_, Gd.num n⟩
              exact ki15.tk _ _ (seqT ((g12.trans k13).trans k14) sdn)
          refine ⟨lf, _, _, .ref T, rfl, rfl, SqL.of (g15 _ _ nf1 nf2 slf), hat, T, _, rfl, sT, rfl, _, _, rfl, _, _, rfl, rfl, ?_⟩
          have gd1 : Gd (.acc nm1 ls1) 1 := Gd.acc ok1
          generalize Ex.acc nm1 ls1 = ex0 at ex15 dt15 gd1
          clear slf sT2 sT1 sdn sdf he12 he9 he7 dt7 k14 k713 k714 k13 k11 k10 k8 k58 g12 g9 g7 sde k6 hs14 hs13 hs5 hP5 sq1 sq2 h1 h1' h2 h2' hat sT
          refine ⟨3, rfl, by decide, by decide, for_range (lo := 0) (n := 3) (fun j σ' H' => ∃ (b : Int) (ex : Ex) (p d : Addr) (x3 x4 x5 x6 x7 x13 x14 x15 x16 x17 : Option V),
            σ' = [some (.ref a), some (.ref st), some (.ref Pp), x3, x4, x5, x6, x7, some (.int n), some (.ref d), some (.ref p), some (.ref dy), some (.ref ry), x13, x14, x15, x16, x17, none, none] ∧ H' Pp = some (.lst (pairsL.map V.str)) ∧ Spr H' st q b ∧ 0 ≤ b ∧ b ≤ 80 * i + 65 + 5 * j ∧
            ExAt K C H' ex p ∧ DtAt K H' ex d ∧ Gd ex (1 + j) ∧ ExAt K C H' ey ry ∧ DtAt K H' ey dy)
            ⟨_, ex0, p, de, _, _, _, _, _, _, _, _, _, _, rfl, hP15, hs15, by omega, by omega, ex15, dt15, gd1, hey, hdy⟩ ?_ ?_⟩
          · rintro j σ' H0 hj ⟨b, ex, p, d, x3, x4, x5, x6, x7, x13, x14, x15, x16, x17, rfl, hP0, hs0, hb0, hb1, hex0, hdx0, gx, hey0, hdy0⟩
            have hjb : b ≤ 600 := by omega
            refine ⟨_, rfl, _, rfl, st, q, Pp, b, _, rfl, hs0, hb0, by omega, hP0, nP1, nP2, by show 0 < 12; decide, by show 12 ≤ 1000; decide, fun v H1 hv hs1 g1 => ?_⟩
            obtain ⟨kd, hkd, rfl⟩ := List.mem_map.mp hv
            have pk : PairK kd := hkd
            have ki1 := KI.sx hs0 g1
            have hP1 := g1 _ _ nP1 nP2 hP0
            have hex1 := hex0.ki ki1
            have hdx1 := hdx0.tk (K := K) ki1.tk
            have hey1 := hey0.ki ki1
            have hdy1 := hdy0.tk (K := K) ki1.tk
            have smx := gx.sm (by omega)
            have smy := gdy.sm (by decide)
            have smn : Sm0 (.num n) := (Gd.num n).sm (by decide)
            clear hex0 hdx0 hey0 hdy0 hP0 ki1 g1
            refine ⟨_, rfl, _, rfl, (by show 2 ≤ sizeLine; decide), fun T1 hT1 => ?_⟩
            have k2 := same_new hT1 (.tup [.ref p, .ref d])
            have s2 : SqT K (upd H1 T1 (.tup [.ref p, .ref d])) T1 [.ref p, .ref d] := SqT.of upd_same
            generalize upd H1 T1 (.tup [.ref p, .ref d]) = H2 at k2 s2 ⊢
            refine ⟨_, rfl, _, rfl, _, rfl, kd, _, _, ex, ey, rfl, pk, ⟨p, ry, rfl, rfl, hex1.same k2, hey1.same k2⟩, smx, smy, fun p2 H3 g3 he3 => ?_⟩
            refine ⟨_, rfl, _, rfl, _, rfl, (by show 3 ≤ sizeLine; decide), fun t2 ht2 => ?_⟩
            have k4 := same_new ht2 (.tup [.str kd, .ref d, .ref dy])
            have s4 : SqT K (upd H3 t2 (.tup [.str kd, .ref d, .ref dy])) t2 [.str kd, .ref d, .ref dy] := SqT.of upd_same
            generalize upd H3 t2 (.tup [.str kd, .ref d, .ref dy]) = H4 at k4 s4 ⊢
            refine ⟨(by show 2 ≤ sizeLine; decide), fun T2 hT2 => ?_⟩
            have k5 := same_new hT2 (.tup [.ref p2, .ref t2])
            have s5 : SqT K (upd H4 T2 (.tup [.ref p2, .ref t2])) T2 [.ref p2, .ref t2] := SqT.of upd_same
            generalize upd H4 T2 (.tup [.ref p2, .ref t2]) = H5 at k5 s5 ⊢
            refine ⟨(by show 2 ≤ sizeLine; decide), fun Lm hLm => ?_⟩
            have g15 := ((k2.trans g3).trans k4).trans k5
            have nL := (ne_of_none (g15 _ _ hP1) hLm)
            obtain ⟨nL1, nL2⟩ := (hs1.same g15).out hLm
            have k6 := same_new hLm (.lst [.ref T1, .ref T2])
            have l6 : upd H5 Lm (.lst [.ref T1, .ref T2]) Lm = some (.lst [.ref T1, .ref T2]) := upd_same
            generalize upd H5 Lm (.lst [.ref T1, .ref T2]) = H6 at k6 l6 ⊢
            have k16 := g15.trans k6
            have hex6 := hex1.same k16
            have hdx6 := hdx1.tk (K := K) (.of k16)
            have hey6 := hey1.same k16
            have hdy6 := hdy1.tk (K := K) (.of k16)
            have hP6 := k16 _ _ hP1
            have hs6 := hs1.same k16
            have o1 : OneAt K C H6 (.ref T1) ex := ⟨T1, p, d, rfl, seqT (((g3.trans k4).trans k5).trans k6) s2, hex6, hdx6⟩
            have o2 : OneAt K C H6 (.ref T2) (.bi kd ex ey) := ⟨T2, p2, t2, rfl, seqT k6 s5, he3.same ((k4.trans k5).trans k6), ⟨pk.ok, d, dy, seqT (k5.trans k6) s4, hdx6, hdy6⟩⟩
            clear k16 k6 g15 s5 s4 s2 k5 k4 g3 k2 he3 hex1 hdx1 hey1 hdy1 hP1 hs1
            -- beside
            refine ⟨_, rfl, .inl ⟨rfl, _, SqL.of l6⟩, ?_⟩
            refine ⟨_, rfl, _, rfl, _, rfl, kd, _, _, ex, .num n, rfl, pk, ⟨p, n, rfl, rfl, hex6, rfl⟩, smx, smn, fun p3 H7 g7 he7 => ?_⟩
            refine ⟨_, rfl, _, rfl, _, rfl, (by show 2 ≤ sizeLine; decide), fun dn hdn => ?_⟩
            have k8 := same_new hdn (.tup [.str "number", .int n])
            have s8 : SqT K (upd H7 dn (.tup [.str "number", .int n])) dn [.str "number", .int n] := SqT.of upd_same
            generalize upd H7 dn (.tup [.str "number", .int n]) = H8 at k8 s8 ⊢
            refine ⟨(by show 3 ≤ sizeLine; decide), fun t3 ht3 => ?_⟩
            have k9 := same_new ht3 (.tup [.str kd, .ref d, .ref dn])
            have s9 : SqT K (upd H8 t3 (.tup [.str kd, .ref d, .ref dn])) t3 [.str kd, .ref d, .ref dn] := SqT.of upd_same
            generalize upd H8 t3 (.tup [.str kd, .ref d, .ref dn]) = H9 at k9 s9 ⊢
            refine ⟨(by show 2 ≤ sizeLine; decide), fun T3 hT3 => ?_⟩
            have k10 := same_new hT3 (.tup [.ref p3, .ref t3])
            have s10 : SqT K (upd H9 T3 (.tup [.ref p3, .ref t3])) T3 [.ref p3, .ref t3] := SqT.of upd_same
            generalize upd H9 T3 (.tup [.ref p3, .ref t3]) = H10 at k10 s10 ⊢
            have g610 := ((g7.trans k8).trans k9).trans k10
            have l10 := g610 _ _ l6
            refine ⟨Lm, _, .ref T3, rfl, rfl, l10, small1000 (by show 2 ≤ 1000; decide), ?_⟩
            have u11 := KI.lst (ys := [.ref T1, .ref T2] ++ [.ref T3]) l10
            have l11 : upd H10 Lm (.lst ([.ref T1, .ref T2] ++ [.ref T3])) Lm = some (.lst ([.ref T1, .ref T2] ++ [.ref T3])) := upd_same
            have hP11 : upd H10 Lm (.lst ([.ref T1, .ref T2] ++ [.ref T3])) Pp = some (.lst (pairsL.map V.str)) := by rw [upd_ne nL]; exact g610 _ _ hP6
            have hs11 := (hs6.same g610).upd (o := .lst ([.ref T1, .ref T2] ++ [.ref T3])) nL1 nL2
            generalize upd H10 Lm (.lst ([.ref T1, .ref T2] ++ [.ref T3])) = H11 at u11 l11 hP11 hs11 ⊢
            have ki11 := (KI.of g610).trans u11
            have hex11 := hex6.ki ki11
            have hdx11 := hdx6.tk (K := K) ki11.tk
            have hey11 := hey6.ki ki11
            have hdy11 := hdy6.tk (K := K) ki11.tk
            have o3 : OneAt K C H11 (.ref T3) (.bi kd ex (.num n)) := ⟨T3, p3, t3, rfl, u11.tk _ _ s10, (he7.same ((k8.trans k9).trans k10)).ki u11, ⟨pk.ok, d, dn, u11.tk _ _ (seqT k10 s9), hdx11, u11.tk _ _ (seqT (k9.trans k10) s8)⟩⟩
            have p1 := o1.ki ki11
            have p2' := o2.ki ki11
            clear o1 o2 ki11 u11 l10 g610 s10 s9 s8 k10 k9 k8 he7 g7 hex6 hdx6 hey6 hdy6 hP6 hs6 l6
            -- behind
            refine ⟨_, rfl, .inl ⟨rfl, _, SqL.of l11⟩, ?_⟩
            refine ⟨_, rfl, _, rfl, _, rfl, kd, _, _, .num n, ex, rfl, pk, ⟨n, p, rfl, rfl, rfl, hex11⟩, smn, smx, fun p4 H12 g12 he12 => ?_⟩
            refine ⟨_, rfl, _, rfl, (by show 2 ≤ sizeLine; decide), fun dm hdm => ?_⟩
            have k13 := same_new hdm (.tup [.str "number", .int n])
            have s13 : SqT K (upd H12 dm (.tup [.str "number", .int n])) dm [.str "number", .int n] := SqT.of upd_same
            generalize upd H12 dm (.tup [.str "number", .int n]) = H13 at k13 s13 ⊢
            refine ⟨_, rfl, (by show 3 ≤ sizeLine; decide), fun t4 ht4 => ?_⟩
            have k14 := same_new ht4 (.tup [.str kd, .ref dm, .ref d])
            have s14 : SqT K (upd H13 t4 (.tup [.str kd, .ref dm, .ref d])) t4 [.str kd, .ref dm, .ref d] := SqT.of upd_same
            generalize upd H13 t4 (.tup [.str kd, .ref dm, .ref d]) = H14 at k14 s14 ⊢
            refine ⟨(by show 2 ≤ sizeLine; decide), fun T4 hT4 => ?_⟩
            have k15 := same_new hT4 (.tup [.ref p4, .ref t4])
            have s15 : SqT K (upd H14 T4 (.tup [.ref p4, .ref t4])) T4 [.ref p4, .ref t4] := SqT.of upd_same
            generalize upd H14 T4 (.tup [.ref p4, .ref t4]) = H15 at k15 s15 ⊢
            have g1115 := ((g12.trans k13).trans k14).trans k15
            have l15 := g1115 _ _ l11
            refine ⟨Lm, _, .ref T4, rfl, rfl, l15, small1000 (by show 3 ≤ 1000; decide), ?_⟩
            have u16 := KI.lst (ys := [.ref T1, .ref T2] ++ [.ref T3] ++ [.ref T4]) l15
            have l16 : upd H15 Lm (.lst ([.ref T1, .ref T2] ++ [.ref T3] ++ [.ref T4])) Lm = some (.lst ([.ref T1, .ref T2] ++ [.ref T3] ++ [.ref T4])) := upd_same
            have hP16 : upd H15 Lm (.lst ([.ref T1, .ref T2] ++ [.ref T3] ++ [.ref T4])) Pp = some (.lst (pairsL.map V.str)) := by rw [upd_ne nL]; exact g1115 _ _ hP11
            have hs16 := (hs11.same g1115).upd (o := .lst ([.ref T1, .ref T2] ++ [.ref T3] ++ [.ref T4])) nL1 nL2
            generalize upd H15 Lm (.lst ([.ref T1, .ref T2] ++ [.ref T3] ++ [.ref T4])) = H16 at u16 l16 hP16 hs16 ⊢
            have ki16 := (KI.of g1115).trans u16
            have hex16 := hex11.ki ki16
            have hdx16 := hdx11.tk (K := K) ki16.tk
            have hey16 := hey11.ki ki16
            have hdy16 := hdy11.tk (K := K) ki16.tk
            have o4 : OneAt K C H16 (.ref T4) (.bi kd (.num n) ex) := ⟨T4, p4, t4, rfl, u16.tk _ _ s15, (he12.same ((k13.trans k14).trans k15)).ki u16, ⟨pk.ok, dm, d, u16.tk _ _ (seqT k15 s14), u16.tk _ _ (seqT (k14.trans k15) s13), hdx16⟩⟩
            have q1 := p1.ki ki16
            have q2 := p2'.ki ki16
            have q3 := o3.ki ki16
            clear p1 p2' o3 ki16 u16 l15 g1115 s15 s14 s13 k15 k14 k13 he12 g12 hex11 hdx11 hey11 hdy11 hP11 hs11 l11
            -- single
            refine ⟨_, rfl, _, rfl, _, rfl, st, q, d, p, b + 1, ex, rfl, hs16, by omega, by omega, hdx16, hex16, smx, fun e' d' p' T b' H17 hT hd' hp' ha hdep hbb hbb' hs17 g17 => ?_⟩
            refine ⟨T, _, rfl, hT, rfl, _, _, rfl, _, _, rfl, rfl, ?_⟩
            have ki17 := KI.sx hs16 g17
            have l17 := g17 _ _ nL1 nL2 l16
            have hP17 := g17 _ _ nP1 nP2 hP16
            have hex17 := hex16.ki ki17
            have hdx17 := hdx16.tk (K := K) ki17.tk
            have hey17 := hey16.ki ki17
            have hdy17 := hdy16.tk (K := K) ki17.tk
            have r1 := q1.ki ki17
            have r2 := q2.ki ki17
            have r3 := q3.ki ki17
            have r4 := o4.ki ki17
            clear q1 q2 q3 o4 ki17 g17 hs16 hP16 l16 hex16 hdx16 hey16 hdy16 hT
            -- extend
            refine ⟨_, rfl, .inl ⟨rfl, _, SqL.of l17⟩, ?_⟩
            refine ⟨_, rfl, _, rfl, (by show 2 ≤ sizeLine; decide), fun T5 hT5 => ?_⟩
            have k18 := same_new hT5 (.tup [.ref p', .ref d'])
            have s18 : SqT K (upd H17 T5 (.tup [.ref p', .ref d'])) T5 [.ref p', .ref d'] := SqT.of upd_same
            generalize upd H17 T5 (.tup [.ref p', .ref d']) = H18 at k18 s18 ⊢
            have hex18 := hex17.same k18
            obtain ⟨dx, fs, hpi⟩ := hex18.inst
            refine ⟨_, rfl, p, dx, fs, rfl, hpi, _, ex, rfl, .inr ⟨p, rfl, hex18⟩, fun p6 H19 g19 he19 => ?_⟩
            refine ⟨_, rfl, (by show 2 ≤ sizeLine; decide), fun T6 hT6 => ?_⟩
            have k20 := same_new hT6 (.tup [.ref p6, .ref d])
            have s20 : SqT K (upd H19 T6 (.tup [.ref p6, .ref d])) T6 [.ref p6, .ref d] := SqT.of upd_same
            generalize upd H19 T6 (.tup [.ref p6, .ref d]) = H20 at k20 s20 ⊢
            refine ⟨_, rfl, _, rfl, (by show 2 ≤ sizeLine; decide), fun T7 hT7 => ?_⟩
            have k21 := same_new hT7 (.tup [.ref ry, .ref dy])
            have s21 : SqT K (upd H20 T7 (.tup [.ref ry, .ref dy])) T7 [.ref ry, .ref dy] := SqT.of upd_same
            generalize upd H20 T7 (.tup [.ref ry, .ref dy]) = H21 at k21 s21 ⊢
            refine ⟨(by show 3 ≤ sizeLine; decide), fun L3 hL3 => ?_⟩
            have k22 := same_new hL3 (.lst [.ref T5, .ref T6, .ref T7])
            have l22 : upd H21 L3 (.lst [.ref T5, .ref T6, .ref T7]) L3 = some (.lst [.ref T5, .ref T6, .ref T7]) := upd_same
            generalize upd H21 L3 (.lst [.ref T5, .ref T6, .ref T7]) = H22 at k22 l22 ⊢
            have g1722 := (((k18.trans g19).trans k20).trans k21).trans k22
            have lm22 := g1722 _ _ l17
            refine ⟨Lm, L3, _, _, rfl, rfl, lm22, l22, Nat.le_trans (show 4 + 3 ≤ 7 from Nat.le_refl _) (by decide), ?_⟩
            have u23 := KI.lst (ys := ([.ref T1, .ref T2] ++ [.ref T3] ++ [.ref T4]) ++ [.ref T5, .ref T6, .ref T7]) lm22
            have l23 : upd H22 Lm (.lst (([.ref T1, .ref T2] ++ [.ref T3] ++ [.ref T4]) ++ [.ref T5, .ref T6, .ref T7])) Lm = some (.lst ([.ref T1, .ref T2, .ref T3, .ref T4, .ref T5, .ref T6, .ref T7] : List V)) := upd_same
            have hP23 : upd H22 Lm (.lst (([.ref T1, .ref T2] ++ [.ref T3] ++ [.ref T4]) ++ [.ref T5, .ref T6, .ref T7])) Pp = some (.lst (pairsL.map V.str)) := by rw [upd_ne nL]; exact g1722 _ _ hP17
            have hs23 := (hs17.same g1722).upd (o := .lst (([.ref T1, .ref T2] ++ [.ref T3] ++ [.ref T4]) ++ [.ref T5, .ref T6, .ref T7])) nL1 nL2
            generalize upd H22 Lm (.lst (([.ref T1, .ref T2] ++ [.ref T3] ++ [.ref T4]) ++ [.ref T5, .ref T6, .ref T7])) = H23 at u23 l23 hP23 hs23 ⊢
            have ki23 := (KI.of g1722).trans u23
            have hex23 := hex17.ki ki23
            have hdx23 := hdx17.tk (K := K) ki23.tk
            have hey23 := hey17.ki ki23
            have hdy23 := hdy17.tk (K := K) ki23.tk
            have o5 : OneAt K C H23 (.ref T5) e' := ⟨T5, p', d', rfl, u23.tk _ _ (seqT (((g19.trans k20).trans k21).trans k22) s18), hp'.ki ki23, hd'.tk (K := K) ki23.tk⟩
            have o6 : OneAt K C H23 (.ref T6) ex := ⟨T6, p6, d, rfl, u23.tk _ _ (seqT (k21.trans k22) s20), (he19.same ((k20.trans k21).trans k22)).ki u23, hdx23⟩
            have o7 : OneAt K C H23 (.ref T7) ey := ⟨T7, ry, dy, rfl, u23.tk _ _ (seqT k22 s21), hey23, hdy23⟩
            have made : MadeAt K C H23 [.ref T1, .ref T2, .ref T3, .ref T4, .ref T5, .ref T6, .ref T7] [ex, .bi kd ex ey, .bi kd ex (.num n), .bi kd (.num n) ex, e', ex, ey] :=
              .cons (r1.ki ki23) (.cons (r2.ki ki23) (.cons (r3.ki ki23) (.cons (r4.ki ki23) (.cons o5 (.cons o6 (.cons o7 .nil))))))
            have hb23 : 0 ≤ b' ∧ b' ≤ b + 4 := ⟨by omega, by omega⟩
            have g2 : Gd (.bi kd ex ey) (1 + j + 1) := gx.bi gdy (by omega)
            have g3 : Gd (.bi kd ex (.num n)) (1 + j + 1) := gx.bi (Gd.num n) (by omega)
            have g4 : Gd (.bi kd (.num n) ex) (1 + j + 1) := (Gd.num n).bi' gx (by omega)
            have g5 : Gd e' (1 + j + 1) := gx.of ha hdep
            have big : ∀ (i : Nat) (e2 : Ex), 1 ≤ i → i ≤ 4 → ([ex, .bi kd ex ey, .bi kd ex (.num n), .bi kd (.num n) ex, e', ex, ey] : List Ex)[i]? = some e2 → Gd e2 (1 + j + 1) := fun i e2 h1 h4 e => by
              have h : i = 1 ∨ i = 2 ∨ i = 3 ∨ i = 4 := by omega
              rcases h with rfl | rfl | rfl | rfl <;> cases e <;> assumption
            have all4 : ∀ e2 ∈ ([ex, .bi kd ex ey, .bi kd ex (.num n), .bi kd (.num n) ex, e', ex, ey] : List Ex), Gd e2 4 := fun e2 he2 => by
              simp only [List.mem_cons, List.not_mem_nil, or_false] at he2
              rcases he2 with rfl | rfl | rfl | rfl | rfl | rfl | rfl
              · exact gx.mono (by omega)
              · exact g2.mono (by omega)
              · exact g3.mono (by omega)
              · exact g4.mono (by omega)
              · exact g5.mono (by omega)
              · exact gx.mono (by omega)
              · exact gdy.mono (by decide)
            clear g2 g3 g4 g5 o5 o6 o7 ki23 u23 lm22 g1722 l22 k22 s21 k21 s20 k20 he19 g19 hpi hex18 s18 k18 hex17 hdx17 hP17 l17 r1 r2 r3 r4 hd' hp' hs17 hey17 hdy17
            generalize hes : [ex, .bi kd ex ey, .bi kd ex (.num n), .bi kd (.num n) ex, e', ex, ey] = es at made big all4
            have hel : es.length = 7 := by rw [← hes] <;> rfl
            clear hes
            generalize hvs : ([.ref T1, .ref T2, .ref T3, .ref T4, .ref T5, .ref T6, .ref T7] : List V) = vs at made l23
            have hvl : vs.length = 7 := by rw [← hvs] <;> rfl
            clear hvs
            -- seen
            refine ⟨_, rfl, Lm, rfl, ⟨_, SqL.of l23⟩, fun D1 hD1 => ?_⟩
            refine lc_list (K := K) (a := Lm) (xs := vs) (InvPt K H23 D1 vs (es.map some)) ⟨[], upd_same, .nil, same_new hD1 _⟩ (fun i H' _ ⟨_, _, _, g⟩ => SqL.of (g _ _ l23)) (fun i x H' hx ⟨acc, hd, ho, g⟩ => ?_) ?_
            · have hal := ho.len
              rw [List.length_take] at hal
              obtain ⟨e2, ee, T', p', d', rfl, sT', he', hd'⟩ := made.get hx
              refine ⟨T', _, rfl, seqT g sT', rfl, _, _, rfl, _, _, rfl, rfl, rfl, kept ?_⟩
              refine ⟨_, rfl, p', e2, rfl, he'.same g, Nat.le_trans (all4 e2 (List.mem_of_getElem? ee)).dp (by decide), fun v H3 g3 hv => ?_⟩
              exact ⟨acc, g3 _ _ hd, small1000 (by omega), InvPt.push (o := some e2) hD1 (g3 _ _ hd) (ho.same g3) (g.trans g3) hx (by rw [List.getElem?_map, ee] <;> rfl) (ViewAt.to (.of (Same.refl H3)) (fun _ _ _ e => e) (new_nw g hd) hv)⟩
            rintro H24 ⟨acc1, hd1, ho1, gA⟩
            rw [List.take_of_length_le (Nat.le_refl _), List.take_of_length_le (by rw [List.length_map]; omega)] at ho1
            -- due
            refine ⟨_, rfl, Lm, rfl, ⟨_, SqL.of (gA _ _ l23)⟩, fun D2 hD2 => ?_⟩
            refine lc_list (K := K) (a := Lm) (xs := vs) (InvPt K H24 D2 vs (es.map some)) ⟨[], upd_same, .nil, same_new hD2 _⟩ (fun i H' _ ⟨_, _, _, g⟩ => SqL.of (g _ _ (gA _ _ l23))) (fun i x H' hx ⟨acc, hd, ho, g⟩ => ?_) ?_
            · have hal := ho.len
              rw [List.length_take] at hal
              obtain ⟨e2, ee, T', p', d', rfl, sT', he', hd'⟩ := made.get hx
              refine ⟨T', _, rfl, seqT (gA.trans g) sT', rfl, _, _, rfl, _, _, rfl, rfl, rfl, kept ?_⟩
              refine ⟨_, rfl, d', e2, rfl, hd'.tk (K := K) (.of (gA.trans g)), Nat.le_trans (all4 e2 (List.mem_of_getElem? ee)).dp (by decide), fun v H3 g3 hv => ?_⟩
              exact ⟨acc, g3 _ _ hd, small1000 (by omega), InvPt.push (o := some e2) hD2 (g3 _ _ hd) (ho.same g3) (g.trans g3) hx (by rw [List.getElem?_map, ee] <;> rfl) (ViewAt.to (.of (Same.refl H3)) (fun _ _ _ e => e) (new_nw g hd) hv)⟩
            rintro H25 ⟨acc2, hd2, ho2, gB⟩
            rw [List.take_of_length_le (Nat.le_refl _), List.take_of_length_le (by rw [List.length_map]; omega)] at ho2
            have hsm : SmAll K H25 10 acc1 acc2 := OutsAt.sm (fun e2 he2 => ⟨by have := (all4 e2 he2).as; omega, (all4 e2 he2).ok, by have := (all4 e2 he2).dp; omega⟩) (ho1.same gB) ho2
            refine ⟨_, _, rfl, Sm.lst (gB _ _ hd1) hd2 (by rw [ho1.len]; omega) hsm, fun H26 g26 => ⟨_, rfl, iteF ?_⟩⟩
            have gC := (gA.trans gB).trans g26
            have hs26 := hs23.same gC
            refine ⟨_, rfl, _, rfl, st, q, _, 4, rfl, hs26, by omega, by omega, by decide, by decide, fun r H27 r0 r1 hs27 g27 => ?_⟩
            have l27 := g27 _ _ nL1 nL2 (gC _ _ l23)
            have ki27 := (KI.of gC).trans (KI.sx hs26 g27)
            have hi5 : (1 + r).toNat < vs.length := by omega
            have hx : vs[(1 + r).toNat]? = some (vs[(1 + r).toNat]) := List.getElem?_eq_getElem hi5
            obtain ⟨e2, ee, T', p', d', ev, sT', he', hd'⟩ := made.get hx
            rw [ev] at hx
            refine ⟨_, _, rfl, rfl, Lm, _, _, .ref T', rfl, rfl, SqL.of l27, ?_, T', _, rfl, ki27.tk _ _ sT', rfl, _, _, rfl, _, _, rfl, rfl, ?_⟩
            · have z := atI_nat hx
              rw [show (((1 + r).toNat : Nat) : Int) = 1 + r by omega] at z
              exact z
            · exact ⟨b' + 1, e2, p', d', _, _, _, _, _, _, _, _, _, _, rfl, g27 _ _ nP1 nP2 (gC _ _ hP23), hs27, by omega, by omega, he'.ki ki27, hd'.tk (K := K) ki27.tk, big _ e2 (by omega) (by omega) ee, hey23.ki ki27, hdy23.tk (K := K) ki27.tk⟩
          · rintro σ' H2 ⟨b, ex, p, d, x3, x4, x5, x6, x7, x13, x14, x15, x16, x17, rfl, hP2, hs2, hb0, hb1, _⟩
            exact ⟨b, _, _, _, _, _, _, _, _, _, _, _, _, _, _, _, rfl, hP2, hs2, hb0, by omega⟩
  · rintro σ' H2 ⟨b, x3, x4, x5, x6, x7, x8, x9, x10, x11, x12, x13, x14, x15, x16, x17, rfl, hP2, hs2, hb0, hb1⟩
    exact k H2
end
end Lw
namespace Lw
open PySem L2 OwB
/-- a def of the text, as the top leaves it -/
structure Dx (K : PySem.W.Frag) (mg : Str → Option Value) (x : Str) (st : Stmt) (f : Addr) (fd : FuncData) : Prop where
  F : Fun K x x st f fd
  m : mg x = some (.ref f)
  is : ∃ (kV doc pm : Value) (an : Option Addr) (cdv ct : Value), fd = PySem.W.fnOf x x (defArgs st) (defBody st) (defScope st) .none kV doc pm an cdv ct
theorem dx_mk {K : PySem.W.Frag} {h : Heap} {mg : Str → Option Value} {x : Str} {st : Stmt} {f : Addr} (X : K.In h) (G : h.Ns mainGlobals mg) {od an : Option Addr} {sl : Array (Option Value)} {oc kV dc pm cd ct : Value}
    (a : PySem.W.nsIn K mainGlobals x = some (some (.ref f))) (l : K.lookup f = some ⟨oc, od, .func (PySem.W.fnOf x x (defArgs st) (defBody st) (defScope st) .none kV dc pm an cd ct), sl⟩) (c : PySem.W.codeIn K cd x = true) (k : PySem.W.keepIn K (.ref f) = true) :
    Dx K mg x st f (PySem.W.fnOf x x (defArgs st) (defBody st) (defScope st) .none kV dc pm an cd ct) := ⟨fun_mk l c k, PySem.W.mg_of X G a, _, _, _, _, _, _, rfl⟩
/-- a method of the class at C -/
structure Mx (K : PySem.W.Frag) (C : Addr) (x qual : Str) (st : Stmt) (f : Addr) (fd : FuncData) : Prop where
  F : Fun K x qual st f fd
  o : OpD K C f x
theorem mx_mk {K : PySem.W.Frag} {C : Addr} {x qual : Str} {st : Stmt} {f : Addr} {od an : Option Addr} {sl : Array (Option Value)} {oc kV dc pm cd ct : Value}
    (a : PySem.W.findIn K (.ref C) x = some (some (.ref f))) (i : PySem.W.isFn K (.ref f) = true) (l : K.lookup f = some ⟨oc, od, .func (PySem.W.fnOf x qual (defArgs st) (defBody st) (defScope st) .none kV dc pm an cd ct), sl⟩) (c : PySem.W.codeIn K cd qual = true) (k : PySem.W.keepIn K (.ref f) = true) :
    Mx K C x qual st f (PySem.W.fnOf x qual (defArgs st) (defBody st) (defScope st) .none kV dc pm an cd ct) := ⟨fun_mk l c k, ⟨a, i⟩⟩
theorem kit_me {K : PySem.W.Frag} {C : Addr} : PySem.W.kitOne K (.ref C) (.ref C) = some true := by
  unfold PySem.W.kitOne
  rw [if_pos (beq_self_eq_true _)]
theorem sq_const {K : PySem.W.Frag} {H : Hp} {a : Addr} {xs : List V} {od : Option Addr} {its : Array Value} {n : Nat} {sl : Array (Option Value)} (l : K.lookup a = some ⟨.type "tuple", od, .seq its n, sl⟩) (h : its.size ≤ sizeLine) (v : Vals xs its.toList) : SqT K H a xs :=
  .inr ⟨_, its, n, l, rfl, rfl, h, v⟩
theorem kit_noR {K : PySem.W.Frag} {n : String} {C : Addr} (h1 : PySem.W.isClsIn K C = true) (h2 : PySem.W.typeIn K (.ref C) = some (.type "type")) (h3 : PySem.W.subIn K (.type n) (.ref C) = some false) : PySem.W.kitOne K (.type n) (.ref C) = some false := by
  unfold PySem.W.kitOne
  rw [if_neg (by intro e; cases (beq_iff_eq.mp e))]
  show (if ((PySem.W.clsIn K C).isSome && PySem.W.typeIn K (.ref C) == some (.type "type")) = true then PySem.W.subIn K (.type n) (.ref C) else none) = _
  have c1 : (PySem.W.clsIn K C).isSome = true := h1
  rw [if_pos (by rw [c1, h2] <;> rfl)]
  exact h3
theorem kit_noT {K : PySem.W.Frag} {C : Addr} {T : String} (h1 : PySem.W.kitMeta T = true) (h3 : PySem.W.subIn K (.ref C) (.type T) = some false) : PySem.W.kitOne K (.ref C) (.type T) = some false := by
  unfold PySem.W.kitOne
  rw [if_neg (by intro e; cases (beq_iff_eq.mp e))]
  show (if PySem.W.kitMeta T = true then PySem.W.subIn K (.ref C) (.type T) else none) = _
  rw [if_pos h1]
  exact h3
theorem fsubS (K : PySem.W.Frag) (C : Addr) : PySem.W.subIn K (.type "str") (.ref C) = some false := by kernel_rfl
theorem fsubT (K : PySem.W.Frag) (C : Addr) : PySem.W.subIn K (.type "tuple") (.ref C) = some false := by kernel_rfl
theorem Ex.dep_pos : ∀ e : Ex, 1 ≤ e.dep
  | .num _ => Nat.le_refl _
  | .acc _ _ => Nat.le_refl _
  | .bi _ x y => Nat.le_add_right 1 _
  | .nu _ x _ => Nat.le_add_right 1 _
  | .un _ x => Nat.le_add_right 1 _
section
variable {P : Program} {w : World} {K : PySem.W.Frag} {mg : Str → Option Value} {base : Heap} {f C fI : Addr} {fd : FuncData}
theorem ok_sames (F : Fun K "_law_same" "_law_same" sSame f fd) (bF : Binds K fd ["_law_found", "_law_due_here"] []) (mF : mg "_law_same" = some (.ref f)) (B : Bt mg) :
    ∀ n : Nat, FnOk P w K mg base CX0 n f fd ["_law_found", "_law_due_here"] (spSame K n)
  | 0 => none_left fun vs H Q E ⟨_, _, _, h, _⟩ => h
  | n + 1 => ok_same F (ok_sames F bF mF B n) bF F.kp mF B
theorem ok_seens (F : Fun K "_law_seen" "_law_seen" sSeen f fd) (bF : Binds K fd ["_law_e"] []) (mF : mg "_law_seen" = some (.ref f)) (B : Bt mg) (B2 : Bx mg) (T : Xc K mg C fI) (cS : PySem.W.kitOne K (.ref C) (.type "str") = some false) (cT : PySem.W.kitOne K (.ref C) (.type "tuple") = some false) :
    ∀ n : Nat, FnOk P w K mg base CX0 n f fd ["_law_e"] (spSeen K C n)
  | 0 => none_left fun vs H Q E ⟨_, e, _, _, h, _⟩ => by have := e.dep_pos; omega
  | n + 1 => ok_seen F (ok_seens F bF mF B B2 T cS cT n) bF F.kp mF B B2 T cS cT
theorem ok_dues (F : Fun K "_law_due" "_law_due" sDue f fd) (bF : Binds K fd ["_law_e"] []) (mF : mg "_law_due" = some (.ref f)) (B : Bt mg) :
    ∀ n : Nat, FnOk P w K mg base CX0 n f fd ["_law_e"] (spDue K n)
  | 0 => none_left fun vs H Q E ⟨_, e, _, _, h, _⟩ => by have := e.dep_pos; omega
  | n + 1 => ok_due F (ok_dues F bF mF B n) bF F.kp mF B
end
theorem all_mk {l : PySem.W.OpenLaw} {w : World} {K : PySem.W.Frag} {h : Heap} {mg : Str → Option Value} {fa : Addr} (X : K.In h) (G : h.Ns mainGlobals mg) (hfa : mg "law" = some (.ref fa))
    {C fI AK LA TA1 TA2 TA3 fW fZ fN fAc fCl fCe fO fJ fAl fNb ff_greater ff_lesser ff_below ff_at_most ff_equal ff_unequal fOw fD fSt fP fM fS fNm fNs fLt fLa fPa fSe fDu fBe fBh fSi fLw madd mradd msub mrsub mmul mrmul mand mrand mor mror mxor mrxor mfloordiv mpow mlshift mrshift mneg mpos minvert mabs : Addr} {dI dW dZ dN dAc dCl dCe dO dJ dAl dNb df_greater df_lesser df_below df_at_most df_equal df_unequal dOw dD dSt dP dM dS dNm dNs dLt dLa dPa dSe dDu dBe dBh dSi dLw eadd eradd esub ersub emul ermul eand erand eor eror exor erxor efloordiv epow elshift ershift eneg epos einvert eabs : FuncData} {od5 ot1 ot2 ot3 : Option Addr} {its5 it1 it2 it3 : Array Value} {n5 nt1 nt2 nt3 en : Nat} {sl5 st1 st2 st3 : Array (Option Value)} {es : Array DictEntry}
    (aC : PySem.W.nsIn K mainGlobals "Expression" = some (some (.ref C)))
    (a1 : PySem.W.findIn K (.ref C) "__init__" = some (some (.ref fI)))
    (i1 : PySem.W.isFn K (.ref fI) = true)
    (mk : PySem.W.makesIn K C = true)
    (kC : PySem.W.keepIn K (.ref C) = true)
    (pg : PySem.W.plainGet K C Str.empty = true)
    (hd : PySem.W.hasDictIn K C = true)
    (po : PySem.W.plainOver K C = true)
    (sa : PySem.W.findIn K (.ref C) "__setattr__" = some (some (.builtin "object.__setattr__")))
    (nK : PySem.W.findIn K (.ref C) "kind" = some none)
    (nP : PySem.W.findIn K (.ref C) "parts" = some none)
    (nN : PySem.W.findIn K (.ref C) "node_count" = some none)
    (nA : PySem.W.findIn K (.ref C) "accesses" = some none)
    (nL : PySem.W.findIn K (.ref C) "letters" = some none)
    (sf : PySem.W.selfFirst K C = true)
    (e4 : PySem.W.findIn K (.ref C) "__class__" = some (some (.builtin "object.__class__")))
    (e5 : PySem.W.specialIn K (.builtin "object.__class__") "__get__" = some (some (.builtin "getset_descriptor.__get__")))
    (e6 : PySem.W.takesIn K (.builtin "object.__class__") = some true)
    (e7 : PySem.W.mroIn K C (.type "object") = some true)
    (ic : PySem.W.isClsIn K C = true)
    (ty : PySem.W.typeIn K (.ref C) = some (.type "type"))
    (si : PySem.W.subIn K (.ref C) (.type "int") = some false)
    (ss : PySem.W.subIn K (.ref C) (.type "str") = some false)
    (st : PySem.W.subIn K (.ref C) (.type "tuple") = some false)
    (r_floordiv : PySem.W.findIn K (.ref C) "__rfloordiv__" = some none)
    (r_pow : PySem.W.findIn K (.ref C) "__rpow__" = some none)
    (r_lshift : PySem.W.findIn K (.ref C) "__rlshift__" = some none)
    (r_rshift : PySem.W.findIn K (.ref C) "__rrshift__" = some none)
    (aK : PySem.W.nsIn K mainGlobals "ASSIGNED_KINDS" = some (some (.ref AK)))
    (al : K.lookup AK = some ⟨.type "tuple", od5, .seq its5 n5, sl5⟩)
    (az : its5.size ≤ sizeLine)
    (av : Vals [V.str "gain", V.str "loss"] its5.toList)
    (aL : PySem.W.nsIn K mainGlobals "LIMITS" = some (some (.ref LA)))
    (ll : K.lookup LA = some ⟨.type "dict", none, .dict es en, #[]⟩)
    (lk : PySem.W.KeysLit w.params es.toList)
    (lo : (LA == sysModules) = false)
    (nq : PySem.W.nsIn K LA "quotient" = some none)
    (p1 : PySem.W.nsIn K LA "power" = some (some (.ref TA1)))
    (t1 : K.lookup TA1 = some ⟨.type "tuple", ot1, .seq it1 nt1, st1⟩)
    (z1 : it1.size ≤ sizeLine)
    (v1 : Vals [V.int 1, V.int 4] it1.toList)
    (p2 : PySem.W.nsIn K LA "left" = some (some (.ref TA2)))
    (t2 : K.lookup TA2 = some ⟨.type "tuple", ot2, .seq it2 nt2, st2⟩)
    (z2 : it2.size ≤ sizeLine)
    (v2 : Vals [V.int 0, V.int 60] it2.toList)
    (p3 : PySem.W.nsIn K LA "right" = some (some (.ref TA3)))
    (t3 : K.lookup TA3 = some ⟨.type "tuple", ot3, .seq it3 nt3, st3⟩)
    (z3 : it3.size ≤ sizeLine)
    (v3 : Vals [V.int 0, V.int 60] it3.toList)
    (z_isinstance : PySem.W.nsIn K mainGlobals "isinstance" = some none)
    (z_list : PySem.W.nsIn K mainGlobals "list" = some none)
    (z_tuple : PySem.W.nsIn K mainGlobals "tuple" = some none)
    (z_len : PySem.W.nsIn K mainGlobals "len" = some none)
    (z_all : PySem.W.nsIn K mainGlobals "all" = some none)
    (z_zip : PySem.W.nsIn K mainGlobals "zip" = some none)
    (z_dict : PySem.W.nsIn K mainGlobals "dict" = some none)
    (z_int : PySem.W.nsIn K mainGlobals "int" = some none)
    (z_bool : PySem.W.nsIn K mainGlobals "bool" = some none)
    (z_range : PySem.W.nsIn K mainGlobals "range" = some none)
    (z_sum : PySem.W.nsIn K mainGlobals "sum" = some none)
    (z_set : PySem.W.nsIn K mainGlobals "set" = some none)
    (z_sorted : PySem.W.nsIn K mainGlobals "sorted" = some none)
    (z_enumerate : PySem.W.nsIn K mainGlobals "enumerate" = some none)
    (z_str : PySem.W.nsIn K mainGlobals "str" = some none)
    (z_abs : PySem.W.nsIn K mainGlobals "abs" = some none)
    (MI : Mx K C "__init__" "Expression.__init__" sXini fI dI)
    (Madd : Mx K C "__add__" "Expression.__add__" s_add madd eadd)
    (Mradd : Mx K C "__radd__" "Expression.__radd__" s_radd mradd eradd)
    (Msub : Mx K C "__sub__" "Expression.__sub__" s_sub msub esub)
    (Mrsub : Mx K C "__rsub__" "Expression.__rsub__" s_rsub mrsub ersub)
    (Mmul : Mx K C "__mul__" "Expression.__mul__" s_mul mmul emul)
    (Mrmul : Mx K C "__rmul__" "Expression.__rmul__" s_rmul mrmul ermul)
    (Mand : Mx K C "__and__" "Expression.__and__" s_and mand eand)
    (Mrand : Mx K C "__rand__" "Expression.__rand__" s_rand mrand erand)
    (Mor : Mx K C "__or__" "Expression.__or__" s_or mor eor)
    (Mror : Mx K C "__ror__" "Expression.__ror__" s_ror mror eror)
    (Mxor : Mx K C "__xor__" "Expression.__xor__" s_xor mxor exor)
    (Mrxor : Mx K C "__rxor__" "Expression.__rxor__" s_rxor mrxor erxor)
    (Mfloordiv : Mx K C "__floordiv__" "Expression.__floordiv__" s_floordiv mfloordiv efloordiv)
    (Mpow : Mx K C "__pow__" "Expression.__pow__" s_pow mpow epow)
    (Mlshift : Mx K C "__lshift__" "Expression.__lshift__" s_lshift mlshift elshift)
    (Mrshift : Mx K C "__rshift__" "Expression.__rshift__" s_rshift mrshift ershift)
    (Mneg : Mx K C "__neg__" "Expression.__neg__" s_neg mneg eneg)
    (Mpos : Mx K C "__pos__" "Expression.__pos__" s_pos mpos epos)
    (Minvert : Mx K C "__invert__" "Expression.__invert__" s_invert minvert einvert)
    (Mabs : Mx K C "__abs__" "Expression.__abs__" s_abs mabs eabs)
    (DW : Dx K mg "is_whole" sWhole fW dW)
    (DZ : Dx K mg "ascending" sAsc fZ dZ)
    (DN : Dx K mg "number" sNum fN dN)
    (DAc : Dx K mg "access" sAcc fAc dAc)
    (DCl : Dx K mg "check_letters" sChkL fCl dCl)
    (DCe : Dx K mg "check_expression" sChkE fCe dCe)
    (DO : Dx K mg "operand_of" sOpd fO dO)
    (DJ : Dx K mg "joined" sJoin fJ dJ)
    (DAl : Dx K mg "is_allowed" sAlw fAl dAl)
    (DNb : Dx K mg "numbered" sNbd fNb dNb)
    (Df_greater : Dx K mg "greater" s_greater ff_greater df_greater)
    (Df_lesser : Dx K mg "lesser" s_lesser ff_lesser df_lesser)
    (Df_below : Dx K mg "below" s_below ff_below df_below)
    (Df_at_most : Dx K mg "at_most" s_at_most ff_at_most df_at_most)
    (Df_equal : Dx K mg "equal" s_equal ff_equal df_equal)
    (Df_unequal : Dx K mg "unequal" s_unequal ff_unequal df_unequal)
    (DOw : Dx K mg "_law_own_accesses" sOwn fOw dOw)
    (DD : Dx K mg "_law_draw" sDraw fD dD)
    (DSt : Dx K mg "_law_start" sStart fSt dSt)
    (DP : Dx K mg "_law_pick" sPick fP dP)
    (DM : Dx K mg "_law_mixed" sMixed fM dM)
    (DS : Dx K mg "_law_same" sSame fS dS)
    (DNm : Dx K mg "_law_name" sName fNm dNm)
    (DNs : Dx K mg "_law_names" sNames fNs dNs)
    (DLt : Dx K mg "_law_letters" sLet fLt dLt)
    (DLa : Dx K mg "_law_access" sLacc fLa dLa)
    (DPa : Dx K mg "_law_pair_built" sPair fPa dPa)
    (DSe : Dx K mg "_law_seen" sSeen fSe dSe)
    (DDu : Dx K mg "_law_due" sDue fDu dDu)
    (DBe : Dx K mg "_law_beside" sBes fBe dBe)
    (DBh : Dx K mg "_law_behind" sBeh fBh dBh)
    (DSi : Dx K mg "_law_single" sSing fSi dSi)
    (DLw : Dx K mg "law" sLaw fLw dLw)
    : ∃ fd : FuncData, (∀ (s : Shared) (v : Value), BindsTo s fd ⟨[v], []⟩ [("_law_script", v)]) ∧ ∀ base : Heap, K.In base → base.Ns mainGlobals mg → FnOk l.prog w K mg base CX0 12 fa fd ["_law_script"] (spLaw K) := by
  have e := hfa.symm.trans DLw.m
  cases e
  have B : Bt mg := ⟨PySem.W.mg_none_of X G z_isinstance, PySem.W.mg_none_of X G z_list, PySem.W.mg_none_of X G z_tuple, PySem.W.mg_none_of X G z_len, PySem.W.mg_none_of X G z_all, PySem.W.mg_none_of X G z_zip, PySem.W.mg_none_of X G z_dict, PySem.W.mg_none_of X G z_int, PySem.W.mg_none_of X G z_bool, PySem.W.mg_none_of X G z_range⟩
  have B2 : Bx mg := ⟨PySem.W.mg_none_of X G z_sum, PySem.W.mg_none_of X G z_set, PySem.W.mg_none_of X G z_sorted, PySem.W.mg_none_of X G z_enumerate, PySem.W.mg_none_of X G z_str⟩
  have sI := kit_noR (n := "int") ic ty (fsub K C)
  have sS := kit_noR (n := "str") ic ty (fsubS K C)
  have sT := kit_noR (n := "tuple") ic ty (fsubT K C)
  have cI := kit_noT (T := "int") (by decide +kernel) si
  have cS := kit_noT (T := "str") (by decide +kernel) ss
  have cT := kit_noT (T := "tuple") (by decide +kernel) st
  have T : Xc K mg C fI := { ic := ⟨⟨pg, hd, po, sa⟩, e4, e5, e6, e7, kit_me⟩, nK := nK, nP := nP, nN := nN, nA := nA, nL := nL, mkC := ⟨mk, a1, i1, kC⟩, mC := PySem.W.mg_of X G aC, sI := sI, sS := sS, sT := sT, cI := cI }
  have Kx : Kc K mg AK := ⟨PySem.W.mg_of X G aK, fun H => sq_const al az av⟩
  have Lx : Lc K w mg LA := ⟨PySem.W.mg_of X G aL, ⟨es, en, ll, lk, lo⟩, nq, fun k hk => by
    rcases hk with rfl | rfl | rfl
    · exact ⟨TA1, p1, fun H => by rw [if_pos rfl, if_pos rfl]; exact sq_const t1 z1 v1⟩
    · exact ⟨TA2, p2, fun H => by rw [if_neg (kne _ _), if_neg (kne _ _)]; exact sq_const t2 z2 v2⟩
    · exact ⟨TA3, p3, fun H => by rw [if_neg (kne _ _), if_neg (kne _ _)]; exact sq_const t3 z3 v3⟩⟩
  have bI := MI.F.binds (ps := ["self", "kind", "parts"]) fun _ _ _ _ _ _ us hl => match us, hl with | [_, _, _], _ => rfl
  have bW := DW.F.binds (ps := ["n"]) fun _ _ _ _ _ _ us hl => match us, hl with | [_], _ => rfl
  have bZ := DZ.F.binds (ps := ["names"]) fun _ _ _ _ _ _ us hl => match us, hl with | [_], _ => rfl
  have bN := DN.F.binds (ps := ["n"]) fun _ _ _ _ _ _ us hl => match us, hl with | [_], _ => rfl
  have bCl := DCl.F.binds (ps := ["letters"]) fun _ _ _ _ _ _ us hl => match us, hl with | [_], _ => rfl
  have bCe := DCe.F.binds (ps := ["x"]) fun _ _ _ _ _ _ us hl => match us, hl with | [_], _ => rfl
  have bO := DO.F.binds (ps := ["x"]) fun _ _ _ _ _ _ us hl => match us, hl with | [_], _ => rfl
  have bJ := DJ.F.binds (ps := ["kind", "x", "y"]) fun _ _ _ _ _ _ us hl => match us, hl with | [_, _, _], _ => rfl
  have bAl := DAl.F.binds (ps := ["kind", "n"]) fun _ _ _ _ _ _ us hl => match us, hl with | [_, _], _ => rfl
  have bNb := DNb.F.binds (ps := ["kind", "x", "n"]) fun _ _ _ _ _ _ us hl => match us, hl with | [_, _, _], _ => rfl
  have bf_greater := Df_greater.F.binds (ps := ["x", "y"]) fun _ _ _ _ _ _ us hl => match us, hl with | [_, _], _ => rfl
  have bf_lesser := Df_lesser.F.binds (ps := ["x", "y"]) fun _ _ _ _ _ _ us hl => match us, hl with | [_, _], _ => rfl
  have bf_below := Df_below.F.binds (ps := ["x", "y"]) fun _ _ _ _ _ _ us hl => match us, hl with | [_, _], _ => rfl
  have bf_at_most := Df_at_most.F.binds (ps := ["x", "y"]) fun _ _ _ _ _ _ us hl => match us, hl with | [_, _], _ => rfl
  have bf_equal := Df_equal.F.binds (ps := ["x", "y"]) fun _ _ _ _ _ _ us hl => match us, hl with | [_, _], _ => rfl
  have bf_unequal := Df_unequal.F.binds (ps := ["x", "y"]) fun _ _ _ _ _ _ us hl => match us, hl with | [_, _], _ => rfl
  have bOw := DOw.F.binds (ps := ["_law_stream", "_law_many"]) fun _ _ _ _ _ _ us hl => match us, hl with | [_, _], _ => rfl
  have bD := DD.F.binds (ps := ["_law_stream", "_law_many"]) fun _ _ _ _ _ _ us hl => match us, hl with | [_, _], _ => rfl
  have bSt := DSt.F.binds (ps := ["_law_script"]) fun _ _ _ _ _ _ us hl => match us, hl with | [_], _ => rfl
  have bP := DP.F.binds (ps := ["_law_stream", "_law_some"]) fun _ _ _ _ _ _ us hl => match us, hl with | [_, _], _ => rfl
  have bM := DM.F.binds (ps := ["_law_stream", "_law_some"]) fun _ _ _ _ _ _ us hl => match us, hl with | [_, _], _ => rfl
  have bS := DS.F.binds (ps := ["_law_found", "_law_due_here"]) fun _ _ _ _ _ _ us hl => match us, hl with | [_, _], _ => rfl
  have bNm := DNm.F.binds (ps := ["_law_stream"]) fun _ _ _ _ _ _ us hl => match us, hl with | [_], _ => rfl
  have bNs := DNs.F.binds (ps := ["_law_stream", "_law_many"]) fun _ _ _ _ _ _ us hl => match us, hl with | [_, _], _ => rfl
  have bLt := DLt.F.binds (ps := ["_law_stream", "_law_many"]) fun _ _ _ _ _ _ us hl => match us, hl with | [_, _], _ => rfl
  have bLa := DLa.F.binds (ps := ["_law_name_here", "_law_letters_here"]) fun _ _ _ _ _ _ us hl => match us, hl with | [_, _], _ => rfl
  have bPa := DPa.F.binds (ps := ["_law_kind", "_law_x", "_law_y"]) fun _ _ _ _ _ _ us hl => match us, hl with | [_, _, _], _ => rfl
  have bSe := DSe.F.binds (ps := ["_law_e"]) fun _ _ _ _ _ _ us hl => match us, hl with | [_], _ => rfl
  have bDu := DDu.F.binds (ps := ["_law_e"]) fun _ _ _ _ _ _ us hl => match us, hl with | [_], _ => rfl
  have bBe := DBe.F.binds (ps := ["_law_kind", "_law_x", "_law_n"]) fun _ _ _ _ _ _ us hl => match us, hl with | [_, _, _], _ => rfl
  have bBh := DBh.F.binds (ps := ["_law_kind", "_law_n", "_law_x"]) fun _ _ _ _ _ _ us hl => match us, hl with | [_, _, _], _ => rfl
  have bSi := DSi.F.binds (ps := ["_law_stream", "_law_e", "_law_x"]) fun _ _ _ _ _ _ us hl => match us, hl with | [_, _, _], _ => rfl
  have bLw := DLw.F.binds (ps := ["_law_script"]) fun _ _ _ _ _ _ us hl => match us, hl with | [_], _ => rfl
  have cadd := Madd.F.binds (ps := ["self", "other"]) fun _ _ _ _ _ _ us hl => match us, hl with | [_, _], _ => rfl
  have cradd := Mradd.F.binds (ps := ["self", "other"]) fun _ _ _ _ _ _ us hl => match us, hl with | [_, _], _ => rfl
  have csub := Msub.F.binds (ps := ["self", "other"]) fun _ _ _ _ _ _ us hl => match us, hl with | [_, _], _ => rfl
  have crsub := Mrsub.F.binds (ps := ["self", "other"]) fun _ _ _ _ _ _ us hl => match us, hl with | [_, _], _ => rfl
  have cmul := Mmul.F.binds (ps := ["self", "other"]) fun _ _ _ _ _ _ us hl => match us, hl with | [_, _], _ => rfl
  have crmul := Mrmul.F.binds (ps := ["self", "other"]) fun _ _ _ _ _ _ us hl => match us, hl with | [_, _], _ => rfl
  have cand := Mand.F.binds (ps := ["self", "other"]) fun _ _ _ _ _ _ us hl => match us, hl with | [_, _], _ => rfl
  have crand := Mrand.F.binds (ps := ["self", "other"]) fun _ _ _ _ _ _ us hl => match us, hl with | [_, _], _ => rfl
  have cor := Mor.F.binds (ps := ["self", "other"]) fun _ _ _ _ _ _ us hl => match us, hl with | [_, _], _ => rfl
  have cror := Mror.F.binds (ps := ["self", "other"]) fun _ _ _ _ _ _ us hl => match us, hl with | [_, _], _ => rfl
  have cxor := Mxor.F.binds (ps := ["self", "other"]) fun _ _ _ _ _ _ us hl => match us, hl with | [_, _], _ => rfl
  have crxor := Mrxor.F.binds (ps := ["self", "other"]) fun _ _ _ _ _ _ us hl => match us, hl with | [_, _], _ => rfl
  have cfloordiv := Mfloordiv.F.binds (ps := ["self", "other"]) fun _ _ _ _ _ _ us hl => match us, hl with | [_, _], _ => rfl
  have cpow := Mpow.F.binds (ps := ["self", "other"]) fun _ _ _ _ _ _ us hl => match us, hl with | [_, _], _ => rfl
  have clshift := Mlshift.F.binds (ps := ["self", "other"]) fun _ _ _ _ _ _ us hl => match us, hl with | [_, _], _ => rfl
  have crshift := Mrshift.F.binds (ps := ["self", "other"]) fun _ _ _ _ _ _ us hl => match us, hl with | [_, _], _ => rfl
  have cneg := Mneg.F.binds (ps := ["self"]) fun _ _ _ _ _ _ us hl => match us, hl with | [_], _ => rfl
  have cpos := Mpos.F.binds (ps := ["self"]) fun _ _ _ _ _ _ us hl => match us, hl with | [_], _ => rfl
  have cinvert := Minvert.F.binds (ps := ["self"]) fun _ _ _ _ _ _ us hl => match us, hl with | [_], _ => rfl
  have cabs := Mabs.F.binds (ps := ["self"]) fun _ _ _ _ _ _ us hl => match us, hl with | [_], _ => rfl
  refine ⟨dLw, fun s v => ?_, fun base _ _ => ?_⟩
  · obtain ⟨kV, doc, pm, an, cdv, ct, rfl⟩ := DLw.is
    exact .of_eq rfl
  have GW := ok_whole (P := l.prog) (w := w) (base := base) DW.F B T
  have GZ := ok_asc (P := l.prog) (w := w) (base := base) DZ.F B B2
  have FI : XI l.prog w K mg base C fI dI := ok_xini MI.F T B B2 GZ bZ DZ.F.kp DZ.m
  have GN := ok_num (P := l.prog) (w := w) (base := base) DN.F T FI bI
  have GCe := ok_chkE (P := l.prog) (w := w) (base := base) DCe.F T Kx
  have GO := ok_opd DO.F T B GW bW DW.F.kp DW.m GN bN DN.F.kp DN.m GCe bCe DCe.F.kp DCe.m
  have GJ := ok_join DJ.F T FI bI GO bO DO.F.kp DO.m
  have GCl := ok_chkL (P := l.prog) (w := w) (base := base) (K := K) DCl.F B2
  have GAc := ok_acc DAc.F T B FI bI GCl bCl DCl.F.kp DCl.m
  have GAl := ok_alw (P := l.prog) (w := w) (base := base) DAl.F Lx
  have GNb := ok_nbd (h := fAl) (hd := dAl) DNb.F T FI bI GW bW DW.F.kp DW.m GAl bAl DAl.F.kp DAl.m GO bO DO.F.kp DO.m
  have J : Jn l.prog w K mg base C fJ dJ := ⟨GJ, bJ, DJ.F.kp, DJ.m⟩
  have Nn : Nb l.prog w K mg base C fNb dNb := ⟨GNb, bNb, DNb.F.kp, DNb.m⟩
  have Oo : Od l.prog w K mg base C fO dO := ⟨GO, bO, DO.F.kp, DO.m⟩
  have M : Opx l.prog w K mg base C :=
    { sf := sf, sI := si, r_floordiv := r_floordiv, r_pow := r_pow, r_lshift := r_lshift, r_rshift := r_rshift,
      add_ := ⟨⟨_, _, Madd.o, ok_add Madd.F J, cadd⟩⟩,
      radd_ := ⟨⟨_, _, Mradd.o, ok_radd Mradd.F J, cradd⟩⟩,
      sub_ := ⟨⟨_, _, Msub.o, ok_sub Msub.F J, csub⟩⟩,
      rsub_ := ⟨⟨_, _, Mrsub.o, ok_rsub Mrsub.F J, crsub⟩⟩,
      mul_ := ⟨⟨_, _, Mmul.o, ok_mul Mmul.F J, cmul⟩⟩,
      rmul_ := ⟨⟨_, _, Mrmul.o, ok_rmul Mrmul.F J, crmul⟩⟩,
      and_ := ⟨⟨_, _, Mand.o, ok_and Mand.F J, cand⟩⟩,
      rand_ := ⟨⟨_, _, Mrand.o, ok_rand Mrand.F J, crand⟩⟩,
      or_ := ⟨⟨_, _, Mor.o, ok_or Mor.F J, cor⟩⟩,
      ror_ := ⟨⟨_, _, Mror.o, ok_ror Mror.F J, cror⟩⟩,
      xor_ := ⟨⟨_, _, Mxor.o, ok_xor Mxor.F J, cxor⟩⟩,
      rxor_ := ⟨⟨_, _, Mrxor.o, ok_rxor Mrxor.F J, crxor⟩⟩,
      floordiv_ := ⟨⟨_, _, Mfloordiv.o, ok_floordiv Mfloordiv.F Nn, cfloordiv⟩⟩,
      pow_ := ⟨⟨_, _, Mpow.o, ok_pow Mpow.F Nn, cpow⟩⟩,
      lshift_ := ⟨⟨_, _, Mlshift.o, ok_lshift Mlshift.F Nn, clshift⟩⟩,
      rshift_ := ⟨⟨_, _, Mrshift.o, ok_rshift Mrshift.F Nn, crshift⟩⟩,
      neg_ := ⟨⟨_, _, Mneg.o, (ok_neg Mneg.F T FI bI Oo).mono (by decide), cneg⟩⟩,
      pos_ := ⟨⟨_, _, Mpos.o, (ok_pos Mpos.F Oo).mono (by decide), cpos⟩⟩,
      invert_ := ⟨⟨_, _, Minvert.o, (ok_invert Minvert.F T FI bI Oo).mono (by decide), cinvert⟩⟩,
      abs_ := ⟨⟨_, _, Mabs.o, (ok_abs Mabs.F T FI bI Oo).mono (by decide), cabs⟩⟩,
      greater_ := ⟨⟨_, _, ok_greater Df_greater.F J, bf_greater, Df_greater.F.kp, Df_greater.m⟩⟩, lesser_ := ⟨⟨_, _, ok_lesser Df_lesser.F J, bf_lesser, Df_lesser.F.kp, Df_lesser.m⟩⟩, below_ := ⟨⟨_, _, ok_below Df_below.F J, bf_below, Df_below.F.kp, Df_below.m⟩⟩, at_most_ := ⟨⟨_, _, ok_at_most Df_at_most.F J, bf_at_most, Df_at_most.F.kp, Df_at_most.m⟩⟩, equal_ := ⟨⟨_, _, ok_equal Df_equal.F J, bf_equal, Df_equal.F.kp, Df_equal.m⟩⟩, unequal_ := ⟨⟨_, _, ok_unequal Df_unequal.F J, bf_unequal, Df_unequal.F.kp, Df_unequal.m⟩⟩ }
  have GD := ok_draw (P := l.prog) (w := w) (base := base) DD.F B
  have GSt := ok_start (P := l.prog) (w := w) (base := base) (K := K) DSt.F B
  have GP := ok_pick DP.F GD bD DD.F.kp DD.m B
  have GPs := ok_pickS DP.F GD bD DD.F.kp DD.m B
  have GM := ok_mixed DM.F GD bD DD.F.kp DD.m B
  have GLt := ok_let DLt.F GD bD DD.F.kp DD.m B
  have GNm := ok_name DNm.F GD bD DD.F.kp DD.m B GPs bP DP.F.kp DP.m
  have GNs := ok_names DNs.F B GNm bNm DNm.F.kp DNm.m
  have GOw := ok_own DOw.F B GD bD DD.F.kp DD.m GP bP DP.F.kp DP.m GM bM DM.F.kp DM.m GLt bLt DLt.F.kp DLt.m GNs bNs DNs.F.kp DNs.m
  have GLa := ok_lacc DLa.F B GAc DAc.F.kp DAc.m
  have GPa := ok_pairB DPa.F M
  have GBe := ok_besB DBe.F M
  have GBh := ok_behB DBh.F M
  have GSi := ok_sing DSi.F M (PySem.W.mg_none_of X G z_abs) GD bD DD.F.kp DD.m GP bP DP.F.kp DP.m
  have GS := ok_sames (P := l.prog) (w := w) (base := base) DS.F bS DS.m B 11
  have GSe := ok_seens (P := l.prog) (w := w) (base := base) DSe.F bSe DSe.m B B2 T cS cT 5
  have GDu := ok_dues (P := l.prog) (w := w) (base := base) DDu.F bDu DDu.m B 5
  have XX : Lg l.prog w K mg base C := { st_ := ⟨⟨_, _, GSt, bSt, DSt.F.kp, DSt.m⟩⟩, ow_ := ⟨⟨_, _, GOw, bOw, DOw.F.kp, DOw.m⟩⟩, dr_ := ⟨⟨_, _, GD, bD, DD.F.kp, DD.m⟩⟩, la_ := ⟨⟨_, _, GLa, bLa, DLa.F.kp, DLa.m⟩⟩, nu_ := ⟨⟨_, _, GN, bN, DN.F.kp, DN.m⟩⟩, pi_ := ⟨⟨_, _, GP, bP, DP.F.kp, DP.m⟩⟩, pa_ := ⟨⟨_, _, GPa, bPa, DPa.F.kp, DPa.m⟩⟩, be_ := ⟨⟨_, _, GBe, bBe, DBe.F.kp, DBe.m⟩⟩, bh_ := ⟨⟨_, _, GBh, bBh, DBh.F.kp, DBh.m⟩⟩, si_ := ⟨⟨_, _, GSi, bSi, DSi.F.kp, DSi.m⟩⟩, sa_ := ⟨⟨_, _, GS, bS, DS.F.kp, DS.m⟩⟩, se_ := ⟨⟨_, _, GSe, bSe, DSe.F.kp, DSe.m⟩⟩, du_ := ⟨⟨_, _, GDu, bDu, DDu.F.kp, DDu.m⟩⟩ }
  exact ok_law DLw.F B M XX
theorem walk {l : PySem.W.OpenLaw} {q : Program} {loose : List Str} {XP : (Str → Option Value) → Heap → Prop} {YP : World → Heap → Prop} {d : DefRec} {K : Params → PySem.W.Frag} (hn : l.most = some 63) (hdf : d.params.defaults = [])
    (hY : ∀ (w : World) (h : Heap), YP w h → (K w.params).In h)
    (F : ∀ (w : World) (mg : Str → Option Value) (fa : Addr) (h : Heap), (K w.params).In h → h.Ns mainGlobals mg → mg d.name = some (.ref fa) →
      ∃ fd : FuncData, (∀ (s : Shared) (u : Value), BindsTo s fd ⟨[u], []⟩ [("_law_script", u)]) ∧ ∀ base : Heap, (K w.params).In base → base.Ns mainGlobals mg → FnOk l.prog w (K w.params) mg base CX0 12 fa fd ["_law_script"] (spLaw (K w.params))) :
    PySem.W.WalkO q loose XP YP l.row.toRowW d [] (fun f vs => PySem.call f vs) :=
  L2.walk_of (n := 63) (k := 12) (x := "_law_script") (CX := fun _ => CX0) (sp := fun w => spLaw (K w.params)) hn (by decide) hdf ⟨rfl, by decide, by decide⟩ hY F (fun _ _ a ns hl _ hS => ⟨a, ns, rfl, hS, hl, fun _ => rfl⟩) fun _ _ _ _ _ z => z
end Lw
open PySem PySem.W PyProof.Rows
set_option maxRecDepth 100000 in
set_option maxHeartbeats 0 in
theorem PySem.Challenge.cw_levelwalks_k13_operators_build_holds : PySem.Challenge.rw_levelwalks_k13_operators_build.Holds := by
  w_on; o_law; k_head; (case hw => w_witness2)
  k_fill
  refine Lw.walk (l := PySem.Challenge.rw_levelwalks_k13_operators_build) rfl rfl (fun w h Y => PySem.W.kIn_of Y) ?F
  case F =>
    intro w mg fa h KX G hmg
    refine' Lw.all_mk KX G hmg ?aC ?a1 ?i1 ?mk ?kC ?pg ?hd ?po ?sa ?nK ?nP ?nN ?nA ?nL ?sf ?e4 ?e5 ?e6 ?e7 ?ic ?ty ?si ?ss ?st ?r_floordiv ?r_pow ?r_lshift ?r_rshift ?aK ?al ?az ?av ?aL ?ll ?lk ?lo ?nq ?p1 ?t1 ?z1 ?v1 ?p2 ?t2 ?z2 ?v2 ?p3 ?t3 ?z3 ?v3 ?z_isinstance ?z_list ?z_tuple ?z_len ?z_all ?z_zip ?z_dict ?z_int ?z_bool ?z_range ?z_sum ?z_set ?z_sorted ?z_enumerate ?z_str ?z_abs ?MI ?Madd ?Mradd ?Msub ?Mrsub ?Mmul ?Mrmul ?Mand ?Mrand ?Mor ?Mror ?Mxor ?Mrxor ?Mfloordiv ?Mpow ?Mlshift ?Mrshift ?Mneg ?Mpos ?Minvert ?Mabs ?DW ?DZ ?DN ?DAc ?DCl ?DCe ?DO ?DJ ?DAl ?DNb ?Df_greater ?Df_lesser ?Df_below ?Df_at_most ?Df_equal ?Df_unequal ?DOw ?DD ?DSt ?DP ?DM ?DS ?DNm ?DNs ?DLt ?DLa ?DPa ?DSe ?DDu ?DBe ?DBh ?DSi ?DLw
    (case aC => k_is)
    (case a1 => k_is)
    (case i1 => k_is)
    (case mk => k_is)
    (case kC => k_is)
    (case pg => k_is)
    (case hd => k_is)
    (case po => k_is)
    (case sa => k_is)
    (case nK => k_is)
    (case nP => k_is)
    (case nN => k_is)
    (case nA => k_is)
    (case nL => k_is)
    (case sf => k_is)
    (case e4 => k_is)
    (case e5 => k_is)
    (case e6 => k_is)
    (case e7 => k_is)
    (case ic => k_is)
    (case ty => k_is)
    (case si => k_is)
    (case ss => k_is)
    (case st => k_is)
    (case r_floordiv => k_is)
    (case r_pow => k_is)
    (case r_lshift => k_is)
    (case r_rshift => k_is)
    (case aK => k_is)
    (case al => k_is)
    (case az => decide)
    (case av => exact .cons ⟨_, rfl⟩ (.cons ⟨_, rfl⟩ .nil))
    (case aL => k_is)
    (case ll => k_is)
    (case lk => exact ⟨⟨_, _, rfl, rfl⟩, ⟨_, _, rfl, rfl⟩, ⟨_, _, rfl, rfl⟩, trivial⟩)
    (case lo => decide)
    (case nq => k_is)
    (case p1 => k_is)
    (case t1 => k_is)
    (case z1 => decide)
    (case v1 => exact .cons ⟨_, rfl⟩ (.cons ⟨_, rfl⟩ .nil))
    (case p2 => k_is)
    (case t2 => k_is)
    (case z2 => decide)
    (case v2 => exact .cons ⟨_, rfl⟩ (.cons ⟨_, rfl⟩ .nil))
    (case p3 => k_is)
    (case t3 => k_is)
    (case z3 => decide)
    (case v3 => exact .cons ⟨_, rfl⟩ (.cons ⟨_, rfl⟩ .nil))
    (case z_isinstance => k_is)
    (case z_list => k_is)
    (case z_tuple => k_is)
    (case z_len => k_is)
    (case z_all => k_is)
    (case z_zip => k_is)
    (case z_dict => k_is)
    (case z_int => k_is)
    (case z_bool => k_is)
    (case z_range => k_is)
    (case z_sum => k_is)
    (case z_set => k_is)
    (case z_sorted => k_is)
    (case z_enumerate => k_is)
    (case z_str => k_is)
    (case z_abs => k_is)
    (case MI => (refine' Lw.mx_mk ?a ?i ?l ?c ?k; (case a => k_is); (case i => k_is); (case l => k_is); (case c => k_is); (case k => k_is)))
    (case Madd => (refine' Lw.mx_mk ?a ?i ?l ?c ?k; (case a => k_is); (case i => k_is); (case l => k_is); (case c => k_is); (case k => k_is)))
    (case Mradd => (refine' Lw.mx_mk ?a ?i ?l ?c ?k; (case a => k_is); (case i => k_is); (case l => k_is); (case c => k_is); (case k => k_is)))
    (case Msub => (refine' Lw.mx_mk ?a ?i ?l ?c ?k; (case a => k_is); (case i => k_is); (case l => k_is); (case c => k_is); (case k => k_is)))
    (case Mrsub => (refine' Lw.mx_mk ?a ?i ?l ?c ?k; (case a => k_is); (case i => k_is); (case l => k_is); (case c => k_is); (case k => k_is)))
    (case Mmul => (refine' Lw.mx_mk ?a ?i ?l ?c ?k; (case a => k_is); (case i => k_is); (case l => k_is); (case c => k_is); (case k => k_is)))
    (case Mrmul => (refine' Lw.mx_mk ?a ?i ?l ?c ?k; (case a => k_is); (case i => k_is); (case l => k_is); (case c => k_is); (case k => k_is)))
    (case Mand => (refine' Lw.mx_mk ?a ?i ?l ?c ?k; (case a => k_is); (case i => k_is); (case l => k_is); (case c => k_is); (case k => k_is)))
    (case Mrand => (refine' Lw.mx_mk ?a ?i ?l ?c ?k; (case a => k_is); (case i => k_is); (case l => k_is); (case c => k_is); (case k => k_is)))
    (case Mor => (refine' Lw.mx_mk ?a ?i ?l ?c ?k; (case a => k_is); (case i => k_is); (case l => k_is); (case c => k_is); (case k => k_is)))
    (case Mror => (refine' Lw.mx_mk ?a ?i ?l ?c ?k; (case a => k_is); (case i => k_is); (case l => k_is); (case c => k_is); (case k => k_is)))
    (case Mxor => (refine' Lw.mx_mk ?a ?i ?l ?c ?k; (case a => k_is); (case i => k_is); (case l => k_is); (case c => k_is); (case k => k_is)))
    (case Mrxor => (refine' Lw.mx_mk ?a ?i ?l ?c ?k; (case a => k_is); (case i => k_is); (case l => k_is); (case c => k_is); (case k => k_is)))
    (case Mfloordiv => (refine' Lw.mx_mk ?a ?i ?l ?c ?k; (case a => k_is); (case i => k_is); (case l => k_is); (case c => k_is); (case k => k_is)))
    (case Mpow => (refine' Lw.mx_mk ?a ?i ?l ?c ?k; (case a => k_is); (case i => k_is); (case l => k_is); (case c => k_is); (case k => k_is)))
    (case Mlshift => (refine' Lw.mx_mk ?a ?i ?l ?c ?k; (case a => k_is); (case i => k_is); (case l => k_is); (case c => k_is); (case k => k_is)))
    (case Mrshift => (refine' Lw.mx_mk ?a ?i ?l ?c ?k; (case a => k_is); (case i => k_is); (case l => k_is); (case c => k_is); (case k => k_is)))
    (case Mneg => (refine' Lw.mx_mk ?a ?i ?l ?c ?k; (case a => k_is); (case i => k_is); (case l => k_is); (case c => k_is); (case k => k_is)))
    (case Mpos => (refine' Lw.mx_mk ?a ?i ?l ?c ?k; (case a => k_is); (case i => k_is); (case l => k_is); (case c => k_is); (case k => k_is)))
    (case Minvert => (refine' Lw.mx_mk ?a ?i ?l ?c ?k; (case a => k_is); (case i => k_is); (case l => k_is); (case c => k_is); (case k => k_is)))
    (case Mabs => (refine' Lw.mx_mk ?a ?i ?l ?c ?k; (case a => k_is); (case i => k_is); (case l => k_is); (case c => k_is); (case k => k_is)))
    (case DW => (refine' Lw.dx_mk KX G ?a ?l ?c ?k; (case a => k_is); (case l => k_is); (case c => k_is); (case k => k_is)))
    (case DZ => (refine' Lw.dx_mk KX G ?a ?l ?c ?k; (case a => k_is); (case l => k_is); (case c => k_is); (case k => k_is)))
    (case DN => (refine' Lw.dx_mk KX G ?a ?l ?c ?k; (case a => k_is); (case l => k_is); (case c => k_is); (case k => k_is)))
    (case DAc => (refine' Lw.dx_mk KX G ?a ?l ?c ?k; (case a => k_is); (case l => k_is); (case c => k_is); (case k => k_is)))
    (case DCl => (refine' Lw.dx_mk KX G ?a ?l ?c ?k; (case a => k_is); (case l => k_is); (case c => k_is); (case k => k_is)))
    (case DCe => (refine' Lw.dx_mk KX G ?a ?l ?c ?k; (case a => k_is); (case l => k_is); (case c => k_is); (case k => k_is)))
    (case DO => (refine' Lw.dx_mk KX G ?a ?l ?c ?k; (case a => k_is); (case l => k_is); (case c => k_is); (case k => k_is)))
    (case DJ => (refine' Lw.dx_mk KX G ?a ?l ?c ?k; (case a => k_is); (case l => k_is); (case c => k_is); (case k => k_is)))
    (case DAl => (refine' Lw.dx_mk KX G ?a ?l ?c ?k; (case a => k_is); (case l => k_is); (case c => k_is); (case k => k_is)))
    (case DNb => (refine' Lw.dx_mk KX G ?a ?l ?c ?k; (case a => k_is); (case l => k_is); (case c => k_is); (case k => k_is)))
    (case Df_greater => (refine' Lw.dx_mk KX G ?a ?l ?c ?k; (case a => k_is); (case l => k_is); (case c => k_is); (case k => k_is)))
    (case Df_lesser => (refine' Lw.dx_mk KX G ?a ?l ?c ?k; (case a => k_is); (case l => k_is); (case c => k_is); (case k => k_is)))
    (case Df_below => (refine' Lw.dx_mk KX G ?a ?l ?c ?k; (case a => k_is); (case l => k_is); (case c => k_is); (case k => k_is)))
    (case Df_at_most => (refine' Lw.dx_mk KX G ?a ?l ?c ?k; (case a => k_is); (case l => k_is); (case c => k_is); (case k => k_is)))
    (case Df_equal => (refine' Lw.dx_mk KX G ?a ?l ?c ?k; (case a => k_is); (case l => k_is); (case c => k_is); (case k => k_is)))
    (case Df_unequal => (refine' Lw.dx_mk KX G ?a ?l ?c ?k; (case a => k_is); (case l => k_is); (case c => k_is); (case k => k_is)))
    (case DOw => (refine' Lw.dx_mk KX G ?a ?l ?c ?k; (case a => k_is); (case l => k_is); (case c => k_is); (case k => k_is)))
    (case DD => (refine' Lw.dx_mk KX G ?a ?l ?c ?k; (case a => k_is); (case l => k_is); (case c => k_is); (case k => k_is)))
    (case DSt => (refine' Lw.dx_mk KX G ?a ?l ?c ?k; (case a => k_is); (case l => k_is); (case c => k_is); (case k => k_is)))
    (case DP => (refine' Lw.dx_mk KX G ?a ?l ?c ?k; (case a => k_is); (case l => k_is); (case c => k_is); (case k => k_is)))
    (case DM => (refine' Lw.dx_mk KX G ?a ?l ?c ?k; (case a => k_is); (case l => k_is); (case c => k_is); (case k => k_is)))
    (case DS => (refine' Lw.dx_mk KX G ?a ?l ?c ?k; (case a => k_is); (case l => k_is); (case c => k_is); (case k => k_is)))
    (case DNm => (refine' Lw.dx_mk KX G ?a ?l ?c ?k; (case a => k_is); (case l => k_is); (case c => k_is); (case k => k_is)))
    (case DNs => (refine' Lw.dx_mk KX G ?a ?l ?c ?k; (case a => k_is); (case l => k_is); (case c => k_is); (case k => k_is)))
    (case DLt => (refine' Lw.dx_mk KX G ?a ?l ?c ?k; (case a => k_is); (case l => k_is); (case c => k_is); (case k => k_is)))
    (case DLa => (refine' Lw.dx_mk KX G ?a ?l ?c ?k; (case a => k_is); (case l => k_is); (case c => k_is); (case k => k_is)))
    (case DPa => (refine' Lw.dx_mk KX G ?a ?l ?c ?k; (case a => k_is); (case l => k_is); (case c => k_is); (case k => k_is)))
    (case DSe => (refine' Lw.dx_mk KX G ?a ?l ?c ?k; (case a => k_is); (case l => k_is); (case c => k_is); (case k => k_is)))
    (case DDu => (refine' Lw.dx_mk KX G ?a ?l ?c ?k; (case a => k_is); (case l => k_is); (case c => k_is); (case k => k_is)))
    (case DBe => (refine' Lw.dx_mk KX G ?a ?l ?c ?k; (case a => k_is); (case l => k_is); (case c => k_is); (case k => k_is)))
    (case DBh => (refine' Lw.dx_mk KX G ?a ?l ?c ?k; (case a => k_is); (case l => k_is); (case c => k_is); (case k => k_is)))
    (case DSi => (refine' Lw.dx_mk KX G ?a ?l ?c ?k; (case a => k_is); (case l => k_is); (case c => k_is); (case k => k_is)))
    (case DLw => (refine' Lw.dx_mk KX G ?a ?l ?c ?k; (case a => k_is); (case l => k_is); (case c => k_is); (case k => k_is)))
