import PyProof.Rows.All
import Wide.All
import OpenK.AllK
import Wide.FinOn
import HandS.ForExc
import HandS.ForMost
import HandS.Wide
import HandS.IsInst
import HandS.Walk
import HandS.Zip
import HandS.Style
import HandS.Codes
import HandS.Conv
import HandS.FStr
import HandS.Property
import HandS.ClsMeth
import HandS.Text
import HandS.Strs
import HandS.SortKw
import HandS.RaiseMore
import HandS.ExcIs
import HandS.TryMany
import HandS.Lambda
import HandS.EndTab
import HandS.EndBits
import HandS.TupAny
import HandS.SlotsOwn
import KE.KOpsOwn
import KE.DataCmp
import HandS.MakeKw
import HandS.MakeKwOnly
import PySem.Challenge.RW_levelwalks_k37_counts
set_option Elab.async false
set_option linter.all false
set_option maxRecDepth 100000
set_option maxHeartbeats 8000000
namespace Lw
open PySem L2
def topS (i : Nat) : Stmt := PySem.Challenge.pw_levelwalks_k37_counts.main.body.getD i (.Pass ⟨0, 0, 0, 0⟩)
theorem seqT {K : PySem.W.Frag} {H H' : Hp} (g : Same H H') {a : Addr} {xs : List V} (h : SqT K H a xs) : SqT K H' a xs := by
  rcases h with (h | ⟨o, h⟩) | h
  · exact .inl (.inl (g _ _ h))
  · exact .inl (.inr ⟨o, g _ _ h⟩)
  · exact .inr h
theorem tyT {K : PySem.W.Frag} {H : Hp} {a : Addr} {xs : List V} (h : SqT K H a xs) : TyX K H (.ref a) (.type "tuple") := by
  rcases h with (h | ⟨o, h⟩) | ⟨o, its, n, h, c, _⟩
  · exact .base (.tup h)
  · exact .fTuple h
  · exact .kTuple h c
theorem tyL {K : PySem.W.Frag} {H : Hp} {a : Addr} {xs : List V} (h : SqL K H a xs) : TyX K H (.ref a) (.type "list") := by
  rcases h with (h | ⟨o, h⟩) | ⟨o, its, n, h, c, _⟩
  · exact .base (.lst h)
  · exact .base (.frz h)
  · exact .kList h c
/-! two values that show the same data: ints, texts, truth values, tuples and lists of such; at most n deep -/
def Sm (K : PySem.W.Frag) (H : Hp) : Nat → V → V → Prop
  | 0, _, _ => False
  | n + 1, v, w => (∃ i : Int, v = .int i ∧ w = .int i) ∨ (∃ s : Str, v = .str s ∧ w = .str s) ∨ (∃ b : Bool, v = .bl b ∧ w = .bl b) ∨
    (∃ (a b : Addr) (xs ys : List V), v = .ref a ∧ w = .ref b ∧ SqT K H a xs ∧ SqT K H b ys ∧ xs.length = ys.length ∧ xs.length ≤ 1000 ∧ ∀ (i : Nat) (x y : V), xs[i]? = some x → ys[i]? = some y → Sm K H n x y) ∨
    (∃ (a b : Addr) (xs ys : List V), v = .ref a ∧ w = .ref b ∧ H a = some (.lst xs) ∧ H b = some (.lst ys) ∧ xs.length = ys.length ∧ xs.length ≤ 1000 ∧ ∀ (i : Nat) (x y : V), xs[i]? = some x → ys[i]? = some y → Sm K H n x y)
theorem Sm.mono {K : PySem.W.Frag} {H H' : Hp} (g : Same H H') : ∀ {n : Nat} {v w : V}, Sm K H n v w → Sm K H' n v w
  | 0, _, _, h => h
  | n + 1, v, w, h => by
    rcases h with h | h | h | ⟨a, b, xs, ys, e1, e2, h1, h2, h3, h4, h5⟩ | ⟨a, b, xs, ys, e1, e2, h1, h2, h3, h4, h5⟩
    · exact .inl h
    · exact .inr (.inl h)
    · exact .inr (.inr (.inl h))
    · exact .inr (.inr (.inr (.inl ⟨a, b, xs, ys, e1, e2, seqT g h1, seqT g h2, h3, h4, fun i x y p q => Sm.mono g (h5 i x y p q)⟩)))
    · exact .inr (.inr (.inr (.inr ⟨a, b, xs, ys, e1, e2, g _ _ h1, g _ _ h2, h3, h4, fun i x y p q => Sm.mono g (h5 i x y p q)⟩)))
theorem Sm.int {K : PySem.W.Frag} {H : Hp} {n : Nat} (i : Int) : Sm K H (n + 1) (.int i) (.int i) := .inl ⟨i, rfl, rfl⟩
theorem Sm.str {K : PySem.W.Frag} {H : Hp} {n : Nat} (z : Str) : Sm K H (n + 1) (.str z) (.str z) := .inr (.inl ⟨z, rfl, rfl⟩)
theorem Sm.bl {K : PySem.W.Frag} {H : Hp} {n : Nat} (b : Bool) : Sm K H (n + 1) (.bl b) (.bl b) := .inr (.inr (.inl ⟨b, rfl, rfl⟩))
/-- place by place -/
def SmAll (K : PySem.W.Frag) (H : Hp) (n : Nat) (xs ys : List V) : Prop := xs.length = ys.length ∧ ∀ (i : Nat) (x y : V), xs[i]? = some x → ys[i]? = some y → Sm K H n x y
theorem SmAll.nil {K : PySem.W.Frag} {H : Hp} {n : Nat} : SmAll K H n [] [] := ⟨rfl, fun i x y e => by cases e⟩
theorem SmAll.cons {K : PySem.W.Frag} {H : Hp} {n : Nat} {x y : V} {xs ys : List V} (h : Sm K H n x y) (t : SmAll K H n xs ys) : SmAll K H n (x :: xs) (y :: ys) :=
  ⟨congrArg Nat.succ t.1, fun i a b e1 e2 => by
    cases i with
    | zero => cases e1; cases e2; exact h
    | succ i => exact t.2 i a b e1 e2⟩
theorem Sm.tup {K : PySem.W.Frag} {H : Hp} {n : Nat} {a b : Addr} {xs ys : List V} (h1 : SqT K H a xs) (h2 : SqT K H b ys) (hl : xs.length ≤ 1000) (t : SmAll K H n xs ys) : Sm K H (n + 1) (.ref a) (.ref b) :=
  .inr (.inr (.inr (.inl ⟨a, b, xs, ys, rfl, rfl, h1, h2, t.1, hl, t.2⟩)))
theorem Sm.lst {K : PySem.W.Frag} {H : Hp} {n : Nat} {a b : Addr} {xs ys : List V} (h1 : H a = some (.lst xs)) (h2 : H b = some (.lst ys)) (hl : xs.length ≤ 1000) (t : SmAll K H n xs ys) : Sm K H (n + 1) (.ref a) (.ref b) :=
  .inr (.inr (.inr (.inr ⟨a, b, xs, ys, rfl, rfl, h1, h2, t.1, hl, t.2⟩)))
def TK (K : PySem.W.Frag) (H H' : Hp) : Prop := ∀ (b : Addr) (xs : List V), SqT K H b xs → SqT K H' b xs
theorem TK.of {K : PySem.W.Frag} {H H' : Hp} (g : Same H H') : TK K H H' := fun b xs h => seqT g h
theorem TK.trans {K : PySem.W.Frag} {H H1 H2 : Hp} (g : TK K H H1) (g' : TK K H1 H2) : TK K H H2 := fun b xs h => g' b xs (g b xs h)
theorem TK.but {K : PySem.W.Frag} {H H' : Hp} (h : ∀ (b : Addr) (o : HO), (∀ xs, o ≠ .lst xs) → H b = some o → H' b = some o) : TK K H H' := fun b xs q => by
  rcases q with (q | ⟨o, q⟩) | q
  · exact .inl (.inl (h _ _ (by intro z e; cases e) q))
  · exact .inl (.inr ⟨o, h _ _ (by intro z e; cases e) q⟩)
  · exact .inr q
theorem TK.lst {K : PySem.W.Frag} {H : Hp} {D : Addr} {xs ys : List V} (h : H D = some (.lst xs)) : TK K H (upd H D (.lst ys)) := .but fun b o no q => by
  rw [upd_ne (fun e => by rw [e, h] at q; exact no _ (Option.some.inj q).symm)]
  exact q
theorem same_new {H : Hp} {p : Addr} (h : H p = none) (o : HO) : Same H (upd H p o) := fun b u q => by rw [upd_ne (ne_of_none q h)]; exact q
theorem same_over {H H' : Hp} {p : Addr} (g : Same H H') (h : H p = none) (o : HO) : Same H (upd H' p o) := fun b u q => by rw [upd_ne (ne_of_none q h)]; exact g _ _ q
/-- a comprehension's turn without a test -/
theorem kept {te : TE} {σ : St} {H : Hp} {R : V → Hp → Prop} {S : Hp → Prop} (h : te σ H R) : tYes σ H fun b H3 => if b = true then te σ H3 R else S H3 := iteT (A := te σ H R) (B := S H) h
/-- the built-in names that the program's text does not make its own -/
structure Bt (mg : Str → Option Value) : Prop where
  isi : mg "isinstance" = none
  lst : mg "list" = none
  tup : mg "tuple" = none
  len : mg "len" = none
  all : mg "all" = none
  zip : mg "zip" = none
  dict : mg "dict" = none
  int : mg "int" = none
  bool : mg "bool" = none
  range : mg "range" = none
section
variable {P : Program} {w : World} {K : PySem.W.Frag} {mg : Str → Option Value} {base : Heap} {f : Addr} {fd : FuncData}
theorem none_left {sp : Sp} {ps : List Str} {CX : CXT} (no : ∀ vs H Q E, ¬ sp vs H Q E) : FnOk P w K mg base CX 0 f fd ps sp :=
  ⟨fun vs H Q E h => absurd h (no vs H Q E), fun A outer s H args us vs Q E _ _ _ _ h => absurd h (no vs H Q E)⟩
theorem is_seq {K : PySem.W.Frag} {t : String} {b : Bool} (h1 : kitB t "list" = some false) (h2 : kitB t "tuple" = some b) : PySem.W.kitAny K (.type t) [.type "list", .type "tuple"] = some b :=
  kitAny_cons (kit_ty h1) (fun _ => kitAny_cons (kit_ty h2) (fun e => by rw [e]; exact kitAny_nil) (fun e => e)) (fun e => by cases e)
abbrev sSame : Stmt := topS 5
/-! zip of two tuples, as a walk -/
theorem walk_zipT {K : PySem.W.Frag} {a b : Addr} {xs ys : List V} (e : xs.length = ys.length) : Walk (RZ.ItzT K a b) xs.length (fun H => SqT K H a xs ∧ SqT K H b ys) (YPair (fun i => xs[i]?) (fun i => ys[i]?)) :=
  ⟨fun i _ hi q => ⟨xs, ys, xs[i], ys[i]'(by omega), q.1, q.2, List.getElem?_eq_getElem hi, List.getElem?_eq_getElem (by omega)⟩, fun _ q => ⟨xs, ys, q.1, q.2, .inl (Nat.le_refl _)⟩,
    fun i H v H' _ q ⟨T, x, y, h1, h2, h3, h4, h5⟩ => ⟨T, x, y, h1, h2, h3, h4 xs q.1, h5 ys q.2⟩⟩
def spSame (K : PySem.W.Frag) (n : Nat) : Sp := fun vs H Q _ => ∃ v u : V, vs = [v, u] ∧ Sm K H n v u ∧ ∀ H' : Hp, Same H H' → Q (.bl true) H'
abbrev namesS : List Str := ["_law_found", "_law_due", "_law_one", "_law_other"]
theorem scS : FnScope namesS ["_law_found", "_law_due"] (defScope sSame) := ⟨rfl, rfl, rfl, by decide +kernel, rfl, by decide +kernel, by decide +kernel⟩
theorem is_four {K : PySem.W.Frag} {t : String} (h1 : kitB t "int" = some false) (h2 : kitB t "list" = some false) (h3 : kitB t "tuple" = some false) (h4 : kitB t "dict" = some false) :
    PySem.W.kitAny K (.type t) [.type "int", .type "list", .type "tuple", .type "dict"] = some false :=
  kitAny_cons (kit_ty h1) (fun _ => kitAny_cons (kit_ty h2) (fun _ => kitAny_cons (kit_ty h3) (fun _ => kitAny_cons (kit_ty h4) (fun _ => kitAny_nil) (fun e => by cases e)) (fun e => by cases e)) (fun e => by cases e)) (fun e => by cases e)
theorem is_seqL {K : PySem.W.Frag} : PySem.W.kitAny K (.type "list") [.type "list", .type "tuple"] = some true :=
  kitAny_cons (kit_ty (r := true) (by decide +kernel)) (fun e => by cases e) (fun _ => rfl)
theorem iteC {c : Bool} {A B : Prop} (hc : c = true) (h : A) : if c = true then A else B := by
  rw [if_pos hc]
  exact h
theorem iteN {c : Bool} {A B : Prop} (hc : c = false) (h : B) : if c = true then A else B := by
  rw [if_neg (by rw [hc]; decide)]
  exact h
theorem all_true {n : Nat} : (List.replicate n true).all id = true := by
  rw [List.all_eq_true]
  intro x hx
  rw [(List.mem_replicate.mp hx).2]
  rfl
/-- the list of answers so far -/
def InvS (H0 : Hp) (D : Addr) (i : Nat) (H : Hp) : Prop := H D = some (.lst (List.replicate i (.bl true))) ∧ Same H0 H
theorem ok_same {n : Nat} (F : Fun K "_law_same" "_law_same" sSame f fd) (G : FnOk P w K mg base CX0 n f fd ["_law_found", "_law_due"] (spSame K n)) (bF : Binds K fd ["_law_found", "_law_due"] []) (kF : PySem.W.keepIn K (.ref f) = true) (mF : mg "_law_same" = some (.ref f)) (B : Bt mg) :
    FnOk P w K mg base CX0 (n + 1) f fd ["_law_found", "_law_due"] (spSame K (n + 1)) := by
  refine F.ok scS (fun vs H Q E h => ?_) (fun cdv A outer s H vs Q E hr h => ?_)
  · obtain ⟨v, u, rfl, _⟩ := h
    rfl
  obtain ⟨v, u, rfl, hA, q⟩ := h
  refine ⟨_, pss_cons (ps_if (pt_val (pe_callB call_isiT (by rfl) B.isi (by decide +kernel) (pa_cons (pv 1) (pa_cons (pe_tup (pa_cons (pe_bltn (v := .ty "list") (by rfl) B.lst (by decide +kernel) rfl) (pa_cons (pe_bltn (v := .ty "tuple") (by rfl) B.tup (by decide +kernel) rfl) pa_nil))) pa_nil))))
      (pss_cons (ps_if (PW.pt (pw_or (pt_cmpR op_ne (pe_callB call_isi (by rfl) B.isi (by decide +kernel) (pa_cons (pv 0) (pa_cons (pe_bltn (v := .ty "list") (by rfl) B.lst (by decide +kernel) rfl) pa_nil))) (pe_callB call_isi (by rfl) B.isi (by decide +kernel) (pa_cons (pv 1) (pa_cons (pe_bltn (v := .ty "list") (by rfl) B.lst (by decide +kernel) rfl) pa_nil))) (nomark _)) (pw_or1 (pt_cmpR op_ne (pe_callB call_isi (by rfl) B.isi (by decide +kernel) (pa_cons (pv 0) (pa_cons (pe_bltn (v := .ty "tuple") (by rfl) B.tup (by decide +kernel) rfl) pa_nil))) (pe_callB call_isi (by rfl) B.isi (by decide +kernel) (pa_cons (pv 1) (pa_cons (pe_bltn (v := .ty "tuple") (by rfl) B.tup (by decide +kernel) rfl) pa_nil))) (nomark _))))) (pss_one (ps_ret pe_bl)) pss_nil)
        (pss_one (ps_ret (pe_and (pe_cmpR op_eq (pe_callB call_len_seq (by rfl) B.len PySem.boot_len (pa_cons (pv 0) pa_nil)) (pe_callB call_len_seq (by rfl) B.len PySem.boot_len (pa_cons (pv 1) pa_nil)) (nomark _)) (pe_one (pe_callB (cr_all rfl) (by rfl) B.all (by decide +kernel) (pa_cons
          (pe_lc (own := [("_law_one", 2), ("_law_other", 3)]) (g := gTup K 2 (gCons (gName 2) (gCons (gName 3) gNil))) (tt := tYes) rfl scS.nd (RZ.pi_zipA (by rfl) B.zip (pa_cons (pv 0) (pa_cons (pv 1) pa_nil))) (blkOk_by (N := namesS) (sc := defScope sSame) (by decide +kernel))
            (fun _ _ _ _ _ => pg_tup rfl (pgs_cons (pg_name (i := 2) scS.nd rfl (Or.inl rfl)) (pgs_cons (pg_name (i := 3) scS.nd rfl (Or.inl rfl)) pgs_nil))) (fun _ _ _ _ _ => pts_nil)
            (fun _ _ _ _ _ => pe_call G hr rfl mF kF bF .nil pass0 (pa_cons (pv 2) (pa_cons (pv 3) pa_nil)))) pa_nil))))))) pss_nil)
    (pss_cons (ps_if (pt_val (pe_callB call_isi (by rfl) B.isi (by decide +kernel) (pa_cons (pv 1) (pa_cons (pe_bltn (v := .ty "dict") (by rfl) B.dict (by decide +kernel) rfl) pa_nil)))) (pss_cons ps_never (pss_one ps_never)) pss_nil)
    (pss_cons (ps_if (pt_val (pe_callB call_isi (by rfl) B.isi (by decide +kernel) (pa_cons (pv 1) (pa_cons (pe_bltn (v := .ty "int") (by rfl) B.int (by decide +kernel) rfl) pa_nil)))) (pss_one (ps_ret (pe_and (pe_callB call_isi (by rfl) B.isi (by decide +kernel) (pa_cons (pv 0) (pa_cons (pe_bltn (v := .ty "int") (by rfl) B.int (by decide +kernel) rfl) pa_nil))) (pe_and (pe_cmpR op_eq (pe_callB call_isi (by rfl) B.isi (by decide +kernel) (pa_cons (pv 0) (pa_cons (pe_bltn (v := .ty "bool") (by rfl) B.bool (by decide +kernel) rfl) pa_nil))) (pe_callB call_isi (by rfl) B.isi (by decide +kernel) (pa_cons (pv 1) (pa_cons (pe_bltn (v := .ty "bool") (by rfl) B.bool (by decide +kernel) rfl) pa_nil))) (nomark _)) (pe_one (pe_cmpR op_eq (pv 0) (pv 1) (nomark _))))))) pss_nil)
    (pss_one (ps_ret (pe_and (pe_cmpR op_eq (pv 0) (pv 1) (nomark _)) (pe_one (pe_cmpR op_isBl (pe_callB call_isiT (by rfl) B.isi (by decide +kernel) (pa_cons (pv 0) (pa_cons (pe_tup (pa_cons (pe_bltn (v := .ty "int") (by rfl) B.int (by decide +kernel) rfl) (pa_cons (pe_bltn (v := .ty "list") (by rfl) B.lst (by decide +kernel) rfl) (pa_cons (pe_bltn (v := .ty "tuple") (by rfl) B.tup (by decide +kernel) rfl) (pa_cons (pe_bltn (v := .ty "dict") (by rfl) B.dict (by decide +kernel) rfl) pa_nil))))) pa_nil))) pe_bl (nomark _)))))))), ?_⟩
  refine ⟨_, rfl, (by show 2 ≤ sizeLine; decide), fun t ht => ?_⟩
  have g1 : Same H (upd H t (.tup [.ty "list", .ty "tuple"])) := same_new ht _
  rcases hA with ⟨i, rfl, rfl⟩ | ⟨z, rfl, rfl⟩ | ⟨bb, rfl, rfl⟩ | ⟨a, b, xs, ys, rfl, rfl, h1, h2, h3, h4, h5⟩ | ⟨a, b, xs, ys, rfl, rfl, h1, h2, h3, h4, h5⟩
  · refine ⟨_, t, _, .type "int", [.type "list", .type "tuple"], false, rfl, upd_same, .cons (.ty _) (.cons (.ty _) .nil), .base (.int i), is_seq (by decide +kernel) (by decide +kernel), _, rfl, ?_⟩
    refine iteF ?_
    refine ⟨_, rfl, _, _, .type "int", .type "dict", false, rfl, .ty _, .base (.int i), kit_ty (by decide +kernel), _, rfl, ?_⟩
    refine iteF ?_
    refine ⟨_, rfl, _, _, .type "int", .type "int", true, rfl, .ty _, .base (.int i), kit_ty (by decide +kernel), _, rfl, ?_⟩
    refine iteT ?_
    refine ⟨_, rfl, _, _, .type "int", .type "int", true, rfl, .ty _, .base (.int i), kit_ty (by decide +kernel), _, rfl, ?_⟩
    refine iteT ?_
    refine ⟨_, rfl, _, _, .type "int", .type "bool", false, rfl, .ty _, .base (.int i), kit_ty (by decide +kernel), ?_⟩
    refine ⟨_, rfl, _, _, .type "int", .type "bool", false, rfl, .ty _, .base (.int i), kit_ty (by decide +kernel), ?_⟩
    refine ⟨rfl, _, rfl, iteC (decide_eq_true rfl) ?_⟩
    refine ⟨_, rfl, _, rfl, rfl, ?_⟩
    show Q (.bl (decide (V.int i = V.int i))) _
    rw [decide_eq_true rfl]
    exact q _ g1
  · refine ⟨_, t, _, .type "str", [.type "list", .type "tuple"], false, rfl, upd_same, .cons (.ty _) (.cons (.ty _) .nil), .base (.str z), is_seq (by decide +kernel) (by decide +kernel), _, rfl, ?_⟩
    refine iteF ?_
    refine ⟨_, rfl, _, _, .type "str", .type "dict", false, rfl, .ty _, .base (.str z), kit_ty (by decide +kernel), _, rfl, ?_⟩
    refine iteF ?_
    refine ⟨_, rfl, _, _, .type "str", .type "int", false, rfl, .ty _, .base (.str z), kit_ty (by decide +kernel), _, rfl, ?_⟩
    refine iteF ?_
    refine ⟨_, rfl, _, rfl, rfl, _, rfl, iteC (decide_eq_true rfl) ?_⟩
    refine ⟨_, rfl, (by show 4 ≤ sizeLine; decide), fun t2 ht2 => ?_⟩
    refine ⟨_, t2, _, .type "str", [.type "int", .type "list", .type "tuple", .type "dict"], false, rfl, upd_same, .cons (.ty _) (.cons (.ty _) (.cons (.ty _) (.cons (.ty _) .nil))), .base (.str z), is_four (by decide +kernel) (by decide +kernel) (by decide +kernel) (by decide +kernel), _, _, rfl, rfl, ?_⟩
    exact q _ (g1.trans (same_new ht2 _))
  · refine ⟨_, t, _, .type "bool", [.type "list", .type "tuple"], false, rfl, upd_same, .cons (.ty _) (.cons (.ty _) .nil), .base (.bl bb), is_seq (by decide +kernel) (by decide +kernel), _, rfl, ?_⟩
    refine iteF ?_
    refine ⟨_, rfl, _, _, .type "bool", .type "dict", false, rfl, .ty _, .base (.bl bb), kit_ty (by decide +kernel), _, rfl, ?_⟩
    refine iteF ?_
    refine ⟨_, rfl, _, _, .type "bool", .type "int", true, rfl, .ty _, .base (.bl bb), kit_ty (by decide +kernel), _, rfl, ?_⟩
    refine iteT ?_
    refine ⟨_, rfl, _, _, .type "bool", .type "int", true, rfl, .ty _, .base (.bl bb), kit_ty (by decide +kernel), _, rfl, ?_⟩
    refine iteT ?_
    refine ⟨_, rfl, _, _, .type "bool", .type "bool", true, rfl, .ty _, .base (.bl bb), kit_ty (by decide +kernel), ?_⟩
    refine ⟨_, rfl, _, _, .type "bool", .type "bool", true, rfl, .ty _, .base (.bl bb), kit_ty (by decide +kernel), ?_⟩
    refine ⟨rfl, _, rfl, iteC (decide_eq_true rfl) ?_⟩
    refine ⟨_, rfl, _, rfl, rfl, ?_⟩
    show Q (.bl (decide (V.bl bb = V.bl bb))) _
    rw [decide_eq_true rfl]
    exact q _ g1
  · refine ⟨_, t, _, .type "tuple", [.type "list", .type "tuple"], true, rfl, upd_same, .cons (.ty _) (.cons (.ty _) .nil), tyT (seqT g1 h2), is_seq (by decide +kernel) (by decide +kernel), _, rfl, ?_⟩
    refine iteT ?_
    have ka := seqT g1 h1
    have kb := seqT g1 h2
    refine ⟨_, rfl, _, _, .type "tuple", .type "list", false, rfl, .ty _, tyT ka, kit_ty (by decide +kernel), _, rfl, _, _, .type "tuple", .type "list", false, rfl, .ty _, tyT kb, kit_ty (by decide +kernel), rfl, _, rfl, ?_⟩
    refine iteN rfl ?_
    refine ⟨_, rfl, _, _, .type "tuple", .type "tuple", true, rfl, .ty _, tyT ka, kit_ty (by decide +kernel), _, rfl, _, _, .type "tuple", .type "tuple", true, rfl, .ty _, tyT kb, kit_ty (by decide +kernel), rfl, _, rfl, ?_⟩
    refine iteN rfl ?_
    refine ⟨_, rfl, a, xs, rfl, .inr (ka), _, rfl, b, ys, rfl, .inr (kb), rfl, _, rfl, iteC (decide_eq_true (by rw [h3])) ?_⟩
    refine ⟨_, rfl, _, rfl, a, b, xs, ys, rfl, .inr ⟨ka, kb, fun D hD => ?_⟩⟩
    have hD0 : H D = none := g1.free hD
    refine lc_it (walk_zipT (K := K) (a := a) (b := b) h3) (InvS H D) ⟨upd_same, same_over g1 hD0 _⟩ (fun i H' _ ⟨_, g⟩ => ⟨seqT g h1, seqT g h2⟩) ?_ ?_
    · rintro i v H' H'' hi ⟨hd, g⟩ ⟨T, x, y, rfl, hT, rfl, ex, ey⟩
      have gT : Same H' (upd H' T (.tup [x, y])) := same_new hT _
      have hi1 : i < 1001 := by omega
      refine ⟨T, [x, y], rfl, SqT.of upd_same, rfl, x, [y], rfl, y, [], rfl, rfl, ?_⟩
      refine ⟨rfl, kept ?_⟩
      refine ⟨_, rfl, _, rfl, x, y, rfl, (h5 i x y ex ey).mono (g.trans gT), fun H2 g2 => ?_⟩
      refine ⟨_, g2 _ _ (gT _ _ hd), by rw [List.length_replicate]; exact small1000 (by omega), by rw [upd_same, List.replicate_succ'], same_over ((g.trans gT).trans g2) hD0 _⟩
    · rintro H' ⟨hd, g⟩
      exact ⟨D, List.replicate xs.length true, rfl, SqL.of (by rw [hd, List.map_replicate]), by rw [all_true]; exact q _ g⟩
  · refine ⟨_, t, _, .type "list", [.type "list", .type "tuple"], true, rfl, upd_same, .cons (.ty _) (.cons (.ty _) .nil), .base (.lst (g1 _ _ h2)), is_seqL, _, rfl, ?_⟩
    refine iteT ?_
    have ka := g1 _ _ h1
    have kb := g1 _ _ h2
    refine ⟨_, rfl, _, _, .type "list", .type "list", true, rfl, .ty _, .base (.lst ka), kit_ty (by decide +kernel), _, rfl, _, _, .type "list", .type "list", true, rfl, .ty _, .base (.lst kb), kit_ty (by decide +kernel), rfl, _, rfl, ?_⟩
    refine iteN rfl ?_
    refine ⟨_, rfl, _, _, .type "list", .type "tuple", false, rfl, .ty _, .base (.lst ka), kit_ty (by decide +kernel), _, rfl, _, _, .type "list", .type "tuple", false, rfl, .ty _, .base (.lst kb), kit_ty (by decide +kernel), rfl, _, rfl, ?_⟩
    refine iteN rfl ?_
    refine ⟨_, rfl, a, xs, rfl, .inl (SqL.of ka), _, rfl, b, ys, rfl, .inl (SqL.of kb), rfl, _, rfl, iteC (decide_eq_true (by rw [h3])) ?_⟩
    refine ⟨_, rfl, _, rfl, a, b, xs, ys, rfl, .inl ⟨SqL.of ka, SqL.of kb, fun D hD => ?_⟩⟩
    have hD0 : H D = none := g1.free hD
    refine lc_it (walk_zip (K := K) (a := a) (b := b) (n := xs.length) (by omega)) (InvS H D) ⟨upd_same, same_over g1 hD0 _⟩ (fun i H' _ ⟨_, g⟩ => ⟨SqL.of (g _ _ h1), SqL.of (g _ _ h2)⟩) ?_ ?_
    · rintro i v H' H'' hi ⟨hd, g⟩ ⟨T, x, y, rfl, hT, rfl, ex, ey⟩
      have gT : Same H' (upd H' T (.tup [x, y])) := same_new hT _
      have hi1 : i < 1001 := by omega
      refine ⟨T, [x, y], rfl, SqT.of upd_same, rfl, x, [y], rfl, y, [], rfl, rfl, ?_⟩
      refine ⟨rfl, kept ?_⟩
      refine ⟨_, rfl, _, rfl, x, y, rfl, (h5 i x y ex ey).mono (g.trans gT), fun H2 g2 => ?_⟩
      refine ⟨_, g2 _ _ (gT _ _ hd), by rw [List.length_replicate]; exact small1000 (by omega), by rw [upd_same, List.replicate_succ'], same_over ((g.trans gT).trans g2) hD0 _⟩
    · rintro H' ⟨hd, g⟩
      exact ⟨D, List.replicate xs.length true, rfl, SqL.of (by rw [hd, List.map_replicate]), by rw [all_true]; exact q _ g⟩
abbrev sDraw : Stmt := topS 3
/-! the spring of numbers: a list of four, its first one a list of ints -/
def Spr (H : Hp) (st q : Addr) (b : Int) : Prop := ∃ (ns : List Int) (a c : Int), H st = some (.lst [.ref q, .int a, .int b, .int c]) ∧ H q = some (.lst (ns.map V.int)) ∧ 0 ≤ a ∧ 0 ≤ c ∧ c < 2147483647 ∧ ns.length ≤ 63
/-! all else is as it was -/
def SX (st q : Addr) (H H' : Hp) : Prop := ∀ (x : Addr) (o : HO), x ≠ st → x ≠ q → H x = some o → H' x = some o
theorem SX.refl {st q : Addr} {H : Hp} : SX st q H H := fun _ _ _ _ h => h
theorem SX.trans {st q : Addr} {H H1 H2 : Hp} (g : SX st q H H1) (g' : SX st q H1 H2) : SX st q H H2 := fun x o h1 h2 h => g' x o h1 h2 (g x o h1 h2 h)
theorem SX.of {st q : Addr} {H H' : Hp} (g : Same H H') : SX st q H H' := fun x o _ _ h => g x o h
theorem SX.st {st q : Addr} {H : Hp} {o : HO} : SX st q H (upd H st o) := fun x u h1 _ h => by rw [upd_ne h1]; exact h
theorem SX.q {st q : Addr} {H : Hp} {o : HO} : SX st q H (upd H q o) := fun x u _ h2 h => by rw [upd_ne h2]; exact h
theorem Spr.ne {H : Hp} {st q : Addr} {a b c : Int} {ns : List Int} (h1 : H st = some (.lst [.ref q, .int a, .int b, .int c])) (h2 : H q = some (.lst (ns.map V.int))) : q ≠ st := fun e => by
  rw [e, h1] at h2
  cases ns with
  | nil => cases h2
  | cons n r => cases h2
def spDraw : Sp := fun vs H Q _ => ∃ (st q : Addr) (b m : Int), vs = [.ref st, .int m] ∧ Spr H st q b ∧ 0 ≤ b ∧ b ≤ 1000 ∧ 0 < m ∧ m < 1073741824 ∧
  ∀ (r : Int) (H' : Hp), 0 ≤ r → r < m → Spr H' st q (b + 1) → SX st q H H' → Q (.int r) H'
theorem scD : FnScope ["_law_stream", "_law_many", "_law_digit", "_law_mixed"] ["_law_stream", "_law_many"] (defScope sDraw) := ⟨rfl, rfl, rfl, by decide +kernel, rfl, by decide +kernel, by decide +kernel⟩
theorem dp_ints {H : Hp} : ∀ ns : List Int, DpAll K H (ns.map V.int) (ns.map PyData.int)
  | [] => .nil
  | n :: r => .cons (.int n) (dp_ints r)
theorem first_ix {n : Nat} (h : 0 < n) : seqIndex? 0 n = some 0 := (ixN_seq (n := n) (i := 0) (j := 0) (by unfold ixN; rw [if_pos (by decide), if_pos (by omega)]; rfl)).1
theorem ok_draw (F : Fun K "_law_draw" "_law_draw" sDraw f fd) (B : Bt mg) : FnOk P w K mg base CX0 1 f fd ["_law_stream", "_law_many"] spDraw := by
  refine F.ok scD (fun vs H Q E h => ?_) (fun cdv A outer s H vs Q E hr h => ?_)
  · obtain ⟨st, q, b, m, rfl, _⟩ := h
    rfl
  obtain ⟨st, q, b, m, rfl, ⟨ns, a, c, h1, h2, ha, hc, hc2, hns⟩, hb0, hb1, hm0, hm1, k⟩ := h
  refine ⟨_, pss_cons (ps_asg (pe_op op_add (pe_ix ix_list (pv 0) pe_int (fun _ _ => rfl)) pe_int) (pg_sub (pv 0) pe_int set_list))
    (C8.pss_cut (ps_if (PW.pt (pw_and (pt_cmpR op_eq (pe_ix ix_list (pv 0) pe_int (fun _ _ => rfl)) pe_int (nomark _)) (pw_and1 (pt_cmpR (op_neD hr.units) (pe_ix ix_list (pv 0) pe_int (fun _ _ => rfl)) (pe_lst pa_nil) (nomark _))))) (pss_cons (ps_asg (pe_bm PySem.F.plainAttrs_list PySem.F.slot_list_pop PySem.F.type_list_pop mt_popAt (pe_ix ix_list (pv 0) pe_int (fun _ _ => rfl)) (pa_cons pe_int pa_nil)) (pg_sub (pv 0) pe_int set_list)) (pss_one (ps_if (pt_cmpR op_lt (pe_ix ix_list (pv 0) pe_int (fun _ _ => rfl)) (pe_op op_pow pe_int pe_int) (nomark _)) (pss_cons (ps_asg (pe_op op_mod (pe_callTy call_int1 (by rfl) B.int (by decide +kernel) (pa_cons (pe_op op_add (pe_op op_add (pe_op op_mul (pe_ix ix_list (pv 0) pe_int (fun _ _ => rfl)) pe_int) (pe_ix ix_list (pv 0) pe_int (fun _ _ => rfl))) pe_int) pa_nil)) pe_int) (pg_sub (pv 0) pe_int set_list)) (pss_one (ps_asg pe_int (pg_sub (pv 0) pe_int set_list)))) pss_nil))) pss_nil)
    (pss_cons (ps_if (pt_cmpR op_gt (pe_ix ix_list (pv 0) pe_int (fun _ _ => rfl)) pe_int (nomark _)) (pss_cons (ps_set (i := 2) scD.nd rfl (Or.inl rfl) (pe_op op_mod (pe_callTy call_int1 (by rfl) B.int (by decide +kernel) (pa_cons (pe_ix ix_list (pv 0) pe_int (fun _ _ => rfl)) pa_nil)) (pv 1))) (pss_cons (ps_asg (pe_op op_fdiv (pe_ix ix_list (pv 0) pe_int (fun _ _ => rfl)) (pv 1)) (pg_sub (pv 0) pe_int set_list)) (pss_one (ps_ret (pv 2))))) pss_nil)
    (pss_cons (ps_set (i := 3) scD.nd rfl (Or.inl rfl) (pe_op op_mod (pe_op op_pow (pe_op op_add (pe_op op_add (pe_ix ix_list (pv 0) pe_int (fun _ _ => rfl)) (pe_op op_mul pe_int (pe_ix ix_list (pv 0) pe_int (fun _ _ => rfl)))) pe_int) pe_int) pe_int))
    (pss_one (ps_ret (pe_op op_mod (pe_op op_mod (pe_op op_pow (pe_op op_add (pe_op op_add (pe_op op_mul (pv 3) pe_int) (pe_op op_mul (pe_op op_mul pe_int (pe_ix ix_list (pv 0) pe_int (fun _ _ => rfl))) (pe_ix ix_list (pv 0) pe_int (fun _ _ => rfl)))) pe_int) pe_int) pe_int) (pv 1))))))), ?_⟩
  have nqs : q ≠ st := Spr.ne h1 h2
  refine ⟨_, rfl, st, _, _, _, rfl, rfl, SqL.of h1, rfl, _, _, rfl, rfl, _, rfl, st, _, _, _, rfl, rfl, h1, rfl, ?_⟩
  have e1 : upd H st (.lst [.ref q, .int a, .int (b + 1), .int c]) st = some (.lst [.ref q, .int a, .int (b + 1), .int c]) := upd_same
  have e2 : upd H st (.lst [.ref q, .int a, .int (b + 1), .int c]) q = some (.lst (ns.map V.int)) := by rw [upd_ne nqs]; exact h2
  have gx : SX st q H (upd H st (.lst [.ref q, .int a, .int (b + 1), .int c])) := SX.st
  refine ⟨fun σ' H' => σ' = [some (.ref st), some (.int m), none, none] ∧ Spr H' st q (b + 1) ∧ SX st q H H', ?_, ?_⟩
  · refine ⟨_, rfl, st, _, _, _, rfl, rfl, SqL.of e1, rfl, rfl, _, rfl, ?_⟩
    refine ite2 (fun ca => ?_) (fun _ => ⟨rfl, ⟨ns, a, c, e1, e2, ha, hc, hc2, hns⟩, gx⟩)
    have ca0 : a = 0 := by
      have z := of_decide_eq_true ca
      cases z
      rfl
    refine ⟨_, rfl, st, _, _, _, rfl, rfl, SqL.of e1, rfl, Nat.zero_le _, fun l hl => ?_⟩
    have g2 := same_new hl (.lst [])
    have f1 := g2 _ _ e1
    have f2 := g2 _ _ e2
    have gx2 := gx.trans (.of g2)
    cases ns with
    | nil =>
      refine ⟨.list [], .list [], .lst (SqL.of f2) .nil, .lst (SqL.of upd_same) .nil, by decide +kernel, by decide +kernel, _, rfl, ?_⟩
      refine iteN (by decide +kernel) ⟨rfl, ⟨[], a, c, f1, f2, ha, hc, hc2, hns⟩, gx2⟩
    | cons n r =>
      refine ⟨.list ((n :: r).map PyData.int), .list [], .lst (SqL.of f2) (dp_ints _), .lst (SqL.of upd_same) .nil, PySem.W.ke_shaped_ints _, by decide +kernel, _, rfl, ?_⟩
      refine iteC rfl ?_
      refine ⟨_, rfl, st, _, _, _, rfl, rfl, SqL.of f1, rfl, .inl ⟨rfl, _, SqL.of f2⟩, q, _, 0, 0, _, rfl, rfl, f2, by decide, by decide, first_ix (by simp), rfl, ?_⟩
      have p1 := (upd_ne (o := .lst (r.map V.int)) nqs.symm).trans f1
      have gx3 := gx2.trans (SX.q (o := .lst (r.map V.int)))
      refine ⟨_, rfl, st, _, _, _, rfl, rfl, p1, rfl, ?_⟩
      have gx4 := gx3.trans (SX.st (o := .lst [.ref q, .int n, .int (b + 1), .int c]))
      refine ⟨_, rfl, st, _, _, _, rfl, rfl, SqL.of upd_same, rfl, _, _, rfl, rfl, ⟨by decide, by decide, by decide⟩, _, _, rfl, rfl, _, rfl, ?_⟩
      refine ite2 (fun cn => ?_) (fun cn => ?_)
      · refine ⟨_, rfl, st, _, _, _, rfl, rfl, SqL.of upd_same, rfl, _, _, rfl, rfl, .inr ⟨by decide, by decide⟩, _, rfl, st, _, _, _, rfl, rfl, SqL.of upd_same, rfl, _, _, rfl, rfl, _, _, rfl, rfl, .inl ⟨_, rfl, ?_⟩⟩
        refine ⟨_, _, rfl, rfl, (by show (0 : Int) < 2147483647; decide), _, rfl, st, _, _, _, rfl, rfl, upd_same, rfl, _, rfl, st, _, _, _, rfl, rfl, upd_same, rfl, ?_⟩
        refine ⟨rfl, ⟨r, 0, (c * 31 + n + 7) % 2147483647, upd_same, ?_, by decide, Int.emod_nonneg _ (by decide), Int.emod_lt_of_pos _ (by decide), by simp at hns; omega⟩, (gx4.trans SX.st).trans SX.st⟩
        rw [upd_ne nqs, upd_ne nqs, upd_ne nqs, upd_same]
        rfl
      · have cn1 : ¬ n < (10 : Int) ^ 18 := of_decide_eq_false (Bool.eq_false_iff.mpr cn)
        refine ⟨rfl, ⟨r, n, c, upd_same, ?_, by omega, hc, hc2, by simp at hns; omega⟩, gx4⟩
        rw [upd_ne nqs, upd_same]
        rfl
  · rintro σ' H' ⟨rfl, ⟨ns', a', c', d1, d2, ha', hc', hc2', hns'⟩, g'⟩
    refine ⟨_, rfl, st, _, _, _, rfl, rfl, SqL.of d1, rfl, _, _, rfl, rfl, _, rfl, ?_⟩
    refine ite2 (fun cp => ?_) (fun cp => ?_)
    · have cp1 : a' > 0 := of_decide_eq_true cp
      refine ⟨_, rfl, st, _, _, _, rfl, rfl, SqL.of d1, rfl, .inl ⟨_, rfl, ?_⟩⟩
      refine ⟨_, rfl, _, _, rfl, rfl, hm0, _, rfl, st, _, _, _, rfl, rfl, SqL.of d1, rfl, _, rfl, _, _, rfl, rfl, ⟨hm0, hm1⟩, _, rfl, st, _, _, _, rfl, rfl, d1, rfl, _, rfl, ?_⟩
      exact k _ _ (Int.emod_nonneg _ (by omega)) (Int.emod_lt_of_pos _ hm0) ⟨ns', a' / m, c', upd_same, by rw [upd_ne nqs]; exact d2, Int.ediv_nonneg ha' (by omega), hc', hc2', hns'⟩ (g'.trans SX.st)
    · refine ⟨_, rfl, st, _, _, _, rfl, rfl, SqL.of d1, rfl, _, rfl, st, _, _, _, rfl, rfl, SqL.of d1, rfl, _, _, rfl, rfl, .inl ⟨by decide, by decide⟩, _, _, rfl, rfl, _, _, rfl, rfl, _, _, rfl, rfl, ⟨by decide, by decide, ?_⟩, _, _, rfl, rfl, (by show (0 : Int) < 2147483629; decide), ?_⟩
      · show (c' + 104729 * (b + 1) + 17).natAbs < 18446744073709551616
        omega
      have x0 : 0 ≤ (c' + 104729 * (b + 1) + 17) ^ (5 : Int).toNat % 2147483629 := Int.emod_nonneg _ (by decide)
      have x1 : (c' + 104729 * (b + 1) + 17) ^ (5 : Int).toNat % 2147483629 < 2147483629 := Int.emod_lt_of_pos _ (by decide)
      refine ⟨_, rfl, _, _, rfl, rfl, .inr ⟨by decide, by decide⟩, _, rfl, st, _, _, _, rfl, rfl, SqL.of d1, rfl, _, _, rfl, rfl, .inl ⟨by decide, by decide⟩, _, rfl, st, _, _, _, rfl, rfl, SqL.of d1, rfl, _, _, rfl, rfl, .inr ⟨?_, ?_⟩, _, _, rfl, rfl, _, _, rfl, rfl, _, _, rfl, rfl, ⟨by decide, by decide, ?_⟩, _, _, rfl, rfl, (by show (0 : Int) < 1000000007; decide), _, rfl, _, _, rfl, rfl, hm0, ?_⟩
      · show -(18446744073709551616 : Int) < b + 1
        omega
      · show b + 1 < (18446744073709551616 : Int)
        omega
      · show ((c' + 104729 * (b + 1) + 17) ^ (5 : Int).toNat % 2147483629 * 48271 + 40503 * (b + 1) * (b + 1) + 13).natAbs < 18446744073709551616
        have y0 : 0 ≤ 40503 * (b + 1) * (b + 1) := Int.mul_nonneg (by omega) (by omega)
        have y1 : 40503 * (b + 1) * (b + 1) ≤ 40543503 * 1001 := Int.mul_le_mul (by omega) (by omega) (by omega) (by omega)
        revert x0 x1 y0 y1
        generalize (c' + 104729 * (b + 1) + 17) ^ (5 : Int).toNat % 2147483629 = x
        generalize 40503 * (b + 1) * (b + 1) = y
        intro x0 x1 y0 y1
        omega
      · exact k _ _ (Int.emod_nonneg _ (by omega)) (Int.emod_lt_of_pos _ hm0) ⟨ns', a', c', d1, d2, ha', hc', hc2', hns'⟩ g'
theorem Spr.same {H H' : Hp} {st q : Addr} {b : Int} (g : Same H H') : Spr H st q b → Spr H' st q b
  | ⟨ns, a, c, h1, h2, r⟩ => ⟨ns, a, c, g _ _ h1, g _ _ h2, r⟩
theorem TK.sx {H H' : Hp} {st q : Addr} {b : Int} (s : Spr H st q b) (g : SX st q H H') : TK K H H' := by
  obtain ⟨ns, a, c, h1, h2, _⟩ := s
  exact .but fun t o no h => g _ _ (fun e => by rw [e, h1] at h; exact no _ (Option.some.inj h).symm) (fun e => by rw [e, h2] at h; exact no _ (Option.some.inj h).symm) h
abbrev sStart : Stmt := topS 4
def spStart (K : PySem.W.Frag) : Sp := fun vs H Q _ => ∃ (a : Addr) (ns : List Int), vs = [.ref a] ∧ SqL K H a (ns.map V.int) ∧ ns.length ≤ 63 ∧
  ∀ (st q : Addr) (H' : Hp), Same H H' → Spr H' st q 0 → Q (.ref st) H'
theorem scT : FnScope ["_law_script"] ["_law_script"] (defScope sStart) := ⟨rfl, rfl, rfl, by decide +kernel, rfl, by decide +kernel, by decide +kernel⟩
theorem ok_start (F : Fun K "_law_start" "_law_start" sStart f fd) (B : Bt mg) : FnOk P w K mg base CX0 1 f fd ["_law_script"] (spStart K) := by
  refine F.ok scT (fun vs H Q E h => ?_) (fun cdv A outer s H vs Q E hr h => ?_)
  · obtain ⟨a, ns, rfl, _⟩ := h
    rfl
  obtain ⟨a, ns, rfl, hS, hn, k⟩ := h
  refine ⟨_, pss_one (ps_ret (pe_lst (pa_cons (pe_callTy call_list_of (by rfl) B.lst (by decide +kernel) (pa_cons (pv 0) pa_nil)) (pa_cons pe_int (pa_cons pe_int (pa_cons pe_int pa_nil)))))), ?_⟩
  refine ⟨_, rfl, a, _, rfl, .inl hS, fun l hl => ?_⟩
  have g1 := same_new hl (.lst (ns.map V.int))
  refine ⟨(by show 4 ≤ sizeLine; decide), fun t ht => ?_⟩
  have g2 := same_new ht (.lst [.ref l, .int 0, .int 0, .int 0])
  exact k t l _ (g1.trans g2) ⟨ns, 0, 0, upd_same, g2 _ _ upd_same, by decide, by decide, by decide, hn⟩
theorem at_int {xs : List V} {r : Int} (h0 : 0 ≤ r) (h1 : r < (xs.length : Int)) : ∃ v, v ∈ xs ∧ atI xs r = some v := by
  have hk : r.toNat < xs.length := by omega
  refine ⟨xs[r.toNat], List.getElem_mem hk, ?_⟩
  have q := atI_nat (xs := xs) (j := r.toNat) (v := xs[r.toNat]) (List.getElem?_eq_getElem hk)
  rwa [show ((r.toNat : Nat) : Int) = r by omega] at q
theorem all_nil {p : V → Prop} : ∀ x ∈ ([] : List V), p x := fun x h => by cases h
theorem all_cons {p : V → Prop} {a : V} {l : List V} (h : p a) (t : ∀ x ∈ l, p x) : ∀ x ∈ a :: l, p x := fun x q => by
  cases q with
  | head => exact h
  | tail _ q => exact t x q
end
end Lw
/-! operators of the program's own classes: x op y, x op= y, op x by the class's own defs; order of data -/
namespace OwB
open PySem PySem.Spec PyProof.Rows L2
section
variable {X : Cx} {CX : CXT} {k : Nat} {g C : Addr} {gd : FuncData} {ps : List Str} {sp : Sp} {E : XK}
theorem inst_of {pins : List (Addr × Obj)} {σ : L2.St} {H : Hp} {s : Shared} {a dx : Addr} {fs : List (Str × V)} (I : Inv X pins σ H s) (h : H a = some (.ins C dx fs)) : ∃ od, PySem.W.InstAt s.heap a (PySem.W.instObj C dx) C (some od) := by
  obtain ⟨mA, O, _⟩ := ins_get I.hok h
  obtain ⟨od, J, _⟩ := O.look
  exact ⟨od, J⟩
theorem back_of {pins : List (Addr × Obj)} {σ : L2.St} {Q : VK} {v : Value} {s' : Shared} (h : EP X pins σ Q v s') : PySem.W.CmpBack (EP X pins σ Q) v s' := by
  obtain ⟨z, H', I', rz, qz⟩ := h
  exact SlX.cmpback rz ⟨z, H', I', rz, qz⟩
/-- the def at g stands for the class at C under the name x -/
structure OpD (K : PySem.W.Frag) (C g : Addr) (x : Str) : Prop where
  at_ : PySem.W.findIn K (.ref C) x = some (some (.ref g))
  fn : PySem.W.isFn K (.ref g) = true
/-- x op y, both instances of the class at C -/
def rOwnI (C : Addr) (sp : Sp) (E : XK) : R2 := fun x y H Q => ∃ a b dx dy fs gs, x = .ref a ∧ y = .ref b ∧ H a = some (.ins C dx fs) ∧ H b = some (.ins C dy gs) ∧ sp [x, y] H Q E
theorem op_ownB {op : Operator} (hc : PySem.W.selfFirst X.K C = true) (D : OpD X.K C g (PySem.dunder op.info.2)) (F : FnOk X.prog X.w X.K X.mg X.base CX k g gd ps sp) (hr : Room k X.A) (hb : Binds X.K gd ps []) (hx : Passes CX X E) :
    OpR X (binaryOp op) (rOwnI C sp E) := by
  intro pins s σ H x y v u Q I rx ry h
  obtain ⟨a, b, dx, dy, fs, gs, rfl, rfl, ha, hb', q⟩ := h
  cases (show v = Value.ref a from rx)
  cases (show u = Value.ref b from ry)
  obtain ⟨od, J⟩ := inst_of I ha
  obtain ⟨od', J'⟩ := inst_of I hb'
  obtain ⟨m, hF⟩ := I.fr
  refine PySem.W.binop_K hF I.ok.mod.kin J J'.type hc D.at_ D.fn ?_
  exact wpAny_mono (run_fn (us := [.ref a, .ref b]) (vs := [.ref a, .ref b]) F hr hb .nil hx I (.cons rfl (.cons rfl .nil)) q) (fun w s' z => back_of z) fun _ _ x => x
theorem op_ownC {op : CmpOp} (hop : ∀ a b, compareOp op a b = richCompare op a b) (D : OpD X.K C g (cmpInfo op).2.1) (F : FnOk X.prog X.w X.K X.mg X.base CX k g gd ps sp) (hr : Room k X.A) (hb : Binds X.K gd ps []) (hx : Passes CX X E) :
    OpR X (compareOp op) (rOwnI C sp E) := by
  intro pins s σ H x y v u Q I rx ry h
  obtain ⟨a, b, dx, dy, fs, gs, rfl, rfl, ha, hb', q⟩ := h
  cases (show v = Value.ref a from rx)
  cases (show u = Value.ref b from ry)
  obtain ⟨od, J⟩ := inst_of I ha
  obtain ⟨od', J'⟩ := inst_of I hb'
  obtain ⟨m, hF⟩ := I.fr
  rw [hop]
  refine PySem.W.cmp_K (op := op) (tb := .ref C) hr.units0 hF I.ok.mod.kin J J'.type ?_ D.at_ D.fn ?_
  · unfold PySem.W.notFirst
    rw [beq_self_eq_true, Bool.true_or]
  exact wpAny_mono (run_fn (us := [.ref a, .ref b]) (vs := [.ref a, .ref b]) F hr hb .nil hx I (.cons rfl (.cons rfl .nil)) q) (fun w s' z => back_of z) fun _ _ x => x
/-- x op= y, x an instance of the class at C -/
def rOwnA (C : Addr) (sp : Sp) (E : XK) : R2 := fun x y H Q => ∃ a dx fs, x = .ref a ∧ H a = some (.ins C dx fs) ∧ sp [x, y] H Q E
theorem op_ownA {op : Operator} (hc : PySem.W.selfFirst X.K C = true) (D : OpD X.K C g (PySem.dunderI op.info.2)) (F : FnOk X.prog X.w X.K X.mg X.base CX k g gd ps sp) (hr : Room k X.A) (hb : Binds X.K gd ps []) (hx : Passes CX X E) :
    OpR X (inplaceOp op) (rOwnA C sp E) := by
  intro pins s σ H x y v u Q I rx ry h
  obtain ⟨a, dx, fs, rfl, ha, q⟩ := h
  cases (show v = Value.ref a from rx)
  obtain ⟨od, J⟩ := inst_of I ha
  obtain ⟨m, hF⟩ := I.fr
  refine PySem.W.ksp_inplace hF I.ok.mod.kin J hc D.at_ D.fn ?_
  exact wpAny_mono (run_fn (us := [.ref a, u]) (vs := [.ref a, y]) F hr hb .nil hx I (.cons rfl (.cons ry .nil)) q) (fun w s' z => back_of z) fun _ _ x => x
/-- op x -/
def rOwnU (C : Addr) (sp : Sp) (E : XK) : V → Hp → VK → Prop := fun x H Q => ∃ a dx fs, x = .ref a ∧ H a = some (.ins C dx fs) ∧ sp [x] H Q E
theorem un_own_neg (D : OpD X.K C g "__neg__") (F : FnOk X.prog X.w X.K X.mg X.base CX k g gd ps sp) (hr : Room k X.A) (hb : Binds X.K gd ps []) (hx : Passes CX X E) : UnR X (unaryOp .USub) (rOwnU C sp E) := by
  intro pins s σ H x v Q I rx h
  obtain ⟨a, dx, fs, rfl, ha, q⟩ := h
  cases (show v = Value.ref a from rx)
  obtain ⟨od, J⟩ := inst_of I ha
  obtain ⟨m, hF⟩ := I.fr
  exact PySem.W.ksp_neg hF I.ok.mod.kin J D.at_ D.fn (run_fn (us := [.ref a]) (vs := [.ref a]) F hr hb .nil hx I (.cons rfl .nil) q)
theorem un_own_pos (D : OpD X.K C g "__pos__") (F : FnOk X.prog X.w X.K X.mg X.base CX k g gd ps sp) (hr : Room k X.A) (hb : Binds X.K gd ps []) (hx : Passes CX X E) : UnR X (unaryOp .UAdd) (rOwnU C sp E) := by
  intro pins s σ H x v Q I rx h
  obtain ⟨a, dx, fs, rfl, ha, q⟩ := h
  cases (show v = Value.ref a from rx)
  obtain ⟨od, J⟩ := inst_of I ha
  obtain ⟨m, hF⟩ := I.fr
  exact PySem.W.ksp_pos hF I.ok.mod.kin J D.at_ D.fn (run_fn (us := [.ref a]) (vs := [.ref a]) F hr hb .nil hx I (.cons rfl .nil) q)
theorem un_own_inv (D : OpD X.K C g "__invert__") (F : FnOk X.prog X.w X.K X.mg X.base CX k g gd ps sp) (hr : Room k X.A) (hb : Binds X.K gd ps []) (hx : Passes CX X E) : UnR X (unaryOp .Invert) (rOwnU C sp E) := by
  intro pins s σ H x v Q I rx h
  obtain ⟨a, dx, fs, rfl, ha, q⟩ := h
  cases (show v = Value.ref a from rx)
  obtain ⟨od, J⟩ := inst_of I ha
  obtain ⟨m, hF⟩ := I.fr
  exact PySem.W.ksp_inv hF I.ok.mod.kin J D.at_ D.fn (run_fn (us := [.ref a]) (vs := [.ref a]) F hr hb .nil hx I (.cons rfl .nil) q)
/-- x op i, x an instance, i an int -/
def rOwnN (C : Addr) (sp : Sp) (E : XK) : R2 := fun x y H Q => ∃ a dx fs i, x = .ref a ∧ y = .int i ∧ H a = some (.ins C dx fs) ∧ sp [x, y] H Q E
theorem op_ownN {op : Operator} {fo ro rc : Option Value} (hc : PySem.W.selfFirst X.K C = true) (D : OpD X.K C g (PySem.dunder op.info.2)) (hr' : PySem.W.findIn X.K (.ref C) (PySem.dunderR op.info.2) = some rc) (hp : rc = none ∨ ∃ g : Addr, rc = some (.ref g))
    (h1 : PySem.W.findIn X.K (.type "int") (PySem.dunder op.info.2) = some fo) (h2 : PySem.W.findIn X.K (.type "int") (PySem.dunderR op.info.2) = some ro) (hsub : PySem.W.subIn X.K (.type "int") (.ref C) = some false)
    (F : FnOk X.prog X.w X.K X.mg X.base CX k g gd ps sp) (hr : Room k X.A) (hb : Binds X.K gd ps []) (hx : Passes CX X E) : OpR X (binaryOp op) (rOwnN C sp E) := by
  intro pins s σ H x y v u Q I rx ry h
  obtain ⟨a, dx, fs, i, rfl, rfl, ha, q⟩ := h
  cases (show v = Value.ref a from rx)
  obtain ⟨t, rfl⟩ := (show ∃ t, u = Value.int i t from ry)
  obtain ⟨od, J⟩ := inst_of I ha
  obtain ⟨m, hF⟩ := I.fr
  refine PySem.W.ksp_binT (b := .int i t) hF I.ok.mod.kin J rfl hc D.at_ D.fn hr' hp h1 h2 hsub ?_
  exact wpAny_mono (run_fn (us := [.ref a, .int i t]) (vs := [.ref a, .int i]) F hr hb .nil hx I (.cons rfl (.cons ⟨t, rfl⟩ .nil)) q) (fun w s' z => back_of z) fun _ _ x => x
end
/-! ### the order of data -/
section
variable {X : Cx}
def rCmpD (K : PySem.W.Frag) (p : PyData → PyData → Bool) : R2 := fun x y H Q => ∃ d e, Dp K H x d ∧ Dp K H y e ∧ PySem.W.alike d e = true ∧ d ≠ .none ∧ min d.depth e.depth ≤ 32 ∧ Q (.bl (p d e)) H
theorem op_ltD (hu : X.A.units + 64 < cLine) : OpR X (compareOp .Lt) (rCmpD X.K fun d e => PySem.W.dataLt d e) := by
  intro pins s σ H x y v u Q I rx ry ⟨d, e, hd, he, ha, hn, hl, q⟩
  obtain ⟨as, r1⟩ := Dp.reads I d x v hd rx
  obtain ⟨bs, r2⟩ := Dp.reads I e y u he ry
  exact PySem.W.lt_data r1 r2 ha hn (by omega) ⟨.bl _, H, I, rfl, q⟩
theorem op_gtD (hu : X.A.units + 64 < cLine) : OpR X (compareOp .Gt) (rCmpD X.K fun d e => PySem.W.dataLt e d) := by
  intro pins s σ H x y v u Q I rx ry ⟨d, e, hd, he, ha, hn, hl, q⟩
  obtain ⟨as, r1⟩ := Dp.reads I d x v hd rx
  obtain ⟨bs, r2⟩ := Dp.reads I e y u he ry
  exact PySem.W.gt_data r1 r2 ha hn (by omega) ⟨.bl _, H, I, rfl, q⟩
theorem op_leD (hu : X.A.units + 64 < cLine) : OpR X (compareOp .LtE) (rCmpD X.K fun d e => !PySem.W.dataLt e d) := by
  intro pins s σ H x y v u Q I rx ry ⟨d, e, hd, he, ha, hn, hl, q⟩
  obtain ⟨as, r1⟩ := Dp.reads I d x v hd rx
  obtain ⟨bs, r2⟩ := Dp.reads I e y u he ry
  exact PySem.W.le_data r1 r2 ha hn (by omega) ⟨.bl _, H, I, rfl, q⟩
theorem op_geD (hu : X.A.units + 64 < cLine) : OpR X (compareOp .GtE) (rCmpD X.K fun d e => !PySem.W.dataLt d e) := by
  intro pins s σ H x y v u Q I rx ry ⟨d, e, hd, he, ha, hn, hl, q⟩
  obtain ⟨as, r1⟩ := Dp.reads I d x v hd rx
  obtain ⟨bs, r2⟩ := Dp.reads I e y u he ry
  exact PySem.W.ge_data r1 r2 ha hn (by omega) ⟨.bl _, H, I, rfl, q⟩
end
end OwB
namespace Lw
open PySem L2 OwB
abbrev sIni : Stmt := inClass (topS 1) 0
abbrev sAdd : Stmt := inClass (topS 1) 1
abbrev sIadd : Stmt := inClass (topS 1) 2
abbrev sEq : Stmt := inClass (topS 1) 3
abbrev sLt : Stmt := inClass (topS 1) 4
abbrev sLe : Stmt := inClass (topS 1) 5
abbrev sGt : Stmt := inClass (topS 1) 6
abbrev sGe : Stmt := inClass (topS 1) 7
/-! the class Counts -/
structure Ct (K : PySem.W.Frag) (mg : Str → Option Value) (C fI : Addr) : Prop where
  ic : C8.InsC K C
  nT : NoAttr K C "turns"
  nA : NoAttr K C "additions"
  mkC : Mk K C fI
  mC : mg "Counts" = some (.ref C)
  sf : PySem.W.selfFirst K C = true
theorem ta_ : ¬ (("turns" : Str) = "additions") := by decide +kernel
def cf (t a : Int) : List (Str × V) := putF "additions" (.int a) (putF "turns" (.int t) [])
theorem cf_t (t a : Int) : (cf t a).lookup ("turns" : Str) = some (.int t) := by
  unfold cf
  rw [lookup_putF, if_neg ta_, lookup_putF, if_pos rfl]
theorem cf_a (t a : Int) : (cf t a).lookup ("additions" : Str) = some (.int a) := by
  unfold cf
  rw [lookup_putF, if_pos rfl]
def CtAt (C p : Addr) (t a : Int) (H : Hp) : Prop := ∃ dx : Addr, H p = some (.ins C dx (cf t a))
theorem CtAt.same {C p : Addr} {t a : Int} {H H' : Hp} (g : Same H H') : CtAt C p t a H → CtAt C p t a H'
  | ⟨dx, h⟩ => ⟨dx, g _ _ h⟩
def Kp (p : Addr) (H H' : Hp) : Prop := ∀ b o, b ≠ p → H b = some o → H' b = some o
def spIni (C : Addr) : Sp := fun vs H Q _ => ∃ (p dx : Addr) (t a : Int), vs = [.ref p, .int t, .int a] ∧ H p = some (.ins C dx []) ∧ ∀ H' : Hp, Kp p H H' → H' p = some (.ins C dx (cf t a)) → Q .non H'
/-- a new one -/
theorem made {C : Addr} {H : Hp} {Q : VK} {t a : Int} (h : ∀ (p : Addr) (H' : Hp), Same H H' → CtAt C p t a H' → Q (.ref p) H') :
    ∀ x dx, H x = none → H dx = none → dx ≠ x → spIni C [.ref x, .int t, .int a] (upd (upd H dx (.own x)) x (.ins C dx [])) (fun v H2 => v = .non ∧ Q (.ref x) H2) E0 := by
  intro x dx hx hd hne
  refine ⟨x, dx, t, a, rfl, upd_same, fun H' k hp => ⟨rfl, h x H' (fun b o e => ?_) ⟨dx, hp⟩⟩⟩
  have n1 : b ≠ x := ne_of_none e hx
  have n2 : b ≠ dx := ne_of_none e hd
  exact k b o n1 (by rw [upd_ne n1, upd_ne n2]; exact e)
theorem made_same {H H' : Hp} {x dx : Addr} {o1 o2 : HO} (hx : H x = none) (hd : H dx = none) (k : Kp x (upd (upd H dx o1) x o2) H') : Same H H' := fun b o e => by
  have n1 : b ≠ x := ne_of_none e hx
  have n2 : b ≠ dx := ne_of_none e hd
  exact k b o n1 (by rw [upd_ne n1, upd_ne n2]; exact e)
section
variable {P : Program} {w : World} {K : PySem.W.Frag} {mg : Str → Option Value} {base : Heap} {f C fI : Addr} {fd dI : FuncData}
abbrev namesIn : List Str := ["self", "turns", "additions"]
theorem scI : FnScope namesIn namesIn (defScope sIni) := ⟨rfl, rfl, rfl, by decide +kernel, rfl, by decide +kernel, by decide +kernel⟩
abbrev DI (K : PySem.W.Frag) (f : Addr) (fd : FuncData) : Prop := FunD K "__init__" "Counts.__init__" (defArgs sIni) (defBody sIni) (defScope sIni) [.int 0, .int 0] [] f fd
theorem ok_ini (F : DI K fI dI) (T : Ct K mg C fI) : FnOk P w K mg base CX0 1 fI dI namesIn (spIni C) := by
  refine F.ok scI (fun vs H Q E h => ?_) (fun cdv A outer s H vs Q E hr h => ?_)
  · obtain ⟨p, dx, t, a, rfl, _⟩ := h
    rfl
  obtain ⟨p, dx, t, a, rfl, hp, q⟩ := h
  refine ⟨_, pss_cons (ps_fld (pv 0) (pv 1) rfl) (pss_one (ps_fld (pv 0) (pv 2) rfl)), ?_⟩
  refine ⟨_, rfl, _, rfl, p, C, dx, _, rfl, hp, T.ic.cl, T.nT, by decide, ?_⟩
  refine ⟨_, rfl, _, rfl, p, C, dx, _, rfl, upd_same, T.ic.cl, T.nA, (by show (putF "turns" (V.int t) []).length < 1000; exact (by decide : 1 < 1000)), ?_⟩
  exact q _ (fun b o n e => by rw [upd_ne n, upd_ne n]; exact e) upd_same
theorem bind3 (F : DI K fI dI) : ∃ ds, Vals [] ds ∧ Binds K dI namesIn ds :=
  F.binds1 3 2 (by decide) rfl fun T kV doc pm an cdv ct us its h1 h2 => match us, h1, its, h2 with | [_, _, _], _, [_, _], _ => ⟨_, rfl, rfl⟩
theorem bind2 (F : DI K fI dI) : ∃ ds, Vals [V.int 0] ds ∧ Binds K dI namesIn ds :=
  F.binds1 2 1 (by decide) rfl fun T kV doc pm an cdv ct us its h1 h2 => match us, h1, its, h2 with | [_, _], _, [_, _], _ => ⟨_, rfl, rfl⟩
theorem bind1 (F : DI K fI dI) : ∃ ds, Vals [V.int 0, V.int 0] ds ∧ Binds K dI namesIn ds :=
  F.binds1 1 0 (by decide) rfl fun T kV doc pm an cdv ct us its h1 h2 => match us, h1, its, h2 with | [_], _, [_, _], _ => ⟨_, rfl, rfl⟩
theorem kbA (F : DI K fI dI) : ∃ its : List Value, KBn K dI namesIn 1 ["additions"] (fun us ws => us ++ its.take 1 ++ ws) (fun vs zs => vs ++ [V.int 0, V.int 0].take 1 ++ zs) :=
  F.kbindsD 1 ["additions"] (fun vs ds zs => vs ++ ds.take 1 ++ zs) (by decide) (fun r1 r2 r3 => (r1.append (r2.take 1)).append r3) fun T kV doc pm an cdv ct us its ws h1 h2 h3 =>
    match us, h1, its, h2, ws, h3 with | [_], _, [_, _], _, [_], _ => ⟨_, rfl, rfl⟩
theorem kbTA (F : DI K fI dI) : ∃ its : List Value, KBn K dI namesIn 1 ["turns", "additions"] (fun us ws => us ++ ws) (fun vs zs => vs ++ zs) :=
  F.kbindsD 1 ["turns", "additions"] (fun vs _ zs => vs ++ zs) (by decide) (fun r1 _ r3 => r1.append r3) fun T kV doc pm an cdv ct us its ws h1 h2 h3 =>
    match us, h1, its, h2, ws, h3 with | [_], _, [_, _], _, [_, _], _ => ⟨_, rfl, rfl⟩
/-! two of them -/
def spTwo (C : Addr) (R : Int → Int → Int → Int → Hp → VK → Prop) : Sp := fun vs H Q _ => ∃ (p q : Addr) (t a u b : Int), vs = [.ref p, .ref q] ∧ CtAt C p t a H ∧ CtAt C q u b H ∧ R t a u b H Q
abbrev spSum (C : Addr) : Sp := spTwo C fun t a u b H Q => ∀ (r : Addr) (H' : Hp), Same H H' → CtAt C r (t + u) (a + b) H' → Q (.ref r) H'
abbrev spCmp (C : Addr) (g : PyData → PyData → Bool) : Sp := spTwo C fun t a u b H Q => ∀ H' : Hp, Same H H' → Q (.bl (g (.tuple [.int t, .int a]) (.tuple [.int u, .int b]))) H'
theorem spTwo.len {R : Int → Int → Int → Int → Hp → VK → Prop} : ∀ vs H Q E, spTwo C R vs H Q E → vs.length = (["self", "other"] : List Str).length := fun vs H Q E ⟨p, q, t, a, u, b, e, _⟩ => by rw [e] <;> rfl
theorem sc2 : FnScope ["self", "other"] ["self", "other"] (defScope sAdd) := ⟨rfl, rfl, rfl, by decide +kernel, rfl, by decide +kernel, by decide +kernel⟩
theorem ok_add (F : Fun K "__add__" "Counts.__add__" sAdd f fd) (FI : FnOk P w K mg base CX0 1 fI dI namesIn (spIni C)) (D : DI K fI dI) (T : Ct K mg C fI) (B : Bt mg) : FnOk P w K mg base CX0 3 f fd ["self", "other"] (spSum C) := by
  obtain ⟨ds, rd, bI⟩ := bind3 D
  refine F.ok sc2 spTwo.len (fun cdv A outer s H vs Q E hr h => ?_)
  obtain ⟨p, q, t, a, u, b, rfl, ⟨dx, hp⟩, ⟨dy, hq⟩, k⟩ := h
  refine ⟨_, pss_cons (ps_if (pt_not (pt_val (pe_callB (C8.call_isC T.ic) (by rfl) B.isi (by decide +kernel) (pa_cons (pv 1) (pa_cons (pe_glob (v := .ref C) (by rfl) T.mC rfl) pa_nil))))) (pss_one ps_never) pss_nil)
    (pss_one (ps_ret (pe_make T.mkC FI hr (by rfl) T.mC bI rd pass0 (pa_cons (pe_op op_add (pe_fld (pv 0) rfl) (pe_fld (pv 1) rfl)) (pa_cons (pe_op op_add (pe_fld (pv 0) rfl) (pe_fld (pv 1) rfl)) pa_nil))))), ?_⟩
  refine ⟨_, rfl, q, dy, _, rfl, hq, _, rfl, ?_⟩
  refine iteF ?_
  refine ⟨_, rfl, p, C, dx, _, _, rfl, hp, T.ic.cl, T.nT, cf_t _ _, _, rfl, q, C, dy, _, _, rfl, hq, T.ic.cl, T.nT, cf_t _ _, _, _, rfl, rfl, ?_⟩
  refine ⟨_, rfl, p, C, dx, _, _, rfl, hp, T.ic.cl, T.nA, cf_a _ _, _, rfl, q, C, dy, _, _, rfl, hq, T.ic.cl, T.nA, cf_a _ _, _, _, rfl, rfl, ?_⟩
  exact made k
theorem sc2i : FnScope ["self", "other"] ["self", "other"] (defScope sIadd) := ⟨rfl, rfl, rfl, by decide +kernel, rfl, by decide +kernel, by decide +kernel⟩
theorem ok_iadd (F : Fun K "__iadd__" "Counts.__iadd__" sIadd f fd) (FI : FnOk P w K mg base CX0 1 fI dI namesIn (spIni C)) (D : DI K fI dI) (T : Ct K mg C fI) (B : Bt mg) : FnOk P w K mg base CX0 3 f fd ["self", "other"] (spSum C) := by
  obtain ⟨ds, rd, bI⟩ := bind3 D
  refine F.ok sc2i spTwo.len (fun cdv A outer s H vs Q E hr h => ?_)
  obtain ⟨p, q, t, a, u, b, rfl, ⟨dx, hp⟩, ⟨dy, hq⟩, k⟩ := h
  refine ⟨_, pss_cons (ps_if (pt_not (pt_val (pe_callB (C8.call_isC T.ic) (by rfl) B.isi (by decide +kernel) (pa_cons (pv 1) (pa_cons (pe_glob (v := .ref C) (by rfl) T.mC rfl) pa_nil))))) (pss_one ps_never) pss_nil)
    (pss_one (ps_ret (pe_make T.mkC FI hr (by rfl) T.mC bI rd pass0 (pa_cons (pe_op op_add (pe_fld (pv 0) rfl) (pe_fld (pv 1) rfl)) (pa_cons (pe_op op_add (pe_fld (pv 0) rfl) (pe_fld (pv 1) rfl)) pa_nil))))), ?_⟩
  refine ⟨_, rfl, q, dy, _, rfl, hq, _, rfl, ?_⟩
  refine iteF ?_
  refine ⟨_, rfl, p, C, dx, _, _, rfl, hp, T.ic.cl, T.nT, cf_t _ _, _, rfl, q, C, dy, _, _, rfl, hq, T.ic.cl, T.nT, cf_t _ _, _, _, rfl, rfl, ?_⟩
  refine ⟨_, rfl, p, C, dx, _, _, rfl, hp, T.ic.cl, T.nA, cf_a _ _, _, rfl, q, C, dy, _, _, rfl, hq, T.ic.cl, T.nA, cf_a _ _, _, _, rfl, rfl, ?_⟩
  exact made k
/-- a tuple of two ints, as data -/
theorem dp2 {H : Hp} {p : Addr} {i j : Int} (h : H p = some (.tup [.int i, .int j])) : Dp K H (.ref p) (.tuple [.int i, .int j]) := .tup (SqT.of h) (.cons (.int i) (.cons (.int j) .nil))
theorem dep2 (i j : Int) (d : PyData) : min (PyData.depth (.tuple [.int i, .int j])) d.depth ≤ 32 := Nat.le_trans (Nat.min_le_left _ _) (by simp [PyData.depth, PyData.depthAll])
theorem al2 (i j k l : Int) : PySem.W.alike (.tuple [.int i, .int j]) (.tuple [.int k, .int l]) = true := rfl
theorem sc_eq : FnScope ["self", "other"] ["self", "other"] (defScope sEq) := ⟨rfl, rfl, rfl, by decide +kernel, rfl, by decide +kernel, by decide +kernel⟩
theorem ok_eq (F : Fun K "__eq__" "Counts.__eq__" sEq f fd) (T : Ct K mg C fI) (B : Bt mg) : FnOk P w K mg base CX0 1 f fd ["self", "other"] (spCmp C PyData.eqv) := by
  refine F.ok sc_eq spTwo.len (fun cdv A outer s H vs Q E hr h => ?_)
  obtain ⟨p, q, t, a, u, b, rfl, ⟨dx, hp⟩, ⟨dy, hq⟩, k⟩ := h
  refine ⟨_, pss_cons (ps_if (pt_not (pt_val (pe_callB (C8.call_isC T.ic) (by rfl) B.isi (by decide +kernel) (pa_cons (pv 1) (pa_cons (pe_glob (v := .ref C) (by rfl) T.mC rfl) pa_nil))))) (pss_one ps_never) pss_nil)
    (pss_one (ps_ret (pe_cmpR (op_eqD hr.units) (pe_tup (pa_cons (pe_fld (pv 0) rfl) (pa_cons (pe_fld (pv 0) rfl) pa_nil))) (pe_tup (pa_cons (pe_fld (pv 1) rfl) (pa_cons (pe_fld (pv 1) rfl) pa_nil))) (nomark _)))), ?_⟩
  refine ⟨_, rfl, q, dy, _, rfl, hq, _, rfl, ?_⟩
  refine iteF ?_
  refine ⟨_, rfl, p, C, dx, _, _, rfl, hp, T.ic.cl, T.nT, cf_t _ _, _, rfl, p, C, dx, _, _, rfl, hp, T.ic.cl, T.nA, cf_a _ _, (by show 2 ≤ sizeLine; decide), fun x hx => ?_⟩
  have g1 := same_new hx (.tup [.int t, .int a])
  have hq1 := g1 _ _ hq
  refine ⟨_, rfl, q, C, dy, _, _, rfl, hq1, T.ic.cl, T.nT, cf_t _ _, _, rfl, q, C, dy, _, _, rfl, hq1, T.ic.cl, T.nA, cf_a _ _, (by show 2 ≤ sizeLine; decide), fun y hy => ?_⟩
  have g2 := same_new hy (.tup [.int u, .int b])
  exact ⟨.tuple [.int t, .int a], .tuple [.int u, .int b], dp2 (g2 _ _ upd_same), dp2 upd_same, rfl, rfl, k _ (g1.trans g2)⟩
theorem sc_lt : FnScope ["self", "other"] ["self", "other"] (defScope sLt) := ⟨rfl, rfl, rfl, by decide +kernel, rfl, by decide +kernel, by decide +kernel⟩
theorem ok_lt (F : Fun K "__lt__" "Counts.__lt__" sLt f fd) (T : Ct K mg C fI) (B : Bt mg) : FnOk P w K mg base CX0 1 f fd ["self", "other"] (spCmp C (fun d e => PySem.W.dataLt d e)) := by
  refine F.ok sc_lt spTwo.len (fun cdv A outer s H vs Q E hr h => ?_)
  obtain ⟨p, q, t, a, u, b, rfl, ⟨dx, hp⟩, ⟨dy, hq⟩, k⟩ := h
  refine ⟨_, pss_cons (ps_if (pt_not (pt_val (pe_callB (C8.call_isC T.ic) (by rfl) B.isi (by decide +kernel) (pa_cons (pv 1) (pa_cons (pe_glob (v := .ref C) (by rfl) T.mC rfl) pa_nil))))) (pss_one ps_never) pss_nil)
    (pss_one (ps_ret (pe_cmpR (op_ltD hr.units) (pe_tup (pa_cons (pe_fld (pv 0) rfl) (pa_cons (pe_fld (pv 0) rfl) pa_nil))) (pe_tup (pa_cons (pe_fld (pv 1) rfl) (pa_cons (pe_fld (pv 1) rfl) pa_nil))) (nomark _)))), ?_⟩
  refine ⟨_, rfl, q, dy, _, rfl, hq, _, rfl, ?_⟩
  refine iteF ?_
  refine ⟨_, rfl, p, C, dx, _, _, rfl, hp, T.ic.cl, T.nT, cf_t _ _, _, rfl, p, C, dx, _, _, rfl, hp, T.ic.cl, T.nA, cf_a _ _, (by show 2 ≤ sizeLine; decide), fun x hx => ?_⟩
  have g1 := same_new hx (.tup [.int t, .int a])
  have hq1 := g1 _ _ hq
  refine ⟨_, rfl, q, C, dy, _, _, rfl, hq1, T.ic.cl, T.nT, cf_t _ _, _, rfl, q, C, dy, _, _, rfl, hq1, T.ic.cl, T.nA, cf_a _ _, (by show 2 ≤ sizeLine; decide), fun y hy => ?_⟩
  have g2 := same_new hy (.tup [.int u, .int b])
  exact ⟨.tuple [.int t, .int a], .tuple [.int u, .int b], dp2 (g2 _ _ upd_same), dp2 upd_same, al2 _ _ _ _, (fun z => by cases z), dep2 _ _ _, k _ (g1.trans g2)⟩
theorem sc_le : FnScope ["self", "other"] ["self", "other"] (defScope sLe) := ⟨rfl, rfl, rfl, by decide +kernel, rfl, by decide +kernel, by decide +kernel⟩
theorem ok_le (F : Fun K "__le__" "Counts.__le__" sLe f fd) (T : Ct K mg C fI) (B : Bt mg) : FnOk P w K mg base CX0 1 f fd ["self", "other"] (spCmp C (fun d e => !PySem.W.dataLt e d)) := by
  refine F.ok sc_le spTwo.len (fun cdv A outer s H vs Q E hr h => ?_)
  obtain ⟨p, q, t, a, u, b, rfl, ⟨dx, hp⟩, ⟨dy, hq⟩, k⟩ := h
  refine ⟨_, pss_cons (ps_if (pt_not (pt_val (pe_callB (C8.call_isC T.ic) (by rfl) B.isi (by decide +kernel) (pa_cons (pv 1) (pa_cons (pe_glob (v := .ref C) (by rfl) T.mC rfl) pa_nil))))) (pss_one ps_never) pss_nil)
    (pss_one (ps_ret (pe_cmpR (op_leD hr.units) (pe_tup (pa_cons (pe_fld (pv 0) rfl) (pa_cons (pe_fld (pv 0) rfl) pa_nil))) (pe_tup (pa_cons (pe_fld (pv 1) rfl) (pa_cons (pe_fld (pv 1) rfl) pa_nil))) (nomark _)))), ?_⟩
  refine ⟨_, rfl, q, dy, _, rfl, hq, _, rfl, ?_⟩
  refine iteF ?_
  refine ⟨_, rfl, p, C, dx, _, _, rfl, hp, T.ic.cl, T.nT, cf_t _ _, _, rfl, p, C, dx, _, _, rfl, hp, T.ic.cl, T.nA, cf_a _ _, (by show 2 ≤ sizeLine; decide), fun x hx => ?_⟩
  have g1 := same_new hx (.tup [.int t, .int a])
  have hq1 := g1 _ _ hq
  refine ⟨_, rfl, q, C, dy, _, _, rfl, hq1, T.ic.cl, T.nT, cf_t _ _, _, rfl, q, C, dy, _, _, rfl, hq1, T.ic.cl, T.nA, cf_a _ _, (by show 2 ≤ sizeLine; decide), fun y hy => ?_⟩
  have g2 := same_new hy (.tup [.int u, .int b])
  exact ⟨.tuple [.int t, .int a], .tuple [.int u, .int b], dp2 (g2 _ _ upd_same), dp2 upd_same, al2 _ _ _ _, (fun z => by cases z), dep2 _ _ _, k _ (g1.trans g2)⟩
theorem sc_gt : FnScope ["self", "other"] ["self", "other"] (defScope sGt) := ⟨rfl, rfl, rfl, by decide +kernel, rfl, by decide +kernel, by decide +kernel⟩
theorem ok_gt (F : Fun K "__gt__" "Counts.__gt__" sGt f fd) (T : Ct K mg C fI) (B : Bt mg) : FnOk P w K mg base CX0 1 f fd ["self", "other"] (spCmp C (fun d e => PySem.W.dataLt e d)) := by
  refine F.ok sc_gt spTwo.len (fun cdv A outer s H vs Q E hr h => ?_)
  obtain ⟨p, q, t, a, u, b, rfl, ⟨dx, hp⟩, ⟨dy, hq⟩, k⟩ := h
  refine ⟨_, pss_cons (ps_if (pt_not (pt_val (pe_callB (C8.call_isC T.ic) (by rfl) B.isi (by decide +kernel) (pa_cons (pv 1) (pa_cons (pe_glob (v := .ref C) (by rfl) T.mC rfl) pa_nil))))) (pss_one ps_never) pss_nil)
    (pss_one (ps_ret (pe_cmpR (op_gtD hr.units) (pe_tup (pa_cons (pe_fld (pv 0) rfl) (pa_cons (pe_fld (pv 0) rfl) pa_nil))) (pe_tup (pa_cons (pe_fld (pv 1) rfl) (pa_cons (pe_fld (pv 1) rfl) pa_nil))) (nomark _)))), ?_⟩
  refine ⟨_, rfl, q, dy, _, rfl, hq, _, rfl, ?_⟩
  refine iteF ?_
  refine ⟨_, rfl, p, C, dx, _, _, rfl, hp, T.ic.cl, T.nT, cf_t _ _, _, rfl, p, C, dx, _, _, rfl, hp, T.ic.cl, T.nA, cf_a _ _, (by show 2 ≤ sizeLine; decide), fun x hx => ?_⟩
  have g1 := same_new hx (.tup [.int t, .int a])
  have hq1 := g1 _ _ hq
  refine ⟨_, rfl, q, C, dy, _, _, rfl, hq1, T.ic.cl, T.nT, cf_t _ _, _, rfl, q, C, dy, _, _, rfl, hq1, T.ic.cl, T.nA, cf_a _ _, (by show 2 ≤ sizeLine; decide), fun y hy => ?_⟩
  have g2 := same_new hy (.tup [.int u, .int b])
  exact ⟨.tuple [.int t, .int a], .tuple [.int u, .int b], dp2 (g2 _ _ upd_same), dp2 upd_same, al2 _ _ _ _, (fun z => by cases z), dep2 _ _ _, k _ (g1.trans g2)⟩
theorem sc_ge : FnScope ["self", "other"] ["self", "other"] (defScope sGe) := ⟨rfl, rfl, rfl, by decide +kernel, rfl, by decide +kernel, by decide +kernel⟩
theorem ok_ge (F : Fun K "__ge__" "Counts.__ge__" sGe f fd) (T : Ct K mg C fI) (B : Bt mg) : FnOk P w K mg base CX0 1 f fd ["self", "other"] (spCmp C (fun d e => !PySem.W.dataLt d e)) := by
  refine F.ok sc_ge spTwo.len (fun cdv A outer s H vs Q E hr h => ?_)
  obtain ⟨p, q, t, a, u, b, rfl, ⟨dx, hp⟩, ⟨dy, hq⟩, k⟩ := h
  refine ⟨_, pss_cons (ps_if (pt_not (pt_val (pe_callB (C8.call_isC T.ic) (by rfl) B.isi (by decide +kernel) (pa_cons (pv 1) (pa_cons (pe_glob (v := .ref C) (by rfl) T.mC rfl) pa_nil))))) (pss_one ps_never) pss_nil)
    (pss_one (ps_ret (pe_cmpR (op_geD hr.units) (pe_tup (pa_cons (pe_fld (pv 0) rfl) (pa_cons (pe_fld (pv 0) rfl) pa_nil))) (pe_tup (pa_cons (pe_fld (pv 1) rfl) (pa_cons (pe_fld (pv 1) rfl) pa_nil))) (nomark _)))), ?_⟩
  refine ⟨_, rfl, q, dy, _, rfl, hq, _, rfl, ?_⟩
  refine iteF ?_
  refine ⟨_, rfl, p, C, dx, _, _, rfl, hp, T.ic.cl, T.nT, cf_t _ _, _, rfl, p, C, dx, _, _, rfl, hp, T.ic.cl, T.nA, cf_a _ _, (by show 2 ≤ sizeLine; decide), fun x hx => ?_⟩
  have g1 := same_new hx (.tup [.int t, .int a])
  have hq1 := g1 _ _ hq
  refine ⟨_, rfl, q, C, dy, _, _, rfl, hq1, T.ic.cl, T.nT, cf_t _ _, _, rfl, q, C, dy, _, _, rfl, hq1, T.ic.cl, T.nA, cf_a _ _, (by show 2 ≤ sizeLine; decide), fun y hy => ?_⟩
  have g2 := same_new hy (.tup [.int u, .int b])
  exact ⟨.tuple [.int t, .int a], .tuple [.int u, .int b], dp2 (g2 _ _ upd_same), dp2 upd_same, al2 _ _ _ _, (fun z => by cases z), dep2 _ _ _, k _ (g1.trans g2)⟩
end
end Lw
namespace Lw
open PySem L2 OwB
abbrev sPart : Stmt := topS 6
/-! pairs of ints, in a list or a tuple -/
def Prs (K : PySem.W.Frag) (H : Hp) (vs : List V) (ls : List (Int × Int)) : Prop := vs.length = ls.length ∧ ∀ (j : Nat) (v : V) (p : Int × Int), vs[j]? = some v → ls[j]? = some p → ∃ a, v = .ref a ∧ SqT K H a [.int p.1, .int p.2]
theorem Prs.same {K : PySem.W.Frag} {H H' : Hp} {vs : List V} {ls : List (Int × Int)} (g : Same H H') (h : Prs K H vs ls) : Prs K H' vs ls :=
  ⟨h.1, fun j v p e1 e2 => let ⟨a, ea, h2⟩ := h.2 j v p e1 e2; ⟨a, ea, seqT g h2⟩⟩
theorem Prs.nil {K : PySem.W.Frag} {H : Hp} : Prs K H [] [] := ⟨rfl, fun j v p e => by cases e⟩
theorem Prs.cons {K : PySem.W.Frag} {H : Hp} {a : Addr} {x y : Int} {vs : List V} {ls : List (Int × Int)} (h : SqT K H a [.int x, .int y]) (t : Prs K H vs ls) : Prs K H (.ref a :: vs) ((x, y) :: ls) :=
  ⟨congrArg Nat.succ t.1, fun j v p e1 e2 => by
    cases j with
    | zero => cases e1; cases e2; exact ⟨a, rfl, h⟩
    | succ j => exact t.2 j v p e1 e2⟩
theorem Prs.sm {K : PySem.W.Frag} {H : Hp} {vs us : List V} {ls : List (Int × Int)} {n : Nat} (h1 : Prs K H vs ls) (h2 : Prs K H us ls) : SmAll K H (n + 2) vs us :=
  ⟨h1.1.trans h2.1.symm, fun i x y e1 e2 => by
    have hi : i < ls.length := by rw [← h1.1]; exact (List.getElem?_eq_some_iff.mp e1).1
    obtain ⟨a, rfl, ha⟩ := h1.2 i x _ e1 (List.getElem?_eq_getElem hi)
    obtain ⟨b, rfl, hb⟩ := h2.2 i y _ e2 (List.getElem?_eq_getElem hi)
    exact .tup ha hb (by show 2 ≤ 1000; decide) (.cons (.int _) (.cons (.int _) .nil))⟩
/-- what the comprehension has made so far -/
def InvPr (K : PySem.W.Frag) (H0 : Hp) (D : Addr) (ls : List (Int × Int)) (i : Nat) (H : Hp) : Prop := ∃ acc : List V, H D = some (.lst acc) ∧ Prs K H acc (ls.take i) ∧ Same H0 H
theorem InvPr.next {K : PySem.W.Frag} {H0 H : Hp} {D x : Addr} {ls : List (Int × Int)} {i : Nat} {t a : Int} (hd : H0 D = none) (hl : ls.length ≤ 1000) (e : ls[i]? = some (t, a)) (hx : H x = none) (h : InvPr K H0 D ls i H) :
    ∃ acc, upd H x (.tup [.int t, .int a]) D = some (.lst acc) ∧ acc.length < sizeLine ∧ InvPr K H0 D ls (i + 1) (upd (upd H x (.tup [.int t, .int a])) D (.lst (acc ++ [.ref x]))) := by
  obtain ⟨acc, h1, h2, h3⟩ := h
  have g := same_new hx (.tup [.int t, .int a])
  have hi : i < ls.length := (List.getElem?_eq_some_iff.mp e).1
  have hle : acc.length = i := by rw [h2.1, List.length_take]; omega
  have keep : ∀ {b : Addr} {ys : List V}, SqT K (upd H x (.tup [.int t, .int a])) b ys → SqT K (upd (upd H x (.tup [.int t, .int a])) D (.lst (acc ++ [.ref x]))) b ys := fun {b ys} q => TK.lst (K := K) (g _ _ h1) b ys q
  refine ⟨acc, g _ _ h1, small1000 (by omega), acc ++ [.ref x], upd_same, ⟨?_, fun j v p e1 e2 => ?_⟩, same_over (h3.trans g) hd _⟩
  · rw [List.length_append, h2.1, List.length_take, List.length_take]
    show min i ls.length + 1 = _
    omega
  · rw [List.take_succ, e] at e2
    by_cases hj : j < acc.length
    · rw [List.getElem?_append_left hj] at e1
      rw [List.getElem?_append_left (by rw [← h2.1]; exact hj)] at e2
      obtain ⟨b, rfl, hb⟩ := h2.2 j v p e1 e2
      exact ⟨b, rfl, keep (seqT g hb)⟩
    · have hj2 : j = acc.length := by
        have q1 := (List.getElem?_eq_some_iff.mp e1).1
        rw [List.length_append, List.length_singleton] at q1
        omega
      subst hj2
      rw [List.getElem?_append_right (Nat.le_refl _), Nat.sub_self] at e1
      rw [List.getElem?_append_right (by rw [← h2.1]; exact Nat.le_refl _), ← h2.1, Nat.sub_self] at e2
      cases e1
      cases e2
      exact ⟨x, rfl, keep (SqT.of upd_same)⟩
theorem InvPr.start {K : PySem.W.Frag} {H : Hp} {D : Addr} {ls : List (Int × Int)} (hd : H D = none) : InvPr K H D ls 0 (upd H D (.lst [])) := ⟨[], upd_same, .nil, same_new hd _⟩
section
variable {P : Program} {w : World} {K : PySem.W.Frag} {mg : Str → Option Value} {base : Heap} {f : Addr} {fd : FuncData}
def spPart : Sp := fun vs H Q _ => ∃ (st q : Addr) (b : Int), vs = [.ref st] ∧ Spr H st q b ∧ 0 ≤ b ∧ b ≤ 900 ∧ ∀ (i : Int) (H' : Hp), Spr H' st q (b + 4) → SX st q H H' → Q (.int i) H'
theorem scPa : FnScope ["_law_stream"] ["_law_stream"] (defScope sPart) := ⟨rfl, rfl, rfl, by decide +kernel, rfl, by decide +kernel, by decide +kernel⟩
theorem ok_part (F : Fun K "_law_part" "_law_part" sPart f fd) {g : Addr} {gd : FuncData} (G : FnOk P w K mg base CX0 1 g gd ["_law_stream", "_law_many"] spDraw) (bG : Binds K gd ["_law_stream", "_law_many"] []) (kG : PySem.W.keepIn K (.ref g) = true) (mG : mg "_law_draw" = some (.ref g)) :
    FnOk P w K mg base CX0 2 f fd ["_law_stream"] spPart := by
  refine F.ok scPa (fun vs H Q E h => ?_) (fun cdv A outer s H vs Q E hr h => ?_)
  · obtain ⟨st, q, b, rfl, _⟩ := h
    rfl
  obtain ⟨st, q, b, rfl, hs, hb0, hb1, k⟩ := h
  refine ⟨_, pss_one (ps_ret (pe_ix ix_list (pe_lst (pa_cons (pe_call G hr rfl mG kG bG .nil pass0 (pa_cons (pv 0) (pa_cons pe_int pa_nil))) (pa_cons (pe_call G hr rfl mG kG bG .nil pass0 (pa_cons (pv 0) (pa_cons pe_int pa_nil)))
    (pa_cons (pe_op op_add (pe_op op_pow pe_int pe_int) (pe_call G hr rfl mG kG bG .nil pass0 (pa_cons (pv 0) (pa_cons pe_int pa_nil)))) (pa_cons pe_int pa_nil))))) (pe_call G hr rfl mG kG bG .nil pass0 (pa_cons (pv 0) (pa_cons pe_int pa_nil))) (fun _ _ => rfl))), ?_⟩
  refine ⟨_, rfl, st, q, b, 4, rfl, hs, hb0, by omega, by decide, by decide, fun r1 H1 _ _ hs1 x1 => ?_⟩
  refine ⟨_, rfl, st, q, _, 1000, rfl, hs1, by omega, by omega, by decide, by decide, fun r2 H2 _ _ hs2 x2 => ?_⟩
  refine ⟨_, _, rfl, rfl, ⟨by decide, by decide, by decide⟩, ?_⟩
  refine ⟨_, rfl, st, q, _, 3, rfl, hs2, by omega, by omega, by decide, by decide, fun r3 H3 _ _ hs3 x3 => ?_⟩
  refine ⟨_, _, rfl, rfl, ?_⟩
  refine ⟨(by show 4 ≤ sizeLine; decide), fun l hl => ?_⟩
  have g4 := same_new hl (.lst [.int r1, .int r2, .int (10 ^ (19 : Int).toNat + r3), .int 0])
  have hs4 := hs3.same g4
  have n1 : l ≠ st := by
    obtain ⟨_, _, _, z1, z2, _⟩ := hs3
    exact (ne_of_none z1 hl).symm
  have n2 : l ≠ q := by
    obtain ⟨_, _, _, z1, z2, _⟩ := hs3
    exact (ne_of_none z2 hl).symm
  refine ⟨_, rfl, st, q, _, 4, rfl, hs4, by omega, by omega, by decide, by decide, fun r5 H5 r50 r51 hs5 x5 => ?_⟩
  obtain ⟨v, hv, ev⟩ := at_int (xs := [.int r1, .int r2, .int (10 ^ (19 : Int).toNat + r3), .int 0]) r50 r51
  have hi : ∃ i : Int, v = .int i := by
    refine all_cons (p := fun v => ∃ i : Int, v = .int i) ⟨_, rfl⟩ (all_cons ⟨_, rfl⟩ (all_cons ⟨_, rfl⟩ (all_cons ⟨_, rfl⟩ all_nil))) v hv
  obtain ⟨i, rfl⟩ := hi
  refine ⟨l, _, r5, .int i, rfl, rfl, SqL.of (x5 _ _ n1 n2 upd_same), ev, k i H5 ?_ (((x1.trans x2).trans x3).trans ((SX.of g4).trans x5))⟩
  rw [show b + 4 = b + 1 + 1 + 1 + 1 by omega]
  exact hs5
end
end Lw
namespace Lw
open PySem L2 OwB
abbrev sLaw : Stmt := topS 7
abbrev namesL : List Str := ["_law_script", "_law_stream", "_law_bare", "_law_one", "_law_turn", "_law_first", "_law_other", "_law_two", "_law_both", "_law_grown", "_law_due", "_law_asked", "_law_wished", "_law_some"]
theorem scL : FnScope namesL ["_law_script"] (defScope sLaw) := ⟨rfl, rfl, rfl, by decide +kernel, rfl, by decide +kernel, by decide +kernel⟩
def spLaw (K : PySem.W.Frag) : Sp := fun vs H Q _ => ∃ (a : Addr) (ns : List Int), vs = [.ref a] ∧ SqL K H a (ns.map V.int) ∧ ns.length ≤ 63 ∧ ∀ H', Q (.bl true) H'
/-- where the class Counts is made, added, compared -/
structure CtG (P : Program) (w : World) (K : PySem.W.Frag) (mg : Str → Option Value) (base : Heap) (C fI : Addr) (dI : FuncData) (f1 f2 f3 f4 f5 f6 f7 : Addr) (d1 d2 d3 d4 d5 d6 d7 : FuncData) : Prop where
  T : Ct K mg C fI
  D : DI K fI dI
  FI : FnOk P w K mg base CX0 1 fI dI namesIn (spIni C)
  G1 : FnOk P w K mg base CX0 3 f1 d1 ["self", "other"] (spSum C)
  G2 : FnOk P w K mg base CX0 3 f2 d2 ["self", "other"] (spSum C)
  G3 : FnOk P w K mg base CX0 1 f3 d3 ["self", "other"] (spCmp C PyData.eqv)
  G4 : FnOk P w K mg base CX0 1 f4 d4 ["self", "other"] (spCmp C fun d e => PySem.W.dataLt d e)
  G5 : FnOk P w K mg base CX0 1 f5 d5 ["self", "other"] (spCmp C fun d e => !PySem.W.dataLt e d)
  G6 : FnOk P w K mg base CX0 1 f6 d6 ["self", "other"] (spCmp C fun d e => PySem.W.dataLt e d)
  G7 : FnOk P w K mg base CX0 1 f7 d7 ["self", "other"] (spCmp C fun d e => !PySem.W.dataLt d e)
  b1 : Binds K d1 ["self", "other"] []
  b2 : Binds K d2 ["self", "other"] []
  b3 : Binds K d3 ["self", "other"] []
  b4 : Binds K d4 ["self", "other"] []
  b5 : Binds K d5 ["self", "other"] []
  b6 : Binds K d6 ["self", "other"] []
  b7 : Binds K d7 ["self", "other"] []
  O1 : OpD K C f1 "__add__"
  O2 : OpD K C f2 "__iadd__"
  O3 : OpD K C f3 "__eq__"
  O4 : OpD K C f4 "__lt__"
  O5 : OpD K C f5 "__le__"
  O6 : OpD K C f6 "__gt__"
  O7 : OpD K C f7 "__ge__"
section
variable {P : Program} {w : World} {K : PySem.W.Frag} {mg : Str → Option Value} {base : Heap} {C fI fL fB fS fA f1 f2 f3 f4 f5 f6 f7 : Addr} {dI dL dB dS dA d1 d2 d3 d4 d5 d6 d7 : FuncData}
theorem rd_pair {σ : St} {j i : Nat} {p D : Addr} {t a : Int} {H0 H' : Hp} {ls : List (Int × Int)} (T : Ct K mg C fI) (hσ : σ[j]? = some (some (.ref p))) (hc : CtAt C p t a H') (hD : H0 D = none) (hl : ls.length ≤ 1000) (e : ls[i]? = some (t, a)) (hv : InvPr K H0 D ls i H') :
    tTup (tCons (tFld K (tVar j) "turns") (tCons (tFld K (tVar j) "additions") tNil)) σ H' (fun y H4 => ∃ acc, H4 D = some (.lst acc) ∧ acc.length < sizeLine ∧ InvPr K H0 D ls (i + 1) (upd H4 D (.lst (acc ++ [y])))) := by
  obtain ⟨dx, hp⟩ := hc
  refine ⟨_, hσ, p, C, dx, _, _, rfl, hp, T.ic.cl, T.nT, cf_t _ _, _, hσ, p, C, dx, _, _, rfl, hp, T.ic.cl, T.nA, cf_a _ _, (by show 2 ≤ sizeLine; decide), fun z hz => ?_⟩
  exact hv.next hD hl e hz
abbrev dt (x y : Int) : PyData := .tuple [.int x, .int y]
theorem dpT {H : Hp} {p : Addr} {i j : Int} (h : SqT K H p [.int i, .int j]) : Dp K H (.ref p) (dt i j) := .tup h (.cons (.int i) (.cons (.int j) .nil))
theorem rd_cmp {σ : St} {i j : Nat} {p q : Addr} {t a u b : Int} {H : Hp} {Q : VK} {g : PyData → PyData → Bool} (h1 : σ[i]? = some (some (.ref p))) (h2 : σ[j]? = some (some (.ref q))) (o1 : CtAt C p t a H) (o2 : CtAt C q u b H)
    (k : ∀ H' : Hp, Same H H' → Q (.bl (g (dt t a) (dt u b))) H') : tOp (rOwnI C (spCmp C g) E0) (tVar i) (tVar j) σ H Q := by
  obtain ⟨dx, hp⟩ := id o1
  obtain ⟨dy, hq⟩ := id o2
  exact ⟨_, h1, _, h2, p, q, dx, dy, _, _, rfl, rfl, hp, hq, p, q, t, a, u, b, rfl, o1, o2, k⟩
/-- slots of the law -/
abbrev SL (a st : Addr) (σ' : St) : Prop := ∃ u2 u3 u4 u5 u6 u7 u8 u9 u10 u11 u12 u13 : Option V, σ' = [some (.ref a), some (.ref st), u2, u3, u4, u5, u6, u7, u8, u9, u10, u11, u12, u13]
theorem ok_law (FL : Fun K "law" "law" sLaw fL dL) (B : Bt mg) (T : CtG P w K mg base C fI dI f1 f2 f3 f4 f5 f6 f7 d1 d2 d3 d4 d5 d6 d7)
    (GB : FnOk P w K mg base CX0 1 fB dB ["_law_script"] (spStart K)) (bB : Binds K dB ["_law_script"] []) (kB : PySem.W.keepIn K (.ref fB) = true) (mB : mg "_law_start" = some (.ref fB))
    (GS : FnOk P w K mg base CX0 5 fS dS ["_law_found", "_law_due"] (spSame K 5)) (bS : Binds K dS ["_law_found", "_law_due"] []) (kS : PySem.W.keepIn K (.ref fS) = true) (mS : mg "_law_same" = some (.ref fS))
    (GA : FnOk P w K mg base CX0 2 fA dA ["_law_stream"] spPart) (bA : Binds K dA ["_law_stream"] []) (kA : PySem.W.keepIn K (.ref fA) = true) (mA : mg "_law_part" = some (.ref fA)) :
    FnOk P w K mg base CX0 6 fL dL ["_law_script"] (spLaw K) := by
  obtain ⟨e3, r3, i3⟩ := bind3 T.D
  obtain ⟨e2, r2, i2⟩ := bind2 T.D
  obtain ⟨e1, r1, i1⟩ := bind1 T.D
  obtain ⟨kA1, ka⟩ := kbA T.D
  obtain ⟨kA2, kta⟩ := kbTA T.D
  refine FL.ok scL (fun vs H Q E h => ?_) (fun cdv A outer s H vs Q E hr h => ?_)
  · obtain ⟨a, ns, rfl, _⟩ := h
    rfl
  obtain ⟨a, ns, rfl, hS, hn, k⟩ := h
  have hr1 := hr.mono (show 1 ≤ 5 by decide)
  have hr2 := hr.mono (show 2 ≤ 5 by decide)
  have hr3 := hr.mono (show 3 ≤ 5 by decide)
  refine ⟨_, pss_cons (ps_set (i := 1) scL.nd rfl (Or.inl rfl) (pe_call GB hr1 rfl mB kB bB .nil pass0 (pa_cons (pv 0) pa_nil)))
    (pss_cons (ps_set (i := 2) scL.nd rfl (Or.inl rfl) (pe_lst (pa_cons (pe_make0 T.T.mkC T.FI hr2 (by rfl) T.T.mC i1 r1 pass0) (pa_cons (pe_make T.T.mkC T.FI hr2 (by rfl) T.T.mC i2 r2 pass0 (pa_cons pe_int pa_nil))
      (pa_cons (pe_makeK0 T.T.mkC T.FI hr2 (by rfl) T.T.mC ka pass0 (pk_cons pe_int pk_nil)) (pa_cons (pe_makeK0 T.T.mkC T.FI hr2 (by rfl) T.T.mC kta pass0 (pk_cons pe_int (pk_cons pe_int pk_nil))) pa_nil))))))
    (C8.pss_cut (ps_if (pt_not (pt_val (pe_call GS hr rfl mS kS bS .nil pass0 (pa_cons (pe_lc (own := [("_law_one", 3)]) (g := gName 3) (tt := tYes) (te := tTup (tCons (tFld K (tVar 3) "turns") (tCons (tFld K (tVar 3) "additions") tNil))) rfl scL.nd (pi_list (pv 2)) (blkOk_by (N := namesL) (sc := defScope sLaw) (by decide +kernel)) (fun _ _ _ _ _ => pg_name (i := 3) scL.nd rfl (Or.inl rfl)) (fun _ _ _ _ _ => pts_nil)
        (fun _ _ _ _ _ => pe_tup (pa_cons (pe_fld (pv 3) rfl) (pa_cons (pe_fld (pv 3) rfl) pa_nil))))
        (pa_cons (pe_lst (pa_cons (pe_tup (pa_cons pe_int (pa_cons pe_int pa_nil))) (pa_cons (pe_tup (pa_cons pe_int (pa_cons pe_int pa_nil))) (pa_cons (pe_tup (pa_cons pe_int (pa_cons pe_int pa_nil))) (pa_cons (pe_tup (pa_cons pe_int (pa_cons pe_int pa_nil))) pa_nil))))) pa_nil))))) (pss_one (ps_ret pe_bl)) pss_nil)
    (pss_cons (ps_for PassesOwn.never rfl (pi_range1 (by rfl) B.range (pa_cons pe_int pa_nil)) (pg_name (i := 4) scL.nd rfl (Or.inl rfl))
      (pss_cons (ps_set (i := 5) scL.nd rfl (Or.inl rfl) (pe_tup (pa_cons (pe_call GA hr2 rfl mA kA bA .nil pass0 (pa_cons (pv 1) pa_nil)) (pa_cons (pe_call GA hr2 rfl mA kA bA .nil pass0 (pa_cons (pv 1) pa_nil)) pa_nil))))
      (C8.pss_cut (ps_set (i := 6) scL.nd rfl (Or.inl rfl) (pe_ix ix_list (pe_lst (pa_cons (pv 5) (pa_cons (pe_tup (pa_cons (pe_ix ix_tup (pv 5) pe_int (fun _ _ => rfl)) (pa_cons (pe_call GA hr2 rfl mA kA bA .nil pass0 (pa_cons (pv 1) pa_nil)) pa_nil)))
        (pa_cons (pe_tup (pa_cons (pe_call GA hr2 rfl mA kA bA .nil pass0 (pa_cons (pv 1) pa_nil)) (pa_cons (pe_ix ix_tup (pv 5) pe_int (fun _ _ => rfl)) pa_nil))) (pa_cons (pe_tup (pa_cons (pe_call GA hr2 rfl mA kA bA .nil pass0 (pa_cons (pv 1) pa_nil)) (pa_cons pe_int pa_nil))) pa_nil))))) (pv 4) (fun _ _ => rfl)))
      (pss_cons (ps_par (i := 3) (j := 7) rfl scL.nd rfl rfl (by decide) rfl rfl (pa_cons (pe_make T.T.mkC T.FI hr2 (by rfl) T.T.mC i3 r3 pass0 (pa_cons (pe_ix ix_tup (pv 5) pe_int (fun _ _ => rfl)) (pa_cons (pe_ix ix_tup (pv 5) pe_int (fun _ _ => rfl)) pa_nil)))
        (pa_cons (pe_make T.T.mkC T.FI hr2 (by rfl) T.T.mC i3 r3 pass0 (pa_cons (pe_ix ix_tup (pv 6) pe_int (fun _ _ => rfl)) (pa_cons (pe_ix ix_tup (pv 6) pe_int (fun _ _ => rfl)) pa_nil))) pa_nil)) rfl)
      (pss_cons (ps_set (i := 8) scL.nd rfl (Or.inl rfl) (pe_op (op_ownB T.T.sf T.O1 T.G1 hr3 T.b1 pass0) (pv 3) (pv 7)))
      (pss_cons (ps_set (i := 9) scL.nd rfl (Or.inl rfl) (pv 3))
      (pss_cons (ps_aug (i := 9) (op := .Add) scL.nd rfl (Or.inl rfl) (pv 7) (op_ownA T.T.sf T.O2 T.G2 hr3 T.b2 pass0))
      (pss_cons (ps_set (i := 10) scL.nd rfl (Or.inl rfl) (pe_tup (pa_cons (pe_op op_add (pe_ix ix_tup (pv 5) pe_int (fun _ _ => rfl)) (pe_ix ix_tup (pv 6) pe_int (fun _ _ => rfl))) (pa_cons (pe_op op_add (pe_ix ix_tup (pv 5) pe_int (fun _ _ => rfl)) (pe_ix ix_tup (pv 6) pe_int (fun _ _ => rfl))) pa_nil))))
      (C8.pss_cut (ps_if (pt_not (pt_val (pe_call GS hr rfl mS kS bS .nil pass0 (pa_cons (pe_lc (own := [("_law_some", 13)]) (g := gName 13) (tt := tYes) (te := tTup (tCons (tFld K (tVar 13) "turns") (tCons (tFld K (tVar 13) "additions") tNil))) rfl scL.nd (pi_tup (pe_tup (pa_cons (pv 3) (pa_cons (pv 7) (pa_cons (pv 8) (pa_cons (pv 9) pa_nil)))))) (blkOk_by (N := namesL) (sc := defScope sLaw) (by decide +kernel)) (fun _ _ _ _ _ => pg_name (i := 13) scL.nd rfl (Or.inl rfl)) (fun _ _ _ _ _ => pts_nil)
          (fun _ _ _ _ _ => pe_tup (pa_cons (pe_fld (pv 13) rfl) (pa_cons (pe_fld (pv 13) rfl) pa_nil))))
          (pa_cons (pe_lst (pa_cons (pv 5) (pa_cons (pv 6) (pa_cons (pv 10) (pa_cons (pv 10) pa_nil))))) pa_nil))))) (pss_one (ps_ret pe_bl)) pss_nil)
      (pss_cons (ps_set (i := 11) scL.nd rfl (Or.inl rfl) (pe_lst (pa_cons (pe_cmpR (op_ownC (fun _ _ => rfl) T.O3 T.G3 hr1 T.b3 pass0) (pv 3) (pv 7) (nomark _)) (pa_cons (pe_cmpR (op_ownC (fun _ _ => rfl) T.O4 T.G4 hr1 T.b4 pass0) (pv 3) (pv 7) (nomark _))
        (pa_cons (pe_cmpR (op_ownC (fun _ _ => rfl) T.O5 T.G5 hr1 T.b5 pass0) (pv 3) (pv 7) (nomark _)) (pa_cons (pe_cmpR (op_ownC (fun _ _ => rfl) T.O6 T.G6 hr1 T.b6 pass0) (pv 3) (pv 7) (nomark _)) (pa_cons (pe_cmpR (op_ownC (fun _ _ => rfl) T.O7 T.G7 hr1 T.b7 pass0) (pv 3) (pv 7) (nomark _))
        (pa_cons (pe_cmpR (op_ownC (fun _ _ => rfl) T.O4 T.G4 hr1 T.b4 pass0) (pv 7) (pv 3) (nomark _)) (pa_cons (pe_cmpR (op_ownC (fun _ _ => rfl) T.O3 T.G3 hr1 T.b3 pass0) (pv 7) (pv 3) (nomark _)) pa_nil)))))))))
      (pss_cons (ps_set (i := 12) scL.nd rfl (Or.inl rfl) (pe_lst (pa_cons (pe_cmpR (op_eqD hr.units) (pv 5) (pv 6) (nomark _)) (pa_cons (pe_cmpR (op_ltD hr.units) (pv 5) (pv 6) (nomark _)) (pa_cons (pe_cmpR (op_leD hr.units) (pv 5) (pv 6) (nomark _))
        (pa_cons (pe_cmpR (op_gtD hr.units) (pv 5) (pv 6) (nomark _)) (pa_cons (pe_cmpR (op_geD hr.units) (pv 5) (pv 6) (nomark _)) (pa_cons (pe_cmpR (op_ltD hr.units) (pv 6) (pv 5) (nomark _)) pa_nil))))))))
      (pss_one (ps_if (pt_not (pt_val (pe_call GS hr rfl mS kS bS .nil pass0 (pa_cons (pv 11) (pa_cons (pe_op op_cat (pv 12) (pe_lst (pa_cons (pe_cmpR (op_eqD hr.units) (pv 5) (pv 6) (nomark _)) pa_nil))) pa_nil))))) (pss_one (ps_ret pe_bl)) pss_nil)))))))))))))
    (pss_one (ps_ret pe_bl))))), ?_⟩
  refine ⟨_, rfl, a, ns, rfl, hS, hn, fun st q H1 g1 hs1 => ?_⟩
  intro p1 y1 z1 w1 _
  refine ⟨p1, y1, 0, 0, rfl, upd_same, fun H2 k2 c1 => ⟨rfl, ?_⟩⟩
  have g2 : Same H1 H2 := made_same z1 w1 k2
  clear z1 w1 k2
  intro p2 y2 z1 w1 _
  refine ⟨p2, y2, 5, 0, rfl, upd_same, fun H3 k3 c2 => ⟨rfl, ?_⟩⟩
  have g3 : Same H2 H3 := made_same z1 w1 k3
  clear z1 w1 k3
  refine ⟨rfl, rfl, ?_⟩
  intro p3 y3 z1 w1 _
  refine ⟨p3, y3, 0, 4, rfl, upd_same, fun H4 k4 c3 => ⟨rfl, ?_⟩⟩
  have g4 : Same H3 H4 := made_same z1 w1 k4
  clear z1 w1 k4
  refine ⟨rfl, rfl, ?_⟩
  intro p4 y4 z1 w1 _
  refine ⟨p4, y4, 2, 1, rfl, upd_same, fun H5 k5 c4 => ⟨rfl, ?_⟩⟩
  have g5 : Same H4 H5 := made_same z1 w1 k5
  clear z1 w1 k5
  refine ⟨(by show 4 ≤ sizeLine; decide), fun l hl => ?_⟩
  have g6 := same_new hl (.lst [.ref p1, .ref p2, .ref p3, .ref p4])
  have c1' : CtAt C p1 0 0 _ := ⟨y1, (((g3.trans g4).trans g5).trans g6) _ _ c1⟩
  have c2' : CtAt C p2 5 0 _ := ⟨y2, ((g4.trans g5).trans g6) _ _ c2⟩
  have c3' : CtAt C p3 0 4 _ := ⟨y3, (g5.trans g6) _ _ c3⟩
  have c4' : CtAt C p4 2 1 _ := ⟨y4, g6 _ _ c4⟩
  have hs6 := ((((hs1.same g2).same g3).same g4).same g5).same g6
  have hl6 : upd H5 l (.lst [.ref p1, .ref p2, .ref p3, .ref p4]) l = some (.lst [.ref p1, .ref p2, .ref p3, .ref p4]) := upd_same
  revert c1' c2' c3' c4' hs6 hl6
  generalize upd H5 l (.lst [.ref p1, .ref p2, .ref p3, .ref p4]) = H6
  intro c1' c2' c3' c4' hs6 hl6
  clear c1 c2 c3 c4 hs1 hS g1 g2 g3 g4 g5 g6
  refine ⟨fun σ' H' => SL a st σ' ∧ Spr H' st q 0, ?_, ?_⟩
  · refine ⟨_, rfl, l, rfl, ⟨_, SqL.of hl6⟩, fun D hD => ?_⟩
    refine lc_list (K := K) (a := l) (xs := [.ref p1, .ref p2, .ref p3, .ref p4]) (InvPr K H6 D [(0, 0), (5, 0), (0, 4), (2, 1)]) (InvPr.start hD) (fun i H' _ ⟨_, _, _, g⟩ => SqL.of (g _ _ hl6)) (fun i x H' hx hv => ?_) ?_
    · refine ⟨rfl, kept ?_⟩
      obtain ⟨p, t, a', rfl, e, hc⟩ : ∃ p t a', x = .ref p ∧ ([(0, 0), (5, 0), (0, 4), (2, 1)] : List (Int × Int))[i]? = some (t, a') ∧ CtAt C p t a' H6 := by
        match i with
        | 0 => cases hx; exact ⟨_, _, _, rfl, rfl, c1'⟩
        | 1 => cases hx; exact ⟨_, _, _, rfl, rfl, c2'⟩
        | 2 => cases hx; exact ⟨_, _, _, rfl, rfl, c3'⟩
        | 3 => cases hx; exact ⟨_, _, _, rfl, rfl, c4'⟩
        | i + 4 => cases hx
      obtain ⟨acc, _, _, g⟩ := id hv
      exact rd_pair T.T rfl (hc.same g) hD (by decide) e hv
    rintro H7 ⟨acc, hd7, hp7, g7⟩
    refine ⟨(by show 2 ≤ sizeLine; decide), fun t1 h1 => ⟨(by show 2 ≤ sizeLine; decide), fun t2 h2 => ⟨(by show 2 ≤ sizeLine; decide), fun t3 h3 => ⟨(by show 2 ≤ sizeLine; decide), fun t4 h4 => ⟨(by show 4 ≤ sizeLine; decide), fun m hm => ?_⟩⟩⟩⟩⟩
    have j1 := same_new h1 (.tup [.int 0, .int 0])
    have j2 := same_new h2 (.tup [.int 5, .int 0])
    have j3 := same_new h3 (.tup [.int 0, .int 4])
    have j4 := same_new h4 (.tup [.int 2, .int 1])
    have j5 := same_new hm (.lst [.ref t1, .ref t2, .ref t3, .ref t4])
    have j := (((j1.trans j2).trans j3).trans j4).trans j5
    have du : Prs K _ [.ref t1, .ref t2, .ref t3, .ref t4] [(0, 0), (5, 0), (0, 4), (2, 1)] := .cons (SqT.of ((((j2.trans j3).trans j4).trans j5) _ _ upd_same)) (.cons (SqT.of (((j3.trans j4).trans j5) _ _ upd_same)) (.cons (SqT.of ((j4.trans j5) _ _ upd_same)) (.cons (SqT.of (j5 _ _ upd_same)) .nil)))
    have hal : acc.length = 4 := hp7.1
    refine ⟨_, _, rfl, .lst (j _ _ hd7) upd_same (by omega) ((hp7.same j).sm du), fun H8 g8 => ⟨_, rfl, iteF ?_⟩⟩
    exact ⟨⟨_, _, _, _, _, _, _, _, _, _, _, _, rfl⟩, hs6.same ((g7.trans j).trans g8)⟩
  rintro σ' H9 ⟨hSL, hs9⟩
  refine ⟨4, rfl, by decide, by decide, for_range (n := 4) (fun i σ' H' => SL a st σ' ∧ ∃ b : Int, Spr H' st q b ∧ 0 ≤ b ∧ b ≤ 24 * (i : Int)) ⟨hSL, 0, hs9, by decide, by decide⟩ ?_ (fun _ _ _ => k _)⟩
  clear hs9 hSL hs6 c1' c2' c3' c4' hl6
  rintro i σ' H0 hi ⟨⟨u2, u3, u4, u5, u6, u7, u8, u9, u10, u11, u12, u13, rfl⟩, b, hs, hb0, hb1⟩
  refine ⟨_, rfl, st, q, b, rfl, hs, hb0, by omega, fun x1 H1 hs1 gx1 => ?_⟩
  refine ⟨_, rfl, st, q, _, rfl, hs1, by omega, by omega, fun x2 H2 hs2 gx2 => ?_⟩
  refine ⟨(by show 2 ≤ sizeLine; decide), fun pf hpf => ?_⟩
  have gf := same_new hpf (.tup [.int x1, .int x2])
  have hs3 := hs2.same gf
  have tf : SqT K (upd H2 pf (.tup [.int x1, .int x2])) pf [.int x1, .int x2] := SqT.of upd_same
  revert hs3 tf
  generalize upd H2 pf (.tup [.int x1, .int x2]) = H3
  intro hs3 tf
  clear gf hpf gx1 gx2 hs1 hs2
  refine ⟨fun σ' H' => ∃ (po : Addr) (y1 y2 b' : Int), σ' = [some (.ref a), some (.ref st), u2, u3, some (.int (0 + (i : Int))), some (.ref pf), some (.ref po), u7, u8, u9, u10, u11, u12, u13] ∧ SqT K H' pf [.int x1, .int x2] ∧ SqT K H' po [.int y1, .int y2] ∧ Spr H' st q b' ∧ 0 ≤ b' ∧ b' ≤ b + 20, ?_, ?_⟩
  · refine ⟨_, rfl, _, rfl, pf, _, _, _, rfl, rfl, tf, rfl, ?_⟩
    refine ⟨_, rfl, st, q, _, rfl, hs3, by omega, by omega, fun y2 H4 hs4 gx4 => ?_⟩
    have tf4 := TK.sx (K := K) hs3 gx4 _ _ tf
    refine ⟨(by show 2 ≤ sizeLine; decide), fun t2 h2 => ?_⟩
    have j5 := same_new h2 (.tup [.int x1, .int y2])
    have hs5 := hs4.same j5
    have tf5 := seqT j5 tf4
    have t25 : SqT K _ t2 [.int x1, .int y2] := SqT.of (upd_same (H := H4))
    refine ⟨_, rfl, st, q, _, rfl, hs5, by omega, by omega, fun y3 H6 hs6 gx6 => ?_⟩
    have tf6 := TK.sx (K := K) hs5 gx6 _ _ tf5
    have t26 := TK.sx (K := K) hs5 gx6 _ _ t25
    refine ⟨_, rfl, pf, _, _, _, rfl, rfl, tf6, rfl, ?_⟩
    refine ⟨(by show 2 ≤ sizeLine; decide), fun t3 h3 => ?_⟩
    have j7 := same_new h3 (.tup [.int y3, .int x2])
    have hs7 := hs6.same j7
    have tf7 := seqT j7 tf6
    have t27 := seqT j7 t26
    have t37 : SqT K _ t3 [.int y3, .int x2] := SqT.of (upd_same (H := H6))
    refine ⟨_, rfl, st, q, _, rfl, hs7, by omega, by omega, fun y4 H8 hs8 gx8 => ?_⟩
    have tf8 := TK.sx (K := K) hs7 gx8 _ _ tf7
    have t28 := TK.sx (K := K) hs7 gx8 _ _ t27
    have t38 := TK.sx (K := K) hs7 gx8 _ _ t37
    refine ⟨(by show 2 ≤ sizeLine; decide), fun t4 h4 => ?_⟩
    have j9 := same_new h4 (.tup [.int y4, .int 3])
    have t49 : SqT K _ t4 [.int y4, .int 3] := SqT.of (upd_same (H := H8))
    refine ⟨(by show 4 ≤ sizeLine; decide), fun l hl => ?_⟩
    have j10 := same_new hl (.lst [.ref pf, .ref t2, .ref t3, .ref t4])
    have j11 := j9.trans j10
    obtain ⟨v, hv, ev⟩ := at_int (xs := [.ref pf, .ref t2, .ref t3, .ref t4]) (r := 0 + (i : Int)) (by omega) (by show 0 + (i : Int) < 4; omega)
    refine ⟨_, rfl, l, _, _, v, rfl, rfl, SqL.of upd_same, ev, ?_⟩
    have all := all_cons (p := fun v => ∃ (po : Addr) (y1 y2 : Int), v = .ref po ∧ SqT K (upd (upd H8 t4 (.tup [.int y4, .int 3])) l (.lst [.ref pf, .ref t2, .ref t3, .ref t4])) po [.int y1, .int y2]) ⟨_, _, _, rfl, seqT j11 tf8⟩
      (all_cons ⟨_, _, _, rfl, seqT j11 t28⟩ (all_cons ⟨_, _, _, rfl, seqT j11 t38⟩ (all_cons ⟨_, _, _, rfl, seqT j10 t49⟩ all_nil)))
    obtain ⟨po, z1, z2, rfl, hz⟩ := all v hv
    exact ⟨po, z1, z2, _, rfl, seqT j11 tf8, hz, hs8.same j11, by omega, by omega⟩
  rintro σ' H4 ⟨po, y1, y2, b', rfl, tf4, to4, hs4, hb0', hb1'⟩
  clear hs3 tf hs
  -- the two, their sum
  refine ⟨_, rfl, pf, _, _, _, rfl, rfl, tf4, rfl, _, rfl, pf, _, _, _, rfl, rfl, tf4, rfl, ?_⟩
  intro p1 d1' z1 w1 _
  refine ⟨p1, d1', x1, x2, rfl, upd_same, fun H5 k5 c1 => ⟨rfl, ?_⟩⟩
  have g5 : Same H4 H5 := made_same z1 w1 k5
  clear z1 w1 k5
  have to5 := seqT g5 to4
  refine ⟨_, rfl, po, _, _, _, rfl, rfl, to5, rfl, _, rfl, po, _, _, _, rfl, rfl, to5, rfl, ?_⟩
  intro p2 d2' z1 w1 _
  refine ⟨p2, d2', y1, y2, rfl, upd_same, fun H6 k6 c2 => ⟨rfl, ?_⟩⟩
  have g6 : Same H5 H6 := made_same z1 w1 k6
  clear z1 w1 k6
  have o1 : CtAt C p1 x1 x2 H6 := ⟨d1', g6 _ _ c1⟩
  have o2 : CtAt C p2 y1 y2 H6 := ⟨d2', c2⟩
  have tf6 := seqT (g5.trans g6) tf4
  have to6 := seqT g6 to5
  have hs6 := hs4.same (g5.trans g6)
  clear c1 c2 g5 g6 tf4 to4 hs4 to5
  dsimp only [gName, tSeq, tAsg]
  refine ⟨_, _, rfl, ?_⟩
  obtain ⟨e1', hp1⟩ := id o1
  obtain ⟨e2', hp2⟩ := id o2
  refine ⟨_, rfl, _, rfl, p1, p2, e1', e2', _, _, rfl, rfl, hp1, hp2, p1, p2, x1, x2, y1, y2, rfl, o1, o2, fun p3 H7 g7 o3 => ?_⟩
  refine ⟨_, rfl, ?_⟩
  refine ⟨_, rfl, _, rfl, p1, e1', _, rfl, g7 _ _ hp1, p1, p2, x1, x2, y1, y2, rfl, o1.same g7, o2.same g7, fun p4 H8 g8 o4 => ?_⟩
  have g78 := g7.trans g8
  have tf8 := seqT g78 tf6
  have to8 := seqT g78 to6
  have hs8 := hs6.same g78
  have o1 := o1.same g78
  have o2 := o2.same g78
  have o3 := o3.same g8
  refine ⟨_, rfl, pf, _, _, _, rfl, rfl, tf8, rfl, _, rfl, po, _, _, _, rfl, rfl, to8, rfl, _, _, rfl, rfl, _, rfl, pf, _, _, _, rfl, rfl, tf8, rfl, _, rfl, po, _, _, _, rfl, rfl, to8, rfl, _, _, rfl, rfl, ?_⟩
  refine ⟨(by show 2 ≤ sizeLine; decide), fun pd hpd => ?_⟩
  have g9 := same_new hpd (.tup [.int (x1 + y1), .int (x2 + y2)])
  have td : SqT K (upd H8 pd (.tup [.int (x1 + y1), .int (x2 + y2)])) pd [.int (x1 + y1), .int (x2 + y2)] := SqT.of upd_same
  have tf9 := seqT g9 tf8
  have to9 := seqT g9 to8
  have hs9 := hs8.same g9
  have o1 := o1.same g9
  have o2 := o2.same g9
  have o3 := o3.same g9
  have o4 := o4.same g9
  revert td tf9 to9 hs9 o1 o2 o3 o4
  generalize upd H8 pd (.tup [.int (x1 + y1), .int (x2 + y2)]) = H9
  intro td tf9 to9 hs9 o1 o2 o3 o4
  clear hpd g9 tf8 to8 hs8 g7 g8 g78 tf6 to6 hs6
  refine ⟨fun σ' H' => (∃ v13 : Option V, σ' = [some (.ref a), some (.ref st), u2, some (.ref p1), some (.int (0 + (i : Int))), some (.ref pf), some (.ref po), some (.ref p2), some (.ref p3), some (.ref p4), some (.ref pd), u11, u12, v13]) ∧ Same H9 H', ?_, ?_⟩
  · refine ⟨_, rfl, _, rfl, _, rfl, _, rfl, (by show 4 ≤ sizeLine; decide), fun m hm => ?_⟩
    have jm := same_new hm (.tup [.ref p1, .ref p2, .ref p3, .ref p4])
    have tm : SqT K (upd H9 m (.tup [.ref p1, .ref p2, .ref p3, .ref p4])) m [.ref p1, .ref p2, .ref p3, .ref p4] := SqT.of upd_same
    refine ⟨m, rfl, ⟨_, tm⟩, fun D hD => ?_⟩
    refine lc_tup (K := K) (a := m) (xs := [.ref p1, .ref p2, .ref p3, .ref p4]) (InvPr K (upd H9 m (.tup [.ref p1, .ref p2, .ref p3, .ref p4])) D [(x1, x2), (y1, y2), (x1 + y1, x2 + y2), (x1 + y1, x2 + y2)]) (InvPr.start hD) (fun i H' _ ⟨_, _, _, g⟩ => seqT g tm) (fun j x H' hx hv => ?_) ?_
    · refine ⟨rfl, kept ?_⟩
      obtain ⟨p, t, a', rfl, e, hc⟩ : ∃ p t a', x = .ref p ∧ ([(x1, x2), (y1, y2), (x1 + y1, x2 + y2), (x1 + y1, x2 + y2)] : List (Int × Int))[j]? = some (t, a') ∧ CtAt C p t a' H9 := by
        match j with
        | 0 => cases hx; exact ⟨_, _, _, rfl, rfl, o1⟩
        | 1 => cases hx; exact ⟨_, _, _, rfl, rfl, o2⟩
        | 2 => cases hx; exact ⟨_, _, _, rfl, rfl, o3⟩
        | 3 => cases hx; exact ⟨_, _, _, rfl, rfl, o4⟩
        | j + 4 => cases hx
      obtain ⟨acc, _, _, g⟩ := id hv
      exact rd_pair T.T rfl ((hc.same jm).same g) hD (by show 4 ≤ 1000; decide) e hv
    rintro H10 ⟨acc, hd10, hp10, g10⟩
    refine ⟨_, rfl, _, rfl, _, rfl, _, rfl, (by show 4 ≤ sizeLine; decide), fun l hl => ?_⟩
    have j11 := same_new hl (.lst [.ref pf, .ref po, .ref pd, .ref pd])
    have gg := (jm.trans g10).trans j11
    have du : Prs K _ [.ref pf, .ref po, .ref pd, .ref pd] [(x1, x2), (y1, y2), (x1 + y1, x2 + y2), (x1 + y1, x2 + y2)] := .cons (seqT gg tf9) (.cons (seqT gg to9) (.cons (seqT gg td) (.cons (seqT gg td) .nil)))
    have hal : acc.length = 4 := hp10.1
    refine ⟨_, _, rfl, .lst (j11 _ _ hd10) upd_same (by omega) ((hp10.same j11).sm du), fun H12 g12 => ⟨_, rfl, iteF ?_⟩⟩
    exact ⟨⟨_, rfl⟩, gg.trans g12⟩
  rintro σ' H10 ⟨⟨v13, rfl⟩, g10⟩
  have tf := seqT g10 tf9
  have to := seqT g10 to9
  have hs := hs9.same g10
  have o1 := o1.same g10
  have o2 := o2.same g10
  clear tf9 to9 hs9 o3 o4 td g10 hp1 hp2
  refine rd_cmp rfl rfl o1 o2 fun Ha0 ga0 => ?_
  have o1 := o1.same ga0
  have o2 := o2.same ga0
  have tf := seqT ga0 tf
  have to := seqT ga0 to
  have hs := hs.same ga0
  refine rd_cmp rfl rfl o1 o2 fun Ha1 ga1 => ?_
  have o1 := o1.same ga1
  have o2 := o2.same ga1
  have tf := seqT ga1 tf
  have to := seqT ga1 to
  have hs := hs.same ga1
  refine rd_cmp rfl rfl o1 o2 fun Ha2 ga2 => ?_
  have o1 := o1.same ga2
  have o2 := o2.same ga2
  have tf := seqT ga2 tf
  have to := seqT ga2 to
  have hs := hs.same ga2
  refine rd_cmp rfl rfl o1 o2 fun Ha3 ga3 => ?_
  have o1 := o1.same ga3
  have o2 := o2.same ga3
  have tf := seqT ga3 tf
  have to := seqT ga3 to
  have hs := hs.same ga3
  refine rd_cmp rfl rfl o1 o2 fun Ha4 ga4 => ?_
  have o1 := o1.same ga4
  have o2 := o2.same ga4
  have tf := seqT ga4 tf
  have to := seqT ga4 to
  have hs := hs.same ga4
  refine rd_cmp rfl rfl o2 o1 fun Ha5 ga5 => ?_
  have o1 := o1.same ga5
  have o2 := o2.same ga5
  have tf := seqT ga5 tf
  have to := seqT ga5 to
  have hs := hs.same ga5
  refine rd_cmp rfl rfl o2 o1 fun Ha6 ga6 => ?_
  have o1 := o1.same ga6
  have o2 := o2.same ga6
  have tf := seqT ga6 tf
  have to := seqT ga6 to
  have hs := hs.same ga6
  refine ⟨(by show 7 ≤ sizeLine; decide), fun la hla => ?_⟩
  have ja := same_new hla (.lst [.bl (PyData.eqv (dt x1 x2) (dt y1 y2)), .bl (PySem.W.dataLt (dt x1 x2) (dt y1 y2)), .bl (!PySem.W.dataLt (dt y1 y2) (dt x1 x2)), .bl (PySem.W.dataLt (dt y1 y2) (dt x1 x2)), .bl (!PySem.W.dataLt (dt x1 x2) (dt y1 y2)), .bl (PySem.W.dataLt (dt y1 y2) (dt x1 x2)), .bl (PyData.eqv (dt y1 y2) (dt x1 x2))])
  have hla1 : upd Ha6 la (.lst [.bl (PyData.eqv (dt x1 x2) (dt y1 y2)), .bl (PySem.W.dataLt (dt x1 x2) (dt y1 y2)), .bl (!PySem.W.dataLt (dt y1 y2) (dt x1 x2)), .bl (PySem.W.dataLt (dt y1 y2) (dt x1 x2)), .bl (!PySem.W.dataLt (dt x1 x2) (dt y1 y2)), .bl (PySem.W.dataLt (dt y1 y2) (dt x1 x2)), .bl (PyData.eqv (dt y1 y2) (dt x1 x2))]) la = some (.lst _) := upd_same
  have tf := seqT ja tf
  have to := seqT ja to
  have hs := hs.same ja
  refine ⟨_, rfl, _, rfl, dt x1 x2, dt y1 y2, dpT tf, dpT to, rfl, rfl, ?_⟩
  refine ⟨_, rfl, _, rfl, dt x1 x2, dt y1 y2, dpT tf, dpT to, al2 _ _ _ _, (fun z => by cases z), dep2 _ _ _, ?_⟩
  refine ⟨_, rfl, _, rfl, dt x1 x2, dt y1 y2, dpT tf, dpT to, al2 _ _ _ _, (fun z => by cases z), dep2 _ _ _, ?_⟩
  refine ⟨_, rfl, _, rfl, dt x1 x2, dt y1 y2, dpT tf, dpT to, al2 _ _ _ _, (fun z => by cases z), dep2 _ _ _, ?_⟩
  refine ⟨_, rfl, _, rfl, dt x1 x2, dt y1 y2, dpT tf, dpT to, al2 _ _ _ _, (fun z => by cases z), dep2 _ _ _, ?_⟩
  refine ⟨_, rfl, _, rfl, dt y1 y2, dt x1 x2, dpT to, dpT tf, al2 _ _ _ _, (fun z => by cases z), dep2 _ _ _, ?_⟩
  refine ⟨(by show 6 ≤ sizeLine; decide), fun lb hlb => ?_⟩
  have jb := same_new hlb (.lst [.bl (PyData.eqv (dt x1 x2) (dt y1 y2)), .bl (PySem.W.dataLt (dt x1 x2) (dt y1 y2)), .bl (!PySem.W.dataLt (dt y1 y2) (dt x1 x2)), .bl (PySem.W.dataLt (dt y1 y2) (dt x1 x2)), .bl (!PySem.W.dataLt (dt x1 x2) (dt y1 y2)), .bl (PySem.W.dataLt (dt y1 y2) (dt x1 x2))])
  have tf := seqT jb tf
  have to := seqT jb to
  have hs := hs.same jb
  refine ⟨_, rfl, _, rfl, _, rfl, _, rfl, dt x1 x2, dt y1 y2, dpT tf, dpT to, rfl, rfl, ?_⟩
  refine ⟨(by show 1 ≤ sizeLine; decide), fun lc hlc => ?_⟩
  have jc := same_new hlc (.lst [.bl (PyData.eqv (dt x1 x2) (dt y1 y2))])
  refine ⟨lb, lc, _, _, rfl, rfl, jc _ _ upd_same, upd_same, (by show 7 ≤ sizeLine; decide), fun ld hld => ?_⟩
  have jd := same_new hld (.lst ([.bl (PyData.eqv (dt x1 x2) (dt y1 y2)), .bl (PySem.W.dataLt (dt x1 x2) (dt y1 y2)), .bl (!PySem.W.dataLt (dt y1 y2) (dt x1 x2)), .bl (PySem.W.dataLt (dt y1 y2) (dt x1 x2)), .bl (!PySem.W.dataLt (dt x1 x2) (dt y1 y2)), .bl (PySem.W.dataLt (dt y1 y2) (dt x1 x2))] ++ [.bl (PyData.eqv (dt x1 x2) (dt y1 y2))]))
  have jj := (jb.trans jc).trans jd
  refine ⟨_, _, rfl, .lst (jj _ _ hla1) upd_same (by show 7 ≤ 1000; decide) ?_, fun He ge => ⟨_, rfl, iteF ?_⟩⟩
  · refine .cons (.bl _) (.cons (.bl _) (.cons (.bl _) (.cons (.bl _) (.cons (.bl _) (.cons (.bl _) (.cons ?_ .nil))))))
    rw [PySem.W.eqv_comm]
    exact .bl _
  · refine ⟨⟨_, _, _, _, _, _, _, _, _, _, _, _, rfl⟩, b', hs.same ((jc.trans jd).trans ge), hb0', by omega⟩
end
end Lw
namespace Lw
open PySem L2 OwB
/-- a def of the text, as the top leaves it -/
structure Dx (K : PySem.W.Frag) (mg : Str → Option Value) (x : Str) (st : Stmt) (f : Addr) (fd : FuncData) : Prop where
  F : Fun K x x st f fd
  m : mg x = some (.ref f)
  is : ∃ (kV doc pm : Value) (an : Option Addr) (cdv ct : Value), fd = PySem.W.fnOf x x (defArgs st) (defBody st) (defScope st) .none kV doc pm an cdv ct
theorem dx_mk {K : PySem.W.Frag} {h : Heap} {mg : Str → Option Value} {x : Str} {st : Stmt} {f : Addr} (X : K.In h) (G : h.Ns mainGlobals mg) {od an : Option Addr} {sl : Array (Option Value)} {oc kV dc pm cd ct : Value}
    (a : PySem.W.nsIn K mainGlobals x = some (some (.ref f))) (l : K.lookup f = some ⟨oc, od, .func (PySem.W.fnOf x x (defArgs st) (defBody st) (defScope st) .none kV dc pm an cd ct), sl⟩) (c : PySem.W.codeIn K cd x = true) (k : PySem.W.keepIn K (.ref f) = true) :
    Dx K mg x st f (PySem.W.fnOf x x (defArgs st) (defBody st) (defScope st) .none kV dc pm an cd ct) := ⟨fun_mk l c k, PySem.W.mg_of X G a, _, _, _, _, _, _, rfl⟩
/-- a method of the class at C -/
structure Mx (K : PySem.W.Frag) (C : Addr) (x qual : Str) (st : Stmt) (f : Addr) (fd : FuncData) : Prop where
  F : Fun K x qual st f fd
  o : OpD K C f x
theorem mx_mk {K : PySem.W.Frag} {C : Addr} {x qual : Str} {st : Stmt} {f : Addr} {od an : Option Addr} {sl : Array (Option Value)} {oc kV dc pm cd ct : Value}
    (a : PySem.W.findIn K (.ref C) x = some (some (.ref f))) (i : PySem.W.isFn K (.ref f) = true) (l : K.lookup f = some ⟨oc, od, .func (PySem.W.fnOf x qual (defArgs st) (defBody st) (defScope st) .none kV dc pm an cd ct), sl⟩) (c : PySem.W.codeIn K cd qual = true) (k : PySem.W.keepIn K (.ref f) = true) :
    Mx K C x qual st f (PySem.W.fnOf x qual (defArgs st) (defBody st) (defScope st) .none kV dc pm an cd ct) := ⟨fun_mk l c k, ⟨a, i⟩⟩
theorem kit_me {K : PySem.W.Frag} {C : Addr} : PySem.W.kitOne K (.ref C) (.ref C) = some true := by
  unfold PySem.W.kitOne
  rw [if_pos (beq_self_eq_true _)]
theorem ok_sames {P : Program} {w : World} {K : PySem.W.Frag} {mg : Str → Option Value} {base : Heap} {f : Addr} {fd : FuncData} (F : Fun K "_law_same" "_law_same" sSame f fd) (bF : Binds K fd ["_law_found", "_law_due"] []) (mF : mg "_law_same" = some (.ref f)) (B : Bt mg) :
    ∀ n : Nat, FnOk P w K mg base CX0 n f fd ["_law_found", "_law_due"] (spSame K n)
  | 0 => none_left fun vs H Q E ⟨_, _, _, h, _⟩ => h
  | n + 1 => ok_same F (ok_sames F bF mF B n) bF F.kp mF B
theorem all_mk {l : PySem.W.OpenLaw} {w : World} {K : PySem.W.Frag} {h : Heap} {mg : Str → Option Value} {fa : Addr} (X : K.In h) (G : h.Ns mainGlobals mg) (hfa : mg "law" = some (.ref fa))
    {C fI dfl fD fB fS fA fL madd miadd meq mlt mle mgt mge : Addr} {dD dB dS dA dL eadd eiadd eeq elt ele egt ege : FuncData} {oc1 kV1 dc1 pm1 cd1 ct1 oc2 : Value} {od1 an1 od2 : Option Addr} {sl1 sl2 : Array (Option Value)} {its2 : List Value} {n2 : Nat}
    (aC : PySem.W.nsIn K mainGlobals "Counts" = some (some (.ref C)))
    (a1 : PySem.W.findIn K (.ref C) "__init__" = some (some (.ref fI)))
    (i1 : PySem.W.isFn K (.ref fI) = true)
    (l1 : K.lookup fI = some ⟨oc1, od1, .func (PySem.W.fnOf "__init__" "Counts.__init__" (defArgs sIni) (defBody sIni) (defScope sIni) (.ref dfl) kV1 dc1 pm1 an1 cd1 ct1), sl1⟩)
    (c1 : PySem.W.codeIn K cd1 "Counts.__init__" = true)
    (k1 : PySem.W.keepIn K (.ref fI) = true)
    (dl : K.lookup dfl = some ⟨oc2, od2, .seq its2.toArray n2, sl2⟩)
    (dv : Vals [V.int 0, V.int 0] its2)
    (mk : PySem.W.makesIn K C = true)
    (kC : PySem.W.keepIn K (.ref C) = true)
    (pg : PySem.W.plainGet K C Str.empty = true)
    (hd : PySem.W.hasDictIn K C = true)
    (po : PySem.W.plainOver K C = true)
    (sa : PySem.W.findIn K (.ref C) "__setattr__" = some (some (.builtin "object.__setattr__")))
    (nT : PySem.W.findIn K (.ref C) "turns" = some none)
    (nA : PySem.W.findIn K (.ref C) "additions" = some none)
    (sf : PySem.W.selfFirst K C = true)
    (e4 : PySem.W.findIn K (.ref C) "__class__" = some (some (.builtin "object.__class__")))
    (e5 : PySem.W.specialIn K (.builtin "object.__class__") "__get__" = some (some (.builtin "getset_descriptor.__get__")))
    (e6 : PySem.W.takesIn K (.builtin "object.__class__") = some true)
    (e7 : PySem.W.mroIn K C (.type "object") = some true)
    (z_isinstance : PySem.W.nsIn K mainGlobals "isinstance" = some none)
    (z_list : PySem.W.nsIn K mainGlobals "list" = some none)
    (z_tuple : PySem.W.nsIn K mainGlobals "tuple" = some none)
    (z_len : PySem.W.nsIn K mainGlobals "len" = some none)
    (z_all : PySem.W.nsIn K mainGlobals "all" = some none)
    (z_zip : PySem.W.nsIn K mainGlobals "zip" = some none)
    (z_dict : PySem.W.nsIn K mainGlobals "dict" = some none)
    (z_int : PySem.W.nsIn K mainGlobals "int" = some none)
    (z_bool : PySem.W.nsIn K mainGlobals "bool" = some none)
    (z_range : PySem.W.nsIn K mainGlobals "range" = some none)
    (Madd : Mx K C "__add__" "Counts.__add__" sAdd madd eadd)
    (Miadd : Mx K C "__iadd__" "Counts.__iadd__" sIadd miadd eiadd)
    (Meq : Mx K C "__eq__" "Counts.__eq__" sEq meq eeq)
    (Mlt : Mx K C "__lt__" "Counts.__lt__" sLt mlt elt)
    (Mle : Mx K C "__le__" "Counts.__le__" sLe mle ele)
    (Mgt : Mx K C "__gt__" "Counts.__gt__" sGt mgt egt)
    (Mge : Mx K C "__ge__" "Counts.__ge__" sGe mge ege)
    (DD : Dx K mg "_law_draw" sDraw fD dD)
    (DB : Dx K mg "_law_start" sStart fB dB)
    (DS : Dx K mg "_law_same" sSame fS dS)
    (DA : Dx K mg "_law_part" sPart fA dA)
    (DL : Dx K mg "law" sLaw fL dL)
    : ∃ fd : FuncData, (∀ (s : Shared) (v : Value), BindsTo s fd ⟨[v], []⟩ [("_law_script", v)]) ∧ ∀ base : Heap, K.In base → base.Ns mainGlobals mg → FnOk l.prog w K mg base CX0 6 fa fd ["_law_script"] (spLaw K) := by
  have e := hfa.symm.trans DL.m
  cases e
  have B : Bt mg := ⟨PySem.W.mg_none_of X G z_isinstance, PySem.W.mg_none_of X G z_list, PySem.W.mg_none_of X G z_tuple, PySem.W.mg_none_of X G z_len, PySem.W.mg_none_of X G z_all, PySem.W.mg_none_of X G z_zip, PySem.W.mg_none_of X G z_dict, PySem.W.mg_none_of X G z_int, PySem.W.mg_none_of X G z_bool, PySem.W.mg_none_of X G z_range⟩
  have T : Ct K mg C fI := { ic := ⟨⟨pg, hd, po, sa⟩, e4, e5, e6, e7, kit_me⟩, nT := nT, nA := nA, mkC := ⟨mk, a1, i1, kC⟩, mC := PySem.W.mg_of X G aC, sf := sf }
  have D : DI K fI _ := ⟨⟨_, _, _, _, _, _, _, _, _, _, rfl, l1, c1, .inr ⟨(fun z => by cases z), dfl, _, its2, n2, rfl, dl, rfl, dv⟩, .inl rfl⟩, k1⟩
  have bD := DD.F.binds (ps := ["_law_stream", "_law_many"]) fun _ _ _ _ _ _ us hl => match us, hl with | [_, _], _ => rfl
  have bB := DB.F.binds (ps := ["_law_script"]) fun _ _ _ _ _ _ us hl => match us, hl with | [_], _ => rfl
  have bS := DS.F.binds (ps := ["_law_found", "_law_due"]) fun _ _ _ _ _ _ us hl => match us, hl with | [_, _], _ => rfl
  have bA := DA.F.binds (ps := ["_law_stream"]) fun _ _ _ _ _ _ us hl => match us, hl with | [_], _ => rfl
  have bL := DL.F.binds (ps := ["_law_script"]) fun _ _ _ _ _ _ us hl => match us, hl with | [_], _ => rfl
  have cadd := Madd.F.binds (ps := ["self", "other"]) fun _ _ _ _ _ _ us hl => match us, hl with | [_, _], _ => rfl
  have ciadd := Miadd.F.binds (ps := ["self", "other"]) fun _ _ _ _ _ _ us hl => match us, hl with | [_, _], _ => rfl
  have ceq := Meq.F.binds (ps := ["self", "other"]) fun _ _ _ _ _ _ us hl => match us, hl with | [_, _], _ => rfl
  have clt := Mlt.F.binds (ps := ["self", "other"]) fun _ _ _ _ _ _ us hl => match us, hl with | [_, _], _ => rfl
  have cle := Mle.F.binds (ps := ["self", "other"]) fun _ _ _ _ _ _ us hl => match us, hl with | [_, _], _ => rfl
  have cgt := Mgt.F.binds (ps := ["self", "other"]) fun _ _ _ _ _ _ us hl => match us, hl with | [_, _], _ => rfl
  have cge := Mge.F.binds (ps := ["self", "other"]) fun _ _ _ _ _ _ us hl => match us, hl with | [_, _], _ => rfl
  refine ⟨dL, fun s v => ?_, fun base _ _ => ?_⟩
  · obtain ⟨kV, doc, pm, an, cdv, ct, rfl⟩ := DL.is
    exact .of_eq rfl
  have GS := ok_sames (P := l.prog) (w := w) (base := base) DS.F bS DS.m B 5
  have GD := ok_draw (P := l.prog) (w := w) (base := base) DD.F B
  have GB := ok_start (P := l.prog) (w := w) (base := base) DB.F B
  have GA := ok_part DA.F GD bD DD.F.kp DD.m
  have FI := ok_ini (P := l.prog) (w := w) (mg := mg) (base := base) D T
  have TG : CtG l.prog w K mg base C fI _ madd miadd meq mlt mle mgt mge eadd eiadd eeq elt ele egt ege :=
    { T := T, D := D, FI := FI, G1 := ok_add Madd.F FI D T B, G2 := ok_iadd Miadd.F FI D T B, G3 := ok_eq Meq.F T B, G4 := ok_lt Mlt.F T B, G5 := ok_le Mle.F T B, G6 := ok_gt Mgt.F T B, G7 := ok_ge Mge.F T B,
      b1 := cadd, b2 := ciadd, b3 := ceq, b4 := clt, b5 := cle, b6 := cgt, b7 := cge, O1 := Madd.o, O2 := Miadd.o, O3 := Meq.o, O4 := Mlt.o, O5 := Mle.o, O6 := Mgt.o, O7 := Mge.o }
  exact ok_law DL.F B TG GB bB DB.F.kp DB.m GS bS DS.F.kp DS.m GA bA DA.F.kp DA.m
theorem walk {l : PySem.W.OpenLaw} {q : Program} {loose : List Str} {XP : (Str → Option Value) → Heap → Prop} {YP : World → Heap → Prop} {d : DefRec} {K : Params → PySem.W.Frag} (hn : l.most = some 63) (hdf : d.params.defaults = [])
    (hY : ∀ (w : World) (h : Heap), YP w h → (K w.params).In h)
    (F : ∀ (w : World) (mg : Str → Option Value) (fa : Addr) (h : Heap), (K w.params).In h → h.Ns mainGlobals mg → mg d.name = some (.ref fa) →
      ∃ fd : FuncData, (∀ (s : Shared) (u : Value), BindsTo s fd ⟨[u], []⟩ [("_law_script", u)]) ∧ ∀ base : Heap, (K w.params).In base → base.Ns mainGlobals mg → FnOk l.prog w (K w.params) mg base CX0 6 fa fd ["_law_script"] (spLaw (K w.params))) :
    PySem.W.WalkO q loose XP YP l.row.toRowW d [] (fun f vs => PySem.call f vs) :=
  L2.walk_of (n := 63) (k := 6) (x := "_law_script") (CX := fun _ => CX0) (sp := fun w => spLaw (K w.params)) hn (by decide) hdf ⟨rfl, by decide, by decide⟩ hY F (fun _ _ a ns hl _ hS => ⟨a, ns, rfl, hS, hl, fun _ => rfl⟩) fun _ _ _ _ _ z => z
end Lw
open PySem PySem.W PyProof.Rows
set_option maxRecDepth 100000 in
set_option maxHeartbeats 0 in
theorem PySem.Challenge.cw_levelwalks_k37_counts_holds : PySem.Challenge.rw_levelwalks_k37_counts.Holds := by
  w_on; o_law; k_head; (case hw => w_witness2)
  k_fill
  refine Lw.walk (l := PySem.Challenge.rw_levelwalks_k37_counts) rfl rfl (fun w h Y => PySem.W.kIn_of Y) ?F
  case F =>
    intro w mg fa h KX G hmg
    refine' Lw.all_mk KX G hmg ?aC ?a1 ?i1 ?l1 ?c1 ?k1 ?dl ?dv ?mk ?kC ?pg ?hd ?po ?sa ?nT ?nA ?sf ?e4 ?e5 ?e6 ?e7 ?z_isinstance ?z_list ?z_tuple ?z_len ?z_all ?z_zip ?z_dict ?z_int ?z_bool ?z_range ?Madd ?Miadd ?Meq ?Mlt ?Mle ?Mgt ?Mge ?DD ?DB ?DS ?DA ?DL
    (case aC => k_is)
    (case a1 => k_is)
    (case i1 => k_is)
    (case l1 => k_is)
    (case c1 => k_is)
    (case k1 => k_is)
    (case dl => k_is)
    (case dv => exact .cons ⟨_, rfl⟩ (.cons ⟨_, rfl⟩ .nil))
    (case mk => k_is)
    (case kC => k_is)
    (case pg => k_is)
    (case hd => k_is)
    (case po => k_is)
    (case sa => k_is)
    (case nT => k_is)
    (case nA => k_is)
    (case sf => k_is)
    (case e4 => k_is)
    (case e5 => k_is)
    (case e6 => k_is)
    (case e7 => k_is)
    (case z_isinstance => k_is)
    (case z_list => k_is)
    (case z_tuple => k_is)
    (case z_len => k_is)
    (case z_all => k_is)
    (case z_zip => k_is)
    (case z_dict => k_is)
    (case z_int => k_is)
    (case z_bool => k_is)
    (case z_range => k_is)
    (case Madd => (refine' Lw.mx_mk ?a ?i ?l ?c ?k; (case a => k_is); (case i => k_is); (case l => k_is); (case c => k_is); (case k => k_is)))
    (case Miadd => (refine' Lw.mx_mk ?a ?i ?l ?c ?k; (case a => k_is); (case i => k_is); (case l => k_is); (case c => k_is); (case k => k_is)))
    (case Meq => (refine' Lw.mx_mk ?a ?i ?l ?c ?k; (case a => k_is); (case i => k_is); (case l => k_is); (case c => k_is); (case k => k_is)))
    (case Mlt => (refine' Lw.mx_mk ?a ?i ?l ?c ?k; (case a => k_is); (case i => k_is); (case l => k_is); (case c => k_is); (case k => k_is)))
    (case Mle => (refine' Lw.mx_mk ?a ?i ?l ?c ?k; (case a => k_is); (case i => k_is); (case l => k_is); (case c => k_is); (case k => k_is)))
    (case Mgt => (refine' Lw.mx_mk ?a ?i ?l ?c ?k; (case a => k_is); (case i => k_is); (case l => k_is); (case c => k_is); (case k => k_is)))
    (case Mge => (refine' Lw.mx_mk ?a ?i ?l ?c ?k; (case a => k_is); (case i => k_is); (case l => k_is); (case c => k_is); (case k => k_is)))
    (case DD => (refine' Lw.dx_mk KX G ?a ?l ?c ?k; (case a => k_is); (case l => k_is); (case c => k_is); (case k => k_is)))
    (case DB => (refine' Lw.dx_mk KX G ?a ?l ?c ?k; (case a => k_is); (case l => k_is); (case c => k_is); (case k => k_is)))
    (case DS => (refine' Lw.dx_mk KX G ?a ?l ?c ?k; (case a => k_is); (case l => k_is); (case c => k_is); (case k => k_is)))
    (case DA => (refine' Lw.dx_mk KX G ?a ?l ?c ?k; (case a => k_is); (case l => k_is); (case c => k_is); (case k => k_is)))
    (case DL => (refine' Lw.dx_mk KX G ?a ?l ?c ?k; (case a => k_is); (case l => k_is); (case c => k_is); (case k => k_is)))
