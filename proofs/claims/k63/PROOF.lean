import PyProof.Rows.All
import Wide.All
import OpenK.AllK
import Wide.FinOn
import HandS.ForExc
import HandS.ForMost
import HandS.Wide
import HandS.IsInst
import HandS.Walk
import HandS.Zip
import HandS.Style
import HandS.Codes
import HandS.Conv
import HandS.FStr
import HandS.Property
import HandS.ClsMeth
import HandS.Text
import HandS.Strs
import HandS.SortKw
import HandS.RaiseMore
import HandS.ExcIs
import HandS.TryMany
import HandS.Lambda
import HandS.EndTab
import HandS.EndBits
import HandS.TupAny
import HandS.Star
import HandS.MakeKw
import HandS.MakeKwOnly
import HandS.ReCall
import KE.SortKeyHeap
import KE.SortCalls
import PyProof.TupleIter
import HandS.Zip0
import HandS.Iter
import HandS.SlotsOwn
import KE.KOpsOwn
import KE.DataCmp
import KE.KDictList
import PyProof.StrWalks
import KE.SortData
import KE.KSortKey
import KE.KIndexOf
import HandS.WordsExc
import KE.GoesZip
import KE.GoesMore
import HandS.SortRule
import KE.KNestM
import PySem.Challenge.RW_levelwalks_k63_turned
set_option Elab.async false
set_option linter.all false
set_option maxRecDepth 100000
set_option maxHeartbeats 8000000
namespace Lw
open PySem L2
def topS (i : Nat) : Stmt := PySem.Challenge.pw_levelwalks_k63_turned.main.body.getD i (.Pass ⟨0, 0, 0, 0⟩)
theorem seqT {K : PySem.W.Frag} {H H' : Hp} (g : Same H H') {a : Addr} {xs : List V} (h : SqT K H a xs) : SqT K H' a xs := by
  rcases h with (h | ⟨o, h⟩) | h
  · exact .inl (.inl (g _ _ h))
  · exact .inl (.inr ⟨o, g _ _ h⟩)
  · exact .inr h
theorem tyT {K : PySem.W.Frag} {H : Hp} {a : Addr} {xs : List V} (h : SqT K H a xs) : TyX K H (.ref a) (.type "tuple") := by
  rcases h with (h | ⟨o, h⟩) | ⟨o, its, n, h, c, _⟩
  · exact .base (.tup h)
  · exact .fTuple h
  · exact .kTuple h c
theorem tyL {K : PySem.W.Frag} {H : Hp} {a : Addr} {xs : List V} (h : SqL K H a xs) : TyX K H (.ref a) (.type "list") := by
  rcases h with (h | ⟨o, h⟩) | ⟨o, its, n, h, c, _⟩
  · exact .base (.lst h)
  · exact .base (.frz h)
  · exact .kList h c
/-! two values that show the same data: ints, texts, truth values, tuples and lists of such; at most n deep -/
def Sm (K : PySem.W.Frag) (H : Hp) : Nat → V → V → Prop
  | 0, _, _ => False
  | n + 1, v, w => (∃ i : Int, v = .int i ∧ w = .int i) ∨ (∃ s : Str, v = .str s ∧ w = .str s) ∨ (∃ b : Bool, v = .bl b ∧ w = .bl b) ∨
    (∃ (a b : Addr) (xs ys : List V), v = .ref a ∧ w = .ref b ∧ SqT K H a xs ∧ SqT K H b ys ∧ xs.length = ys.length ∧ xs.length ≤ 1000 ∧ ∀ (i : Nat) (x y : V), xs[i]? = some x → ys[i]? = some y → Sm K H n x y) ∨
    (∃ (a b : Addr) (xs ys : List V), v = .ref a ∧ w = .ref b ∧ H a = some (.lst xs) ∧ H b = some (.lst ys) ∧ xs.length = ys.length ∧ xs.length ≤ 1000 ∧ ∀ (i : Nat) (x y : V), xs[i]? = some x → ys[i]? = some y → Sm K H n x y)
theorem Sm.mono {K : PySem.W.Frag} {H H' : Hp} (g : Same H H') : ∀ {n : Nat} {v w : V}, Sm K H n v w → Sm K H' n v w
  | 0, _, _, h => h
  | n + 1, v, w, h => by
    rcases h with h | h | h | ⟨a, b, xs, ys, e1, e2, h1, h2, h3, h4, h5⟩ | ⟨a, b, xs, ys, e1, e2, h1, h2, h3, h4, h5⟩
    · exact .inl h
    · exact .inr (.inl h)
    · exact .inr (.inr (.inl h))
    · exact .inr (.inr (.inr (.inl ⟨a, b, xs, ys, e1, e2, seqT g h1, seqT g h2, h3, h4, fun i x y p q => Sm.mono g (h5 i x y p q)⟩)))
    · exact .inr (.inr (.inr (.inr ⟨a, b, xs, ys, e1, e2, g _ _ h1, g _ _ h2, h3, h4, fun i x y p q => Sm.mono g (h5 i x y p q)⟩)))
theorem Sm.int {K : PySem.W.Frag} {H : Hp} {n : Nat} (i : Int) : Sm K H (n + 1) (.int i) (.int i) := .inl ⟨i, rfl, rfl⟩
theorem Sm.str {K : PySem.W.Frag} {H : Hp} {n : Nat} (z : Str) : Sm K H (n + 1) (.str z) (.str z) := .inr (.inl ⟨z, rfl, rfl⟩)
theorem Sm.bl {K : PySem.W.Frag} {H : Hp} {n : Nat} (b : Bool) : Sm K H (n + 1) (.bl b) (.bl b) := .inr (.inr (.inl ⟨b, rfl, rfl⟩))
/-- place by place -/
def SmAll (K : PySem.W.Frag) (H : Hp) (n : Nat) (xs ys : List V) : Prop := xs.length = ys.length ∧ ∀ (i : Nat) (x y : V), xs[i]? = some x → ys[i]? = some y → Sm K H n x y
theorem SmAll.nil {K : PySem.W.Frag} {H : Hp} {n : Nat} : SmAll K H n [] [] := ⟨rfl, fun i x y e => by cases e⟩
theorem SmAll.cons {K : PySem.W.Frag} {H : Hp} {n : Nat} {x y : V} {xs ys : List V} (h : Sm K H n x y) (t : SmAll K H n xs ys) : SmAll K H n (x :: xs) (y :: ys) :=
  ⟨congrArg Nat.succ t.1, fun i a b e1 e2 => by
    cases i with
    | zero => cases e1; cases e2; exact h
    | succ i => exact t.2 i a b e1 e2⟩
theorem Sm.tup {K : PySem.W.Frag} {H : Hp} {n : Nat} {a b : Addr} {xs ys : List V} (h1 : SqT K H a xs) (h2 : SqT K H b ys) (hl : xs.length ≤ 1000) (t : SmAll K H n xs ys) : Sm K H (n + 1) (.ref a) (.ref b) :=
  .inr (.inr (.inr (.inl ⟨a, b, xs, ys, rfl, rfl, h1, h2, t.1, hl, t.2⟩)))
theorem Sm.lst {K : PySem.W.Frag} {H : Hp} {n : Nat} {a b : Addr} {xs ys : List V} (h1 : H a = some (.lst xs)) (h2 : H b = some (.lst ys)) (hl : xs.length ≤ 1000) (t : SmAll K H n xs ys) : Sm K H (n + 1) (.ref a) (.ref b) :=
  .inr (.inr (.inr (.inr ⟨a, b, xs, ys, rfl, rfl, h1, h2, t.1, hl, t.2⟩)))
def TK (K : PySem.W.Frag) (H H' : Hp) : Prop := ∀ (b : Addr) (xs : List V), SqT K H b xs → SqT K H' b xs
theorem TK.of {K : PySem.W.Frag} {H H' : Hp} (g : Same H H') : TK K H H' := fun b xs h => seqT g h
theorem TK.trans {K : PySem.W.Frag} {H H1 H2 : Hp} (g : TK K H H1) (g' : TK K H1 H2) : TK K H H2 := fun b xs h => g' b xs (g b xs h)
theorem TK.but {K : PySem.W.Frag} {H H' : Hp} (h : ∀ (b : Addr) (o : HO), (∀ xs, o ≠ .lst xs) → H b = some o → H' b = some o) : TK K H H' := fun b xs q => by
  rcases q with (q | ⟨o, q⟩) | q
  · exact .inl (.inl (h _ _ (by intro z e; cases e) q))
  · exact .inl (.inr ⟨o, h _ _ (by intro z e; cases e) q⟩)
  · exact .inr q
theorem TK.lst {K : PySem.W.Frag} {H : Hp} {D : Addr} {xs ys : List V} (h : H D = some (.lst xs)) : TK K H (upd H D (.lst ys)) := .but fun b o no q => by
  rw [upd_ne (fun e => by rw [e, h] at q; exact no _ (Option.some.inj q).symm)]
  exact q
theorem same_new {H : Hp} {p : Addr} (h : H p = none) (o : HO) : Same H (upd H p o) := fun b u q => by rw [upd_ne (ne_of_none q h)]; exact q
theorem same_over {H H' : Hp} {p : Addr} (g : Same H H') (h : H p = none) (o : HO) : Same H (upd H' p o) := fun b u q => by rw [upd_ne (ne_of_none q h)]; exact g _ _ q
/-- a comprehension's turn without a test -/
theorem kept {te : TE} {σ : St} {H : Hp} {R : V → Hp → Prop} {S : Hp → Prop} (h : te σ H R) : tYes σ H fun b H3 => if b = true then te σ H3 R else S H3 := iteT (A := te σ H R) (B := S H) h
/-- the built-in names that the program's text does not make its own -/
structure Bt (mg : Str → Option Value) : Prop where
  isi : mg "isinstance" = none
  lst : mg "list" = none
  tup : mg "tuple" = none
  len : mg "len" = none
  all : mg "all" = none
  zip : mg "zip" = none
  dict : mg "dict" = none
  int : mg "int" = none
  bool : mg "bool" = none
  range : mg "range" = none
section
variable {P : Program} {w : World} {K : PySem.W.Frag} {mg : Str → Option Value} {base : Heap} {f : Addr} {fd : FuncData}
theorem none_left {sp : Sp} {ps : List Str} {CX : CXT} (no : ∀ vs H Q E, ¬ sp vs H Q E) : FnOk P w K mg base CX 0 f fd ps sp :=
  ⟨fun vs H Q E h => absurd h (no vs H Q E), fun A outer s H args us vs Q E _ _ _ _ h => absurd h (no vs H Q E)⟩
theorem is_seq {K : PySem.W.Frag} {t : String} {b : Bool} (h1 : kitB t "list" = some false) (h2 : kitB t "tuple" = some b) : PySem.W.kitAny K (.type t) [.type "list", .type "tuple"] = some b :=
  kitAny_cons (kit_ty h1) (fun _ => kitAny_cons (kit_ty h2) (fun e => by rw [e]; exact kitAny_nil) (fun e => e)) (fun e => by cases e)
abbrev sSame : Stmt := topS 28
/-! zip of two tuples, as a walk -/
theorem walk_zipT {K : PySem.W.Frag} {a b : Addr} {xs ys : List V} (e : xs.length = ys.length) : Walk (RZ.ItzT K a b) xs.length (fun H => SqT K H a xs ∧ SqT K H b ys) (YPair (fun i => xs[i]?) (fun i => ys[i]?)) :=
  ⟨fun i _ hi q => ⟨xs, ys, xs[i], ys[i]'(by omega), q.1, q.2, List.getElem?_eq_getElem hi, List.getElem?_eq_getElem (by omega)⟩, fun _ q => ⟨xs, ys, q.1, q.2, .inl (Nat.le_refl _)⟩,
    fun i H v H' _ q ⟨T, x, y, h1, h2, h3, h4, h5⟩ => ⟨T, x, y, h1, h2, h3, h4 xs q.1, h5 ys q.2⟩⟩
def spSame (K : PySem.W.Frag) (n : Nat) : Sp := fun vs H Q _ => ∃ v u : V, vs = [v, u] ∧ Sm K H n v u ∧ ∀ H' : Hp, Same H H' → Q (.bl true) H'
abbrev namesS : List Str := ["_law_found", "_law_due", "_law_one", "_law_other"]
theorem scS : FnScope namesS ["_law_found", "_law_due"] (defScope sSame) := ⟨rfl, rfl, rfl, by decide +kernel, rfl, by decide +kernel, by decide +kernel⟩
theorem is_four {K : PySem.W.Frag} {t : String} (h1 : kitB t "int" = some false) (h2 : kitB t "list" = some false) (h3 : kitB t "tuple" = some false) (h4 : kitB t "dict" = some false) :
    PySem.W.kitAny K (.type t) [.type "int", .type "list", .type "tuple", .type "dict"] = some false :=
  kitAny_cons (kit_ty h1) (fun _ => kitAny_cons (kit_ty h2) (fun _ => kitAny_cons (kit_ty h3) (fun _ => kitAny_cons (kit_ty h4) (fun _ => kitAny_nil) (fun e => by cases e)) (fun e => by cases e)) (fun e => by cases e)) (fun e => by cases e)
theorem is_seqL {K : PySem.W.Frag} : PySem.W.kitAny K (.type "list") [.type "list", .type "tuple"] = some true :=
  kitAny_cons (kit_ty (r := true) (by decide +kernel)) (fun e => by cases e) (fun _ => rfl)
theorem iteC {c : Bool} {A B : Prop} (hc : c = true) (h : A) : if c = true then A else B := by
  rw [if_pos hc]
  exact h
theorem iteN {c : Bool} {A B : Prop} (hc : c = false) (h : B) : if c = true then A else B := by
  rw [if_neg (by rw [hc]; decide)]
  exact h
theorem all_true {n : Nat} : (List.replicate n true).all id = true := by
  rw [List.all_eq_true]
  intro x hx
  rw [(List.mem_replicate.mp hx).2]
  rfl
/-- the list of answers so far -/
def InvS (H0 : Hp) (D : Addr) (i : Nat) (H : Hp) : Prop := H D = some (.lst (List.replicate i (.bl true))) ∧ Same H0 H
theorem ok_same {n : Nat} (F : Fun K "_law_same" "_law_same" sSame f fd) (G : FnOk P w K mg base CX0 n f fd ["_law_found", "_law_due"] (spSame K n)) (bF : Binds K fd ["_law_found", "_law_due"] []) (kF : PySem.W.keepIn K (.ref f) = true) (mF : mg "_law_same" = some (.ref f)) (B : Bt mg) :
    FnOk P w K mg base CX0 (n + 1) f fd ["_law_found", "_law_due"] (spSame K (n + 1)) := by
  refine F.ok scS (fun vs H Q E h => ?_) (fun cdv A outer s H vs Q E hr h => ?_)
  · obtain ⟨v, u, rfl, _⟩ := h
    rfl
  obtain ⟨v, u, rfl, hA, q⟩ := h
  refine ⟨_, pss_cons (ps_if (pt_val (pe_callB call_isiT (by rfl) B.isi (by decide +kernel) (pa_cons (pv 1) (pa_cons (pe_tup (pa_cons (pe_bltn (v := .ty "list") (by rfl) B.lst (by decide +kernel) rfl) (pa_cons (pe_bltn (v := .ty "tuple") (by rfl) B.tup (by decide +kernel) rfl) pa_nil))) pa_nil))))
      (pss_cons (ps_if (PW.pt (pw_or (pt_cmpR op_ne (pe_callB call_isi (by rfl) B.isi (by decide +kernel) (pa_cons (pv 0) (pa_cons (pe_bltn (v := .ty "list") (by rfl) B.lst (by decide +kernel) rfl) pa_nil))) (pe_callB call_isi (by rfl) B.isi (by decide +kernel) (pa_cons (pv 1) (pa_cons (pe_bltn (v := .ty "list") (by rfl) B.lst (by decide +kernel) rfl) pa_nil))) (nomark _)) (pw_or1 (pt_cmpR op_ne (pe_callB call_isi (by rfl) B.isi (by decide +kernel) (pa_cons (pv 0) (pa_cons (pe_bltn (v := .ty "tuple") (by rfl) B.tup (by decide +kernel) rfl) pa_nil))) (pe_callB call_isi (by rfl) B.isi (by decide +kernel) (pa_cons (pv 1) (pa_cons (pe_bltn (v := .ty "tuple") (by rfl) B.tup (by decide +kernel) rfl) pa_nil))) (nomark _))))) (pss_one (ps_ret pe_bl)) pss_nil)
        (pss_one (ps_ret (pe_and (pe_cmpR op_eq (pe_callB call_len_seq (by rfl) B.len PySem.boot_len (pa_cons (pv 0) pa_nil)) (pe_callB call_len_seq (by rfl) B.len PySem.boot_len (pa_cons (pv 1) pa_nil)) (nomark _)) (pe_one (pe_callB (cr_all rfl) (by rfl) B.all (by decide +kernel) (pa_cons
          (pe_lc (own := [("_law_one", 2), ("_law_other", 3)]) (g := gTup K 2 (gCons (gName 2) (gCons (gName 3) gNil))) (tt := tYes) rfl scS.nd (RZ.pi_zipA (by rfl) B.zip (pa_cons (pv 0) (pa_cons (pv 1) pa_nil))) (blkOk_by (N := namesS) (sc := defScope sSame) (by decide +kernel))
            (fun _ _ _ _ _ => pg_tup rfl (pgs_cons (pg_name (i := 2) scS.nd rfl (Or.inl rfl)) (pgs_cons (pg_name (i := 3) scS.nd rfl (Or.inl rfl)) pgs_nil))) (fun _ _ _ _ _ => pts_nil)
            (fun _ _ _ _ _ => pe_call G hr rfl mF kF bF .nil pass0 (pa_cons (pv 2) (pa_cons (pv 3) pa_nil)))) pa_nil))))))) pss_nil)
    (pss_cons (ps_if (pt_val (pe_callB call_isi (by rfl) B.isi (by decide +kernel) (pa_cons (pv 1) (pa_cons (pe_bltn (v := .ty "dict") (by rfl) B.dict (by decide +kernel) rfl) pa_nil)))) (pss_cons ps_never (pss_one ps_never)) pss_nil)
    (pss_cons (ps_if (pt_val (pe_callB call_isi (by rfl) B.isi (by decide +kernel) (pa_cons (pv 1) (pa_cons (pe_bltn (v := .ty "int") (by rfl) B.int (by decide +kernel) rfl) pa_nil)))) (pss_one (ps_ret (pe_and (pe_callB call_isi (by rfl) B.isi (by decide +kernel) (pa_cons (pv 0) (pa_cons (pe_bltn (v := .ty "int") (by rfl) B.int (by decide +kernel) rfl) pa_nil))) (pe_and (pe_cmpR op_eq (pe_callB call_isi (by rfl) B.isi (by decide +kernel) (pa_cons (pv 0) (pa_cons (pe_bltn (v := .ty "bool") (by rfl) B.bool (by decide +kernel) rfl) pa_nil))) (pe_callB call_isi (by rfl) B.isi (by decide +kernel) (pa_cons (pv 1) (pa_cons (pe_bltn (v := .ty "bool") (by rfl) B.bool (by decide +kernel) rfl) pa_nil))) (nomark _)) (pe_one (pe_cmpR op_eq (pv 0) (pv 1) (nomark _))))))) pss_nil)
    (pss_one (ps_ret (pe_and (pe_cmpR op_eq (pv 0) (pv 1) (nomark _)) (pe_one (pe_cmpR op_isBl (pe_callB call_isiT (by rfl) B.isi (by decide +kernel) (pa_cons (pv 0) (pa_cons (pe_tup (pa_cons (pe_bltn (v := .ty "int") (by rfl) B.int (by decide +kernel) rfl) (pa_cons (pe_bltn (v := .ty "list") (by rfl) B.lst (by decide +kernel) rfl) (pa_cons (pe_bltn (v := .ty "tuple") (by rfl) B.tup (by decide +kernel) rfl) (pa_cons (pe_bltn (v := .ty "dict") (by rfl) B.dict (by decide +kernel) rfl) pa_nil))))) pa_nil))) pe_bl (nomark _)))))))), ?_⟩
  refine ⟨_, rfl, (by show 2 ≤ sizeLine; decide), fun t ht => ?_⟩
  have g1 : Same H (upd H t (.tup [.ty "list", .ty "tuple"])) := same_new ht _
  rcases hA with ⟨i, rfl, rfl⟩ | ⟨z, rfl, rfl⟩ | ⟨bb, rfl, rfl⟩ | ⟨a, b, xs, ys, rfl, rfl, h1, h2, h3, h4, h5⟩ | ⟨a, b, xs, ys, rfl, rfl, h1, h2, h3, h4, h5⟩
  · refine ⟨_, t, _, .type "int", [.type "list", .type "tuple"], false, rfl, upd_same, .cons (.ty _) (.cons (.ty _) .nil), .base (.int i), is_seq (by decide +kernel) (by decide +kernel), _, rfl, ?_⟩
    refine iteF ?_
    refine ⟨_, rfl, _, _, .type "int", .type "dict", false, rfl, .ty _, .base (.int i), kit_ty (by decide +kernel), _, rfl, ?_⟩
    refine iteF ?_
    refine ⟨_, rfl, _, _, .type "int", .type "int", true, rfl, .ty _, .base (.int i), kit_ty (by decide +kernel), _, rfl, ?_⟩
    refine iteT ?_
    refine ⟨_, rfl, _, _, .type "int", .type "int", true, rfl, .ty _, .base (.int i), kit_ty (by decide +kernel), _, rfl, ?_⟩
    refine iteT ?_
    refine ⟨_, rfl, _, _, .type "int", .type "bool", false, rfl, .ty _, .base (.int i), kit_ty (by decide +kernel), ?_⟩
    refine ⟨_, rfl, _, _, .type "int", .type "bool", false, rfl, .ty _, .base (.int i), kit_ty (by decide +kernel), ?_⟩
    refine ⟨rfl, _, rfl, iteC (decide_eq_true rfl) ?_⟩
    refine ⟨_, rfl, _, rfl, rfl, ?_⟩
    show Q (.bl (decide (V.int i = V.int i))) _
    rw [decide_eq_true rfl]
    exact q _ g1
  · refine ⟨_, t, _, .type "str", [.type "list", .type "tuple"], false, rfl, upd_same, .cons (.ty _) (.cons (.ty _) .nil), .base (.str z), is_seq (by decide +kernel) (by decide +kernel), _, rfl, ?_⟩
    refine iteF ?_
    refine ⟨_, rfl, _, _, .type "str", .type "dict", false, rfl, .ty _, .base (.str z), kit_ty (by decide +kernel), _, rfl, ?_⟩
    refine iteF ?_
    refine ⟨_, rfl, _, _, .type "str", .type "int", false, rfl, .ty _, .base (.str z), kit_ty (by decide +kernel), _, rfl, ?_⟩
    refine iteF ?_
    refine ⟨_, rfl, _, rfl, rfl, _, rfl, iteC (decide_eq_true rfl) ?_⟩
    refine ⟨_, rfl, (by show 4 ≤ sizeLine; decide), fun t2 ht2 => ?_⟩
    refine ⟨_, t2, _, .type "str", [.type "int", .type "list", .type "tuple", .type "dict"], false, rfl, upd_same, .cons (.ty _) (.cons (.ty _) (.cons (.ty _) (.cons (.ty _) .nil))), .base (.str z), is_four (by decide +kernel) (by decide +kernel) (by decide +kernel) (by decide +kernel), _, _, rfl, rfl, ?_⟩
    exact q _ (g1.trans (same_new ht2 _))
  · refine ⟨_, t, _, .type "bool", [.type "list", .type "tuple"], false, rfl, upd_same, .cons (.ty _) (.cons (.ty _) .nil), .base (.bl bb), is_seq (by decide +kernel) (by decide +kernel), _, rfl, ?_⟩
    refine iteF ?_
    refine ⟨_, rfl, _, _, .type "bool", .type "dict", false, rfl, .ty _, .base (.bl bb), kit_ty (by decide +kernel), _, rfl, ?_⟩
    refine iteF ?_
    refine ⟨_, rfl, _, _, .type "bool", .type "int", true, rfl, .ty _, .base (.bl bb), kit_ty (by decide +kernel), _, rfl, ?_⟩
    refine iteT ?_
    refine ⟨_, rfl, _, _, .type "bool", .type "int", true, rfl, .ty _, .base (.bl bb), kit_ty (by decide +kernel), _, rfl, ?_⟩
    refine iteT ?_
    refine ⟨_, rfl, _, _, .type "bool", .type "bool", true, rfl, .ty _, .base (.bl bb), kit_ty (by decide +kernel), ?_⟩
    refine ⟨_, rfl, _, _, .type "bool", .type "bool", true, rfl, .ty _, .base (.bl bb), kit_ty (by decide +kernel), ?_⟩
    refine ⟨rfl, _, rfl, iteC (decide_eq_true rfl) ?_⟩
    refine ⟨_, rfl, _, rfl, rfl, ?_⟩
    show Q (.bl (decide (V.bl bb = V.bl bb))) _
    rw [decide_eq_true rfl]
    exact q _ g1
  · refine ⟨_, t, _, .type "tuple", [.type "list", .type "tuple"], true, rfl, upd_same, .cons (.ty _) (.cons (.ty _) .nil), tyT (seqT g1 h2), is_seq (by decide +kernel) (by decide +kernel), _, rfl, ?_⟩
    refine iteT ?_
    have ka := seqT g1 h1
    have kb := seqT g1 h2
    refine ⟨_, rfl, _, _, .type "tuple", .type "list", false, rfl, .ty _, tyT ka, kit_ty (by decide +kernel), _, rfl, _, _, .type "tuple", .type "list", false, rfl, .ty _, tyT kb, kit_ty (by decide +kernel), rfl, _, rfl, ?_⟩
    refine iteN rfl ?_
    refine ⟨_, rfl, _, _, .type "tuple", .type "tuple", true, rfl, .ty _, tyT ka, kit_ty (by decide +kernel), _, rfl, _, _, .type "tuple", .type "tuple", true, rfl, .ty _, tyT kb, kit_ty (by decide +kernel), rfl, _, rfl, ?_⟩
    refine iteN rfl ?_
    refine ⟨_, rfl, a, xs, rfl, .inr (ka), _, rfl, b, ys, rfl, .inr (kb), rfl, _, rfl, iteC (decide_eq_true (by rw [h3])) ?_⟩
    refine ⟨_, rfl, _, rfl, a, b, xs, ys, rfl, .inr ⟨ka, kb, fun D hD => ?_⟩⟩
    have hD0 : H D = none := g1.free hD
    refine lc_it (walk_zipT (K := K) (a := a) (b := b) h3) (InvS H D) ⟨upd_same, same_over g1 hD0 _⟩ (fun i H' _ ⟨_, g⟩ => ⟨seqT g h1, seqT g h2⟩) ?_ ?_
    · rintro i v H' H'' hi ⟨hd, g⟩ ⟨T, x, y, rfl, hT, rfl, ex, ey⟩
      have gT : Same H' (upd H' T (.tup [x, y])) := same_new hT _
      have hi1 : i < 1001 := by omega
      refine ⟨T, [x, y], rfl, SqT.of upd_same, rfl, x, [y], rfl, y, [], rfl, rfl, ?_⟩
      refine ⟨rfl, kept ?_⟩
      refine ⟨_, rfl, _, rfl, x, y, rfl, (h5 i x y ex ey).mono (g.trans gT), fun H2 g2 => ?_⟩
      refine ⟨_, g2 _ _ (gT _ _ hd), by rw [List.length_replicate]; exact small1000 (by omega), by rw [upd_same, List.replicate_succ'], same_over ((g.trans gT).trans g2) hD0 _⟩
    · rintro H' ⟨hd, g⟩
      exact ⟨D, List.replicate xs.length true, rfl, SqL.of (by rw [hd, List.map_replicate]), by rw [all_true]; exact q _ g⟩
  · refine ⟨_, t, _, .type "list", [.type "list", .type "tuple"], true, rfl, upd_same, .cons (.ty _) (.cons (.ty _) .nil), .base (.lst (g1 _ _ h2)), is_seqL, _, rfl, ?_⟩
    refine iteT ?_
    have ka := g1 _ _ h1
    have kb := g1 _ _ h2
    refine ⟨_, rfl, _, _, .type "list", .type "list", true, rfl, .ty _, .base (.lst ka), kit_ty (by decide +kernel), _, rfl, _, _, .type "list", .type "list", true, rfl, .ty _, .base (.lst kb), kit_ty (by decide +kernel), rfl, _, rfl, ?_⟩
    refine iteN rfl ?_
    refine ⟨_, rfl, _, _, .type "list", .type "tuple", false, rfl, .ty _, .base (.lst ka), kit_ty (by decide +kernel), _, rfl, _, _, .type "list", .type "tuple", false, rfl, .ty _, .base (.lst kb), kit_ty (by decide +kernel), rfl, _, rfl, ?_⟩
    refine iteN rfl ?_
    refine ⟨_, rfl, a, xs, rfl, .inl (SqL.of ka), _, rfl, b, ys, rfl, .inl (SqL.of kb), rfl, _, rfl, iteC (decide_eq_true (by rw [h3])) ?_⟩
    refine ⟨_, rfl, _, rfl, a, b, xs, ys, rfl, .inl ⟨SqL.of ka, SqL.of kb, fun D hD => ?_⟩⟩
    have hD0 : H D = none := g1.free hD
    refine lc_it (walk_zip (K := K) (a := a) (b := b) (n := xs.length) (by omega)) (InvS H D) ⟨upd_same, same_over g1 hD0 _⟩ (fun i H' _ ⟨_, g⟩ => ⟨SqL.of (g _ _ h1), SqL.of (g _ _ h2)⟩) ?_ ?_
    · rintro i v H' H'' hi ⟨hd, g⟩ ⟨T, x, y, rfl, hT, rfl, ex, ey⟩
      have gT : Same H' (upd H' T (.tup [x, y])) := same_new hT _
      have hi1 : i < 1001 := by omega
      refine ⟨T, [x, y], rfl, SqT.of upd_same, rfl, x, [y], rfl, y, [], rfl, rfl, ?_⟩
      refine ⟨rfl, kept ?_⟩
      refine ⟨_, rfl, _, rfl, x, y, rfl, (h5 i x y ex ey).mono (g.trans gT), fun H2 g2 => ?_⟩
      refine ⟨_, g2 _ _ (gT _ _ hd), by rw [List.length_replicate]; exact small1000 (by omega), by rw [upd_same, List.replicate_succ'], same_over ((g.trans gT).trans g2) hD0 _⟩
    · rintro H' ⟨hd, g⟩
      exact ⟨D, List.replicate xs.length true, rfl, SqL.of (by rw [hd, List.map_replicate]), by rw [all_true]; exact q _ g⟩
abbrev sDraw : Stmt := topS 24
/-! the spring of numbers: a list of four, its first one a list of ints -/
def Spr (H : Hp) (st q : Addr) (b : Int) : Prop := ∃ (ns : List Int) (a c : Int), H st = some (.lst [.ref q, .int a, .int b, .int c]) ∧ H q = some (.lst (ns.map V.int)) ∧ 0 ≤ a ∧ 0 ≤ c ∧ c < 2147483647 ∧ ns.length ≤ 63
/-! all else is as it was -/
def SX (st q : Addr) (H H' : Hp) : Prop := ∀ (x : Addr) (o : HO), x ≠ st → x ≠ q → H x = some o → H' x = some o
theorem SX.refl {st q : Addr} {H : Hp} : SX st q H H := fun _ _ _ _ h => h
theorem SX.trans {st q : Addr} {H H1 H2 : Hp} (g : SX st q H H1) (g' : SX st q H1 H2) : SX st q H H2 := fun x o h1 h2 h => g' x o h1 h2 (g x o h1 h2 h)
theorem SX.of {st q : Addr} {H H' : Hp} (g : Same H H') : SX st q H H' := fun x o _ _ h => g x o h
theorem SX.st {st q : Addr} {H : Hp} {o : HO} : SX st q H (upd H st o) := fun x u h1 _ h => by rw [upd_ne h1]; exact h
theorem SX.q {st q : Addr} {H : Hp} {o : HO} : SX st q H (upd H q o) := fun x u _ h2 h => by rw [upd_ne h2]; exact h
theorem Spr.ne {H : Hp} {st q : Addr} {a b c : Int} {ns : List Int} (h1 : H st = some (.lst [.ref q, .int a, .int b, .int c])) (h2 : H q = some (.lst (ns.map V.int))) : q ≠ st := fun e => by
  rw [e, h1] at h2
  cases ns with
  | nil => cases h2
  | cons n r => cases h2
def spDraw : Sp := fun vs H Q _ => ∃ (st q : Addr) (b m : Int), vs = [.ref st, .int m] ∧ Spr H st q b ∧ 0 ≤ b ∧ b ≤ 1000 ∧ 0 < m ∧ m < 1073741824 ∧
  ∀ (r : Int) (H' : Hp), 0 ≤ r → r < m → Spr H' st q (b + 1) → SX st q H H' → Q (.int r) H'
theorem scD : FnScope ["_law_stream", "_law_many", "_law_digit", "_law_mixed_here"] ["_law_stream", "_law_many"] (defScope sDraw) := ⟨rfl, rfl, rfl, by decide +kernel, rfl, by decide +kernel, by decide +kernel⟩
theorem dp_ints {H : Hp} : ∀ ns : List Int, DpAll K H (ns.map V.int) (ns.map PyData.int)
  | [] => .nil
  | n :: r => .cons (.int n) (dp_ints r)
theorem first_ix {n : Nat} (h : 0 < n) : seqIndex? 0 n = some 0 := (ixN_seq (n := n) (i := 0) (j := 0) (by unfold ixN; rw [if_pos (by decide), if_pos (by omega)]; rfl)).1
theorem ok_draw (F : Fun K "_law_draw" "_law_draw" sDraw f fd) (B : Bt mg) : FnOk P w K mg base CX0 1 f fd ["_law_stream", "_law_many"] spDraw := by
  refine F.ok scD (fun vs H Q E h => ?_) (fun cdv A outer s H vs Q E hr h => ?_)
  · obtain ⟨st, q, b, m, rfl, _⟩ := h
    rfl
  obtain ⟨st, q, b, m, rfl, ⟨ns, a, c, h1, h2, ha, hc, hc2, hns⟩, hb0, hb1, hm0, hm1, k⟩ := h
  refine ⟨_, pss_cons (ps_asg (pe_op op_add (pe_ix ix_list (pv 0) pe_int (fun _ _ => rfl)) pe_int) (pg_sub (pv 0) pe_int set_list))
    (C8.pss_cut (ps_if (PW.pt (pw_and (pt_cmpR op_eq (pe_ix ix_list (pv 0) pe_int (fun _ _ => rfl)) pe_int (nomark _)) (pw_and1 (pt_cmpR (op_neD hr.units) (pe_ix ix_list (pv 0) pe_int (fun _ _ => rfl)) (pe_lst pa_nil) (nomark _))))) (pss_cons (ps_asg (pe_bm PySem.F.plainAttrs_list PySem.F.slot_list_pop PySem.F.type_list_pop mt_popAt (pe_ix ix_list (pv 0) pe_int (fun _ _ => rfl)) (pa_cons pe_int pa_nil)) (pg_sub (pv 0) pe_int set_list)) (pss_one (ps_if (pt_cmpR op_lt (pe_ix ix_list (pv 0) pe_int (fun _ _ => rfl)) (pe_op op_pow pe_int pe_int) (nomark _)) (pss_cons (ps_asg (pe_op op_mod (pe_callTy call_int1 (by rfl) B.int (by decide +kernel) (pa_cons (pe_op op_add (pe_op op_add (pe_op op_mul (pe_ix ix_list (pv 0) pe_int (fun _ _ => rfl)) pe_int) (pe_ix ix_list (pv 0) pe_int (fun _ _ => rfl))) pe_int) pa_nil)) pe_int) (pg_sub (pv 0) pe_int set_list)) (pss_one (ps_asg pe_int (pg_sub (pv 0) pe_int set_list)))) pss_nil))) pss_nil)
    (pss_cons (ps_if (pt_cmpR op_gt (pe_ix ix_list (pv 0) pe_int (fun _ _ => rfl)) pe_int (nomark _)) (pss_cons (ps_set (i := 2) scD.nd rfl (Or.inl rfl) (pe_op op_mod (pe_callTy call_int1 (by rfl) B.int (by decide +kernel) (pa_cons (pe_ix ix_list (pv 0) pe_int (fun _ _ => rfl)) pa_nil)) (pv 1))) (pss_cons (ps_asg (pe_op op_fdiv (pe_ix ix_list (pv 0) pe_int (fun _ _ => rfl)) (pv 1)) (pg_sub (pv 0) pe_int set_list)) (pss_one (ps_ret (pv 2))))) pss_nil)
    (pss_cons (ps_set (i := 3) scD.nd rfl (Or.inl rfl) (pe_op op_mod (pe_op op_pow (pe_op op_add (pe_op op_add (pe_ix ix_list (pv 0) pe_int (fun _ _ => rfl)) (pe_op op_mul pe_int (pe_ix ix_list (pv 0) pe_int (fun _ _ => rfl)))) pe_int) pe_int) pe_int))
    (pss_one (ps_ret (pe_op op_mod (pe_op op_mod (pe_op op_pow (pe_op op_add (pe_op op_add (pe_op op_mul (pv 3) pe_int) (pe_op op_mul (pe_op op_mul pe_int (pe_ix ix_list (pv 0) pe_int (fun _ _ => rfl))) (pe_ix ix_list (pv 0) pe_int (fun _ _ => rfl)))) pe_int) pe_int) pe_int) (pv 1))))))), ?_⟩
  have nqs : q ≠ st := Spr.ne h1 h2
  refine ⟨_, rfl, st, _, _, _, rfl, rfl, SqL.of h1, rfl, _, _, rfl, rfl, _, rfl, st, _, _, _, rfl, rfl, h1, rfl, ?_⟩
  have e1 : upd H st (.lst [.ref q, .int a, .int (b + 1), .int c]) st = some (.lst [.ref q, .int a, .int (b + 1), .int c]) := upd_same
  have e2 : upd H st (.lst [.ref q, .int a, .int (b + 1), .int c]) q = some (.lst (ns.map V.int)) := by rw [upd_ne nqs]; exact h2
  have gx : SX st q H (upd H st (.lst [.ref q, .int a, .int (b + 1), .int c])) := SX.st
  refine ⟨fun σ' H' => σ' = [some (.ref st), some (.int m), none, none] ∧ Spr H' st q (b + 1) ∧ SX st q H H', ?_, ?_⟩
  · refine ⟨_, rfl, st, _, _, _, rfl, rfl, SqL.of e1, rfl, rfl, _, rfl, ?_⟩
    refine ite2 (fun ca => ?_) (fun _ => ⟨rfl, ⟨ns, a, c, e1, e2, ha, hc, hc2, hns⟩, gx⟩)
    have ca0 : a = 0 := by
      have z := of_decide_eq_true ca
      cases z
      rfl
    refine ⟨_, rfl, st, _, _, _, rfl, rfl, SqL.of e1, rfl, Nat.zero_le _, fun l hl => ?_⟩
    have g2 := same_new hl (.lst [])
    have f1 := g2 _ _ e1
    have f2 := g2 _ _ e2
    have gx2 := gx.trans (.of g2)
    cases ns with
    | nil =>
      refine ⟨.list [], .list [], .lst (SqL.of f2) .nil, .lst (SqL.of upd_same) .nil, by decide +kernel, by decide +kernel, _, rfl, ?_⟩
      refine iteN (by decide +kernel) ⟨rfl, ⟨[], a, c, f1, f2, ha, hc, hc2, hns⟩, gx2⟩
    | cons n r =>
      refine ⟨.list ((n :: r).map PyData.int), .list [], .lst (SqL.of f2) (dp_ints _), .lst (SqL.of upd_same) .nil, PySem.W.ke_shaped_ints _, by decide +kernel, _, rfl, ?_⟩
      refine iteC rfl ?_
      refine ⟨_, rfl, st, _, _, _, rfl, rfl, SqL.of f1, rfl, .inl ⟨rfl, _, SqL.of f2⟩, q, _, 0, 0, _, rfl, rfl, f2, by decide, by decide, first_ix (by simp), rfl, ?_⟩
      have p1 := (upd_ne (o := .lst (r.map V.int)) nqs.symm).trans f1
      have gx3 := gx2.trans (SX.q (o := .lst (r.map V.int)))
      refine ⟨_, rfl, st, _, _, _, rfl, rfl, p1, rfl, ?_⟩
      have gx4 := gx3.trans (SX.st (o := .lst [.ref q, .int n, .int (b + 1), .int c]))
      refine ⟨_, rfl, st, _, _, _, rfl, rfl, SqL.of upd_same, rfl, _, _, rfl, rfl, ⟨by decide, by decide, by decide⟩, _, _, rfl, rfl, _, rfl, ?_⟩
      refine ite2 (fun cn => ?_) (fun cn => ?_)
      · refine ⟨_, rfl, st, _, _, _, rfl, rfl, SqL.of upd_same, rfl, _, _, rfl, rfl, .inr ⟨by decide, by decide⟩, _, rfl, st, _, _, _, rfl, rfl, SqL.of upd_same, rfl, _, _, rfl, rfl, _, _, rfl, rfl, .inl ⟨_, rfl, ?_⟩⟩
        refine ⟨_, _, rfl, rfl, (by show (0 : Int) < 2147483647; decide), _, rfl, st, _, _, _, rfl, rfl, upd_same, rfl, _, rfl, st, _, _, _, rfl, rfl, upd_same, rfl, ?_⟩
        refine ⟨rfl, ⟨r, 0, (c * 31 + n + 7) % 2147483647, upd_same, ?_, by decide, Int.emod_nonneg _ (by decide), Int.emod_lt_of_pos _ (by decide), by simp at hns; omega⟩, (gx4.trans SX.st).trans SX.st⟩
        rw [upd_ne nqs, upd_ne nqs, upd_ne nqs, upd_same]
        rfl
      · have cn1 : ¬ n < (10 : Int) ^ 18 := of_decide_eq_false (Bool.eq_false_iff.mpr cn)
        refine ⟨rfl, ⟨r, n, c, upd_same, ?_, by omega, hc, hc2, by simp at hns; omega⟩, gx4⟩
        rw [upd_ne nqs, upd_same]
        rfl
  · rintro σ' H' ⟨rfl, ⟨ns', a', c', d1, d2, ha', hc', hc2', hns'⟩, g'⟩
    refine ⟨_, rfl, st, _, _, _, rfl, rfl, SqL.of d1, rfl, _, _, rfl, rfl, _, rfl, ?_⟩
    refine ite2 (fun cp => ?_) (fun cp => ?_)
    · have cp1 : a' > 0 := of_decide_eq_true cp
      refine ⟨_, rfl, st, _, _, _, rfl, rfl, SqL.of d1, rfl, .inl ⟨_, rfl, ?_⟩⟩
      refine ⟨_, rfl, _, _, rfl, rfl, hm0, _, rfl, st, _, _, _, rfl, rfl, SqL.of d1, rfl, _, rfl, _, _, rfl, rfl, ⟨hm0, hm1⟩, _, rfl, st, _, _, _, rfl, rfl, d1, rfl, _, rfl, ?_⟩
      exact k _ _ (Int.emod_nonneg _ (by omega)) (Int.emod_lt_of_pos _ hm0) ⟨ns', a' / m, c', upd_same, by rw [upd_ne nqs]; exact d2, Int.ediv_nonneg ha' (by omega), hc', hc2', hns'⟩ (g'.trans SX.st)
    · refine ⟨_, rfl, st, _, _, _, rfl, rfl, SqL.of d1, rfl, _, rfl, st, _, _, _, rfl, rfl, SqL.of d1, rfl, _, _, rfl, rfl, .inl ⟨by decide, by decide⟩, _, _, rfl, rfl, _, _, rfl, rfl, _, _, rfl, rfl, ⟨by decide, by decide, ?_⟩, _, _, rfl, rfl, (by show (0 : Int) < 2147483629; decide), ?_⟩
      · show (c' + 104729 * (b + 1) + 17).natAbs < 18446744073709551616
        omega
      have x0 : 0 ≤ (c' + 104729 * (b + 1) + 17) ^ (5 : Int).toNat % 2147483629 := Int.emod_nonneg _ (by decide)
      have x1 : (c' + 104729 * (b + 1) + 17) ^ (5 : Int).toNat % 2147483629 < 2147483629 := Int.emod_lt_of_pos _ (by decide)
      refine ⟨_, rfl, _, _, rfl, rfl, .inr ⟨by decide, by decide⟩, _, rfl, st, _, _, _, rfl, rfl, SqL.of d1, rfl, _, _, rfl, rfl, .inl ⟨by decide, by decide⟩, _, rfl, st, _, _, _, rfl, rfl, SqL.of d1, rfl, _, _, rfl, rfl, .inr ⟨?_, ?_⟩, _, _, rfl, rfl, _, _, rfl, rfl, _, _, rfl, rfl, ⟨by decide, by decide, ?_⟩, _, _, rfl, rfl, (by show (0 : Int) < 1000000007; decide), _, rfl, _, _, rfl, rfl, hm0, ?_⟩
      · show -(18446744073709551616 : Int) < b + 1
        omega
      · show b + 1 < (18446744073709551616 : Int)
        omega
      · show ((c' + 104729 * (b + 1) + 17) ^ (5 : Int).toNat % 2147483629 * 48271 + 40503 * (b + 1) * (b + 1) + 13).natAbs < 18446744073709551616
        have y0 : 0 ≤ 40503 * (b + 1) * (b + 1) := Int.mul_nonneg (by omega) (by omega)
        have y1 : 40503 * (b + 1) * (b + 1) ≤ 40543503 * 1001 := Int.mul_le_mul (by omega) (by omega) (by omega) (by omega)
        revert x0 x1 y0 y1
        generalize (c' + 104729 * (b + 1) + 17) ^ (5 : Int).toNat % 2147483629 = x
        generalize 40503 * (b + 1) * (b + 1) = y
        intro x0 x1 y0 y1
        omega
      · exact k _ _ (Int.emod_nonneg _ (by omega)) (Int.emod_lt_of_pos _ hm0) ⟨ns', a', c', d1, d2, ha', hc', hc2', hns'⟩ g'
theorem Spr.same {H H' : Hp} {st q : Addr} {b : Int} (g : Same H H') : Spr H st q b → Spr H' st q b
  | ⟨ns, a, c, h1, h2, r⟩ => ⟨ns, a, c, g _ _ h1, g _ _ h2, r⟩
theorem TK.sx {H H' : Hp} {st q : Addr} {b : Int} (s : Spr H st q b) (g : SX st q H H') : TK K H H' := by
  obtain ⟨ns, a, c, h1, h2, _⟩ := s
  exact .but fun t o no h => g _ _ (fun e => by rw [e, h1] at h; exact no _ (Option.some.inj h).symm) (fun e => by rw [e, h2] at h; exact no _ (Option.some.inj h).symm) h
abbrev sStart : Stmt := topS 25
abbrev sPick : Stmt := topS 26
def spStart (K : PySem.W.Frag) : Sp := fun vs H Q _ => ∃ (a : Addr) (ns : List Int), vs = [.ref a] ∧ SqL K H a (ns.map V.int) ∧ ns.length ≤ 63 ∧
  ∀ (st q : Addr) (H' : Hp), Same H H' → Spr H' st q 0 → Q (.ref st) H'
theorem scT : FnScope ["_law_script"] ["_law_script"] (defScope sStart) := ⟨rfl, rfl, rfl, by decide +kernel, rfl, by decide +kernel, by decide +kernel⟩
theorem ok_start (F : Fun K "_law_start" "_law_start" sStart f fd) (B : Bt mg) : FnOk P w K mg base CX0 1 f fd ["_law_script"] (spStart K) := by
  refine F.ok scT (fun vs H Q E h => ?_) (fun cdv A outer s H vs Q E hr h => ?_)
  · obtain ⟨a, ns, rfl, _⟩ := h
    rfl
  obtain ⟨a, ns, rfl, hS, hn, k⟩ := h
  refine ⟨_, pss_one (ps_ret (pe_lst (pa_cons (pe_callTy call_list_of (by rfl) B.lst (by decide +kernel) (pa_cons (pv 0) pa_nil)) (pa_cons pe_int (pa_cons pe_int (pa_cons pe_int pa_nil)))))), ?_⟩
  refine ⟨_, rfl, a, _, rfl, .inl hS, fun l hl => ?_⟩
  have g1 := same_new hl (.lst (ns.map V.int))
  refine ⟨(by show 4 ≤ sizeLine; decide), fun t ht => ?_⟩
  have g2 := same_new ht (.lst [.ref l, .int 0, .int 0, .int 0])
  exact k t l _ (g1.trans g2) ⟨ns, 0, 0, upd_same, g2 _ _ upd_same, by decide, by decide, by decide, hn⟩
def spPick (K : PySem.W.Frag) : Sp := fun vs H Q _ => ∃ (st q p : Addr) (b : Int) (xs : List V), vs = [.ref st, .ref p] ∧ Spr H st q b ∧ 0 ≤ b ∧ b ≤ 1000 ∧ H p = some (.lst xs) ∧ p ≠ st ∧ p ≠ q ∧ 0 < xs.length ∧ xs.length ≤ 1000 ∧
  ∀ (v : V) (H' : Hp), v ∈ xs → Spr H' st q (b + 1) → SX st q H H' → Q v H'
theorem scP : FnScope ["_law_stream", "_law_some"] ["_law_stream", "_law_some"] (defScope sPick) := ⟨rfl, rfl, rfl, by decide +kernel, rfl, by decide +kernel, by decide +kernel⟩
theorem at_int {xs : List V} {r : Int} (h0 : 0 ≤ r) (h1 : r < (xs.length : Int)) : ∃ v, v ∈ xs ∧ atI xs r = some v := by
  have hk : r.toNat < xs.length := by omega
  refine ⟨xs[r.toNat], List.getElem_mem hk, ?_⟩
  have q := atI_nat (xs := xs) (j := r.toNat) (v := xs[r.toNat]) (List.getElem?_eq_getElem hk)
  rwa [show ((r.toNat : Nat) : Int) = r by omega] at q
theorem ok_pick (F : Fun K "_law_pick" "_law_pick" sPick f fd) {g : Addr} {gd : FuncData} (G : FnOk P w K mg base CX0 1 g gd ["_law_stream", "_law_many"] spDraw) (bG : Binds K gd ["_law_stream", "_law_many"] []) (kG : PySem.W.keepIn K (.ref g) = true) (mG : mg "_law_draw" = some (.ref g)) (B : Bt mg) :
    FnOk P w K mg base CX0 2 f fd ["_law_stream", "_law_some"] (spPick K) := by
  refine F.ok scP (fun vs H Q E h => ?_) (fun cdv A outer s H vs Q E hr h => ?_)
  · obtain ⟨st, q, p, b, xs, rfl, _⟩ := h
    rfl
  obtain ⟨st, q, p, b, xs, rfl, hs, hb0, hb1, hp, n1, n2, hx0, hx1, k⟩ := h
  refine ⟨_, pss_one (ps_ret (pe_ix ix_list (pv 1) (pe_call G hr rfl mG kG bG .nil pass0 (pa_cons (pv 0) (pa_cons (pe_callB call_len_seq (by rfl) B.len PySem.boot_len (pa_cons (pv 1) pa_nil)) pa_nil))) (fun _ _ => rfl))), ?_⟩
  refine ⟨_, rfl, _, rfl, _, rfl, p, xs, rfl, .inl (SqL.of hp), st, q, b, _, rfl, hs, hb0, hb1, by omega, by omega, fun r H' r0 r1 hs' gx => ?_⟩
  obtain ⟨v, hv, ev⟩ := at_int r0 r1
  exact ⟨p, xs, r, v, rfl, rfl, SqL.of (gx _ _ n1 n2 hp), ev, k v H' hv hs' gx⟩
theorem all_nil {p : V → Prop} : ∀ x ∈ ([] : List V), p x := fun x h => by cases h
theorem all_cons {p : V → Prop} {a : V} {l : List V} (h : p a) (t : ∀ x ∈ l, p x) : ∀ x ∈ a :: l, p x := fun x q => by
  cases q with
  | head => exact h
  | tail _ q => exact t x q
end
end Lw
namespace PySem.W
open PySem PySem.Calls PyProof.Rows
section
variable {M : Model} {A : Around} {E : Value → Shared → Prop} {s : Shared} {K : Frag} {env : Env} {pos p : Pos} {f : Value} {first : List Value} {Q : Value → Shared → Prop} {h₀ : Heap} {e : Expr} {rest : List Expr}
/-- f(*x, k = v): the starred one is read last -/
theorem lone_kw {x : Sem Value} {kw : List (Option Str × Sem Value)} {R : Args → Shared → Prop} (hall : kw.all (·.1.isSome) = true)
    (h : wpAny M A x (fun v s1 => wpAny M A (evalAll (kw.map (·.2))) (fun ks s2 => StarOf M A E v (fun vs s3 => R ⟨vs, (kw.filterMap (·.1)).zip ks⟩ s3) s2) E s1) E s) :
    wpAny M A (evalArgs f true [(true, (do let v ← x; standAt pos; pure v))] kw) R E s := by
  unfold evalArgs
  first
    | refine wpAny_bind (wpAny_bind (wpAny_mono h (fun v s1 h1 => wpAny_bind (wpAny_standAt (wpAny_pure ?_))) fun _ _ x => x))
    | refine wpAny_bind (wpAny_bind (wpAny_bind (wpAny_mono h (fun v s1 h1 => wpAny_bind (wpAny_standAt (wpAny_pure (wpAny_pure ?_)))) fun _ _ x => x)))
  refine wpAny_holding ?_
  simp only [hall, if_true]
  refine wpAny_bind (wpAny_mono h1 (fun ks s2 h2 => ?_) fun _ _ x => x)
  unfold StarOf at h2
  refine wpAny_bind (wpAny_bind (wpAny_mono h2 (fun b s3 h3 => ?_) fun _ _ x => x))
  obtain ⟨rfl, h3⟩ := h3
  have z := wpAny_holding (vs := ((kw.filterMap (·.1)).zip ks).map (·.2)) (wpAny_mono h3 (fun vs s4 h4 => (wpAny_pure h4 : wpAny M A (pure (⟨vs, (kw.filterMap (·.1)).zip ks⟩ : Args)) R E s4)) fun _ _ x => x)
  try simp only [Bool.false_eq_true, if_false]
  first
    | exact z
    | exact wpAny_bind (wpAny_pure z)
    | exact wpAny_bind z
theorem call_star_kw {P : Heap → Prop} {args : List (Bool × Sem Value)} {kw : List (Option Str × Sem Value)} (hst : args.any (·.1) = true)
    (hk : ∀ h, P h → ∃ k, (k = Keeper.frame ∨ k = Keeper.machine ∨ k = Keeper.boundFrame) ∧ Looks M h (keeperOf f) k)
    (h : wpAny M A (evalArgs f true args kw) (fun a s1 => P s1.heap ∧ wpAny M A (call f (first ++ a.pos) a.kw) Q E s1) E s) : wpAny M A (callWith pos f first args kw) Q E s := by
  unfold callWith
  refine wpAny_bind (wpAny_holding (wpAny_mono h (fun a s1 h1 => wpAny_bind (wpAny_standAt ?_)) fun _ _ x => x))
  obtain ⟨k, hk', L⟩ := hk _ h1.1
  simp only [hst, Bool.true_or]
  refine wpAny_bind (L.here ?_)
  have fin : ∀ {t : Sem Value}, wpAny M A t Q E s1 → wpAny M A (t >>= fun r => holding [r] point >>= fun _ => pure r) Q E s1 :=
    fun ht => wpAny_bind (wpAny_mono ht (fun r s2 hr => wpAny_bind (wpAny_holding (wpAny_point (wpAny_pure hr)))) fun _ _ x => x)
  have mrk (mk : Value) : wpAny M A (callMarked mk f (first ++ a.pos) a.kw) Q E s1 := by unfold callMarked; exact Calls.wpAny_keep h1.2
  rcases hk' with rfl | rfl | rfl <;> dsimp only <;> first | exact fin (mrk _) | exact fin h1.2 | exact fin (wpAny_operating h1.2)
end
end PySem.W
namespace L2
open PySem PySem.Spec PyProof.Rows
/-- raise C(): an own class without an __init__ of its own -/
theorem pmk_own0 {X : Cx} {C : Addr} {bmB : List Value} {B newId initId : String} {x : Str} {p pos : Pos} (F : ExcBaseFacts B newId initId bmB) (q : PySem.W.excIn X.K C bmB newId = true) (gC : X.mg x = some (.ref C))
    (kC : PySem.W.keepIn X.K (.ref C) = true) (r : Raises X (.ref C)) (hg : Gl X x) (hdb : (x == ("__debug__" : Str)) = false := by decide) : PMk X (.Call (.Name x p) [] [] pos) (fun _ H Q => Q (.ref C) none H) := by
  intro pins s σ H Q I h
  refine wpAny_Call_Name_kw (ld_glob I hg gC ?_ hdb)
  refine PySem.W.callWith_KW0 (h₀ := X.base) (kws := []) I.ok.mod.kin kC rfl ?_ rfl
  refine wpAny_evalAll_nil ⟨I.kIn, ?_⟩
  show wpAny _ _ (call (.ref C) []) _ _ _
  obtain ⟨bm, N, nm, qn, bs, hdct, sn, sub, ab, col, dd, k0, k1, k2, k3, k5, mN, hC, hN, hni, T⟩ := exc_obj I.kIn q
  refine wpAny_call_exc_subT F T hC hN hni (fun h' e hm => ?_) (by show 0 ≤ sizeLine; decide)
  exact mk_of I hm r h (I.hok.gone hm.new)
/-! a class whose __init__ is (self, *v, k=d): what it promises, by the items of v and the value of k -/
/-- self, the positional items, the keyword's value -/
abbrev SpF := V → List V → V → Hp → VK → XK → Prop
/-- how such a call is written: the keyword there (its value), or not -/
def KwOf (kn : Str) : Option Value → List (Str × Value)
  | some u => [(kn, u)]
  | none => []
def FnF (P : Program) (w : World) (K : PySem.W.Frag) (mg : Str → Option Value) (base : Heap) (CX : CXT) (k : Nat) (f : Addr) (kn : Str) (d : V) (sp : SpF) : Prop :=
  ∀ (A : Around) (outer : List Env) (s : Shared) (H : Hp) (x : V) (xu : Value) (us : List Value) (vs : List V) (ku : Option Value) (kv : V) (Q : VK) (E : XK), Room k A → Env0 P w K mg base A outer s H → RelV x xu → Vals vs us → vs.length ≤ sizeLine →
    (∀ u, ku = some u → RelV kv u) → (ku = none → kv = d) → sp x vs kv H Q E → codeAny (model P w) A (.call (.ref f) ⟨xu :: us, KwOf kn ku⟩) (CR CX outer P w H s Q E) s
section
variable {CX : CXT} {P : Program} {w : World} {K : PySem.W.Frag} {mg : Str → Option Value} {base : Heap} {k : Nat} {f D : Addr} {name qual : Str} {params : Arguments} {body : List Stmt} {scope : Scope} {doc pm cdv ct oc : Value} {an od : Option Addr}
  {osl : Array (Option Value)} {N : List Str}
theorem fn_F {p1 kn pv : Str} {d : V} {du : Value} {sp : SpF} (lk : K.lookup f = some ⟨oc, od, .func (PySem.W.fnOf name qual params body scope .none (.ref D) doc pm an cdv ct), osl⟩) (hcd : PySem.W.codeIn K cdv qual = true) (S : FnScope N [p1, kn, pv] scope) (hCX : StX.CXUp CX)
    (hd : PySem.W.nsIn K D kn = some (some du)) (rd : RelV d du)
    (hb1 : ∀ (x u : Value) (us : List Value), bindArgs (PySem.W.fnOf name qual params body scope .none (.ref D) doc pm an cdv ct) ⟨x :: us, [(kn, u)]⟩ = (newTuple us >>= fun t => pure [(p1, x), (kn, u), (pv, t)]))
    (hb0 : ∀ (x : Value) (us : List Value), ∃ (β γ : Type) (k1 : Option Value → Sem β) (k2 : β → Sem γ) (k3 : γ → Sem (List (Str × Value))) (a : β), bindArgs (PySem.W.fnOf name qual params body scope .none (.ref D) doc pm an cdv ct) ⟨x :: us, []⟩ = ((nsGet D kn >>= k1) >>= k2) >>= k3 ∧
      k1 (some du) = pure a ∧ (k2 a >>= k3) = (newTuple us >>= fun t => pure [(p1, x), (kn, du), (pv, t)]))
    (hbody : ∀ (A : Around) (outer : List Env) (s : Shared) (H : Hp) (x : V) (vs : List V) (kv : V) (p : Addr) (H0 : Hp) (Q : VK) (E : XK), Room k (A.deeper (envOfC qual scope s.heap.objs.size f cdv)) → H0 p = none → H = upd H0 p (.tup vs) → sp x vs kv H0 Q E →
      ∃ t, PSs (cxOf CX P w K mg base N qual scope f cdv A outer s H E) body t ∧ t { nx := fun _ H' => Q .non H', rt := Q } (start N [x, kv, .ref p]) H) :
    FnF P w K mg base CX (k + 1) f kn d sp := by
  intro A outer s H x xu us vs ku kv Q E hr e0 rx rv hz hk1 hk0 hsp
  have hn : H s.heap.objs.size = Option.none := e0.hok.fresh (Nat.le_refl _)
  have hl2 : us.length ≤ sizeLine := by rw [← rv.length]; exact hz
  have KX : K.In s.heap := e0.mod.kin.keeps fun b o e => (e0.bs b o e).1
  refine StX.run_bnd lk hcd S hr e0 (G := fun xs H2 => ∃ p, H p = Option.none ∧ xs = [x, kv, V.ref p] ∧ H2 = upd H p (.tup vs)) (fun A' Ex Q' h => ?_) fun s2 H2 xs ⟨p, hp, ex, eH⟩ hr' => ?_
  · have fin : ∀ ku', RelV kv ku' → wpAny (model P w) A' (newTuple us >>= fun t => pure [(p1, xu), (kn, ku'), (pv, t)]) Q' Ex s := fun ku' rk => by
      refine wpAny_bind (wpAny_newTuple (wpAny_pure ?_) hl2)
      have new : ObjOk P w (upd H s.heap.objs.size (.tup vs)) (s.heap.push ({ cls := .type "tuple", data := .seq us.toArray } : Obj)) s.heap.objs.size (.tup vs) := ⟨hz, us, rv, ⟨_, Heap.get?_push_size _ rfl, rfl, _, rfl⟩⟩
      have un := StX.un_laid (fs := frs outer) (s := s) (o := ({ cls := .type "tuple", data := .seq us.toArray } : Obj)) (u := .tup vs) hn
      exact h _ _ [x, kv, V.ref s.heap.objs.size] [xu, ku', Value.ref s.heap.objs.size] (StX.env0_laid e0 new) un rfl (fun e s' => hCX outer s H _ _ E e s' un (fun b o q => Heap.get?_push_of_some _ q) rfl) (.cons rx (.cons rk (.cons rfl .nil))) rfl ⟨_, hn, rfl, rfl⟩
    cases ku with
    | some u =>
      show wpAny _ _ (bindArgs _ ⟨xu :: us, [(kn, u)]⟩) _ _ _
      rw [hb1]
      exact fin u (hk1 u rfl)
    | none =>
      obtain ⟨β, γ, k1, k2, k3, a, e1, e2, e3⟩ := hb0 xu us
      show wpAny _ _ (bindArgs _ ⟨xu :: us, []⟩) _ _ _
      rw [e1, bind_assoc]
      refine wpAny_bind (((PySem.W.looks_nsIn KX hd).andThen (PySem.W.Looks.of_pure e2)).here ?_)
      rw [e3]
      exact fin du (by rw [hk0 rfl]; exact rd)
  · subst ex
    exact hbody A outer s2 H2 x vs kv p H Q E hr' hp eH hsp
end
/-- C(..): a new instance and its dict, then the promise of its __init__ -/
def mkF (C : Addr) (sp : SpF) (E : XK) (vs : List V) (kv : V) (H : Hp) (Q : VK) : Prop := ∀ x dx, H x = none → H dx = none → dx ≠ x → sp (.ref x) vs kv (upd (upd H dx (.own x)) x (.ins C dx [])) (fun v H2 => v = .non ∧ Q (.ref x) H2) E
section
variable {X : Cx} {CX : CXT} {k : Nat} {f C : Addr} {kn x : Str} {d : V} {sp : SpF} {E : XK} {e : Expr} {es : List Expr} {te tk : TE} {t : TA} {p pos kpos sp_ : Pos}
theorem run_makeF {pins : List (Addr × Obj)} {σ : St} {H : Hp} {s : Shared} {Q : VK} {us : List Value} {vs : List V} {ku : Option Value} {kv : V} (M : Mk X.K C f) (F : FnF X.prog X.w X.K X.mg X.base CX k f kn d sp) (hr : Room (k + 1) X.A) (hx : Passes CX X E)
    (I : Inv X pins σ H s) (r : Vals vs us) (hz : vs.length ≤ sizeLine) (hk1 : ∀ u, ku = some u → RelV kv u) (hk0 : ku = none → kv = d) (h : mkF C sp E vs kv H Q) :
    wpAny (model X.prog X.w) X.A (call (.ref C) us (KwOf kn ku)) (EP X pins σ Q) X.xe s := by
  have hq := h (s.heap.objs.size + 1) s.heap.objs.size (I.hok.fresh (Nat.le_succ _)) (I.hok.fresh (Nat.le_refl _)) (Nat.ne_of_lt (Nat.lt_succ_self _))
  have I2 := Inv.made (C := C) I
  refine wpAny_call (make_map (f := f) I.kIn M.makes M.init (beq_iff_eq.mp M.fn) (codeAny_mono (F _ X.stack _ _ (.ref (s.heap.objs.size + 1)) (.ref (s.heap.objs.size + 1)) us vs ku kv _ E (hr.make C us (KwOf kn ku)) (I2.env0.make C us (KwOf kn ku)) rfl r hz hk1 hk0 hq) fun r s' hq' => ?_))
  cases r with
  | error e => exact hx pins σ _ _ e s' I2 hq'
  | ok fl =>
    cases fl with
    | ret u =>
      obtain ⟨v, H', I3, rv, ev, q3⟩ := I2.after hq'
      subst ev
      exact ⟨rv, ⟨V.ref (s.heap.objs.size + 1), H', I3, rfl, q3⟩⟩
    | next => exact False.elim hq'
    | brk => exact False.elim hq'
    | cont => exact False.elim hq'
/-- C() -/
theorem pe_F0 (M : Mk X.K C f) (F : FnF X.prog X.w X.K X.mg X.base CX k f kn d sp) (hr : Room (k + 1) X.A) (hg : Gl X x) (hm : X.mg x = some (.ref C)) (hx : Passes CX X E) (hdb : (x == ("__debug__" : Str)) = false := by decide) :
    PE X (.Call (.Name x p) [] [] pos) (fun _ H Q => mkF C sp E [] d H Q) := by
  refine ⟨fun pins s σ H Q I h => ?_⟩
  refine wpAny_Call_Name_kw (ld_glob I hg hm ?_ hdb)
  refine PySem.W.callWith_KW0 (h₀ := X.base) (kws := []) I.ok.mod.kin M.kp rfl ?_ rfl
  refine wpAny_evalAll_nil ⟨I.kIn, ?_⟩
  exact run_makeF (us := []) (ku := none) M F hr hx I .nil (Nat.zero_le _) (fun u z => nomatch z) (fun _ => rfl) h
/-- C(kn = e) -/
theorem pe_Fk (M : Mk X.K C f) (F : FnF X.prog X.w X.K X.mg X.base CX k f kn d sp) (hr : Room (k + 1) X.A) (hg : Gl X x) (hm : X.mg x = some (.ref C)) (hx : Passes CX X E) (hk : PE X e tk) (hdb : (x == ("__debug__" : Str)) = false := by decide) :
    PE X (.Call (.Name x p) [] [⟨some kn, e, kpos⟩] pos) (fun σ H Q => tk σ H fun kv H1 => mkF C sp E [] kv H1 Q) := by
  refine ⟨fun pins s σ H Q I h => ?_⟩
  refine wpAny_Call_Name_kw (ld_glob I hg hm ?_ hdb)
  refine PySem.W.callWith_KW0 (h₀ := X.base) I.ok.mod.kin M.kp rfl ?_ rfl
  refine kwAll_cons (thn (hk.run pins s σ H _ I h) fun u s1 ⟨kv, H1, I1, rk, q1⟩ => ?_)
  refine wpAny_evalAll_nil ⟨I1.kIn, ?_⟩
  exact run_makeF (us := []) (ku := some u) M F hr hx I1 .nil (Nat.zero_le _) (fun u' z => by cases z; exact rk) (fun z => nomatch z) q1
/-- C(e, .., kn = e) -/
theorem pe_Fpk (M : Mk X.K C f) (F : FnF X.prog X.w X.K X.mg X.base CX k f kn d sp) (hr : Room (k + 1) X.A) (hg : Gl X x) (hm : X.mg x = some (.ref C)) (hx : Passes CX X E) {a : Expr} {as : List Expr} (ha : PA X (a :: as) t) (hk : PE X e tk) (hdb : (x == ("__debug__" : Str)) = false := by decide)
    (he : starEach (a :: as) X.env = (false, eval a X.env) :: starEach as X.env := by rfl) (hpl : ((backTo pos (starEach (a :: as) X.env)).any (·.1) || (backToKw pos (keywordEach [⟨some kn, e, kpos⟩] X.env)).any (·.1.isNone)) = false := by rfl) :
    PE X (.Call (.Name x p) (a :: as) [⟨some kn, e, kpos⟩] pos) (fun σ H Q => t σ H fun vs H1 => tk σ H1 fun kv H2 => vs.length ≤ sizeLine ∧ mkF C sp E vs kv H2 Q) := by
  refine ⟨fun pins s σ H Q I h => ?_⟩
  refine wpAny_Call_Name_kw (ld_glob I hg hm ?_ hdb)
  refine PySem.W.callWith_KW (h₀ := X.base) I.ok.mod.kin M.kp rfl (thn (ha.run pos pins s σ H _ I h) fun us s1 ⟨vs, H1, I1, r, q⟩ => ?_) hpl he
  refine kwAll_cons (thn (hk.run pins s1 σ H1 _ I1 q) fun u s2 ⟨kv, H2, I2, rk, hz, q2⟩ => ?_)
  refine wpAny_evalAll_nil ⟨I2.kIn, ?_⟩
  exact run_makeF (ku := some u) M F hr hx I2 r hz (fun u' z => by cases z; exact rk) (fun z => nomatch z) q2
/-- C(*e, kn = e) -/
theorem pe_Fsk (M : Mk X.K C f) (F : FnF X.prog X.w X.K X.mg X.base CX k f kn d sp) (hr : Room (k + 1) X.A) (hg : Gl X x) (hm : X.mg x = some (.ref C)) (hx : Passes CX X E) {a : Expr} (ha : PE X a te) (hk : PE X e tk) (hdb : (x == ("__debug__" : Str)) = false := by decide)
    (he : starEach [.Starred a sp_] X.env = [(true, eval a X.env)] := by rfl) :
    PE X (.Call (.Name x p) [.Starred a sp_] [⟨some kn, e, kpos⟩] pos) (fun σ H Q => te σ H fun y H1 => tk σ H1 fun kv H2 => ∃ q xs, y = .ref q ∧ (SqT X.K H2 q xs ∨ SqL X.K H2 q xs) ∧ xs.length ≤ sizeLine ∧ mkF C sp E xs kv H2 Q) := by
  refine ⟨fun pins s σ H Q I h => ?_⟩
  refine wpAny_Call_Name_kw (ld_glob I hg hm ?_ hdb)
  rw [he]
  refine PySem.W.call_star_kw rfl (PySem.W.keeps_K M.kp) ?_
  refine PySem.W.lone_kw rfl (thn (ha.run pins s σ H _ I h) fun yv s1 ⟨y, H1, I1, ry, q⟩ => ?_)
  refine kwAll_cons (thn (hk.run pins s1 σ H1 _ I1 q) fun u s2 ⟨kv, H2, I2, rk, q0, xs, ey, hs, hz, q2⟩ => ?_)
  subst ey
  obtain rfl : yv = Value.ref q0 := ry
  refine wpAny_evalAll_nil (StX.star_any I2 hs fun us s3 I3 rv => ⟨I3.kIn, ?_⟩)
  exact run_makeF (ku := some u) M F hr hx I3 rv hz (fun u' z => by cases z; exact rk) (fun z => nomatch z) q2
end
end L2
namespace Lw
open PySem L2
abbrev sWhole : Stmt := topS 1
abbrev sFrozen : Stmt := topS 2
abbrev sAxes : Stmt := topS 10
/-! the mathematics of forms -/
def axesOk (is : List Int) (n : Nat) : Bool := decide (is.length = n) && (List.range n).all fun j => decide ((j : Int) ∈ is)
theorem inV_int (k : Int) : ∀ is : List Int, inV (.int k) (is.map V.int) = decide (k ∈ is)
  | [] => by simp [inV]
  | i :: r => by
    have q := inV_int k r
    unfold inV at q ⊢
    rw [List.map_cons, List.any_cons, q]
    show ((i == k) || decide (k ∈ r)) = decide (k ∈ i :: r)
    by_cases h : i = k
    · subst h
      simp
    · have h2 : ¬ k = i := fun e => h e.symm
      simp [h, h2]
theorem flat_ints (is : List Int) : (is.map V.int).all flatV = true := by
  rw [List.all_eq_true]
  intro x hx
  obtain ⟨i, _, rfl⟩ := List.mem_map.mp hx
  rfl
theorem flat_strs (ss : List Str) : (ss.map V.str).all flatV = true := by
  rw [List.all_eq_true]
  intro x hx
  obtain ⟨i, _, rfl⟩ := List.mem_map.mp hx
  rfl
theorem inV_str (k : Str) : ∀ ss : List Str, inV (.str k) (ss.map V.str) = decide (k ∈ ss)
  | [] => by simp [inV]
  | i :: r => by
    have q := inV_str k r
    unfold inV at q ⊢
    rw [List.map_cons, List.any_cons, q]
    show ((i == k) || decide (k ∈ r)) = decide (k ∈ i :: r)
    by_cases h : i = k
    · subst h
      simp
    · have h2 : ¬ k = i := fun e => h e.symm
      simp [h, h2]
/-- the list of answers so far -/
def InvB (H0 : Hp) (D : Addr) (f : Nat → Bool) (i : Nat) (H : Hp) : Prop := H D = some (.lst (((List.range i).map f).map V.bl)) ∧ Same H0 H
theorem InvB.next {H0 H : Hp} {D : Addr} {f : Nat → Bool} {i : Nat} (hd0 : H0 D = none) (h : InvB H0 D f i H) : InvB H0 D f (i + 1) (upd H D (.lst (((List.range i).map f).map V.bl ++ [.bl (f i)]))) :=
  ⟨by rw [upd_same, List.range_succ, List.map_append, List.map_append] <;> rfl, same_over h.2 hd0 _⟩
theorem len_b {f : Nat → Bool} {i : Nat} (h : i ≤ 1000) : (((List.range i).map f).map V.bl).length < sizeLine := by
  rw [List.length_map, List.length_map, List.length_range]
  exact small1000 h
section
variable {P : Program} {w : World} {K : PySem.W.Frag} {mg : Str → Option Value} {base : Heap} {f : Addr} {fd : FuncData}
def spWhole : Sp := fun vs H Q _ => ∃ i : Int, vs = [.int i] ∧ Q (.bl true) H
theorem scW : FnScope ["n"] ["n"] (defScope sWhole) := ⟨rfl, rfl, rfl, by decide +kernel, rfl, by decide +kernel, by decide +kernel⟩
theorem ok_whole (F : Fun K "is_whole" "is_whole" sWhole f fd) (B : Bt mg) : FnOk P w K mg base CX0 1 f fd ["n"] spWhole := by
  refine F.ok scW (fun vs H Q E h => ?_) (fun cdv A outer s H vs Q E hr h => ?_)
  · obtain ⟨i, rfl, _⟩ := h
    rfl
  obtain ⟨i, rfl, q⟩ := h
  refine ⟨_, pss_one (ps_ret (pe_and (pe_callB call_isi (by rfl) B.isi (by decide +kernel) (pa_cons (pv 0) (pa_cons (pe_bltn (v := .ty "int") (by rfl) B.int (by decide +kernel) rfl) pa_nil)))
    (pe_one (pe_not (pe_callB call_isi (by rfl) B.isi (by decide +kernel) (pa_cons (pv 0) (pa_cons (pe_bltn (v := .ty "bool") (by rfl) B.bool (by decide +kernel) rfl) pa_nil))))))), ?_⟩
  refine ⟨_, rfl, _, _, .type "int", .type "int", true, rfl, .ty _, .base (.int i), kit_ty (by decide +kernel), _, rfl, ?_⟩
  refine iteT ?_
  exact ⟨_, rfl, _, _, .type "int", .type "bool", false, rfl, .ty _, .base (.int i), kit_ty (by decide +kernel), _, rfl, q⟩
def spFrI : Sp := fun vs H Q _ => ∃ i : Int, vs = [.int i] ∧ ∀ H' : Hp, Same H H' → Q (.int i) H'
def spFrz (K : PySem.W.Frag) : Sp := fun vs H Q _ => ∃ (a : Addr) (is : List Int), vs = [.ref a] ∧ (SqL K H a (is.map V.int) ∨ SqT K H a (is.map V.int)) ∧ is.length ≤ 1000 ∧
  ∀ (p : Addr) (H' : Hp), Same H H' → H p = none → H' p = some (.tup (is.map V.int)) → Q (.ref p) H'
theorem scF : FnScope ["worth", "part"] ["worth"] (defScope sFrozen) := ⟨rfl, rfl, rfl, by decide +kernel, rfl, by decide +kernel, by decide +kernel⟩
theorem ok_frI (F : Fun K "frozen" "frozen" sFrozen f fd) (B : Bt mg) : FnOk P w K mg base CX0 1 f fd ["worth"] spFrI := by
  refine F.ok scF (fun vs H Q E h => ?_) (fun cdv A outer s H vs Q E hr h => ?_)
  · obtain ⟨i, rfl, _⟩ := h
    rfl
  obtain ⟨i, rfl, q⟩ := h
  refine ⟨_, pss_cons (ps_if (pt_val (pe_callB call_isiT (by rfl) B.isi (by decide +kernel) (pa_cons (pv 0) (pa_cons (pe_tup (pa_cons (pe_bltn (v := .ty "list") (by rfl) B.lst (by decide +kernel) rfl) (pa_cons (pe_bltn (v := .ty "tuple") (by rfl) B.tup (by decide +kernel) rfl) pa_nil))) pa_nil)))) (pss_one ps_never) pss_nil)
    (pss_one (ps_ret (pv 0))), ?_⟩
  refine ⟨_, rfl, (by show 2 ≤ sizeLine; decide), fun t ht => ?_⟩
  refine ⟨_, t, _, .type "int", [.type "list", .type "tuple"], false, rfl, upd_same, .cons (.ty _) (.cons (.ty _) .nil), .base (.int i), is_seq (by decide +kernel) (by decide +kernel), _, rfl, ?_⟩
  exact iteF ⟨_, rfl, q _ (same_new ht _)⟩
/-- the ints so far -/
def InvI (H0 : Hp) (D : Addr) (is : List Int) (i : Nat) (H : Hp) : Prop := H D = some (.lst ((is.take i).map V.int)) ∧ Same H0 H
theorem take_map_succ {is : List Int} {i : Nat} {x : V} (h : (is.map V.int)[i]? = some x) : ∃ n, x = .int n ∧ (is.take (i + 1)).map V.int = (is.take i).map V.int ++ [.int n] := by
  rw [List.getElem?_map] at h
  cases e : is[i]? with
  | none => rw [e] at h; cases h
  | some n =>
    rw [e] at h
    refine ⟨n, (Option.some.inj h).symm, ?_⟩
    rw [List.take_succ, e, List.map_append] <;> rfl
theorem ok_frz (F : Fun K "frozen" "frozen" sFrozen f fd) (bF : Binds K fd ["worth"] []) (mF : mg "frozen" = some (.ref f)) (B : Bt mg) : FnOk P w K mg base CX0 2 f fd ["worth"] (spFrz K) := by
  have G : FnOk P w K mg base CX0 1 f fd ["worth"] spFrI := ok_frI F B
  refine F.ok scF (fun vs H Q E h => ?_) (fun cdv A outer s H vs Q E hr h => ?_)
  · obtain ⟨a, is, rfl, _⟩ := h
    rfl
  obtain ⟨a, is, rfl, hS, hl, q⟩ := h
  have turn : ∀ {te : TE} {D : Addr}, H D = none → ∀ i x H', (is.map V.int)[i]? = some x → InvI H D is i H' → tCall spFrI [] E0 (tCons (tVar 1) tNil) [some (.ref a), some x] H' fun y H4 => ∃ acc, H4 D = some (.lst acc) ∧ acc.length < sizeLine ∧ InvI H D is (i + 1) (upd H4 D (.lst (acc ++ [y]))) := by
    rintro te D hD i x H' hx ⟨hd, g⟩
    obtain ⟨n, rfl, en⟩ := take_map_succ hx
    refine ⟨_, rfl, n, rfl, fun H2 g2 => ⟨_, g2 _ _ hd, ?_, by rw [upd_same, en], same_over (g.trans g2) hD _⟩⟩
    rw [List.length_map]
    exact small1000 (by rw [List.length_take]; omega)
  rcases hS with hS | hS
  · refine ⟨_, pss_cons (ps_if (pt_val (pe_callB call_isiT (by rfl) B.isi (by decide +kernel) (pa_cons (pv 0) (pa_cons (pe_tup (pa_cons (pe_bltn (v := .ty "list") (by rfl) B.lst (by decide +kernel) rfl) (pa_cons (pe_bltn (v := .ty "tuple") (by rfl) B.tup (by decide +kernel) rfl) pa_nil))) pa_nil))))
        (pss_one (ps_ret (pe_callTy call_tuple_of (by rfl) B.tup (by decide +kernel) (pa_cons (pe_lc (own := [("part", 1)]) (g := gName 1) (tt := tYes) rfl scF.nd (pi_list (pv 0)) (blkOk_by (N := ["worth", "part"]) (sc := defScope sFrozen) (by decide +kernel))
          (fun _ _ _ _ _ => pg_name (i := 1) scF.nd rfl (Or.inl rfl)) (fun _ _ _ _ _ => pts_nil) (fun _ _ _ _ _ => pe_call G hr rfl mF F.kp bF .nil pass0 (pa_cons (pv 1) pa_nil))) pa_nil)))) pss_nil)
      (pss_one (ps_ret (pv 0))), ?_⟩
    refine ⟨_, rfl, (by show 2 ≤ sizeLine; decide), fun t ht => ?_⟩
    have g1 : Same H (upd H t (.tup [.ty "list", .ty "tuple"])) := same_new ht _
    refine ⟨_, t, _, .type "list", [.type "list", .type "tuple"], true, rfl, upd_same, .cons (.ty _) (.cons (.ty _) .nil), tyL (g1.seq hS), is_seqL, _, rfl, ?_⟩
    refine iteT ?_
    refine ⟨_, rfl, a, rfl, ⟨_, g1.seq hS⟩, fun D hD => ?_⟩
    have hD0 : H D = none := g1.free hD
    refine lc_list (K := K) (a := a) (xs := is.map V.int) (InvI H D is) ⟨upd_same, same_over g1 hD0 _⟩ (fun i H' _ ⟨_, g⟩ => g.seq hS) (fun i x H' hx hi => ⟨rfl, kept (turn (te := fun _ _ _ => True) hD0 i x H' hx hi)⟩) ?_
    rintro H' ⟨hd, g⟩
    rw [List.length_map, List.take_length] at hd
    refine ⟨D, _, rfl, .inl ⟨SqL.of hd, fun l hl0 => ?_⟩⟩
    exact q l _ (g.trans (same_new hl0 _)) (g.free hl0) upd_same
  · refine ⟨_, pss_cons (ps_if (pt_val (pe_callB call_isiT (by rfl) B.isi (by decide +kernel) (pa_cons (pv 0) (pa_cons (pe_tup (pa_cons (pe_bltn (v := .ty "list") (by rfl) B.lst (by decide +kernel) rfl) (pa_cons (pe_bltn (v := .ty "tuple") (by rfl) B.tup (by decide +kernel) rfl) pa_nil))) pa_nil))))
        (pss_one (ps_ret (pe_callTy call_tuple_of (by rfl) B.tup (by decide +kernel) (pa_cons (pe_lc (own := [("part", 1)]) (g := gName 1) (tt := tYes) rfl scF.nd (pi_tup (pv 0)) (blkOk_by (N := ["worth", "part"]) (sc := defScope sFrozen) (by decide +kernel))
          (fun _ _ _ _ _ => pg_name (i := 1) scF.nd rfl (Or.inl rfl)) (fun _ _ _ _ _ => pts_nil) (fun _ _ _ _ _ => pe_call G hr rfl mF F.kp bF .nil pass0 (pa_cons (pv 1) pa_nil))) pa_nil)))) pss_nil)
      (pss_one (ps_ret (pv 0))), ?_⟩
    refine ⟨_, rfl, (by show 2 ≤ sizeLine; decide), fun t ht => ?_⟩
    have g1 : Same H (upd H t (.tup [.ty "list", .ty "tuple"])) := same_new ht _
    refine ⟨_, t, _, .type "tuple", [.type "list", .type "tuple"], true, rfl, upd_same, .cons (.ty _) (.cons (.ty _) .nil), tyT (seqT g1 hS), is_seq (by decide +kernel) (by decide +kernel), _, rfl, ?_⟩
    refine iteT ?_
    refine ⟨_, rfl, a, rfl, ⟨_, seqT g1 hS⟩, fun D hD => ?_⟩
    have hD0 : H D = none := g1.free hD
    refine lc_tup (K := K) (a := a) (xs := is.map V.int) (InvI H D is) ⟨upd_same, same_over g1 hD0 _⟩ (fun i H' _ ⟨_, g⟩ => seqT g hS) (fun i x H' hx hi => ⟨rfl, kept (turn (te := fun _ _ _ => True) hD0 i x H' hx hi)⟩) ?_
    rintro H' ⟨hd, g⟩
    rw [List.length_map, List.take_length] at hd
    refine ⟨D, _, rfl, .inl ⟨SqL.of hd, fun l hl0 => ?_⟩⟩
    exact q l _ (g.trans (same_new hl0 _)) (g.free hl0) upd_same
def spAxes (K : PySem.W.Frag) : Sp := fun vs H Q _ => ∃ (a : Addr) (is : List Int) (n : Nat), vs = [.ref a, .int n] ∧ SqT K H a (is.map V.int) ∧ is.length ≤ 1000 ∧ n ≤ 1000 ∧ ∀ H' : Hp, Same H H' → Q (.bl (axesOk is n)) H'
theorem scA : FnScope ["axes", "many", "axis"] ["axes", "many"] (defScope sAxes) := ⟨rfl, rfl, rfl, by decide +kernel, rfl, by decide +kernel, by decide +kernel⟩
theorem ok_axes {g : Addr} {gd : FuncData} (F : Fun K "are_axes" "are_axes" sAxes f fd) (G : FnOk P w K mg base CX0 1 g gd ["n"] spWhole) (bG : Binds K gd ["n"] []) (kG : PySem.W.keepIn K (.ref g) = true) (mG : mg "is_whole" = some (.ref g)) (B : Bt mg) :
    FnOk P w K mg base CX0 2 f fd ["axes", "many"] (spAxes K) := by
  refine F.ok scA (fun vs H Q E h => ?_) (fun cdv A outer s H vs Q E hr h => ?_)
  · obtain ⟨a, is, n, rfl, _⟩ := h
    rfl
  obtain ⟨a, is, n, rfl, hS, hl, hn, q⟩ := h
  refine ⟨_, pss_cons (ps_if (PW.pt (pw_or (pt_not (pt_val (pe_callB call_isi (by rfl) B.isi (by decide +kernel) (pa_cons (pv 0) (pa_cons (pe_bltn (v := .ty "tuple") (by rfl) B.tup (by decide +kernel) rfl) pa_nil)))))
        (pw_or1 (pt_cmpR op_ne (pe_callB call_len_seq (by rfl) B.len PySem.boot_len (pa_cons (pv 0) pa_nil)) (pv 1) (nomark _))))) (pss_one (ps_ret pe_bl)) pss_nil)
    (pss_cons (ps_if (pt_not (pt_val (pe_callB (cr_all rfl) (by rfl) B.all (by decide +kernel) (pa_cons (pe_lc (own := [("axis", 2)]) (g := gName 2) (tt := tYes) rfl scA.nd (pi_tup (pv 0)) (blkOk_by (N := ["axes", "many", "axis"]) (sc := defScope sAxes) (by decide +kernel))
        (fun _ _ _ _ _ => pg_name (i := 2) scA.nd rfl (Or.inl rfl)) (fun _ _ _ _ _ => pts_nil) (fun _ _ _ _ _ => pe_call G hr rfl mG kG bG .nil pass0 (pa_cons (pv 2) pa_nil))) pa_nil)))) (pss_one (ps_ret pe_bl)) pss_nil)
    (pss_one (ps_ret (pe_callB (cr_all rfl) (by rfl) B.all (by decide +kernel) (pa_cons (pe_lc (own := [("axis", 2)]) (g := gName 2) (tt := tYes) rfl scA.nd (pi_range1 (by rfl) B.range (pa_cons (pv 1) pa_nil)) (blkOk_by (N := ["axes", "many", "axis"]) (sc := defScope sAxes) (by decide +kernel))
        (fun _ _ _ _ _ => pg_name (i := 2) scA.nd rfl (Or.inl rfl)) (fun _ _ _ _ _ => pts_nil) (fun _ _ _ _ _ => pe_cmpR (r := rIn K false) op_in_seq (pv 2) (pv 0) (by rfl))) pa_nil))))), ?_⟩
  refine ⟨_, rfl, _, _, .type "tuple", .type "tuple", true, rfl, .ty _, tyT hS, kit_ty (by decide +kernel), _, rfl, ?_⟩
  refine iteF ?_
  refine ⟨_, rfl, a, _, rfl, .inr hS, _, rfl, rfl, _, rfl, ?_⟩
  refine ite2 (fun c => ?_) (fun c => ?_)
  · have e : axesOk is n = false := by
      rw [List.length_map] at c
      have c2 : ¬ is.length = n := fun e => by
        rw [e, decide_eq_true rfl] at c
        cases c
      unfold axesOk
      rw [decide_eq_false c2]
      rfl
    have z := q H (Same.refl H)
    rw [e] at z
    exact z
  · have e : is.length = n := by
      rw [List.length_map] at c
      by_cases z : is.length = n
      · exact z
      · exact absurd (by rw [decide_eq_false (fun y => z (by cases y; rfl))]; rfl) c
    refine ⟨_, rfl, a, rfl, ⟨_, hS⟩, fun D hD => ?_⟩
    refine lc_tup (K := K) (a := a) (xs := is.map V.int) (InvB H D fun _ => true) ⟨upd_same, same_new hD _⟩ (fun i H' _ ⟨_, g⟩ => seqT g hS) (fun i x H' hx hi => ⟨rfl, kept ?_⟩) ?_
    · obtain ⟨m, rfl, _⟩ := take_map_succ hx
      have hi2 : i < is.length := by
        have z := (List.getElem?_eq_some_iff.mp hx).1
        rwa [List.length_map] at z
      exact ⟨_, rfl, m, rfl, _, hi.1, len_b (by omega), hi.next hD⟩
    rintro H' ⟨hd, g⟩
    refine ⟨D, _, rfl, SqL.of hd, _, rfl, ?_⟩
    have ea : (((List.range (is.map V.int).length).map fun _ => true)).all id = true := by simp
    rw [ea]
    refine iteF ?_
    refine ⟨_, rfl, n, rfl, by omega, by omega, fun D2 hD2 => ?_⟩
    have hD20 : H D2 = none := g.free hD2
    refine lc_range (lo := 0) (n := n) (InvB H D2 fun j => decide ((j : Int) ∈ is)) ⟨upd_same, same_over g hD20 _⟩ (fun i H2 hi hv => ⟨rfl, kept ?_⟩) ?_
    · refine ⟨_, rfl, _, rfl, a, _, rfl, .inr (seqT hv.2 hS), rfl, flat_ints is, _, hv.1, len_b (by omega), ?_⟩
      have z := hv.next hD20
      rw [show inV (.int (0 + (i : Int))) (is.map V.int) = decide ((i : Int) ∈ is) by rw [Int.zero_add, inV_int]]
      exact z
    rintro H2 ⟨hd2, g2⟩
    refine ⟨D2, _, rfl, SqL.of hd2, ?_⟩
    have ez : axesOk is n = ((List.range n).map fun j : Nat => decide ((j : Int) ∈ is)).all id := by
      unfold axesOk
      rw [decide_eq_true e, Bool.true_and, List.all_map] <;> rfl
    rw [← ez]
    exact q _ g2
end
end Lw
namespace Lw
open PySem L2
abbrev sInit : Stmt := inClass (topS 11) 1
abbrev sText : Stmt := inClass (topS 11) 2
abbrev sRead : Stmt := inClass (topS 11) 3
def KINDS : List Str := ["dense", "packed", "bits", "hashed"]
def AWORDS : List Str := ["0", "1", "2"]
def valid (ks : List Str) (is : List Int) : Bool := decide (ks.length ≤ 3) && (ks.all (fun k => decide (k ∈ KINDS)) && axesOk is ks.length)
def iota (n : Nat) : List Int := (List.range n).map fun i : Nat => (i : Int)
theorem rg_iota (n : Nat) : rgV 0 (n : Int) = (iota n).map V.int := by
  unfold rgV iota
  rw [List.map_map, show ((n : Int) - 0).toNat = n by omega]
  refine List.map_congr_left fun i _ => ?_
  show V.int (0 + (i : Int)) = V.int (i : Int)
  rw [Int.zero_add]
theorem iota_len (n : Nat) : (iota n).length = n := by unfold iota; rw [List.length_map, List.length_range]
/-- the chain of a class over ValueError, behind its own ones -/
abbrev veB : List Value := [.type "ValueError", .type "Exception", .type "BaseException", .type "object"]
structure Fm (K : PySem.W.Frag) (mg : Str → Option Value) (C fI BF AW KD : Addr) (MC : Value) : Prop where
  cl : Cls K C
  nK : NoAttr K C "kinds"
  nA : NoAttr K C "axes"
  mkC : Mk K C fI
  mC : mg "Form" = some (.ref C)
  mB : mg "BadForm" = some (.ref BF)
  xB : PySem.W.excIn K BF veB "ValueError.__new__" = true
  kB : PySem.W.keepIn K (.ref BF) = true
  rB : PySem.W.subIn K (.ref BF) (.type "BaseException") = some true
  tB : PySem.W.typeIn K (.ref BF) = some (.type "type")
  most : ∃ t, mg "MOST_LEVELS" = some (.int 3 t)
  cr : ClX.CRead K C MC
  kd : ClX.CVal K C MC "KINDS" (.ref KD) (.ref KD)
  kdT : ∀ H : Hp, SqT K H KD (KINDS.map V.str)
  mAW : mg "AXIS_WORDS" = some (.ref AW)
  awT : ∀ H : Hp, SqT K H AW (AWORDS.map V.str)
theorem ka_ : ¬ (("kinds" : Str) = "axes") := by decide +kernel
theorem ak_ : ¬ (("axes" : Str) = "kinds") := by decide +kernel
def flds (tk ta : Addr) : List (Str × V) := putF "axes" (.ref ta) (putF "kinds" (.ref tk) [])
theorem flds_k (tk ta : Addr) : (flds tk ta).lookup ("kinds" : Str) = some (.ref tk) := by
  unfold flds
  rw [lookup_putF, if_neg ka_, lookup_putF, if_pos rfl]
theorem flds_a (tk ta : Addr) : (flds tk ta).lookup ("axes" : Str) = some (.ref ta) := by
  unfold flds
  rw [lookup_putF, if_pos rfl]
theorem fld1_k (tk : Addr) : (putF "kinds" (V.ref tk) []).lookup ("kinds" : Str) = some (.ref tk) := by
  rw [lookup_putF, if_pos rfl]
/-- what a comprehension without a test has made so far -/
def InvM {α : Type} (H0 : Hp) (D : Addr) (f : α → V) (l : List α) (i : Nat) (H : Hp) : Prop := H D = some (.lst ((l.take i).map f)) ∧ Same H0 H
theorem InvM.next {α : Type} {H0 H : Hp} {D : Addr} {f : α → V} {l : List α} {i : Nat} {a : α} (hd0 : H0 D = none) (hH : Same H0 H) (e : l[i]? = some a) (acc : List V) (ea : acc = (l.take i).map f) : InvM H0 D f l (i + 1) (upd H D (.lst (acc ++ [f a]))) :=
  ⟨by rw [upd_same, ea, List.take_succ, e, List.map_append] <;> rfl, same_over hH hd0 _⟩
theorem at_map {α : Type} {g : α → V} {l : List α} {i : Nat} {x : V} (h : (l.map g)[i]? = some x) : ∃ a, l[i]? = some a ∧ x = g a := by
  rw [List.getElem?_map] at h
  cases e : l[i]? with
  | none => rw [e] at h; cases h
  | some a =>
    rw [e] at h
    exact ⟨a, rfl, (Option.some.inj h).symm⟩
theorem len_m {α : Type} {f : α → V} {l : List α} {i : Nat} (h : l.length ≤ 1000) : ((l.take i).map f).length < sizeLine := by
  rw [List.length_map, List.length_take]
  exact small1000 (by omega)
def Kp (p : Addr) (H H' : Hp) : Prop := ∀ b o, b ≠ p → H b = some o → H' b = some o
theorem Kp.same {p : Addr} {H H1 H2 : Hp} (k : Kp p H H1) (g : Same H1 H2) : Kp p H H2 := fun b o n e => g _ _ (k b o n e)
theorem Kp.seq {K : PySem.W.Frag} {p a : Addr} {H H' : Hp} {xs : List V} {C dx : Addr} {fs : List (Str × V)} (k : Kp p H H') (hp : H p = some (.ins C dx fs)) (h : SqT K H a xs) : SqT K H' a xs := by
  rcases h with (h | ⟨o, h⟩) | h
  · exact .inl (.inl (k _ _ (fun e => by rw [e, hp] at h; cases h) h))
  · exact .inl (.inr ⟨o, k _ _ (fun e => by rw [e, hp] at h; cases h) h⟩)
  · exact .inr h
theorem Kp.seqL {K : PySem.W.Frag} {p a : Addr} {H H' : Hp} {xs : List V} {C dx : Addr} {fs : List (Str × V)} (k : Kp p H H') (hp : H p = some (.ins C dx fs)) (h : SqL K H a xs) : SqL K H' a xs := by
  rcases h with (h | ⟨o, h⟩) | h
  · exact .inl (.inl (k _ _ (fun e => by rw [e, hp] at h; cases h) h))
  · exact .inl (.inr ⟨o, k _ _ (fun e => by rw [e, hp] at h; cases h) h⟩)
  · exact .inr h
/-- the promise of Form.__init__ -/
def spInit (K : PySem.W.Frag) (C BF : Addr) : SpF := fun x vs kv H Q E => ∃ (p dx : Addr) (ks : List Str) (is : List Int), x = .ref p ∧ vs = ks.map V.str ∧ H p = some (.ins C dx []) ∧ ks.length ≤ 1000 ∧ is.length ≤ 1000 ∧
  ((kv = .non ∧ is = iota ks.length) ∨ ∃ a, kv = .ref a ∧ (SqL K H a (is.map V.int) ∨ SqT K H a (is.map V.int))) ∧
  (∀ (H' : Hp) (tk ta : Addr), valid ks is = true → Kp p H H' → H' p = some (.ins C dx (flds tk ta)) → SqT K H' tk (ks.map V.str) → SqT K H' ta (is.map V.int) → Q .non H') ∧
  (∀ H' : Hp, valid ks is = false → Kp p H H' → E (.ref BF) none H')
section
variable {P : Program} {w : World} {K : PySem.W.Frag} {mg : Str → Option Value} {base : Heap} {C fI BF AW KD gF gA : Addr} {MC : Value} {dF dA : FuncData}
theorem pe_kinds {X : Cx} {p pos : PySem.Pos} (hg : Gl X "Form") (hm : X.mg "Form" = some (.ref C)) : PE X (.Attribute (.Name "Form" p) "KINDS" pos) (ClX.tCVal X.K (tC (.ref C)) "KINDS") := ClX.pe_cval (pe_glob hg hm rfl)
abbrev namesI : List Str := ["self", "axes", "kinds", "kind"]
theorem scI : FnScope namesI ["self", "axes", "kinds"] (defScope sInit) := ⟨rfl, rfl, rfl, by decide +kernel, rfl, by decide +kernel, by decide +kernel⟩
theorem ok_init {oc cdv ct dc pm du : Value} {od an : Option Addr} {osl : Array (Option Value)} {D : Addr} (lk : K.lookup fI = some ⟨oc, od, .func (PySem.W.fnOf "__init__" "Form.__init__" (defArgs sInit) (defBody sInit) (defScope sInit) .none (.ref D) dc pm an cdv ct), osl⟩) (hcd : PySem.W.codeIn K cdv "Form.__init__" = true)
    (hD : PySem.W.nsIn K D "axes" = some (some .none)) (T : Fm K mg C fI BF AW KD MC) (B : Bt mg)
    (GF : FnOk P w K mg base CX0 2 gF dF ["worth"] (spFrz K)) (bF : Binds K dF ["worth"] []) (kF : PySem.W.keepIn K (.ref gF) = true) (mF : mg "frozen" = some (.ref gF))
    (GA : FnOk P w K mg base CX0 2 gA dA ["axes", "many"] (spAxes K)) (bA : Binds K dA ["axes", "many"] []) (kA : PySem.W.keepIn K (.ref gA) = true) (mA : mg "are_axes" = some (.ref gA)) :
    FnF P w K mg base (L2.CX P w) 3 fI "axes" .non (spInit K C BF) := by
  obtain ⟨tm, hmost⟩ := T.most
  refine fn_F (N := namesI) (p1 := "self") (kn := "axes") (pv := "kinds") lk hcd scI StX.cxUp hD rfl (fun x u us => ?_) (fun x us => ?_) (fun A outer s H x vs kv tk H0 Q E hr htk eH h => ?_)
  · cases us <;> rfl
  · cases us <;> exact ⟨_, _, _, _, _, _, rfl, rfl, rfl⟩
  obtain ⟨p, dx, ks, is, rfl, rfl, hp, hk, hi, hkv, q, qe⟩ := h
  subst eH
  refine ⟨_, C8.pss_cut (ps_if (pt_cmpR op_isN (pv 1) pe_non (nomark _)) (pss_one (ps_set (i := 1) scI.nd rfl (Or.inl rfl) (pe_listRg rfl (by rfl) B.lst (prg_1 (by rfl) B.range (pe_callB call_len_seq (by rfl) B.len PySem.boot_len (pa_cons (pv 2) pa_nil)))))) pss_nil)
    (pss_cons (ps_fld (pv 0) (pe_callTy call_tuple_of (by rfl) B.tup (by decide +kernel) (pa_cons (pv 2) pa_nil)) rfl)
    (pss_cons (ps_fld (pv 0) (pe_call GF hr rfl mF kF bF .nil pass0 (pa_cons (pv 1) pa_nil)) rfl)
    (pss_cons (ps_if (pt_cmpR op_gt (pe_callB call_len_seq (by rfl) B.len PySem.boot_len (pa_cons (pe_fld (pv 0) rfl) pa_nil)) (pe_glob (v := .int 3) (by rfl) hmost ⟨_, rfl⟩) (nomark _))
      (pss_one (ps_raise rfl (takes_of rfl rfl rfl rfl) (pmk_own0 PySem.F.excBase_ValueError T.xB T.mB T.kB (raises_own T.rB T.tB) (by rfl)))) pss_nil)
    (pss_cons (ps_if (pt_not (pt_val (pe_callB (cr_all rfl) (by rfl) B.all (by decide +kernel) (pa_cons (pe_lc (own := [("kind", 3)]) (g := gName 3) (tt := tYes) rfl scI.nd (pi_tup (pe_fld (pv 0) rfl)) (blkOk_by (N := namesI) (sc := defScope sInit) (by decide +kernel))
        (fun _ _ _ _ _ => pg_name (i := 3) scI.nd rfl (Or.inl rfl)) (fun _ _ _ _ _ => pts_nil) (fun _ _ _ _ _ => pe_cmpR (r := rIn K false) (tb := ClX.tCVal K (tC (.ref C)) "KINDS") op_in_seq (pv 3) (pe_kinds (by rfl) T.mC) (by rfl))) pa_nil))))
      (pss_one (ps_raise rfl (takes_of rfl rfl rfl rfl) (pmk_own0 PySem.F.excBase_ValueError T.xB T.mB T.kB (raises_own T.rB T.tB) (by rfl)))) pss_nil)
    (pss_one (ps_if (pt_not (pt_val (pe_call GA hr rfl mA kA bA .nil pass0 (pa_cons (pe_fld (pv 0) rfl) (pa_cons (pe_callB call_len_seq (by rfl) B.len PySem.boot_len (pa_cons (pe_fld (pv 0) rfl) pa_nil)) pa_nil)))))
      (pss_one (ps_raise rfl (takes_of rfl rfl rfl rfl) (pmk_own0 PySem.F.excBase_ValueError T.xB T.mB T.kB (raises_own T.rB T.tB) (by rfl)))) pss_nil)))))), ?_⟩
  have h0 : (upd H0 tk (.tup (ks.map V.str))) p = some (.ins C dx []) := by rw [upd_ne (ne_of_none hp htk)]; exact hp
  have ht : SqT K (upd H0 tk (.tup (ks.map V.str))) tk (ks.map V.str) := SqT.of upd_same
  have g0 : Same H0 (upd H0 tk (.tup (ks.map V.str))) := same_new htk _
  revert h0 ht g0
  generalize upd H0 tk (.tup (ks.map V.str)) = H1
  intro h0 ht g0
  refine ⟨fun σ' H' => ∃ a, σ' = [some (.ref p), some (.ref a), some (.ref tk), none] ∧ (SqL K H' a (is.map V.int) ∨ SqT K H' a (is.map V.int)) ∧ Same H1 H', ?_, ?_⟩
  · rcases hkv with ⟨rfl, rfl⟩ | ⟨a, rfl, hS⟩
    · refine ⟨_, rfl, rfl, _, rfl, iteC (decide_eq_true rfl) ?_⟩
      refine ⟨_, rfl, tk, _, rfl, .inr ht, _, rfl, RgOk.of_le (by decide) (by rw [List.length_map]; omega) (by decide) (by omega), fun q' hq' => ?_⟩
      refine ⟨q', rfl, .inl (SqL.of ?_), same_new hq' _⟩
      rw [upd_same, List.length_map, rg_iota]
    · refine ⟨_, rfl, rfl, _, rfl, iteN (decide_eq_false (by intro z; cases z)) ?_⟩
      exact ⟨a, rfl, hS.imp (fun z => g0.seq z) (fun z => seqT g0 z), Same.refl _⟩
  · rintro σ' H' ⟨a, rfl, hS, g1⟩
    have kp0 : Kp p H0 H' := fun b o _ e => g1 _ _ (g0 _ _ e)
    have hp1 := g1 _ _ h0
    have ht1 := seqT g1 ht
    refine ⟨_, rfl, tk, _, rfl, .inr ⟨ht1, _, rfl, p, C, dx, _, rfl, hp1, T.cl, T.nK, (by show 0 < 1000; decide), ?_⟩⟩
    have k1 : Kp p H' (upd H' p (.ins C dx (putF "kinds" (.ref tk) []))) := fun b o n e => by rw [upd_ne n]; exact e
    have hS1 := hS.imp (fun z => k1.seqL hp1 z) (fun z => k1.seq hp1 z)
    have ht2 := k1.seq hp1 ht1
    refine ⟨_, rfl, a, is, rfl, hS1, hi, fun ta H3 g3 n3 h3 => ?_⟩
    have hp3 := g3 _ _ (upd_same (H := H') (a := p) (o := .ins C dx (putF "kinds" (.ref tk) [])))
    have ht3 := seqT g3 ht2
    refine ⟨_, rfl, p, C, dx, _, rfl, hp3, T.cl, T.nA, (by show 1 < 1000; decide), ?_⟩
    have k3 : Kp p H3 (upd H3 p (.ins C dx (flds tk ta))) := fun b o n e => by rw [upd_ne n]; exact e
    have ht4 := k3.seq hp3 ht3
    have ha4 := k3.seq (K := K) hp3 (SqT.of h3)
    have hp4 : upd H3 p (.ins C dx (flds tk ta)) p = some (.ins C dx (flds tk ta)) := upd_same
    have kp4 : Kp p H0 (upd H3 p (.ins C dx (flds tk ta))) := fun b o n e => k3 b o n (g3 _ _ (k1 b o n (kp0 b o n e)))
    revert ht4 ha4 hp4 kp4
    show SqT K (upd H3 p (.ins C dx (flds tk ta))) tk (ks.map V.str) → SqT K (upd H3 p (.ins C dx (flds tk ta))) ta (is.map V.int) → upd H3 p (.ins C dx (flds tk ta)) p = some (.ins C dx (flds tk ta)) → Kp p H0 (upd H3 p (.ins C dx (flds tk ta))) → _
    intro ht4 ha4 hp4 kp4
    refine ⟨_, rfl, p, C, dx, _, _, rfl, hp4, T.cl, T.nK, flds_k _ _, tk, _, rfl, .inr ht4, _, _, rfl, rfl, _, rfl, ?_⟩
    refine ite2 (fun c => ?_) (fun c => ?_)
    · refine qe _ ?_ kp4
      have c2 : (3 : Int) < (((ks.map V.str).length : Nat) : Int) := of_decide_eq_true c
      rw [List.length_map] at c2
      unfold valid
      rw [decide_eq_false (by omega), Bool.false_and]
    have c2 : ¬ (3 : Int) < (((ks.map V.str).length : Nat) : Int) := of_decide_eq_false (Bool.eq_false_iff.mpr c)
    rw [List.length_map] at c2
    have e3 : decide (ks.length ≤ 3) = true := decide_eq_true (by omega)
    refine ⟨_, rfl, p, C, dx, _, _, rfl, hp4, T.cl, T.nK, flds_k _ _, tk, rfl, ⟨_, ht4⟩, fun D hD => ?_⟩
    refine lc_tup (K := K) (a := tk) (xs := ks.map V.str) (InvM _ D (fun k : Str => V.bl (decide (k ∈ KINDS))) ks) ⟨upd_same, same_new hD _⟩ (fun i H5 _ ⟨_, g⟩ => seqT g ht4) (fun i x H5 hx hv => ?_) ?_
    · obtain ⟨k, ek, rfl⟩ := at_map hx
      refine ⟨rfl, kept ?_⟩
      refine ⟨_, rfl, C, MC, _, _, rfl, T.cr, T.kd, KD, _, rfl, .inr (T.kdT _), rfl, flat_strs _, _, hv.1, len_m (by omega), ?_⟩
      have z := InvM.next (f := fun k : Str => V.bl (decide (k ∈ KINDS))) hD hv.2 ek _ rfl
      rw [show inV (.str k) (KINDS.map V.str) = decide (k ∈ KINDS) from inV_str k KINDS]
      exact z
    rintro H5 ⟨hd5, g5⟩
    rw [List.length_map, List.take_length] at hd5
    have kp5 := kp4.same g5
    have hp5 := g5 _ _ hp4
    refine ⟨D, ks.map (fun k : Str => decide (k ∈ KINDS)), rfl, SqL.of (by rw [hd5, List.map_map] <;> rfl), _, rfl, ?_⟩
    have eall : (ks.map (fun k : Str => decide (k ∈ KINDS))).all id = ks.all fun k => decide (k ∈ KINDS) := by rw [List.all_map] <;> rfl
    rw [eall]
    refine ite2 (fun c5 => ?_) (fun c5 => ?_)
    · refine qe _ ?_ kp5
      unfold valid
      rw [show (ks.all fun k => decide (k ∈ KINDS)) = false by simpa using c5, Bool.false_and, Bool.and_false]
    have e5 : (ks.all fun k => decide (k ∈ KINDS)) = true := by
      cases z : (ks.all fun k => decide (k ∈ KINDS)) with
      | true => rfl
      | false => exact absurd (by rw [z]; rfl) c5
    refine ⟨_, rfl, p, C, dx, _, _, rfl, hp5, T.cl, T.nA, flds_a _ _, _, rfl, p, C, dx, _, _, rfl, hp5, T.cl, T.nK, flds_k _ _, tk, _, rfl, .inr (seqT g5 ht4), ta, is, (ks.map V.str).length, rfl, seqT g5 ha4, hi, by rw [List.length_map]; exact hk, fun H6 g6 => ⟨_, rfl, ?_⟩⟩
    have kp6 := kp5.same g6
    have hp6 := g6 _ _ hp5
    rw [List.length_map]
    refine ite2 (fun c6 => ?_) (fun c6 => ?_)
    · refine qe _ ?_ kp6
      unfold valid
      rw [show axesOk is ks.length = false by simpa using c6, Bool.and_false, Bool.and_false]
    have e6 : axesOk is ks.length = true := by
      cases z : axesOk is ks.length with
      | true => rfl
      | false => exact absurd (by rw [z]; rfl) c6
    exact q _ tk ta (by unfold valid; rw [e3, e5, e6]; rfl) kp6 hp6 (seqT g6 (seqT g5 ht4)) (seqT g6 (seqT g5 ha4))
end
end Lw
namespace Lw
open PySem L2 TL
/-! cutting a text at a separator, and joining the parts -/
theorem spl_lens (S : List Nat) : ∀ (l : List Nat) (k : Nat) (acc : List Nat), (∀ p ∈ spl S k acc l, p.length ≤ acc.length + l.length) ∧ (spl S k acc l).length ≤ l.length + 1
  | [], k, acc => by
    rw [spl_nil]
    exact ⟨fun p hp => by rw [List.mem_singleton.mp hp]; exact Nat.le_add_right _ _, Nat.le_refl _⟩
  | c :: r, 0, acc => by
    cases h : pre S (c :: r) with
    | true =>
      rw [spl_hit h]
      obtain ⟨i1, i2⟩ := spl_lens S r (S.length - 1) []
      refine ⟨fun p hp => ?_, by rw [List.length_cons, List.length_cons]; omega⟩
      rcases List.mem_cons.mp hp with e | hp
      · rw [e]; exact Nat.le_add_right _ _
      · have z := i1 p hp
        rw [List.length_nil] at z
        rw [List.length_cons]
        omega
    | false =>
      rw [spl_miss h]
      obtain ⟨i1, i2⟩ := spl_lens S r 0 (acc ++ [c])
      refine ⟨fun p hp => ?_, by rw [List.length_cons]; omega⟩
      have z := i1 p hp
      rw [List.length_append, List.length_singleton] at z
      rw [List.length_cons]
      omega
  | c :: r, k + 1, acc => by
    obtain ⟨i1, i2⟩ := spl_lens S r k acc
    refine ⟨fun p hp => ?_, by rw [List.length_cons]; show (spl S k acc r).length ≤ _; omega⟩
    have z := i1 p hp
    rw [List.length_cons]
    omega
theorem spl_ne (S : List Nat) : ∀ (l : List Nat) (k : Nat) (acc : List Nat), spl S k acc l ≠ []
  | [], k, acc => by rw [spl_nil]; simp
  | c :: r, 0, acc => by
    cases h : pre S (c :: r) with
    | true => rw [spl_hit h]; simp
    | false => rw [spl_miss h]; exact spl_ne S r 0 _
  | c :: r, k + 1, acc => spl_ne S r k acc
theorem joinL_cons {S p : List Nat} : ∀ {l : List (List Nat)}, l ≠ [] → joinL S (p :: l) = p ++ (S ++ joinL S l)
  | [], h => absurd rfl h
  | q :: r, _ => rfl
theorem spl_back {S : List Nat} (hS : S ≠ []) : ∀ (n : Nat) (l : List Nat), l.length ≤ n → ∀ acc, joinL S (spl S 0 acc l) = acc ++ l
  | _, [], _, acc => by
    rw [spl_nil, List.append_nil] <;> rfl
  | 0, c :: r, h, acc => by simp at h
  | n + 1, c :: r, h, acc => by
    rw [List.length_cons] at h
    cases hp : pre S (c :: r) with
    | true =>
      rw [spl_hit hp, joinL_cons (spl_ne S r _ _), spl_pass, spl_back hS n _ (by rw [List.length_drop]; omega) [], List.nil_append]
      have e1 : (c :: r).take S.length = S := by
        unfold pre at hp
        exact eq_of_beq hp
      have e2 : (c :: r).drop S.length = r.drop (S.length - 1) := by
        cases S with
        | nil => exact absurd rfl hS
        | cons a S' => rfl
      rw [← e2]
      have e3 := List.take_append_drop S.length (c :: r)
      rw [e1] at e3
      rw [e3]
    | false =>
      rw [spl_miss hp, spl_back hS n r (by omega), List.append_assoc] <;> rfl
theorem split_back (z y : Str) (hy : tl y ≠ []) (hk : y.cps.all (· < 256) = true) : Txt.join y (Txt.split z y) = z := by
  refine ext_tl ?_
  rw [join_eq, tl_join, split_spl z y hy (kind_ok hk), spl_back hy _ _ (Nat.le_refl _), List.nil_append]
theorem split_lens (z y : Str) (hy : tl y ≠ []) (hk : y.cps.all (· < 256) = true) : (∀ p ∈ Txt.split z y, p.length ≤ z.length) ∧ (Txt.split z y).length ≤ z.length + 1 := by
  have e := split_spl z y hy (kind_ok hk)
  obtain ⟨i1, i2⟩ := spl_lens (tl y) (tl z) 0 []
  rw [← e] at i1 i2
  refine ⟨fun p hp => ?_, ?_⟩
  · have q := i1 (tl p) (List.mem_map_of_mem hp)
    rw [List.length_nil, Nat.zero_add] at q
    rw [len_tl, len_tl]
    exact q
  · rw [List.length_map] at i2
    rw [len_tl]
    exact i2
/-! forms as texts -/
def aval (a : Str) : Int := if a = "0" then 0 else if a = "1" then 1 else 2
/-- one level of a text -/
def lvl (p : Str) : Option (Str × Int) := match Txt.split p " " with
  | [k, a] => if a ∈ AWORDS then some (k, aval a) else none
  | _ => none
def lks (ps : List Str) : List Str := (ps.filterMap lvl).map (·.1)
def lis (ps : List Str) : List Int := (ps.filterMap lvl).map (·.2)
/-- what Form.read makes of a text -/
def rd (z : Str) : Option (List Str × List Int) :=
  if z = "-" then some ([], []) else if ((Txt.split z ", ").all fun p => (lvl p).isSome) = true ∧ valid (lks (Txt.split z ", ")) (lis (Txt.split z ", ")) = true then some (lks (Txt.split z ", "), lis (Txt.split z ", ")) else none
def itm (k : Str) (i : Int) : Str := Str.empty ++ k ++ " " ++ ((toString i : String) : Str)
def ftext (ks : List Str) (is : List Int) : Str := if ks.length = 0 then "-" else Txt.join ", " ((ks.zip is).map fun p => itm p.1 p.2)
theorem small_itm : ∀ k ∈ KINDS, ∀ i ∈ ([0, 1, 2] : List Int), (Str.empty ++ k).length ≤ 20 ∧ (Str.empty ++ k ++ " ").length ≤ 20 ∧ (itm k i).length ≤ 20 ∧ k.length ≤ 20 ∧ i.natAbs.log2 < 1920 := by decide +kernel
theorem axes_small {is : List Int} {n : Nat} (h : axesOk is n = true) (hn : n ≤ 3) : is.length = n ∧ ∀ i ∈ is, i ∈ ([0, 1, 2] : List Int) := by
  unfold axesOk at h
  rw [Bool.and_eq_true] at h
  obtain ⟨h1, h2⟩ := h
  have e1 : is.length = n := of_decide_eq_true h1
  refine ⟨e1, ?_⟩
  rw [List.all_eq_true] at h2
  have m : ∀ j, j < n → ((j : Nat) : Int) ∈ is := fun j hj => of_decide_eq_true (h2 j (List.mem_range.mpr hj))
  match n, is, e1, hn, m with
  | 0, [], _, _, _ => intro i hi; cases hi
  | 1, [a], _, _, m =>
    have m0 := m 0 (by omega)
    simp at m0
    intro i hi
    simp at hi
    simp [hi, ← m0]
  | 2, [a, b], _, _, m =>
    have m0 := m 0 (by omega)
    have m1 := m 1 (by omega)
    simp at m0 m1
    intro i hi
    simp at hi ⊢
    omega
  | 3, [a, b, c], _, _, m =>
    have m0 := m 0 (by omega)
    have m1 := m 1 (by omega)
    have m2 := m 2 (by omega)
    simp at m0 m1 m2
    intro i hi
    simp at hi ⊢
    omega
  | n + 4, _, _, hn, _ => omega
theorem valid_parts {ks : List Str} {is : List Int} (h : valid ks is = true) : ks.length ≤ 3 ∧ (∀ k ∈ ks, k ∈ KINDS) ∧ is.length = ks.length ∧ ∀ i ∈ is, i ∈ ([0, 1, 2] : List Int) := by
  unfold valid at h
  rw [Bool.and_eq_true, Bool.and_eq_true] at h
  obtain ⟨h1, h2, h3⟩ := h
  have e1 : ks.length ≤ 3 := of_decide_eq_true h1
  rw [List.all_eq_true] at h2
  obtain ⟨h4, h5⟩ := axes_small h3 e1
  exact ⟨e1, fun k hk => of_decide_eq_true (h2 k hk), h4, h5⟩
theorem sum_le : ∀ {ys : List Str}, (∀ y ∈ ys, y.length ≤ 20) → (ys.map (·.length)).sum ≤ 20 * ys.length
  | [], _ => by simp
  | y :: r, h => by
    have q := sum_le (ys := r) fun y hy => h y (List.mem_cons_of_mem _ hy)
    have z := h y (List.mem_cons_self ..)
    rw [List.map_cons, List.sum_cons, List.length_cons]
    omega
end Lw
namespace Lw
open PySem L2
/-- a form stands at p -/
def FormAt (K : PySem.W.Frag) (C p : Addr) (ks : List Str) (is : List Int) (H : Hp) : Prop := ∃ dx tk ta : Addr, H p = some (.ins C dx (flds tk ta)) ∧ SqT K H tk (ks.map V.str) ∧ SqT K H ta (is.map V.int)
theorem FormAt.same {K : PySem.W.Frag} {C p : Addr} {ks : List Str} {is : List Int} {H H' : Hp} (g : Same H H') : FormAt K C p ks is H → FormAt K C p ks is H'
  | ⟨dx, tk, ta, h1, h2, h3⟩ => ⟨dx, tk, ta, g _ _ h1, seqT g h2, seqT g h3⟩
def spText (K : PySem.W.Frag) (C : Addr) : Sp := fun vs H Q _ => ∃ (p : Addr) (ks : List Str) (is : List Int), vs = [.ref p] ∧ FormAt K C p ks is H ∧ valid ks is = true ∧ ∀ H' : Hp, Same H H' → Q (.str (ftext ks is)) H'
def spRead (K : PySem.W.Frag) (C BF : Addr) : Sp := fun vs H Q E => ∃ z : Str, vs = [.ref C, .str z] ∧ z.length ≤ 900 ∧ (∀ (ks : List Str) (is : List Int), rd z = some (ks, is) → ∀ (p : Addr) (H' : Hp), Same H H' → FormAt K C p ks is H' → Q (.ref p) H') ∧ (rd z = none → ∀ H' : Hp, Same H H' → E (.ref BF) none H')
section
variable {P : Program} {w : World} {K : PySem.W.Frag} {mg : Str → Option Value} {base : Heap} {C fI BF AW KD f : Addr} {MC : Value} {fd : FuncData}
theorem scX : FnScope ["self", "kind", "axis"] ["self"] (defScope sText) := ⟨rfl, rfl, rfl, by decide +kernel, rfl, by decide +kernel, by decide +kernel⟩
theorem ok_text (F : Fun K "text" "Form.text" sText f fd) (T : Fm K mg C fI BF AW KD MC) (B : Bt mg) : FnOk P w K mg base CX0 1 f fd ["self"] (spText K C) := by
  refine F.ok scX (fun vs H Q E h => ?_) (fun cdv A outer s H vs Q E hr h => ?_)
  · obtain ⟨p, ks, is, rfl, _⟩ := h
    rfl
  obtain ⟨p, ks, is, rfl, ⟨dx, tk, ta, hp, ht, ha⟩, hv, q⟩ := h
  obtain ⟨v1, v2, v3, v4⟩ := valid_parts hv
  refine ⟨_, pss_cons (ps_if (pt_cmpR op_eq (pe_callB call_len_seq (by rfl) B.len PySem.boot_len (pa_cons (pe_fld (pv 0) rfl) pa_nil)) pe_int (nomark _)) (pss_one (ps_ret pe_str)) pss_nil)
    (pss_one (ps_ret (pe_join pe_str (pe_lc (own := [("kind", 1), ("axis", 2)]) (g := gTup K 2 (gCons (gName 1) (gCons (gName 2) gNil))) (tt := tYes) rfl scX.nd (RZ.pi_zipA (by rfl) B.zip (pa_cons (pe_fld (pv 0) rfl) (pa_cons (pe_fld (pv 0) rfl) pa_nil))) (blkOk_by (N := ["self", "kind", "axis"]) (sc := defScope sText) (by decide +kernel))
      (fun _ _ _ _ _ => pg_tup rfl (pgs_cons (pg_name (i := 1) scX.nd rfl (Or.inl rfl)) (pgs_cons (pg_name (i := 2) scX.nd rfl (Or.inl rfl)) pgs_nil))) (fun _ _ _ _ _ => pts_nil)
      (fun _ _ _ _ _ => pe_joined (.cons (pe_fmt (pv 1)) (.cons pe_str (.cons (pe_fmt (pv 2)) .nil)))))))), ?_⟩
  refine ⟨_, rfl, p, C, dx, _, _, rfl, hp, T.cl, T.nK, flds_k _ _, tk, _, rfl, .inr ht, rfl, _, rfl, ?_⟩
  refine ite2 (fun c => ?_) (fun c => ?_)
  · have e : ks.length = 0 := by
      have z := of_decide_eq_true c
      rw [List.length_map] at z
      simpa using z
    have z := q H (Same.refl H)
    unfold ftext at z
    rw [if_pos e] at z
    exact z
  · have e : ¬ ks.length = 0 := fun e => c (by rw [List.length_map, e]; rfl)
    refine ⟨⟨_, rfl⟩, _, rfl, p, C, dx, _, _, rfl, hp, T.cl, T.nK, flds_k _ _, _, rfl, p, C, dx, _, _, rfl, hp, T.cl, T.nA, flds_a _ _, tk, ta, _, _, rfl, .inr ⟨ht, ha, fun D hD => ?_⟩⟩
    have elen : (ks.map V.str).length = (is.map V.int).length := by rw [List.length_map, List.length_map, v3]
    refine lc_it (te := fun σ H Q => tJs [tFmt (tVar 1), tC (.str " "), tFmt (tVar 2)] Str.empty σ H fun out H1 => Q (.str out) H1) (walk_zipT (K := K) (a := tk) (b := ta) elen) (InvM H D (fun p : Str × Int => V.str (itm p.1 p.2)) (ks.zip is)) ⟨upd_same, same_new hD _⟩ (fun i H' _ ⟨_, g⟩ => ⟨seqT g ht, seqT g ha⟩) ?_ ?_
    · rintro i v H' H'' hi ⟨hd, g⟩ ⟨U, x, y, rfl, hU, rfl, ex, ey⟩
      obtain ⟨k, ek, rfl⟩ := at_map ex
      obtain ⟨j, ej, rfl⟩ := at_map ey
      obtain ⟨l1, l2, l3, l4, l5⟩ := small_itm k (v2 k (List.mem_of_getElem? ek)) j (v4 j (List.mem_of_getElem? ej))
      have gU : Same H' (upd H' U (.tup [.str k, .int j])) := same_new hU _
      have sz : ∀ {n : Nat}, n ≤ 20 → n ≤ sizeLine := fun h => Nat.le_of_lt (small1000 (by omega))
      refine ⟨U, [.str k, .int j], rfl, SqT.of upd_same, rfl, _, _, rfl, _, _, rfl, rfl, ?_⟩
      refine ⟨rfl, kept ?_⟩
      refine ⟨_, rfl, .inl ⟨k, rfl, sz l4, k, rfl, sz l1, " ", rfl, sz l2, _, rfl, .inr ⟨j, rfl, l5, _, rfl, sz l3, ?_⟩⟩⟩
      have ez : (ks.zip is)[i]? = some (k, j) := List.getElem?_zip_eq_some.mpr ⟨ek, ej⟩
      exact ⟨_, gU _ _ hd, len_m (by rw [List.length_zip]; omega), InvM.next (f := fun p : Str × Int => V.str (itm p.1 p.2)) hD (g.trans gU) ez _ rfl⟩
    · rintro H' ⟨hd, g⟩
      have el : ((ks.zip is).take (ks.map V.str).length) = ks.zip is := List.take_of_length_le (by rw [List.length_zip, List.length_map]; omega)
      rw [el] at hd
      refine ⟨_, D, (ks.zip is).map (fun p => itm p.1 p.2), rfl, rfl, .inl (SqL.of (by rw [hd, List.map_map] <;> rfl)), ?_, ?_⟩
      · have z := sum_le (ys := (ks.zip is).map (fun p => itm p.1 p.2)) fun y hy => by
          obtain ⟨⟨k, j⟩, hm, rfl⟩ := List.mem_map.mp hy
          obtain ⟨m1, m2⟩ := List.of_mem_zip hm
          exact (small_itm k (v2 k m1) j (v4 j m2)).2.2.1
        have z2 : ((ks.zip is).map (fun p => itm p.1 p.2)).length ≤ 3 := by rw [List.length_map, List.length_zip]; omega
        have z3 : ((ks.zip is).map (fun p => itm p.1 p.2)).length * Str.length ", " ≤ 3 * 2 := Nat.mul_le_mul z2 (by decide)
        omega
      · have z := q H' g
        unfold ftext at z
        rw [if_neg e] at z
        exact z
end
end Lw
namespace Lw
open PySem L2
theorem fnR_of {P : Program} {w : World} {K : PySem.W.Frag} {mg : Str → Option Value} {base : Heap} {CX : CXT} {k : Nat} {f : Addr} {fd : FuncData} {ps : List Str} {sp : Sp} (F : FnOk P w K mg base CX k f fd ps sp) (hb : Binds K fd ps []) : FnR P w K mg base CX k f sp := by
  intro A outer s H us vs Q E hr e0 r hsp
  have KX : K.In s.heap := e0.mod.kin.keeps fun b o e => (e0.bs b o e).1
  have hl : us.length = ps.length := by rw [← r.length]; exact F.len _ _ _ _ hsp
  have hb2 := hb s us KX (by rw [List.append_nil]; exact hl)
  rw [List.append_nil] at hb2
  exact F.run A outer s H ⟨us, []⟩ us vs Q E hr e0 hb2 r hsp
theorem lvl_two {p k a : Str} (h : Txt.split p " " = [k, a]) : lvl p = if a ∈ AWORDS then some (k, aval a) else none := by
  unfold lvl
  rw [h]
theorem lvl_not {p : Str} (h : (Txt.split p " ").length ≠ 2) : lvl p = none := by
  unfold lvl
  split
  · rename_i k a e
    rw [e] at h
    exact absurd rfl h
  · rfl
theorem int_word {a : Str} (h : a ∈ AWORDS) : PySem.intText? a = some (aval a) ∧ a.length ≤ 640 := by
  have z : ∀ a ∈ AWORDS, PySem.intText? a = some (aval a) ∧ a.length ≤ 640 := by decide +kernel
  exact z a h
theorem rd_none {z p : Str} (hz : z ≠ "-") (hp : p ∈ Txt.split z ", ") (h : lvl p = none) : rd z = none := by
  unfold rd
  rw [if_neg hz, if_neg]
  rintro ⟨h1, _⟩
  rw [List.all_eq_true] at h1
  have q := h1 p hp
  rw [h] at q
  cases q
section
variable {P : Program} {w : World} {K : PySem.W.Frag} {mg : Str → Option Value} {base : Heap} {C fI BF AW KD f : Addr} {MC : Value} {fd : FuncData}
abbrev namesR : List Str := ["cls", "text", "kinds", "axes", "level", "words"]
theorem scR : FnScope namesR ["cls", "text"] (defScope sRead) := ⟨rfl, rfl, rfl, by decide +kernel, rfl, by decide +kernel, by decide +kernel⟩
/-- between the turns -/
def InvR (K : PySem.W.Frag) (H0 : Hp) (C L k a : Addr) (z : Str) (i : Nat) (σ : St) (H : Hp) : Prop := ∃ u4 u5 : Option V, σ = [some (.ref C), some (.str z), some (.ref k), some (.ref a), u4, u5] ∧ Same H0 H ∧ H L = some (.lst ((Txt.split z ", ").map V.str)) ∧
  H k = some (.lst ((lks ((Txt.split z ", ").take i)).map V.str)) ∧ H a = some (.lst ((lis ((Txt.split z ", ").take i)).map V.int)) ∧ (∀ p ∈ (Txt.split z ", ").take i, (lvl p).isSome = true) ∧ (lks ((Txt.split z ", ").take i)).length ≤ i ∧ (lis ((Txt.split z ", ").take i)).length ≤ i
/-- Form(..): from the promise of its __init__ to the new form -/
theorem mk_form {H : Hp} {Q : VK} {E : XK} {ks : List Str} {is : List Int} {kv : V} (hk : ks.length ≤ 1000) (hi : is.length ≤ 1000) (hkv : (kv = .non ∧ is = iota ks.length) ∨ ∃ a, kv = .ref a ∧ (SqL K H a (is.map V.int) ∨ SqT K H a (is.map V.int)))
    (h1 : valid ks is = true → ∀ (p : Addr) (H' : Hp), Same H H' → FormAt K C p ks is H' → Q (.ref p) H') (h2 : valid ks is = false → ∀ H' : Hp, Same H H' → E (.ref BF) none H') : mkF C (spInit K C BF) E (ks.map V.str) kv H Q := by
  intro x dx nx ndx ne
  have g : Same H (upd (upd H dx (.own x)) x (.ins C dx [])) := fun b o e => by rw [upd_ne (ne_of_none e nx), upd_ne (ne_of_none e ndx)]; exact e
  have sm : ∀ {H' : Hp}, Kp x (upd (upd H dx (.own x)) x (.ins C dx [])) H' → Same H H' := fun kp b o e => kp b o (ne_of_none e nx) (g _ _ e)
  refine ⟨x, dx, ks, is, rfl, rfl, upd_same, hk, hi, ?_, fun H' tk ta hv kp hp ht ha => ⟨rfl, h1 hv x H' (sm kp) ⟨dx, tk, ta, hp, ht, ha⟩⟩, fun H' hv kp => h2 hv H' (sm kp)⟩
  rcases hkv with z | ⟨a, e, z⟩
  · exact .inl z
  · exact .inr ⟨a, e, z.imp (fun q => g.seq q) (fun q => seqT g q)⟩
theorem ok_read (F : Fun K "read" "Form.read" sRead f fd) (T : Fm K mg C fI BF AW KD MC) (B : Bt mg) (FI : FnF P w K mg base (L2.CX P w) 3 fI "axes" .non (spInit K C BF)) : FnOk P w K mg base (L2.CX P w) 5 f fd ["cls", "text"] (spRead K C BF) := by
  refine F.okX scR (fun vs H Q E h => ?_) (fun cdv A outer s H vs Q E hr h => ?_)
  · obtain ⟨z, rfl, _⟩ := h
    rfl
  obtain ⟨z, rfl, hz, q, qe⟩ := h
  obtain ⟨pl, pn⟩ := split_lens z ", " (by decide +kernel) (by decide +kernel)
  refine ⟨_, pss_cons (ps_if (pt_cmpR op_eq (pv 1) pe_str (nomark _)) (pss_one (ps_ret (pe_F0 T.mkC FI hr (by rfl) T.mC (passes_call (takes_of rfl rfl rfl rfl) (fun _ _ _ _ h => h))))) pss_nil)
    (pss_cons (ps_set (i := 2) scR.nd rfl (Or.inl rfl) (pe_lst pa_nil))
    (pss_cons (ps_set (i := 3) scR.nd rfl (Or.inl rfl) (pe_lst pa_nil))
    (pss_cons (ps_for (passes_of rfl) rfl (pi_list (pe_split (pv 1) pe_str)) (pg_name (i := 4) scR.nd rfl (Or.inl rfl))
      (pss_cons (ps_set (i := 5) scR.nd rfl (Or.inl rfl) (pe_split (pv 4) pe_str))
      (pss_cons (ps_if (PW.pt (pw_or (pt_cmpR op_ne (pe_callB call_len_seq (by rfl) B.len PySem.boot_len (pa_cons (pv 5) pa_nil)) pe_int (nomark _)) (pw_or1 (pt_cmpR op_notIn_seq (pe_ix ix_list (pv 5) pe_int (fun _ _ => rfl)) (pe_glob (v := .ref AW) (by rfl) T.mAW rfl) (by rfl)))))
        (pss_one (ps_raise rfl (takes_of rfl rfl rfl rfl) (pmk_own0 PySem.F.excBase_ValueError T.xB T.mB T.kB (raises_own T.rB T.tB) (by rfl)))) pss_nil)
      (pss_cons (ps_expr (pe_bm PySem.F.plainAttrs_list PySem.F.slot_list_append PySem.F.type_list_append mt_append (pv 2) (pa_cons (pe_ix ix_list (pv 5) pe_int (fun _ _ => rfl)) pa_nil)))
      (pss_one (ps_expr (pe_bm PySem.F.plainAttrs_list PySem.F.slot_list_append PySem.F.type_list_append mt_append (pv 3) (pa_cons (pe_callTy call_int_str (by rfl) B.int (by decide +kernel) (pa_cons (pe_ix ix_list (pv 5) pe_int (fun _ _ => rfl)) pa_nil)) pa_nil))))))))
    (pss_one (ps_ret (pe_Fsk T.mkC FI hr (by rfl) T.mC (passes_call (takes_of rfl rfl rfl rfl) (fun _ _ _ _ h => h)) (pv 2) (pv 3))))))), ?_⟩
  refine ⟨_, rfl, rfl, _, rfl, ?_⟩
  refine ite2 (fun c => ?_) (fun c => ?_)
  · have ez : z = "-" := by
      have y := of_decide_eq_true c
      cases y
      rfl
    have er : rd z = some ([], []) := by
      unfold rd
      rw [if_pos ez]
    exact mk_form (ks := []) (is := []) (Nat.zero_le _) (Nat.zero_le _) (.inl ⟨rfl, rfl⟩) (fun _ p H' g h => q _ _ er p H' g h) (fun hv => by cases hv)
  · have nz : z ≠ "-" := fun e => c (by rw [e]; exact decide_eq_true rfl)
    refine ⟨Nat.zero_le _, fun k hk0 => ⟨Nat.zero_le _, fun a ha0 => ?_⟩⟩
    have gk := same_new hk0 (.lst [])
    have ga := same_new ha0 (.lst [])
    have hkH : H k = none := hk0
    have haH : H a = none := gk.free ha0
    have sz : ∀ {n : Nat}, n ≤ 1010 → n ≤ sizeLine := fun h => Nat.le_trans h (by decide)
    refine ⟨_, rfl, ⟨_, rfl⟩, _, _, rfl, rfl, rfl, sz (by omega), fun L hL => ?_⟩
    have gL := same_new hL (.lst ((Txt.split z ", ").map V.str))
    have hLH : H L = none := gk.free (ga.free hL)
    have k0 := gL _ _ (ga _ _ (upd_same (H := H) (a := k) (o := .lst [])))
    have a0 := gL _ _ (upd_same (H := upd H k (.lst [])) (a := a) (o := .lst []))
    have nak : a ≠ k := (ne_of_none (upd_same (H := H) (a := k) (o := .lst [])) ha0).symm
    have nLk : L ≠ k := (ne_of_none (ga _ _ (upd_same (H := H) (a := k) (o := .lst []))) hL).symm
    have nLa : L ≠ a := (ne_of_none (upd_same (H := upd H k (.lst [])) (a := a) (o := .lst [])) hL).symm
    refine ⟨L, rfl, ⟨_, SqL.of upd_same⟩, for_list (K := K) (a := L) (xs := (Txt.split z ", ").map V.str) (InvR K H C L k a z)
      ⟨none, none, rfl, gk.trans (ga.trans gL), upd_same, k0, a0, fun p hp => by simp at hp, Nat.le_refl _, Nat.le_refl _⟩ (fun i σ H' _ ⟨_, _, _, _, hl, _⟩ => SqL.of hl) ?_ ?_⟩
    · rintro i y σ H' hi ⟨u4, u5, rfl, g, hl, hk, ha, hp, n1, n2⟩
      obtain ⟨p, ep, rfl⟩ := at_map hi
      have hi2 : i < (Txt.split z ", ").length := (List.getElem?_eq_some_iff.mp ep).1
      have hpm : p ∈ Txt.split z ", " := List.mem_of_getElem? ep
      have plen := pl p hpm
      have gW : ∀ {W : Addr}, H' W = none → Same H' (upd H' W (.lst ((Txt.split p " ").map V.str))) := fun h => same_new h _
      refine ⟨_, rfl, ⟨_, rfl⟩, _, _, rfl, rfl, rfl, sz (by omega), fun W hW => ?_⟩
      refine ⟨_, rfl, W, _, rfl, .inl (SqL.of upd_same), rfl, _, rfl, ?_⟩
      by_cases hl2 : (Txt.split p " ").length = 2
      · refine iteN (by rw [List.length_map, hl2]; rfl) ?_
        obtain ⟨kw, aw, ew⟩ : ∃ kw aw, Txt.split p " " = [kw, aw] := by
          match hh : Txt.split p " ", hl2 with
          | [x, y], _ => exact ⟨x, y, rfl⟩
        have eW : upd H' W (.lst ((Txt.split p " ").map V.str)) W = some (.lst [.str kw, .str aw]) := by rw [upd_same, ew] <;> rfl
        refine ⟨_, rfl, W, _, _, _, rfl, rfl, SqL.of eW, rfl, AW, _, rfl, .inr (T.awT _), rfl, flat_strs _, _, rfl, ?_⟩
        rw [show inV (.str aw) (AWORDS.map V.str) = decide (aw ∈ AWORDS) from inV_str aw AWORDS]
        by_cases haw : aw ∈ AWORDS
        · have ev : lvl p = some (kw, aval aw) := by rw [lvl_two ew, if_pos haw]
          obtain ⟨w1, w2⟩ := int_word haw
          refine iteN (by rw [decide_eq_true haw]; rfl) ?_
          have et : (Txt.split z ", ").take (i + 1) = (Txt.split z ", ").take i ++ [p] := by rw [List.take_succ, ep]; rfl
          have ek : lks ((Txt.split z ", ").take (i + 1)) = lks ((Txt.split z ", ").take i) ++ [kw] := by
            unfold lks
            rw [et, List.filterMap_append, List.map_append]
            show _ ++ (List.filterMap lvl [p]).map _ = _
            rw [List.filterMap_cons_some ev] <;> rfl
          have ei : lis ((Txt.split z ", ").take (i + 1)) = lis ((Txt.split z ", ").take i) ++ [aval aw] := by
            unfold lis
            rw [et, List.filterMap_append, List.map_append]
            show _ ++ (List.filterMap lvl [p]).map _ = _
            rw [List.filterMap_cons_some ev] <;> rfl
          have nWk : W ≠ k := (ne_of_none hk hW).symm
          have nWa : W ≠ a := (ne_of_none ha hW).symm
          have hk2 := gW hW _ _ hk
          have ha2 := gW hW _ _ ha
          refine ⟨_, rfl, .inl ⟨rfl, _, SqL.of hk2⟩, _, rfl, W, _, _, _, rfl, rfl, SqL.of eW, rfl, k, _, _, rfl, rfl, hk2, by rw [List.length_map]; exact small1000 (by omega), ?_⟩
          have ha3 := (upd_ne (o := .lst ((lks ((Txt.split z ", ").take i)).map V.str ++ [.str kw])) nak).trans ha2
          have eW3 := (upd_ne (o := .lst ((lks ((Txt.split z ", ").take i)).map V.str ++ [.str kw])) nWk).trans eW
          refine ⟨_, rfl, .inl ⟨rfl, _, SqL.of ha3⟩, _, rfl, W, _, _, _, rfl, rfl, SqL.of eW3, rfl, aw, _, rfl, w1, w2, a, _, _, rfl, rfl, ha3, by rw [List.length_map]; exact small1000 (by omega), ?_⟩
          refine ⟨_, _, rfl, same_over (same_over (g.trans (gW hW)) hkH _) haH _, ?_, ?_, ?_, fun q' hq' => ?_, by rw [ek, List.length_append, List.length_singleton]; omega, by rw [ei, List.length_append, List.length_singleton]; omega⟩
          · rw [upd_ne nLa, upd_ne nLk]
            exact gW hW _ _ hl
          · rw [upd_ne nak.symm, upd_same, ek, List.map_append] <;> rfl
          · rw [upd_same, ei, List.map_append] <;> rfl
          · rw [et] at hq'
            rcases List.mem_append.mp hq' with h | h
            · exact hp q' h
            · rw [List.mem_singleton.mp h, ev] <;> rfl
        · refine iteC (by rw [decide_eq_false haw]; rfl) ?_
          exact qe (rd_none nz hpm (by rw [lvl_two ew, if_neg haw])) _ (g.trans (gW hW))
      · refine iteC (by rw [List.length_map]; exact by rw [decide_eq_false (fun e => hl2 (by injection e with e; omega))]; rfl) ?_
        refine iteC rfl ?_
        exact qe (rd_none nz hpm (lvl_not hl2)) _ (g.trans (gW hW))
    · rintro σ H' ⟨u4, u5, rfl, g, hl, hk, ha, hp, n1, n2⟩
      rw [List.length_map] at hk ha hp n1 n2
      rw [List.take_length] at hk ha hp n1 n2
      have hall : ((Txt.split z ", ").all fun p => (lvl p).isSome) = true := by
        rw [List.all_eq_true]
        exact hp
      refine ⟨_, rfl, _, rfl, k, _, rfl, .inr (SqL.of hk), sz (by rw [List.length_map]; omega), ?_⟩
      refine mk_form (ks := lks (Txt.split z ", ")) (is := lis (Txt.split z ", ")) ?_ ?_ (.inr ⟨a, rfl, .inl (SqL.of ha)⟩) (fun hv p H2 g2 h2 => q _ _ ?_ p H2 (g.trans g2) h2) (fun hv H2 g2 => qe ?_ H2 (g.trans g2))
      · omega
      · omega
      · unfold rd
        rw [if_neg nz, if_pos ⟨hall, hv⟩]
      · unfold rd
        rw [if_neg nz, if_neg (fun z => by rw [z.2] at hv; cases hv)]
end
end Lw
namespace Lw
open PySem L2
abbrev sMixed : Stmt := topS 27
abbrev sForm : Stmt := topS 31
abbrev sFtext : Stmt := topS 32
theorem SX.upd_out {st q D : Addr} {H H' : Hp} {o : HO} (g : SX st q H H') (n : H D = none) : SX st q H (upd H' D o) := fun b u h1 h2 e => by rw [upd_ne (ne_of_none e n)]; exact g b u h1 h2 e
theorem Spr.upd {st q D : Addr} {H : Hp} {b : Int} {o : HO} (s : Spr H st q b) (n1 : D ≠ st) (n2 : D ≠ q) : Spr (upd H D o) st q b := by
  obtain ⟨ns, a, c, h1, h2, r⟩ := s
  exact ⟨ns, a, c, by rw [upd_ne n1.symm]; exact h1, by rw [upd_ne n2.symm]; exact h2, r⟩
theorem Spr.out {st q D : Addr} {H : Hp} {b : Int} (s : Spr H st q b) (n : H D = none) : D ≠ st ∧ D ≠ q := by
  obtain ⟨ns, a, c, h1, h2, _⟩ := s
  exact ⟨(ne_of_none h1 n).symm, (ne_of_none h2 n).symm⟩
section
variable {P : Program} {w : World} {K : PySem.W.Frag} {mg : Str → Option Value} {base : Heap} {f g : Addr} {fd gd : FuncData}
def spMixed : Sp := fun vs H Q _ => ∃ (st q p : Addr) (b : Int) (is : List Int), vs = [.ref st, .ref p] ∧ Spr H st q b ∧ 0 ≤ b ∧ b ≤ 900 ∧ H p = some (.lst (is.map V.int)) ∧ is.length ≤ 10 ∧
  ∀ (r : Addr) (os : List Int) (H' : Hp), os.Perm is → Spr H' st q (b + is.length) → SX st q H H' → H' r = some (.lst (os.map V.int)) → H r = none → Q (.ref r) H'
abbrev namesM : List Str := ["_law_stream", "_law_some", "_law_left", "_law_k"]
theorem scM : FnScope namesM ["_law_stream", "_law_some"] (defScope sMixed) := ⟨rfl, rfl, rfl, by decide +kernel, rfl, by decide +kernel, by decide +kernel⟩
def InvMx (H0 : Hp) (st q L D : Addr) (b : Int) (is : List Int) (i : Nat) (H : Hp) : Prop := ∃ acc ls : List Int, H D = some (.lst (acc.map V.int)) ∧ H L = some (.lst (ls.map V.int)) ∧ acc.length = i ∧ ls.length + i = is.length ∧ (acc ++ ls).Perm is ∧ Spr H st q (b + i) ∧ SX st q H0 H
theorem er_perm {α : Type} : ∀ (l : List α) (k : Nat) (h : k < l.length), (l[k] :: l.eraseIdx k).Perm l
  | a :: r, 0, _ => List.Perm.refl _
  | a :: r, k + 1, h => (List.Perm.swap _ _ _).trans (List.Perm.cons a (er_perm r k (Nat.lt_of_succ_lt_succ h)))
theorem er_map {α β : Type} (f : α → β) : ∀ (l : List α) (k : Nat), (l.map f).eraseIdx k = (l.eraseIdx k).map f
  | [], _ => rfl
  | a :: r, 0 => rfl
  | a :: r, k + 1 => congrArg (f a :: ·) (er_map f r k)
theorem pop_at {ls : List Int} {r : Int} (h0 : 0 ≤ r) (h1 : r < (ls.length : Int)) : ∃ (k : Nat) (n : Int), seqIndex? r (ls.map V.int).length = some k ∧ (ls.map V.int)[k]? = some (.int n) ∧ (ls.map V.int).eraseIdx k = (ls.eraseIdx k).map V.int ∧ (n :: ls.eraseIdx k).Perm ls ∧ (ls.eraseIdx k).length + 1 = ls.length := by
  have hk : r.toNat < ls.length := by omega
  refine ⟨r.toNat, ls[r.toNat], ?_, by rw [List.getElem?_map, List.getElem?_eq_getElem hk] <;> rfl, ?_, er_perm ls _ hk, by rw [List.length_eraseIdx_of_lt hk]; omega⟩
  · refine (ixN_seq (n := (ls.map V.int).length) (i := r) (j := r.toNat) ?_).1
    unfold ixN
    rw [if_pos h0, if_pos (by rw [List.length_map]; exact h1)]
  · rw [er_map]
theorem ok_mixed (F : Fun K "_law_mixed" "_law_mixed" sMixed f fd) (G : FnOk P w K mg base CX0 1 g gd ["_law_stream", "_law_many"] spDraw) (bG : Binds K gd ["_law_stream", "_law_many"] []) (kG : PySem.W.keepIn K (.ref g) = true) (mG : mg "_law_draw" = some (.ref g)) (B : Bt mg) :
    FnOk P w K mg base CX0 2 f fd ["_law_stream", "_law_some"] spMixed := by
  refine F.ok scM (fun vs H Q E h => ?_) (fun cdv A outer s H vs Q E hr h => ?_)
  · obtain ⟨st, q, p, b, is, rfl, _⟩ := h
    rfl
  obtain ⟨st, q, p, b, is, rfl, hs, hb0, hb1, hp, hl, k⟩ := h
  refine ⟨_, pss_cons (ps_set (i := 2) scM.nd rfl (Or.inr rfl) (pe_callTy call_list_of (by rfl) B.lst (by decide +kernel) (pa_cons (pv 1) pa_nil)))
    (pss_one (ps_ret (pe_lc (own := [("_law_k", 3)]) (g := gName 3) (tt := tYes) (te := tBM K "list" rPopAt (tVar 2) (tCons (tCall spDraw [] E0 (tCons (tVar 0) (tCons (tCB (fun xs H Q => ∃ p ys, xs = [.ref p] ∧ (SqL K H p ys ∨ SqT K H p ys) ∧ Q (.int ys.length) H) (tCons (tVar 2) tNil)) tNil))) tNil)) rfl scM.nd (pi_range1 (by rfl) B.range (pa_cons (pe_callB call_len_seq (by rfl) B.len PySem.boot_len (pa_cons (pv 2) pa_nil)) pa_nil)) (blkOk_by (N := namesM) (sc := defScope sMixed) (by decide +kernel))
      (fun _ _ _ _ _ => pg_name (i := 3) scM.nd rfl (Or.inl rfl)) (fun _ _ _ _ _ => pts_nil)
      (fun _ _ _ _ _ => pe_bm PySem.F.plainAttrs_list PySem.F.slot_list_pop PySem.F.type_list_pop mt_popAt (pv 2) (pa_cons (pe_call G hr rfl mG kG bG .nil pass0 (pa_cons (pv 0) (pa_cons (pe_callB call_len_seq (by rfl) B.len PySem.boot_len (pa_cons (pv 2) pa_nil)) pa_nil))) pa_nil))))), ?_⟩
  refine ⟨_, rfl, p, _, rfl, .inl (SqL.of hp), fun L hL => ?_⟩
  have gL := same_new hL (.lst (is.map V.int))
  obtain ⟨nL1, nL2⟩ := hs.out hL
  have hsL := hs.same gL
  refine ⟨_, rfl, L, _, rfl, .inl (SqL.of upd_same), _, rfl, by rw [List.length_map]; omega, by rw [List.length_map]; omega, fun D hD => ?_⟩
  obtain ⟨nD1, nD2⟩ := hsL.out hD
  have nDL : D ≠ L := (ne_of_none (upd_same (H := H) (a := L) (o := .lst (is.map V.int))) hD).symm
  have hD0 : H D = none := gL.free hD
  have gD := same_new hD (.lst [])
  have elm : (is.map V.int).length = is.length := List.length_map _
  refine lc_range (lo := 0) (n := (is.map V.int).length) (InvMx H st q L D b is) ⟨[], is, upd_same, gD _ _ upd_same, rfl, rfl, List.Perm.refl _, ?_, .of (gL.trans gD)⟩ ?_ ?_
  · rw [show b + ((0 : Nat) : Int) = b from Int.add_zero b]
    exact hsL.same gD
  · rintro i H2 hi ⟨acc, ls, hd, hl2, ha, hn, hp2, hs2, gx⟩
    have hlen : (((ls.map V.int).length : Nat) : Int) = (ls.length : Int) := by rw [List.length_map]
    refine ⟨rfl, kept ?_⟩
    refine ⟨_, rfl, .inl ⟨rfl, _, SqL.of hl2⟩, _, rfl, _, rfl, L, _, rfl, .inl (SqL.of hl2), st, q, b + i, _, rfl, hs2, by omega, by omega, by rw [hlen]; omega, by rw [hlen]; omega, fun r H3 r0 r1 hs3 g3 => ?_⟩
    have hd3 := g3 _ _ nD1 nD2 hd
    have hl3 := g3 _ _ nL1 nL2 hl2
    obtain ⟨j, n, e1, e2, e3, e4, e5⟩ := pop_at r0 (by rw [hlen] at r1; exact r1)
    refine ⟨L, _, r, j, _, rfl, rfl, hl3, by omega, by rw [hlen] at r1; omega, e1, e2, ?_⟩
    have hd4 := (upd_ne (o := .lst ((ls.map V.int).eraseIdx j)) nDL).trans hd3
    refine ⟨_, hd4, by rw [List.length_map]; exact small1000 (by omega), acc ++ [n], ls.eraseIdx j, by rw [upd_same, List.map_append] <;> rfl, by rw [upd_ne nDL.symm, upd_same, e3], by rw [List.length_append, ha] <;> rfl, by omega, ?_, ?_, ?_⟩
    · rw [List.append_assoc]
      exact (List.Perm.append_left acc e4).trans hp2
    · have e6 : b + (i : Int) + 1 = b + ((i + 1 : Nat) : Int) := by omega
      rw [← e6]
      exact (hs3.upd nL1 nL2).upd nD1 nD2
    · exact ((gx.trans g3).upd_out hL).upd_out hD0
  · rintro H2 ⟨acc, ls, hd, hl2, ha, hn, hp2, hs2, gx⟩
    rw [elm] at hs2
    have els : ls = [] := List.length_eq_zero_iff.mp (by omega)
    subst els
    rw [List.append_nil] at hp2
    exact k D acc H2 hp2 hs2 gx hd hD0
end
end Lw
namespace Lw
open PySem L2 TL
/-- a form's levels as pairs -/
def Tups (K : PySem.W.Frag) (H : Hp) (vs : List V) (l : List (Str × Int)) : Prop := vs.length = l.length ∧ ∀ (i : Nat) (v : V) (p : Str × Int), vs[i]? = some v → l[i]? = some p → ∃ a, v = .ref a ∧ SqT K H a [.str p.1, .int p.2]
theorem Tups.mono {K : PySem.W.Frag} {H H' : Hp} {vs : List V} {l : List (Str × Int)} (g : TK K H H') (h : Tups K H vs l) : Tups K H' vs l :=
  ⟨h.1, fun i v p e1 e2 => by obtain ⟨a, r, z⟩ := h.2 i v p e1 e2; exact ⟨a, r, g _ _ z⟩⟩
def Good (l : List (Str × Int)) (n : Nat) : Prop := l.length = n ∧ (∀ p ∈ l, p.1 ∈ KINDS) ∧ (l.map (·.2)).Perm (iota n)
def K5 : List Str := ["dense", "packed", "bits", "hashed", "packed"]
theorem k5_kinds : ∀ k ∈ K5, k ∈ KINDS := by decide +kernel
section
variable {P : Program} {w : World} {K : PySem.W.Frag} {mg : Str → Option Value} {base : Heap} {f g g2 : Addr} {fd gd gd2 : FuncData}
def spForm (K : PySem.W.Frag) : Sp := fun vs H Q _ => ∃ (st q : Addr) (b : Int) (n : Nat), vs = [.ref st, .int (n : Int)] ∧ Spr H st q b ∧ 0 ≤ b ∧ b ≤ 800 ∧ n ≤ 3 ∧
  ∀ (t : Addr) (us : List V) (l : List (Str × Int)) (b' : Int) (H' : Hp), Good l n → SqT K H' t us → Tups K H' us l → b ≤ b' → b' ≤ b + 6 → Spr H' st q b' → SX st q H H' → Q (.ref t) H'
abbrev namesFo : List Str := ["_law_stream", "_law_rank", "_law_sides", "_law_axis"]
theorem scFo : FnScope namesFo ["_law_stream", "_law_rank"] (defScope sForm) := ⟨rfl, rfl, rfl, by decide +kernel, rfl, by decide +kernel, by decide +kernel⟩
def InvFo (K : PySem.W.Frag) (H0 : Hp) (st q r D : Addr) (b : Int) (os : List Int) (i : Nat) (H : Hp) : Prop := ∃ (acc : List V) (l : List (Str × Int)), H D = some (.lst acc) ∧ H r = some (.lst (os.map V.int)) ∧ acc.length = i ∧ l.map (·.2) = os.take i ∧ (∀ p ∈ l, p.1 ∈ KINDS) ∧ Tups K H acc l ∧ Spr H st q (b + i) ∧ SX st q H0 H
theorem ok_form (F : Fun K "_law_form" "_law_form" sForm f fd) (GM : FnOk P w K mg base CX0 2 g gd ["_law_stream", "_law_some"] spMixed) (bM : Binds K gd ["_law_stream", "_law_some"] []) (kM : PySem.W.keepIn K (.ref g) = true) (mM : mg "_law_mixed" = some (.ref g))
    (GP : FnOk P w K mg base CX0 2 g2 gd2 ["_law_stream", "_law_some"] (spPick K)) (bP : Binds K gd2 ["_law_stream", "_law_some"] []) (kP : PySem.W.keepIn K (.ref g2) = true) (mP : mg "_law_pick" = some (.ref g2)) (B : Bt mg) :
    FnOk P w K mg base CX0 3 f fd ["_law_stream", "_law_rank"] (spForm K) := by
  refine F.ok scFo (fun vs H Q E h => ?_) (fun cdv A outer s H vs Q E hr h => ?_)
  · obtain ⟨st, q, b, n, rfl, _⟩ := h
    rfl
  obtain ⟨st, q, b, n, rfl, hs, hb0, hb1, hn, k⟩ := h
  refine ⟨_, pss_cons (ps_set (i := 2) scFo.nd rfl (Or.inl rfl) (pe_call GM hr rfl mM kM bM .nil pass0 (pa_cons (pv 0) (pa_cons (pe_listRg rfl (by rfl) B.lst (prg_1 (by rfl) B.range (pv 1))) pa_nil))))
    (pss_one (ps_ret (pe_callTy call_tuple_of (by rfl) B.tup (by decide +kernel) (pa_cons (pe_lc (own := [("_law_axis", 3)]) (g := gName 3) (tt := tYes) rfl scFo.nd (pi_list (pv 2)) (blkOk_by (N := namesFo) (sc := defScope sForm) (by decide +kernel))
      (fun _ _ _ _ _ => pg_name (i := 3) scFo.nd rfl (Or.inl rfl)) (fun _ _ _ _ _ => pts_nil)
      (fun _ _ _ _ _ => pe_tup (pa_cons (pe_call GP hr rfl mP kP bP .nil pass0 (pa_cons (pv 0) (pa_cons (pe_lst (pa_cons pe_str (pa_cons pe_str (pa_cons pe_str (pa_cons pe_str (pa_cons pe_str pa_nil)))))) pa_nil))) (pa_cons (pv 3) pa_nil)))) pa_nil)))), ?_⟩
  refine ⟨_, rfl, _, rfl, n, rfl, RgOk.of_le (by decide) (by omega) (by decide) (by omega), fun p hp => ?_⟩
  rw [rg_iota]
  have gp := same_new hp (.lst ((iota n).map V.int))
  obtain ⟨np1, np2⟩ := hs.out hp
  refine ⟨st, q, p, b, iota n, rfl, hs.same gp, hb0, by omega, upd_same, by rw [iota_len]; omega, fun r os H1 hperm hs1 gx1 hr1 hr0 => ?_⟩
  have hs1' : Spr H1 st q (b + n) := by rw [iota_len] at hs1; exact hs1
  have hrH : H r = none := gp.free hr0
  have elen : os.length = n := by rw [hperm.length_eq, iota_len]
  obtain ⟨nr1, nr2⟩ := hs.out hrH
  refine ⟨_, rfl, r, rfl, ⟨_, SqL.of hr1⟩, fun D hD => ?_⟩
  obtain ⟨nD1, nD2⟩ := hs1'.out hD
  have nDr : D ≠ r := (ne_of_none hr1 hD).symm
  have gD := same_new hD (.lst [])
  have elm : (os.map V.int).length = n := by rw [List.length_map, elen]
  refine lc_list (K := K) (a := r) (xs := os.map V.int) (InvFo K H1 st q r D (b + n) os) ⟨[], [], upd_same, gD _ _ hr1, rfl, (by simp), (fun p hp => by cases hp), ⟨rfl, fun i v p e => (by simp at e)⟩, ?_, .of gD⟩ (fun i H2 _ ⟨_, _, _, h2, _⟩ => SqL.of h2) ?_ ?_
  · rw [show b + (n : Int) + ((0 : Nat) : Int) = b + n from Int.add_zero _]
    exact hs1'.same gD
  · rintro i x H2 hx ⟨acc, l, hd, hr2, ha, hm, hk, ht, hs2, gx⟩
    obtain ⟨o, eo, rfl⟩ := at_map hx
    have hi : i < n := by rw [← elen]; exact (List.getElem?_eq_some_iff.mp eo).1
    have ell : l.length = i := by rw [← ha]; exact ht.1.symm
    refine ⟨rfl, kept ?_⟩
    refine ⟨_, rfl, (by show 5 ≤ sizeLine; decide), fun m hm' => ?_⟩
    have gm := same_new hm' (.lst [.str "dense", .str "packed", .str "bits", .str "hashed", .str "packed"])
    obtain ⟨nm1, nm2⟩ := hs2.out hm'
    refine ⟨st, q, m, b + n + i, _, rfl, hs2.same gm, by omega, by omega, upd_same, nm1, nm2, (by show 0 < 5; decide), (by show 5 ≤ 1000; decide), fun v H3 hv hs3 g3 => ?_⟩
    obtain ⟨kd, hkd, rfl⟩ : ∃ kd, kd ∈ KINDS ∧ v = V.str kd := by
      have hv' : v ∈ K5.map V.str := hv
      obtain ⟨kd, hm, rfl⟩ := List.mem_map.mp hv'
      exact ⟨kd, k5_kinds kd hm, rfl⟩
    refine ⟨_, rfl, (by show 2 ≤ sizeLine; decide), fun t ht' => ?_⟩
    have gt := same_new ht' (.tup [.str kd, .int o])
    have tk3 : TK K H2 H3 := (TK.of gm).trans (TK.sx (hs2.same gm) g3)
    have hd3 := g3 _ _ nD1 nD2 (gm _ _ hd)
    have hd4 := gt _ _ hd3
    have tk4 : TK K H3 (upd (upd H3 t (.tup [.str kd, .int o])) D (.lst (acc ++ [.ref t]))) := (TK.of gt).trans (TK.lst hd4)
    refine ⟨acc, hd4, small1000 (by omega), acc ++ [.ref t], l ++ [(kd, o)], upd_same, ?_, by rw [List.length_append, ha] <;> rfl, ?_, fun p hp => ?_, ⟨by rw [List.length_append, List.length_append, ht.1] <;> rfl, fun j v p ev ep => ?_⟩, ?_, ?_⟩
    · rw [upd_ne nDr.symm]
      exact gt _ _ (g3 _ _ nr1 nr2 (gm _ _ hr2))
    · rw [List.map_append, hm, List.take_succ, eo] <;> rfl
    · rcases List.mem_append.mp hp with hp | hp
      · exact hk p hp
      · rw [List.mem_singleton.mp hp]
        exact hkd
    · by_cases hj : j < acc.length
      · rw [List.getElem?_append_left hj] at ev
        rw [List.getElem?_append_left (by omega)] at ep
        obtain ⟨a, r1, z⟩ := ht.2 j v p ev ep
        exact ⟨a, r1, tk4 _ _ (tk3 _ _ z)⟩
      · have hj2 : j = acc.length := by
          have q1 := (List.getElem?_eq_some_iff.mp ev).1
          rw [List.length_append, List.length_singleton] at q1
          omega
        subst hj2
        rw [List.getElem?_append_right (Nat.le_refl _), Nat.sub_self] at ev
        rw [List.getElem?_append_right (by omega), show acc.length - l.length = 0 by omega] at ep
        cases ev
        cases ep
        exact ⟨t, rfl, TK.lst hd4 _ _ (SqT.of upd_same)⟩
    · have e6 : b + (n : Int) + (i : Int) + 1 = b + n + ((i + 1 : Nat) : Int) := by omega
      rw [← e6]
      exact (hs3.same gt).upd nD1 nD2
    · exact ((gx.trans (.of gm)).trans (g3.trans (.of gt))).upd_out hD
  · rintro H2 ⟨acc, l, hd, hr2, ha, hm, hk, ht, hs2, gx⟩
    rw [elm] at ha hm hs2
    rw [List.take_of_length_le (by omega)] at hm
    refine ⟨D, acc, rfl, .inl ⟨SqL.of hd, fun t ht' => ?_⟩⟩
    have gt := same_new ht' (.tup acc)
    refine k t acc l (b + n + n) _ ⟨by rw [← ht.1, ha], hk, by rw [hm]; exact hperm⟩ (SqT.of upd_same) (ht.mono (.of gt)) (by omega) (by omega) (hs2.same gt) ?_
    exact (((SX.of gp).trans gx1).trans gx).trans (.of gt)
/-! the law's own text of a form -/
theorem zip_maps : ∀ l : List (Str × Int), (l.map (·.1)).zip (l.map (·.2)) = l
  | [] => rfl
  | (a, b) :: r => by
    show (a, b) :: (r.map (·.1)).zip (r.map (·.2)) = _
    rw [zip_maps r]
theorem iota_valid {l : List (Str × Int)} {n : Nat} (h : Good l n) (hn : n ≤ 3) : valid (l.map (·.1)) (l.map (·.2)) = true := by
  obtain ⟨h1, h2, h3⟩ := h
  unfold valid axesOk
  rw [List.length_map, List.length_map, h1]
  have e1 : decide (n ≤ 3) = true := decide_eq_true hn
  have e2 : ((l.map (·.1)).all fun k => decide (k ∈ KINDS)) = true := by
    rw [List.all_eq_true]
    intro k hk
    obtain ⟨p, hp, rfl⟩ := List.mem_map.mp hk
    exact decide_eq_true (h2 p hp)
  have e3 : ((List.range n).all fun j => decide ((j : Int) ∈ l.map (·.2))) = true := by
    rw [List.all_eq_true]
    intro j hj
    refine decide_eq_true (h3.symm.mem_iff.mp ?_)
    unfold iota
    exact List.mem_map.mpr ⟨j, hj, rfl⟩
  rw [e1, e2, e3, decide_eq_true rfl] <;> rfl
def litm (p : Str × Int) : Str := p.1 ++ " " ++ ((toString p.2 : String) : Str)
theorem litm_itm (p : Str × Int) : litm p = itm p.1 p.2 := by
  refine ext_tl ?_
  unfold litm itm
  rw [tl_append, tl_append, tl_append, tl_append, tl_append] <;> rfl
def spFtext (K : PySem.W.Frag) : Sp := fun vs H Q _ => ∃ (t : Addr) (us : List V) (l : List (Str × Int)) (n : Nat), vs = [.ref t] ∧ SqT K H t us ∧ Tups K H us l ∧ Good l n ∧ n ≤ 3 ∧ ∀ H' : Hp, Same H H' → Q (.str (ftext (l.map (·.1)) (l.map (·.2)))) H'
theorem dp_tups {H : Hp} : ∀ {us : List V} {l : List (Str × Int)}, Tups K H us l → DpAll K H us (l.map fun p => PyData.tuple [.str p.1, .int p.2])
  | [], [], _ => .nil
  | [], _ :: _, h => by cases h.1
  | _ :: _, [], h => by cases h.1
  | u :: us, p :: l, h => by
    obtain ⟨a, rfl, z⟩ := h.2 0 u p rfl rfl
    exact .cons (.tup z (.cons (.str _) (.cons (.int _) .nil))) (dp_tups ⟨Nat.succ.inj h.1, fun i v p e1 e2 => h.2 (i + 1) v p e1 e2⟩)
end
end Lw
namespace Lw
open PySem L2 TL
/-- more built-in names -/
structure Bs (mg : Str → Option Value) : Prop where
  str : mg "str" = none
  any : mg "any" = none
  sorted : mg "sorted" = none
  ve : mg "ValueError" = none
section
variable {P : Program} {w : World} {K : PySem.W.Frag} {mg : Str → Option Value} {base : Heap} {C fI BF AW KD f g g2 : Addr} {MC : Value} {fd gd gd2 : FuncData}
theorem sz20 {n : Nat} (h : n ≤ 1000) : n ≤ sizeLine := Nat.le_of_lt (small1000 h)
theorem kinds_ok : ∀ k ∈ KINDS, PyData.strOk k = true := by decide +kernel
theorem shaped_form : ∀ {l : List (Str × Int)}, l.length ≤ 3 → (∀ p ∈ l, p.1 ∈ KINDS) → SeqAt.shaped (.tuple (l.map fun p => PyData.tuple [.str p.1, .int p.2])) = true
  | [], _, _ => by decide +kernel
  | [a], _, h => by
    have h1 := kinds_ok _ (h a (by simp))
    simp [SeqAt.shaped, PyData.canLay0, PyData.canLayAll0, PyData.depth, PyData.depthAll, h1]
  | [a, b], _, h => by
    have h1 := kinds_ok _ (h a (by simp))
    have h2 := kinds_ok _ (h b (by simp))
    simp [SeqAt.shaped, PyData.canLay0, PyData.canLayAll0, PyData.depth, PyData.depthAll, h1, h2]
  | [a, b, c], _, h => by
    have h1 := kinds_ok _ (h a (by simp))
    have h2 := kinds_ok _ (h b (by simp))
    have h3 := kinds_ok _ (h c (by simp))
    simp [SeqAt.shaped, PyData.canLay0, PyData.canLayAll0, PyData.depth, PyData.depthAll, h1, h2, h3]
  | _ :: _ :: _ :: _ :: _, h, _ => by simp at h
abbrev namesFt : List Str := ["_law_form_here", "_law_kind", "_law_axis"]
theorem scFt : FnScope namesFt ["_law_form_here"] (defScope sFtext) := ⟨rfl, rfl, rfl, by decide +kernel, rfl, by decide +kernel, by decide +kernel⟩
theorem ok_ftext (F : Fun K "_law_form_text" "_law_form_text" sFtext f fd) (B : Bt mg) (S : Bs mg) : FnOk P w K mg base CX0 1 f fd ["_law_form_here"] (spFtext K) := by
  refine F.ok scFt (fun vs H Q E h => ?_) (fun cdv A outer s H vs Q E hr h => ?_)
  · obtain ⟨t, us, l, n, rfl, _⟩ := h
    rfl
  obtain ⟨t, us, l, n, rfl, hT, htu, hg, hn, q⟩ := h
  have hll : l.length ≤ 3 := by rw [hg.1]; exact hn
  have hax : ∀ p ∈ l, p.1 ∈ KINDS ∧ p.2 ∈ ([0, 1, 2] : List Int) := fun p hp => by
    obtain ⟨_, _, _, z⟩ := valid_parts (iota_valid hg hn)
    exact ⟨hg.2.1 p hp, z _ (List.mem_map_of_mem hp)⟩
  refine ⟨_, pss_one (ps_ret (pe_ifExp (pt_cmpR (op_neD hr.units) (pv 0) (pe_tup pa_nil) (nomark _)) (pe_join pe_str (pe_lc (own := [("_law_kind", 1), ("_law_axis", 2)]) (g := gTup K 2 (gCons (gName 1) (gCons (gName 2) gNil))) (tt := tYes) rfl scFt.nd (pi_tup (pv 0)) (blkOk_by (N := namesFt) (sc := defScope sFtext) (by decide +kernel))
      (fun _ _ _ _ _ => pg_tup rfl (pgs_cons (pg_name (i := 1) scFt.nd rfl (Or.inl rfl)) (pgs_cons (pg_name (i := 2) scFt.nd rfl (Or.inl rfl)) pgs_nil))) (fun _ _ _ _ _ => pts_nil)
      (fun _ _ _ _ _ => pe_op op_add_str (pe_op op_add_str (pv 1) pe_str) (pe_callTy call_str_int (by rfl) S.str (by decide +kernel) (pa_cons (pv 2) pa_nil))))) pe_str)), ?_⟩
  refine ⟨_, rfl, (by show 0 ≤ sizeLine; decide), fun e he => ?_⟩
  have ge := same_new he (.tup [])
  refine ⟨_, .tuple [], .tup (seqT ge hT) (dp_tups (htu.mono (.of ge))), .tup (SqT.of upd_same) .nil, shaped_form hll hg.2.1, by decide +kernel, _, rfl, ?_⟩
  cases l with
  | nil =>
    refine iteN (by decide +kernel) ?_
    have z := q _ ge
    exact z
  | cons p r =>
    refine iteC rfl ?_
    refine ⟨⟨_, rfl⟩, _, rfl, t, rfl, ⟨_, seqT ge hT⟩, fun D hD => ?_⟩
    have hD0 : H D = none := ge.free hD
    refine lc_tup (K := K) (a := t) (xs := us) (InvM H D (fun p : Str × Int => V.str (litm p)) (p :: r)) ⟨upd_same, same_over ge hD0 _⟩ (fun i H' _ ⟨_, g⟩ => seqT g hT) (fun i x H' hx hv => ?_) ?_
    · have hi : i < (p :: r).length := by rw [← htu.1]; exact (List.getElem?_eq_some_iff.mp hx).1
      obtain ⟨a, rfl, za⟩ := htu.2 i x _ hx (List.getElem?_eq_getElem hi)
      have hm := hax _ (List.getElem_mem hi)
      obtain ⟨l1, l2, l3, l4, l5⟩ := small_itm _ hm.1 _ hm.2
      refine ⟨a, _, rfl, seqT hv.2 za, rfl, _, _, rfl, _, _, rfl, rfl, rfl, kept ?_⟩
      refine ⟨_, rfl, _, _, rfl, rfl, sz20 (by show _ + 1 ≤ 1000; omega), _, rfl, _, rfl, l5, _, _, rfl, rfl, sz20 ?_, ?_⟩
      · rw [← litm_itm] at l3
        have e1 : (litm ((p :: r)[i])).length = ((p :: r)[i].1 ++ (" " : Str)).length + ((toString (p :: r)[i].2 : String) : Str).length := Str.length_append _ _
        rw [e1] at l3
        omega
      · exact ⟨_, hv.1, len_m (by omega), InvM.next (f := fun p : Str × Int => V.str (litm p)) hD0 hv.2 (List.getElem?_eq_getElem hi) _ rfl⟩
    · rintro H' ⟨hd, g⟩
      rw [List.take_of_length_le (by rw [htu.1]; exact Nat.le_refl _)] at hd
      have el : ((p :: r).map litm) = ((((p :: r).map (·.1)).zip ((p :: r).map (·.2))).map fun p => itm p.1 p.2) := by
        rw [zip_maps]
        exact List.map_congr_left fun p _ => litm_itm p
      refine ⟨_, D, (p :: r).map litm, rfl, rfl, .inl (SqL.of (by rw [hd, List.map_map] <;> rfl)), ?_, ?_⟩
      · have z := sum_le (ys := (p :: r).map litm) fun y hy => by
          obtain ⟨p', hp', rfl⟩ := List.mem_map.mp hy
          rw [litm_itm]
          exact (small_itm _ (hax p' hp').1 _ (hax p' hp').2).2.2.1
        have z2 : ((p :: r).map litm).length ≤ 3 := by rw [List.length_map]; exact hll
        have z3 : ((p :: r).map litm).length * Str.length ", " ≤ 3 * 2 := Nat.mul_le_mul z2 (by decide)
        omega
      · have z := q H' g
        unfold ftext at z
        rw [if_neg (by simp), ← el] at z
        exact z
/-! a form made from parts -/
end
end Lw
/-! tuples that are known to have no dict: their methods -/
namespace TzR
open PySem PySem.Spec PyProof.Rows L2
/-- the tuple at p, its object known -/
def TzAt (H : Hp) (p : Addr) (xs : List V) : Prop := ∃ o : Obj, H p = some (.frz o (.tup xs)) ∧ o.cls = .type "tuple" ∧ o.dict = none
theorem TzAt.seq {K : PySem.W.Frag} {H : Hp} {p : Addr} {xs : List V} : TzAt H p xs → SqT K H p xs
  | ⟨o, h, _⟩ => .inl (.inr ⟨o, h⟩)
theorem TzAt.of {H : Hp} {p : Addr} {o : Obj} {xs : List V} (h : H p = some (.frz o (.tup xs))) (hc : o.cls = .type "tuple") (hd : o.dict = none) : TzAt H p xs := ⟨o, h, hc, hd⟩
section
variable {X : Cx} {pins : List (Addr × Obj)} {σ : L2.St} {H : Hp} {s : Shared} {p : Addr} {xs : List V}
theorem TzAt.obj (I : L2.Inv X pins σ H s) : TzAt H p xs → ∃ (o : Obj) (its : List Value) (n : Nat), s.heap.get? p = some o ∧ o.cls = .type "tuple" ∧ o.dict = none ∧ o.data = .seq its.toArray n ∧ Vals xs its
  | ⟨o, h1, h2, h3⟩ => by
    obtain ⟨e, _, its, r, ⟨o', e', _, n, hd⟩⟩ := I.hok p _ h1
    rw [e] at e'
    cases e'
    exact ⟨o, its, n, e, h2, h3, hd, r⟩
theorem ty_tz : TyOk X "tuple" (fun x H => ∃ (p : Addr) (xs : List V), x = .ref p ∧ TzAt H p xs) := by
  intro pins σ H s x v I r ty
  obtain ⟨p, xs, rfl, t⟩ := ty
  cases r
  obtain ⟨o, its, n, e, hc, hd, _, _⟩ := t.obj I
  refine ⟨⟨o, e, hc⟩, fun b z => ?_⟩
  cases z
  exact ⟨o, e, hd⟩
/-- tuple(l), the new tuple's object known -/
theorem call_tuple_frz : CallR X (.type "tuple") (fun xs H Q => ∃ (p : Addr) (ys : List V), xs = [.ref p] ∧ SqL X.K H p ys ∧ ∀ (l : Addr) (o : Obj), H l = none → o.cls = .type "tuple" → o.dict = none → Q (.ref l) (upd H l (.frz o (.tup ys)))) := by
  intro pins s σ H xs us Q I r h
  obtain ⟨p, ys, rfl, hq, q⟩ := h
  obtain ⟨u, rfl, rx⟩ := vals1 r
  cases rx
  obtain ⟨its, r', pl, hz⟩ := I.list hq
  have hlen := r'.length
  refine call_tuple_list pl.isList (fun h' kp => ?_) (by simp only [List.size_toArray] <;> omega)
  have I1 : L2.Inv X pins σ H { s with heap := h' } := I.kept (t' := s.toks) kp
  have e : (h'.push { cls := .type "tuple", data := .seq its.toArray }).get? h'.objs.size = some { cls := .type "tuple", data := .seq its.toArray } := Heap.get?_push_size _ rfl
  have I2 : L2.Inv X pins σ (upd H h'.objs.size (.frz { cls := .type "tuple", data := .seq its.toArray } (.tup ys))) { s with heap := h'.push { cls := .type "tuple", data := .seq its.toArray } } :=
    I1.laid (t' := s.toks) (fun b o e => Heap.get?_push_of_some _ e) (Nat.le_refl _) (show ObjOk X.prog X.w _ _ _ (.frz _ (.tup ys)) from ⟨e, hz, its, r', IsTup.new _ _⟩)
  exact ⟨.ref h'.objs.size, _, I2, rfl, q _ _ (I1.hok.fresh (Nat.le_refl _)) rfl rfl⟩
/-- t.index(x) of texts -/
def tIxZ (K : PySem.W.Frag) (to : TE) (t : TA) : TE := tMG (fun x H => ∃ (p : Addr) (xs : List V), x = .ref p ∧ TzAt H p xs) (fun x xs H Q => ∃ p, ∃ ys : List Str, ∃ z j, x = .ref p ∧ xs = [.str z] ∧ SqT K H p (ys.map V.str) ∧ ys[j]? = some z ∧ (∀ m, m < j → ys[m]? ≠ some z) ∧ Q (.int (j : Nat)) H) to t
theorem pe_ixZ {o e : Expr} {to : TE} {t : TA} {apos cpos : Pos} (ho : PE X o to) (ha : PA X [e] t)
    (hbase : attributeBase o "index" X.env (eval o X.env) = eval o X.env := by rfl)
    (hfew : ((backTo cpos (starEach [e] X.env)).all (fun x => !x.1) && (backToKw cpos (keywordEach [] X.env)).all (fun x => x.1.isSome)
      && decide (([e] : List Expr).length + ([] : List Keyword).length + (if ([] : List Keyword).isEmpty then 0 else 1) < 30)) = true := by rfl)
    (hline : (apos.endLine == cpos.line) = true := by rfl) (hs : starEach [e] X.env = (false, eval e X.env) :: starEach [] X.env := by rfl) :
    PE X (.Call (.Attribute o "index" apos) [e] [] cpos) (tIxZ X.K to t) :=
  pe_mG ty_tz PySem.F.plainAttrs_tuple PySem.F.slot_tuple_index PySem.F.type_tuple_index mt_tup_index ho ha hbase hfew hline hs
end
/-- the first place of a text -/
theorem idx_at {ys : List Str} {z : Str} (h : z ∈ ys) : ys[ys.idxOf z]? = some z ∧ ∀ m, m < ys.idxOf z → ys[m]? ≠ some z := by
  have lt := List.idxOf_lt_length_iff.mpr h
  refine ⟨by rw [List.getElem?_eq_getElem lt, List.getElem_idxOf lt], fun m hm e => ?_⟩
  obtain ⟨h1, h2⟩ := List.getElem?_eq_some_iff.mp e
  have := List.not_of_lt_findIdx (p := (· == z)) (xs := ys) (i := m) hm
  simp [h2] at this
end TzR
/-! sorted(t, key=f), t a tuple: over the heap alone -/
namespace SoK
open PySem PySem.W PySem.Calls PyProof.Rows
section
variable {prog : Program} {w : World} {A : Around} {E : Value → Shared → Prop} {s : Shared}
theorem collect_tup {l : Addr} {vs : List Value} {Q : List Value → Shared → Prop} (hl : s.heap.IsTuple l vs.toArray)
    (h : Q vs { s with heap := (s.heap.push (seqObj "list" #[] 0)).update s.heap.objs.size (Obj.mapSeq (· ++ vs.toArray)) }) (hsz : vs.length ≤ sizeLine) :
    wpAny (model prog w) A (collect (.ref l)) Q E s := by
  obtain ⟨o, ho, hc, n, hd⟩ := id hl
  unfold collect
  refine wpAny_bind (wpAny_runValue (codeAny_builtin entry_proto_collect' ?_))
  show wpAny _ _ (do again (.builtin "list.__iadd__" ⟨[← newList [], .ref l], []⟩)) _ _ s
  refine wpAny_bind (wpAny_newList (wpAny_pure ⟨Code.quiet_builtin _ (by decide +kernel), codeAny_builtin entry_list_iadd' ?_⟩))
  show wpAny _ _ (Builtin.List.listExtendWith (.ref s.heap.objs.size) (.ref l) (.ref s.heap.objs.size)) _ _ { s with heap := s.heap.push (seqObj "list" #[] 0) }
  unfold Builtin.List.listExtendWith
  have ho' : (s.heap.push (seqObj "list" #[] 0)).get? l = some o := Heap.get?_push_of_some _ ho
  refine wpAny_bind (wpAny_typeOf (T := "tuple") ⟨o, ho', hc⟩ ?_)
  have ht : (Value.type "tuple" == Value.type "tuple") = true := by rfl
  rw [if_pos (by rw [ht]; simp)]
  refine wpAny_bind (listItems_at ho' hd ?_)
  refine wpAny_bind (listItems_at (xs := #[]) (n := 0) (Heap.get?_push_size _ rfl) rfl ?_)
  rw [if_neg (by simp)]
  refine wpAny_bind (listUpdate_at (xs := #[]) (n := 0) (Heap.get?_push_size _ rfl) rfl ?_ (Nat.zero_le _) (by show (#[] ++ vs.toArray).size ≤ sizeLine + 1; simp only [Array.size_append, List.size_toArray, List.length_nil]; omega))
  refine wpAny_pure ?_
  show wpAny (model prog w) A (do
      let o ← load s.heap.objs.size
      match o.data with
      | .seq xs _ => pure xs.toList
      | _ => unsupported "internal:collect") Q E { s with heap := (s.heap.push (seqObj "list" #[] 0)).update s.heap.objs.size (Obj.mapSeq (· ++ vs.toArray)) }
  refine wpAny_bind (wpAny_load (get?_update_seq (Heap.get?_push_size _ rfl) _) ?_)
  show wpAny _ _ (pure ((#[] : Array Value) ++ vs.toArray).toList) Q E _
  rw [show ((#[] : Array Value) ++ vs.toArray).toList = vs by simp]
  exact wpAny_pure h
theorem sorted_of_sortT {l : Addr} {vs : List Value} {kw : List (Str × Value)} {Q : Value → Shared → Prop} (hl : s.heap.IsTuple l vs.toArray) (hL : vs.length ≤ sizeLine) (ha1 : argsOk "sorted" ⟨[.ref l], kw⟩) (ha2 : ∀ x, argsOk "list.sort" ⟨[.ref x], kw⟩)
    (body : ∀ E' : Value → Shared → Prop, wpAny (model prog w) A.in1.in1 (Builtin.«list.sort» ⟨[.ref (s.heap.objs.size + 1)], kw⟩) (fun f s' => f = .done (.ret .none) ∧ Q (.ref (s.heap.objs.size + 1)) s') E' { s with heap := copyHeap s.heap vs }) :
    wpAny (model prog w) A (call (.builtin "sorted") [.ref l] kw) Q E s := by
  refine call_function_entry_kw kind_sorted plain_sorted entry_sorted ha1 ?_
  unfold Builtin.«sorted»
  refine wpAny_bind (m := checkCount "sorted" 1 1 _) (wpAny_pure ?_)
  refine wpAny_bind (collect_tup hl ?_ hL)
  refine wpAny_bind (wpAny_newList ?_ hL)
  have hsz : ((s.heap.push (seqObj "list" #[] 0)).update s.heap.objs.size (Obj.mapSeq (· ++ vs.toArray))).objs.size = s.heap.objs.size + 1 := by
    rw [Heap.size_update, size_push']
  show wpAny _ _ _ _ _ { s with heap := copyHeap s.heap vs }
  rw [hsz]
  refine wpAny_bind (wpAny_holding (wpAny_call_entry_kw slot_list_sort ⟨_, copyHeap_at s.heap vs, rfl⟩ entry_list_sort ?body (ha2 _)))
  case body =>
    show wpAny (model prog w) A.in1.in1 (Builtin.«list.sort» ⟨[.ref (s.heap.objs.size + 1)], kw⟩) _ _ _
    refine wpAny_mono (body _) (fun f s' hf => ?_) fun _ _ e => e
    obtain ⟨rfl, hq⟩ := hf
    exact ⟨_, rfl, wpAny_pure ⟨_, rfl, hq⟩⟩
variable {β : Type} {vs : List Value} {bs : List β} {R : Value → β → Prop}
/-- sorted(t, key=f[, reverse=b]) -/
theorem sorted_key_dataT {l : Addr} {f : Value} {kw : List (Str × Value)} {b : Bool} {Q : Value → Shared → Prop} (k : β → PyData) (hl : s.heap.IsTuple l vs.toArray) (e : EachIs R vs bs) (hal : AllAlike (bs.map k)) (hk : Sortable (bs.map k)) (hL : bs.length ≤ sizeLine)
    (hu : ∀ x, x ∈ bs → A.units + 2 + (k x).depth < cLine) (ha1 : argsOk "sorted" ⟨[.ref l], kw⟩) (ha2 : ∀ x, argsOk "list.sort" ⟨[.ref x], kw⟩) (ht : ∀ x, Builtin.«list.sort» ⟨[.ref x], kw⟩ = ksk_tree x f b)
    (turn : ∀ (v : Value) (x : β), R v x → x ∈ bs → ∀ (h : Heap) (tk : Nat), (∀ b o, s.heap.get? b = some o → h.get? b = some o) →
      wpAny (model prog w) A.in1.in1 (call f [v]) (KeyPure (k x) { s with heap := h, toks := tk }) (fun _ _ => False) { s with heap := h, toks := tk })
    (h : ∀ out c h' tk, (∀ b o, s.heap.get? b = some o → h'.get? b = some o) → s.heap.get? (s.heap.objs.size + 1) = none → h'.get? (s.heap.objs.size + 1) = some (seqObj "list" (List.toArray out) c) → out.length = bs.length → EachIs R out (bs.mergeSort (dataLe b k)) →
      Q (.ref (s.heap.objs.size + 1)) { s with heap := h', toks := tk }) :
    wpAny (model prog w) A (call (.builtin "sorted") [.ref l] kw) Q E s := by
  have fresh : s.heap.get? (s.heap.objs.size + 1) = none := Heap.get?_none_of_le (Nat.le_succ _)
  have up : ∀ {g : Heap}, KeepsBut (s.heap.objs.size + 1) (copyHeap s.heap vs) g → ∀ b o, s.heap.get? b = some o → g.get? b = some o := fun {g} kp b o q =>
    kp b o (Nat.ne_of_lt (Nat.lt_succ_of_lt (Heap.lt_size q))) (copyHeap_old q)
  refine sorted_of_sortT hl (by rw [e.length]; exact hL) ha1 ha2 fun E' => ?_
  rw [ht]
  refine keyH_tree (kz := bs.map k) (s := { s with heap := copyHeap s.heap vs }) (copyHeap_at s.heap vs) (by rw [List.length_map]; exact e.length.symm) (by rw [e.length]; exact hL) hal hk (bound_map (A := A.in1.in1) hu)
    (keyH_turns (s := { s with heap := copyHeap s.heap vs }) e fun v x hR hx h tk kp => turn v x hR hx h tk (up kp)) fun h' tk out c kp hD ko => ⟨rfl, ?_⟩
  exact h out c h' tk (up kp) fresh hD ((ko.length (by rw [List.length_map]; exact e.length.symm)).trans e.length) (keyedOut_each k ko e)
end
end SoK
/-! a lambda with one parameter handed to a method, and called there -/
namespace LamX
open PySem PySem.Spec PyProof.Rows L2
/-- one parameter, a; captured names and globals -/
structure LamS1 (sc scope : Scope) (a : Str) : Prop where
  kind : scope.kind = .function
  co : scope.isCoroutine = false
  gen : scope.isGenerator = false
  par : scope.names.lookup a = some .local
  own : ∀ y ∈ scope.names, y.2 ≠ .cell ∧ (y.2 = .local → y.1 = a)
  free : ∀ y ∈ scope.names, y.2 = .free → sc.names.lookup y.1 = some .cell ∨ sc.names.lookup y.1 = some .free
def lamS1B (sc scope : Scope) (a : Str) : Bool :=
  decide (scope.kind = .function) && !scope.isCoroutine && !scope.isGenerator && decide (scope.names.lookup a = some .local) && scope.names.all fun y => !decide (y.2 = .cell) && (!decide (y.2 = .local) || decide (y.1 = a)) && (!decide (y.2 = .free) || decide (sc.names.lookup y.1 = some .cell) || decide (sc.names.lookup y.1 = some .free))
theorem lamS1_by {sc scope : Scope} {a : Str} (h : lamS1B sc scope a = true) : LamS1 sc scope a := by
  unfold lamS1B at h
  simp only [Bool.and_eq_true, Bool.or_eq_true, Bool.not_eq_true', decide_eq_true_eq, decide_eq_false_iff_not, List.all_eq_true] at h
  obtain ⟨⟨⟨⟨h1, h2⟩, h3⟩, h5⟩, h4⟩ := h
  refine ⟨h1, h2, h3, h5, fun y hy => ⟨(h4 y hy).1.1, fun e => (h4 y hy).1.2.elim (fun n => absurd e n) id⟩, fun y hy e => ?_⟩
  rcases (h4 y hy).2 with (z | z) | z
  · exact absurd e z
  · exact .inl z
  · exact .inr z
theorem LamS1.has {X : Cx} {scope : Scope} {a : Str} (L : LamS1 X.env.scope scope a) (ok : X.Ok) : ∀ y ∈ scope.names, y.2 = .free → ∃ c, X.env.cells.lookup y.1 = some c := fun y hy e => by
  rcases L.free y hy e with k | k
  · exact ok.has _ (.inl k)
  · exact ok.has _ (.inr k)
def lamCx1 (X : Cx) (A : Around) (outer : List Env) (s : Shared) (H : Hp) (scope : Scope) (f c' : Addr) (a : Str) : Cx where
  prog := X.prog
  w := X.w
  K := X.K
  mg := X.mg
  base := X.base
  A := A.deeper (lamEnv X scope s.heap.objs.size f c')
  N := a :: X.N
  s_0 := s
  H_0 := H
  env := lamEnv X scope s.heap.objs.size f c'
  outer := outer
  stack := lamEnv X scope s.heap.objs.size f c' :: outer
  ex := []
  fn := fun _ => false
  calm := true
  pn := []
  xe := fun e s' => wpAny (model X.prog X.w) (A.deeper (lamEnv X scope s.heap.objs.size f c')) (leaving (lamEnv X scope s.heap.objs.size f c') e) (fun _ s'' => C8.CX0 outer H s C8.E0 e s'') (fun e' s'' => C8.CX0 outer H s C8.E0 e' s'') s'
section
variable {X : Cx} {pins : List (Addr × Obj)} {σ : L2.St} {H HZ : Hp} {s s1 : Shared}
theorem lam_start1 {A : Around} {outer : List Env} {scope : Scope} {f c' : Addr} {h₁ : Heap} {tk : Nat} {a : Str} {v : V} {u : Value} (I : Inv X pins σ H s) (L : LamS1 X.env.scope scope a) (na : a ∉ X.N) (e0 : Env0 X.prog X.w X.K X.mg X.base A outer s1 HZ) (hd : A.handled = none)
    (un : Un (frs X.stack) [] H HZ s.heap s1.heap) (rv : L2.RelV v u) (hns : h₁.Ns s1.heap.objs.size fun y => ([(a, u)] : List (Str × Value)).reverse.lookup y) (kp : ∀ b o, s1.heap.get? b = some o → h₁.get? b = some o) :
    Inv (lamCx1 X A outer s1 HZ scope f c' a) [] (some v :: σ) HZ { s1 with heap := h₁, toks := tk } := by
  have hfree := L.has I.ok
  have cm : ∀ {y c}, (cloFrom X.env.cells scope.names []).lookup y = some c → X.env.cells.lookup y = some c := fun {y c} e => by
    rcases cloFrom_mem (PySem.mem_of_lookup e) with hm | ⟨h1, h2⟩
    · cases hm
    · obtain ⟨c1, hc⟩ := hfree _ h1 rfl
      have hc : X.env.cells.lookup y = some c1 := hc
      have e2 : c = c1 := by
        rw [h2, hc] <;> rfl
      rw [e2]
      exact hc
  have look : ∀ {y}, scope.names.lookup y = some .free → ∃ c, (cloFrom X.env.cells scope.names []).lookup y = some c := fun {y} hl => by
    have hy : (y, NameKind.free) ∈ scope.names := PySem.mem_of_lookup hl
    exact mem_lookup (cloFrom_has (cells := X.env.cells) (acc := []) hy)
  have cellK : ∀ {c : Addr} {v : Option Value}, H c = none → s.heap.IsCell c v → h₁.IsCell c v := fun {c v} n ⟨o, ho, hd⟩ => by
    obtain ⟨sl, q⟩ := un.any ho n (by simp)
    exact ⟨_, kp _ _ q, hd⟩
  have noA : ∀ b : Addr, b ∉ (lamCx1 X A outer s1 HZ scope f c' a).ex := fun b z => absurd (show b ∈ ([] : List Addr) from z) (by simp)
  refine ⟨⟨e0.mod, L.kind, rfl, rfl, Nat.le_refl _, fun y z c e1 e2 => I.ok.inj y z c (cm e1) (cm e2), fun y hy => ?_, fun y c z _ => ?_, fun _ => hd, Around.frames_deeper e0.frames, .inr ⟨rfl, rfl⟩, fun b z => absurd z (noA b), e0.bs, e0.bsz, fun b _ _ => noA b,
      fun b z => absurd z (noA b), e0.funs, e0.frf⟩,
    rfl, e0.bare, Un.kept kp, ⟨_, hns, fun i y v' e1 e2 e3 => ?_⟩, fun y c e => ?_, e0.hok.fresh (Nat.le_refl _), fun y c e => ?_, fun q hq => absurd (show q ∈ ([] : List (Addr × Obj)) ++ [] from hq) (by simp), e0.hok.kept kp, congrArg Nat.succ I.len⟩
  · have hy : scope.names.lookup y = some .cell ∨ scope.names.lookup y = some .free := hy
    rcases hy with hy | hy
    · exact absurd rfl (L.own _ (PySem.mem_of_lookup hy)).1
    · exact look hy
  · have z : false = true := z
    cases z
  · have e3 : Vis scope y := e3
    cases i with
    | zero =>
      have e1 : a = y := Option.some.inj e1
      have e2 : v = v' := Option.some.inj (Option.some.inj e2)
      subst e1
      subst e2
      exact ⟨u, rv, .inl ⟨L.par, by simp [List.lookup]⟩⟩
    | succ i =>
      have e1 : X.N[i]? = some y := e1
      have e2 : σ[i]? = some (some v') := e2
      have nya : y ≠ a := fun z => na (by rw [← z]; exact List.mem_of_getElem? e1)
      rcases e3 with k | k | k
      · exact absurd ((L.own _ (PySem.mem_of_lookup k)).2 rfl) nya
      · exact absurd rfl (L.own _ (PySem.mem_of_lookup k)).1
      · obtain ⟨m, hn, hl⟩ := I.loc
        have hvis : Vis X.env.scope y := (L.free _ (PySem.mem_of_lookup k) rfl).elim (fun k => .inr (.inl k)) (fun k => .inr (.inr k))
        obtain ⟨w', r, q⟩ := hl i y v' e1 e2 hvis
        obtain ⟨c2, h2⟩ := look k
        refine ⟨w', r, .inr ⟨.inr k, c2, h2, ?_⟩⟩
        have c1 := cm h2
        rcases q with ⟨k', _⟩ | ⟨_, c3, e', z⟩
        · have k' : X.env.scope.names.lookup y = some .local := k'
          rcases L.free _ (PySem.mem_of_lookup k) rfl with k2 | k2 <;> rw [show X.env.scope.names.lookup y = _ from k2] at k' <;> cases k'
        · rw [c1] at e'
          cases e'
          exact cellK (I.freeC y _ c1) z
  · obtain ⟨w', z⟩ := I.cell y c (cm e)
    exact ⟨w', cellK (I.freeC y c (cm e)) z⟩
  · obtain ⟨v, o, ho, hd⟩ := I.cell y c (cm e)
    exact un.free c o ho (I.freeC y c (cm e)) (by simp)
/-- x(e), in the def that got the lambda -/
theorem pe_act1 {Ng : List Str} {qg : Str} {sg : Scope} {g f c' : Addr} {cdg pm ctv : Value} {params : Arguments} {body : Expr} {scope : Scope} {k i : Nat} {x a : Str} {tb te : TE} {p1 p2 : Pos} {e : Expr}
    (I : Inv X pins σ H s) (L : LamS1 X.env.scope scope a) (na : a ∉ X.N) (hf : s.heap.get? f = some (PySem.W.kla_obj "<lambda>" (X.env.qual ++ "<lambda>") params body scope (cloFrom X.env.cells scope.names []) pm c' ctv)) (hfn : H f = none) (hfr : f ∉ frs X.stack)
    (hbind : ∀ u, bindArgs (PySem.W.kla_fn "<lambda>" (X.env.qual ++ "<lambda>") params body scope (cloFrom X.env.cells scope.names []) pm (.ref c') ctv) ⟨[u], []⟩ = pure [(a, u)])
    (hr : Room (k + 1) (X.A.deeper (envOfC qg sg s.heap.objs.size g cdg)))
    (hbody : ∀ (A : Around) (outer : List Env) (s : Shared) (H : Hp), Room k (A.deeper (lamEnv X scope s.heap.objs.size f c')) → PE (lamCx1 X A outer s H scope f c' a).nox body tb)
    (hN : Ng[i]? = some x) (hv : Vis sg x) (he : PE (cxOf C8.CX0 X.prog X.w X.K X.mg X.base Ng qg sg g cdg X.A X.stack s H C8.E0).nox e te)
    (hse : starEach [e] (cxOf C8.CX0 X.prog X.w X.K X.mg X.base Ng qg sg g cdg X.A X.stack s H C8.E0).nox.env = (false, eval e (cxOf C8.CX0 X.prog X.w X.K X.mg X.base Ng qg sg g cdg X.A X.stack s H C8.E0).nox.env) :: starEach [] (cxOf C8.CX0 X.prog X.w X.K X.mg X.base Ng qg sg g cdg X.A X.stack s H C8.E0).nox.env)
    (hd : (x == ("__debug__" : Str)) = false := by decide) (hcd : (x == ("__classdict__" : Str)) = false := by decide) :
    PE (cxOf C8.CX0 X.prog X.w X.K X.mg X.base Ng qg sg g cdg X.A X.stack s H C8.E0).nox (.Call (.Name x p1) [e] [] p2)
      (fun σZ HZ Q => σZ[i]? = some (some (.ref f)) ∧ te σZ HZ fun v H1 => H1 c' = some (CodeO c' (X.env.qual ++ "<lambda>")) ∧ tb (some v :: σ) H1 Q) := by
  refine ⟨fun pinsZ sZ σZ HZ Q IZ h => ?_⟩
  obtain ⟨hs, ht⟩ := h
  refine wpAny_Call_Name_kw (thn ((pe_var (pos := p1) (i := i) hN hv hd hcd).run pinsZ sZ σZ HZ (fun v H1 => v = .ref f ∧ H1 = HZ) IZ ⟨.ref f, hs, rfl, rfl⟩) fun u s1 ⟨v, H1, I1, r1, q1⟩ => ?_)
  obtain ⟨ev, eH⟩ := q1
  subst ev
  rw [eH] at I1
  obtain rfl : u = Value.ref f := r1
  have of1 : s1.heap.get? f = some (PySem.W.kla_obj "<lambda>" (X.env.qual ++ "<lambda>") params body scope (cloFrom X.env.cells scope.names []) pm c' ctv) := I1.base.keep f _ hf hfn hfr (fun z => nomatch (show f ∈ ([] : List Addr) from z))
  have ht' : tCons te tNil σZ HZ (fun vs H2 => match vs with | [v] => H2 c' = some (CodeO c' (X.env.qual ++ "<lambda>")) ∧ tb (some v :: σ) H2 Q | _ => False) := ht
  refine PySem.W.callWith_F (first := []) ⟨_, _, _, _, of1⟩ (thn ((pa_cons he pa_nil hse).run p2 pinsZ s1 σZ HZ _ I1 ht') fun us s2 ⟨vs, H2, I2, r, q⟩ => ⟨⟨_, _, _, _, I2.base.keep f _ hf hfn hfr (fun z => nomatch (show f ∈ ([] : List Addr) from z))⟩, ?_⟩) hse (by rfl)
  have of2 : s2.heap.get? f = some (PySem.W.kla_obj "<lambda>" (X.env.qual ++ "<lambda>") params body scope (cloFrom X.env.cells scope.names []) pm c' ctv) := I2.base.keep f _ hf hfn hfr (fun z => nomatch (show f ∈ ([] : List Addr) from z))
  have key : ∃ (v : V) (u : Value), vs = [v] ∧ us = [u] ∧ L2.RelV v u ∧ H2 c' = some (CodeO c' (X.env.qual ++ "<lambda>")) ∧ tb (some v :: σ) H2 Q := by
    cases vs with
    | nil => exact q.elim
    | cons v rest =>
      cases rest with
      | nil =>
        cases r with
        | cons rv r0 =>
          cases r0
          exact ⟨v, _, rfl, rfl, rv, q.1, q.2⟩
      | cons _ _ => exact q.elim
  obtain ⟨v, u, rfl, rfl, rv, hc, ht2⟩ := key
  have un : Un (frs X.stack) [] H H2 s.heap s2.heap := I2.base
  obtain ⟨⟨oc, vs, t, hoc, hdc, hvc⟩, _, _⟩ := I2.hok c' _ hc
  have rc : codeAny (model X.prog X.w) (X.A.deeper (envOfC qg sg s.heap.objs.size g cdg)) (.call (.ref f) ⟨[u], []⟩) (CR C8.CX0 (envOfC qg sg s.heap.objs.size g cdg :: X.stack) X.prog X.w H2 s2 Q C8.E0) s2 := by
    refine PySem.W.kla_callFunE hr.depth of2 rfl L.co L.gen rfl ⟨c', oc, vs, t, rfl, hoc, hdc, hvc⟩ ?_
    rw [hbind]
    refine wpAny_pure (wpAny_newFunctionEnv (fun y hy => (L.own y hy).1) (fun y hy => ?_) (fun h₁ hns hsb => ⟨I2.nolimit.fresh _ hsb, ?_⟩) L.kind)
    · cases List.mem_singleton.mp hy
      exact L.par
    show codeAny _ _ (.expr body (lamEnv X scope s2.heap.objs.size f c')) _ _
    have kp : ∀ b o, s2.heap.get? b = some o → h₁.get? b = some o := fun b o e => hsb.extBut b o (Nat.ne_of_lt (Heap.lt_size e)) (Heap.get?_push_of_some _ e)
    have J : L2.Inv (lamCx1 X (X.A.deeper (envOfC qg sg s.heap.objs.size g cdg)) (envOfC qg sg s.heap.objs.size g cdg :: X.stack) s2 H2 scope f c' a) [] (some v :: σ) H2 { s2 with heap := h₁, toks := s2.toks + ([(a, u)] : List (Str × Value)).length } :=
      lam_start1 I L na I2.env0 hr.hd un rv hns kp
    refine PySem.W.kla_codeExpr (wpAny_mono ((hbody _ _ s2 H2 (hr.deeper _)).nox.run [] _ _ H2 Q J ht2) (fun v s' hq => ?_) fun e s' hq => hq)
    obtain ⟨w', H', J', rv, q⟩ := hq
    exact ⟨w', H', J'.os, J'.bare, J'.base, J'.hok, rv, q⟩
  refine wpAny_call (codeAny_mono rc fun r s' hq => ?_)
  cases r with
  | error e => exact (show False from hq).elim
  | ok fl =>
    cases fl with
    | ret u => exact I2.after hq
    | next => exact False.elim hq
    | brk => exact False.elim hq
    | cont => exact False.elim hq
end
/-- the method that calls what it got as its second argument, named x: TT: what it makes of the lambda's reading -/
def GivesM (X : Cx) (Ng : List Str) (qg : Str) (sg : Scope) (g : Addr) (cdg : Value) (bg : List Stmt) (x : Str) (q : Str) (TT : Addr → (V → Hp → VK → Prop) → Hp → VK → Prop) : Prop :=
  ∀ (p f c' : Addr) (s : Shared) (H : Hp) (Q : VK) (tl : V → Hp → VK → Prop),
    (∀ (e : Expr) (te : TE) (p1 p2 : Pos), PE (cxOf C8.CX0 X.prog X.w X.K X.mg X.base Ng qg sg g cdg X.A X.stack s H C8.E0).nox e te →
      starEach [e] (cxOf C8.CX0 X.prog X.w X.K X.mg X.base Ng qg sg g cdg X.A X.stack s H C8.E0).nox.env = (false, eval e (cxOf C8.CX0 X.prog X.w X.K X.mg X.base Ng qg sg g cdg X.A X.stack s H C8.E0).nox.env) :: starEach [] (cxOf C8.CX0 X.prog X.w X.K X.mg X.base Ng qg sg g cdg X.A X.stack s H C8.E0).nox.env →
      PE (cxOf C8.CX0 X.prog X.w X.K X.mg X.base Ng qg sg g cdg X.A X.stack s H C8.E0).nox (.Call (.Name x p1) [e] [] p2) (fun σZ HZ Q => σZ[1]? = some (some (.ref f)) ∧ te σZ HZ fun v H1 => H1 c' = some (CodeO c' q) ∧ tl v H1 Q)) →
    H c' = some (CodeO c' q) → TT p tl H Q →
    ∃ t, PSs (cxOf C8.CX0 X.prog X.w X.K X.mg X.base Ng qg sg g cdg X.A X.stack s H C8.E0).nox bg t ∧ t { nx := fun _ H' => Q .non H', rt := Q } (L2.start Ng [.ref p, .ref f]) H
def tMLam (C : Addr) (m : Str) (T : List (Addr × Str)) (TT : Addr → (V → Hp → VK → Prop) → Hp → VK → Prop) (ta tb : TE) : TE := fun σ H Q => ta σ H fun y H0 => ∃ p dx fs, y = .ref p ∧ H0 p = some (.ins C dx fs) ∧ fs.lookup m = none ∧ Tabs T H0 ∧ ∀ H1, ExtN H0 H1 → Tabs T H1 → TT p (fun v H' Q' => tb (some v :: σ) H' Q') H1 Q
theorem lam_make1 {X : Cx} {pins : List (Addr × Obj)} {σ : L2.St} {H : Hp} {s : Shared} {T : List (Addr × Str)} {c P : Addr} {params : Arguments} {body : Expr} {scope : Scope} {pos : Pos} {a : Str} {E : Value → Shared → Prop} {Q : Value → Shared → Prop} (I : L2.Inv X pins σ H s) (TB : TabB X.base X.mg c P) (hcode : X.env.code = .ref c)
    (hm : (P, X.env.qual ++ "<lambda>") ∈ T) (hu : ∀ p ∈ T, p.1 = P → p.2 = X.env.qual ++ "<lambda>") (hT : Tabs T H) (hdef : defaultsOf params X.env = ([], [])) (L : LamS1 X.env.scope scope a)
    (h : ∀ (f c' : Addr) (pm ctv : Value) (H1 : Hp) (s' : Shared), L2.Inv X pins σ H1 s' → ExtN H H1 → Tabs T H1 →
      s'.heap.get? f = some (PySem.W.kla_obj "<lambda>" (X.env.qual ++ "<lambda>") params body scope (cloFrom X.env.cells scope.names []) pm c' ctv) → H1 f = none → f ∉ frs X.stack → H1 c' = some (CodeO c' (X.env.qual ++ "<lambda>")) → Q (.ref f) s') :
    wpAny (model X.prog X.w) X.A (eval (.Lambda params body scope pos) X.env) Q E s :=
  lam_make2 I TB hcode hm hu hT hdef (L.has I.ok) h
section
variable {X : Cx} {C : Addr} {m : Str} {o : Expr} {ta : TE} {pos apos : Pos}
/-- o.m(lambda a: body) -/
theorem pe_methlam {T : List (Addr × Str)} {TT : Addr → (V → Hp → VK → Prop) → Hp → VK → Prop} {qg x0 x a : Str} {g c P : Addr} {k : Nat} {pg : Arguments} {bg : List Stmt} {sg : Scope} {dV kV doc pm cdv ct oc : Value} {an od : Option Addr} {osl : Array (Option Value)} {Ng : List Str}
    {params : Arguments} {body : Expr} {scope : Scope} {tb : TE} {lpos : Pos} {pl : Sem Bool} (he : PE X o ta) (cl : Cls X.K C) (hm : Meth X.K C m g)
    (lk : X.K.lookup g = some ⟨oc, od, .func (PySem.W.fnOf m qg pg bg sg dV kV doc pm an cdv ct), osl⟩) (hcg : PySem.W.codeIn X.K cdv qg = true) (hb : L2.Binds X.K (PySem.W.fnOf m qg pg bg sg dV kV doc pm an cdv ct) [x0, x] []) (Sg : FnScope Ng [x0, x] sg) (hNg : Ng[1]? = some x) (hva : Vis sg x)
    (hG : GivesM X Ng qg sg g cdv bg x (X.env.qual ++ "<lambda>") TT)
    (TB : TabB X.base X.mg c P) (hcode : X.env.code = .ref c) (hmT : (P, X.env.qual ++ "<lambda>") ∈ T) (hu : ∀ p ∈ T, p.1 = P → p.2 = X.env.qual ++ "<lambda>") (hr : Room (k + 2) X.A) (L : LamS1 X.env.scope scope a) (na : a ∉ X.N) (hdef : defaultsOf params X.env = ([], []))
    (hbind : ∀ (q : Str) (cl : List (Str × Addr)) (pm cv ctv u : Value), bindArgs (PySem.W.kla_fn "<lambda>" q params body scope cl pm cv ctv) ⟨[u], []⟩ = pure [(a, u)])
    (hbody : ∀ (A : Around) (outer : List Env) (s : Shared) (H : Hp) (f c' : Addr), Room k (A.deeper (lamEnv X scope s.heap.objs.size f c')) → PE (lamCx1 X A outer s H scope f c' a).nox body tb)
    (hd : (x == ("__debug__" : Str)) = false := by decide) (hcd : (x == ("__classdict__" : Str)) = false := by decide)
    (ht : eval (.Call (.Attribute o m apos) [.Lambda params body scope lpos] [] pos) X.env = (do
      let ov ← eval o X.env
      standAt apos.atName
      let (f, first) ← holding [ov] (getMethod ov m pl)
      callWith pos f first (backTo pos (starEach [.Lambda params body scope lpos] X.env)) (backToKw pos (keywordEach [] X.env))) := by rfl) :
    PE X (.Call (.Attribute o m apos) [.Lambda params body scope lpos] [] pos) (tMLam C m T TT ta tb) := by
  refine ⟨fun pins s σ H Q I h => ?_⟩
  refine PySem.W.methodCall_KW (pl := pl) (thn (he.run pins s σ H _ I h) fun u s1 ⟨y, H0, I0, ry, p, dx, fs, ey, ep, l, hT, q⟩ => ?_) ht
  subst ey
  obtain rfl : u = Value.ref p := ry
  refine getmeth_ok I0 ep cl hm l ?_
  refine PySem.W.callWith_K (first := [.ref p]) (h₀ := X.base) I.ok.mod.kin hm.kp ?_ (by rfl) (by rfl)
  show wpAny _ _ (spliced ((false, eval (.Lambda params body scope lpos) X.env) :: backTo pos (starEach [] X.env))) _ _ s1
  refine Calls.spliced_cons (lam_make1 I0 TB hcode hmT hu hT hdef L fun f c' pm' ctv H1 s' I1 eN T1 hf hfn hfr hco => ?_)
  refine Calls.spliced_nil ⟨I1.kIn, ?_⟩
  have rc : codeAny (model X.prog X.w) X.A (.call (.ref g) ⟨[.ref p, .ref f], []⟩) (CR C8.CX0 X.stack X.prog X.w H1 s' Q C8.E0) s' := by
    refine run_ofS (N := Ng) (ps := [x0, x]) (us := [.ref p, .ref f]) (vs := [.ref p, .ref f]) lk hcg Sg hr I1.env0 (hb s' [.ref p, .ref f] I1.kIn rfl) (.cons rfl (.cons rfl .nil)) rfl fun hr' => ?_
    obtain ⟨t', ht', hq'⟩ := hG p f c' s' H1 Q (fun v H' Q' => tb (some v :: σ) H' Q') (fun e te p1 p2 he hse => pe_act1 (i := 1) I1 L na hf hfn hfr (hbind _ _ _ _ _) hr' (fun A outer s H hr2 => hbody A outer s H f c' hr2) hNg hva he hse hd hcd) hco (q H1 eN T1)
    exact ⟨t', ht'.nox, hq'⟩
  refine wpAny_call (codeAny_mono rc fun r s2 hq => ?_)
  cases r with
  | error e => exact (show False from hq).elim
  | ok fl =>
    cases fl with
    | ret u => exact I1.after hq
    | next => exact False.elim hq
    | brk => exact False.elim hq
    | cont => exact False.elim hq
end
end LamX
/-! enumerate(t), t a tuple -/
namespace EnT
open PySem PySem.Spec PyProof.Rows L2
theorem drawsT {prog : Program} {w : World} {A : Around} (hh : A.handled = none) (it t : Addr) (hne : t ≠ it) (items : Array Value) :
    Draws prog w A it [it, t] items.size (fun i v => items[i]? = some v) (fun i h => h.IsTupleIter it t i ∧ h.IsTuple t items) where
  live := fun _ _ st => let ⟨o, ho, _⟩ := st.1; ⟨o, ho⟩
  frame := fun _ _ _ st k => ⟨let ⟨o, ho, r⟩ := st.1; ⟨o, k it (by simp) o ho, r⟩, let ⟨o, ho, r⟩ := st.2; ⟨o, k t (by simp) o ho, r⟩⟩
  item := fun i s Q E hi st hQ => by
    refine RZ.nextOf_tuple_item st.1 st.2 (x := items[i]) (by simp [hi]) fun h' hit' hs' => ?_
    exact hQ _ h' s.toks (by simp [hi]) ⟨hit', let ⟨o, ho, r⟩ := st.2; ⟨o, (hs'.2 t hne).trans ho, r⟩⟩ hs'
  done := fun s Q E st hE => RZ.nextOf_tuple_end hh st.1 st.2 (by simp) hE
theorem meets_new (t : Addr) (items : Array Value) :
    Meets (Builtin.«enumerate.__new__» ⟨[.type "enumerate", .ref t], []⟩) (fun _ R s => s.heap.IsTuple t items ∧
      R (.ok (.ret (.ref (s.heap.push { cls := .type "tuple_iterator", data := .fields #[.ref t, .int 0 0] }).objs.size)))
        { s with heap := (s.heap.push { cls := .type "tuple_iterator", data := .fields #[.ref t, .int 0 0] }).push { cls := .type "enumerate", data := .fields #[.none, .bool false, .ref s.heap.objs.size, rawInt 0, .none, .none] } }) :=
  .of_wp fun prog w A R s h => by
    obtain ⟨hp, g, d, tk, os⟩ := s
    obtain ⟨hl, h⟩ := h
    have hsub := sub_enumerate
    have hL : Heap.IsTuple (Shared.heap ⟨hp, g, d, tk, os⟩) t items := hl
    obtain ⟨⟨c0, d0, dt0, sl0⟩, ho, hc, n, hd⟩ := hl
    replace hc : c0 = .type "tuple" := hc
    replace hd : dt0 = .seq items n := hd
    subst hc hd
    wp_walk using AutoSeq1.wpAny_loadPart' ho
    refine wpAny_stack_any fun st => wpAny_pure ?_
    split
    · rename_i c _ _ _ _ _
      cases (c == Value.type "enumerate")
      · wp_walk using AutoSeq1.wpAny_loadPart' ho, wpAny_pyIter_tuple hL
        exact ⟨_, rfl, h⟩
      · wp_walk using AutoSeq1.wpAny_loadPart' ho, wpAny_pyIter_tuple hL
        exact ⟨_, rfl, h⟩
    · wp_walk using AutoSeq1.wpAny_loadPart' ho, wpAny_pyIter_tuple hL
      exact ⟨_, rfl, h⟩
section
variable {prog : Program} {w : World} {A : Around} {E : Value → Shared → Prop} {s : Shared}
theorem call_enum {t : Addr} {items : Array Value} {Q : Value → Shared → Prop} (hL : s.heap.IsTuple t items)
    (h : ∀ h', IsEnum h' (s.heap.objs.size + 1) s.heap.objs.size 0 .none → h'.IsTupleIter s.heap.objs.size t 0 → (∀ b o, s.heap.get? b = some o → h'.get? b = some o) → Q (.ref (s.heap.objs.size + 1)) { s with heap := h' }) :
    wpAny (model prog w) A (call (.type "enumerate") [.ref t]) Q E s := by
  refine callType_new PySem.F.called_enumerate (by decide) (PySem.F.typeCall_enumerate_1 _) (PySem.F.newCall_enumerate_1 _) (fun obj => PySem.F.args_object_init_2 obj _) PySem.F.entry_enumerate_new (meets_new t items) ⟨hL, ?_⟩
  have hz : (s.heap.push { cls := .type "tuple_iterator", data := .fields #[.ref t, .int 0 0] }).objs.size = s.heap.objs.size + 1 := Heap.size_push ..
  show _ ∧ _
  rw [hz]
  have he : IsEnum ((s.heap.push { cls := .type "tuple_iterator", data := .fields #[.ref t, .int 0 0] }).push { cls := .type "enumerate", data := .fields #[.none, .bool false, .ref s.heap.objs.size, rawInt 0, .none, .none] }) (s.heap.objs.size + 1) s.heap.objs.size 0 .none := by
    have q := Heap.get?_push_size (s.heap.push { cls := .type "tuple_iterator", data := .fields #[.ref t, .int 0 0] }) (o := { cls := .type "enumerate", data := .fields #[.none, .bool false, .ref s.heap.objs.size, rawInt 0, .none, .none] }) rfl
    rw [hz] at q
    exact q
  exact ⟨⟨_, he, rfl⟩, h _ he ⟨_, Heap.get?_push_of_some _ (Heap.get?_push_size _ rfl), rfl, rfl⟩ fun b o x => Heap.get?_push_of_some _ (Heap.get?_push_of_some _ x)⟩
end
/-- the tuple at a, each item in a new pair with its place -/
def IteT (K : PySem.W.Frag) (a : Addr) : It :=
  ⟨fun i H => ∃ (xs : List V) (x : V), SqT K H a xs ∧ xs[i]? = some x, fun i H v H' => ∃ T x, v = .ref T ∧ H T = none ∧ H' = upd H T (.tup [.int (i : Nat), x]) ∧ ∀ xs, SqT K H a xs → xs[i]? = some x, fun i H => ∃ xs : List V, SqT K H a xs ∧ xs.length = i⟩
theorem turn_enumT {P : Program} {w : World} {K : PySem.W.Frag} {elts : List Expr} {kk : Nat} {tpos : Pos} (a e it : Addr) (items : Array Value) :
    Turn P w K (.Tuple elts kk tpos) (IteT K a) [e, it] e (fun i h => (∃ old, IsEnum h e it ((i : Nat) : Int) old) ∧ h.IsTupleIter it a i ∧ e ≠ it ∧ a ≠ it ∧ e ≠ a) where
  mem := by simp
  obj := fun i h st b hb => by
    obtain ⟨⟨old, he⟩, ⟨o, ho, hc, hd⟩, _⟩ := st
    have e' : b = e ∨ b = it := by simpa using hb
    rcases e' with z | z
    · rw [z]; exact ⟨_, he, fun v q => nomatch q⟩
    · rw [z]; exact ⟨o, ho, fun v q => by rw [hd] at q; cases q⟩
  keep := fun i h h' st k => let ⟨⟨old, he⟩, ⟨o, ho, r⟩, hne⟩ := st; ⟨⟨old, k e (by simp) _ he⟩, ⟨o, k it (by simp) _ ho, r⟩, hne⟩
  item := by
    intro X hP hw hK hc i pins s σ H E I hf st hg
    subst hP hw hK
    obtain ⟨⟨old, he⟩, hit, hne, hat, hea⟩ := st
    obtain ⟨xs, x, hq, hx⟩ := hg
    obtain ⟨its, rv, p, hz⟩ := I.tuple hq
    obtain ⟨u, hu, ru⟩ := rv.get hx
    have hel : e < s.heap.objs.size := Heap.lt_size he
    have hi : i < its.toArray.size := by simpa using (List.getElem?_eq_some_iff.mp hu).1
    refine wpAny_pyNext_enum_itemD (drawsT (A := X.A.in1) (I.ok.hd hc) it a hat its.toArray) he ⟨hit, p⟩ hi hne (by simp [hne, hea]) fun v h' tk hv ho hst' hT hsz hk => ?_
    have ev : v = u := by
      have q : its.toArray[i]? = some v := hv
      rw [List.getElem?_toArray, hu] at q
      exact (Option.some.inj q).symm
    subst ev
    refine ⟨_, rfl, wpAny_letOwnedTupleGo_enum (s := { s with heap := h', toks := tk + 1 }) ho fun h'' he' sb => ?_⟩
    have hT2 : h''.get? s.heap.objs.size = some { cls := .type "tuple", data := .seq #[.int i tk, v] } := (sb.2 _ (Nat.ne_of_gt hel)).trans hT
    have new : ObjOk X.prog X.w (upd H s.heap.objs.size (.tup [.int (i : Nat), x])) h'' s.heap.objs.size (.tup [.int (i : Nat), x]) :=
      ⟨by show 2 ≤ sizeLine; decide, [.int i tk, v], .cons ⟨_, rfl⟩ (.cons ru .nil), ⟨_, hT2, rfl, _, rfl⟩⟩
    have I1 : Inv X pins σ (upd H s.heap.objs.size (.tup [.int (i : Nat), x])) { s with heap := h'', toks := tk + 1 } :=
      I.turnedNew (ch := [e, it]) (fun b ob hb q => (sb.2 b (fun z => hb (by simp [z]))).trans (hk b ob (fun z => hb (by simp [z])) (fun z => hb (by simp [z])) q)) hf (Nat.le_refl _) new
    refine ⟨.ref s.heap.objs.size, _, I1, rfl, ⟨_, x, rfl, I.hok.fresh (Nat.le_refl _), rfl, fun ys hy => by rw [I.tuple_inj hy hq]; exact hx⟩, ⟨⟨v, ?_⟩, ?_, hne, hat, hea⟩, fun b hb => ?_⟩
    · have e1 : ((i + 1 : Nat) : Int) = (i : Int) + 1 := by omega
      rw [e1]
      exact he'
    · obtain ⟨o, ho2, r⟩ := hst'.1
      exact ⟨o, (sb.2 it (Ne.symm hne)).trans ho2, r⟩
    · have hb' : b < s.heap.objs.size := by
        have e' : b = e ∨ b = it := by simpa using hb
        rcases e' with z | z
        · rw [z]; exact hel
        · obtain ⟨o, q, _⟩ := hit
          rw [z]; exact Heap.lt_size q
      rw [upd_ne (Nat.ne_of_lt hb')]
      exact (hf b hb).1
  done := by
    intro X hP hw hK hc i pins s σ H E I hf st hg
    subst hP hw hK
    obtain ⟨⟨old, he⟩, hit, hne, hat, hea⟩ := st
    obtain ⟨xs, hq, hx⟩ := hg
    obtain ⟨its, rv, p, hz⟩ := I.tuple hq
    obtain ⟨f0, f1, f2, f3, f4, f5⟩ := hf it (by simp)
    have hl := rv.length
    have ei : its.toArray.size = i := by simp; omega
    subst ei
    exact wpAny_pyNext_enum_endD (drawsT (A := X.A.in1) (I.ok.hd hc) it a hat its.toArray) he ⟨hit, p⟩ fun h' eb => ⟨rfl, I.turned (t' := s.toks) (fun b o hb q => eb b o hb q) f0 f1 f3 f4 f5⟩
  self := fun A i s Q E st h => let ⟨⟨_, he⟩, _⟩ := st; wpAny_pyIter_enum he h
def iEnumT (K : PySem.W.Frag) (ta : TA) : TI := fun σ H R => ta σ H fun vs H1 => ∃ a xs, vs = [.ref a] ∧ SqT K H1 a xs ∧ R (IteT K a) H1
theorem pi_enumT {X : Cx} {e : Expr} {ta : TA} {p pos tpos : Pos} {elts : List Expr} {kk : Nat} (hg : Gl X "enumerate") (hm : X.mg "enumerate" = none) (ha : PA X [e] ta) (hs : starEach [e] X.env = [(false, eval e X.env)] := by rfl) :
    PI X (.Tuple elts kk tpos) (.Call (.Name "enumerate" p) [e] [] pos) (iEnumT X.K ta) := by
  refine ⟨fun pins s σ H R I h => ?_⟩
  refine Call_ (ld_blt I hg hm boot_enumerate (PyProof.Rows.callWith_type1 (thn (ha.run pos pins s σ H _ I h) fun us s1 ⟨vs, H1, I1, r1, q1⟩ => ?_) hs rfl))
  obtain ⟨a, xs, ex, hq, q⟩ := q1
  subst ex
  cases r1 with
  | cons r rr =>
    cases rr
    cases r
    obtain ⟨its, rv, p', hz⟩ := I1.tuple hq
    have hal : a < s1.heap.objs.size := by
      obtain ⟨o, ho, _⟩ := p'
      exact Heap.lt_size ho
    refine call_enum p' fun h' he hit hk => wpAny_pyIter_enum he ?_
    have I2 : Inv X pins σ H1 { s1 with heap := h' } := I1.kept (t' := s1.toks) hk
    refine ⟨s1.heap.objs.size + 1, [s1.heap.objs.size + 1, s1.heap.objs.size], _, _, H1, rfl, I2, turn_enumT a (s1.heap.objs.size + 1) s1.heap.objs.size its.toArray, ⟨⟨.none, he⟩, hit, Nat.succ_ne_self _, Nat.ne_of_lt hal, Nat.ne_of_gt (Nat.lt_succ_of_lt hal)⟩, fun b hb => ?_, q⟩
    have e' : b = s1.heap.objs.size + 1 ∨ b = s1.heap.objs.size := by simpa using hb
    have hle : s1.heap.objs.size ≤ b := by
      rcases e' with z | z
      · rw [z]; exact Nat.le_add_right _ _
      · rw [z]; exact Nat.le_refl _
    exact I1.fpOk hle (I1.hok.fresh hle)
end EnT
namespace Lw
open PySem L2 TzR
theorem tzS {H H' : Hp} {p : Addr} {xs : List V} (g : Same H H') : TzAt H p xs → TzAt H' p xs
  | ⟨o, h, z⟩ => ⟨o, g _ _ h, z⟩
section
variable {P : Program} {w : World} {K : PySem.W.Frag} {mg : Str → Option Value} {base : Heap} {f : Addr} {fd : FuncData}
def spFrS1 : Sp := fun vs H Q _ => ∃ i : Str, vs = [.str i] ∧ ∀ H' : Hp, Same H H' → Q (.str i) H'
def spFrzS (K : PySem.W.Frag) : Sp := fun vs H Q _ => ∃ (a : Addr) (is : List Str), vs = [.ref a] ∧ (SqL K H a (is.map V.str) ∨ SqT K H a (is.map V.str)) ∧ is.length ≤ 1000 ∧
  ∀ (p : Addr) (H' : Hp), Same H H' → H p = none → TzAt H' p (is.map V.str) → Q (.ref p) H'
theorem ok_frS1 (F : Fun K "frozen" "frozen" sFrozen f fd) (B : Bt mg) : FnOk P w K mg base CX0 1 f fd ["worth"] spFrS1 := by
  refine F.ok scF (fun vs H Q E h => ?_) (fun cdv A outer s H vs Q E hr h => ?_)
  · obtain ⟨i, rfl, _⟩ := h
    rfl
  obtain ⟨i, rfl, q⟩ := h
  refine ⟨_, pss_cons (ps_if (pt_val (pe_callB call_isiT (by rfl) B.isi (by decide +kernel) (pa_cons (pv 0) (pa_cons (pe_tup (pa_cons (pe_bltn (v := .ty "list") (by rfl) B.lst (by decide +kernel) rfl) (pa_cons (pe_bltn (v := .ty "tuple") (by rfl) B.tup (by decide +kernel) rfl) pa_nil))) pa_nil)))) (pss_one ps_never) pss_nil)
    (pss_one (ps_ret (pv 0))), ?_⟩
  refine ⟨_, rfl, (by show 2 ≤ sizeLine; decide), fun t ht => ?_⟩
  refine ⟨_, t, _, .type "str", [.type "list", .type "tuple"], false, rfl, upd_same, .cons (.ty _) (.cons (.ty _) .nil), .base (.str i), is_seq (by decide +kernel) (by decide +kernel), _, rfl, ?_⟩
  exact iteF ⟨_, rfl, q _ (same_new ht _)⟩
/-- the ints so far -/
def InvSt (H0 : Hp) (D : Addr) (is : List Str) (i : Nat) (H : Hp) : Prop := H D = some (.lst ((is.take i).map V.str)) ∧ Same H0 H
theorem take_map_succS {is : List Str} {i : Nat} {x : V} (h : (is.map V.str)[i]? = some x) : ∃ n, x = .str n ∧ (is.take (i + 1)).map V.str = (is.take i).map V.str ++ [.str n] := by
  rw [List.getElem?_map] at h
  cases e : is[i]? with
  | none => rw [e] at h; cases h
  | some n =>
    rw [e] at h
    refine ⟨n, (Option.some.inj h).symm, ?_⟩
    rw [List.take_succ, e, List.map_append] <;> rfl
theorem ok_frzS (F : Fun K "frozen" "frozen" sFrozen f fd) (bF : Binds K fd ["worth"] []) (mF : mg "frozen" = some (.ref f)) (B : Bt mg) : FnOk P w K mg base CX0 2 f fd ["worth"] (spFrzS K) := by
  have G : FnOk P w K mg base CX0 1 f fd ["worth"] spFrS1 := ok_frS1 F B
  refine F.ok scF (fun vs H Q E h => ?_) (fun cdv A outer s H vs Q E hr h => ?_)
  · obtain ⟨a, is, rfl, _⟩ := h
    rfl
  obtain ⟨a, is, rfl, hS, hl, q⟩ := h
  have turn : ∀ {te : TE} {D : Addr}, H D = none → ∀ i x H', (is.map V.str)[i]? = some x → InvSt H D is i H' → tCall spFrS1 [] E0 (tCons (tVar 1) tNil) [some (.ref a), some x] H' fun y H4 => ∃ acc, H4 D = some (.lst acc) ∧ acc.length < sizeLine ∧ InvSt H D is (i + 1) (upd H4 D (.lst (acc ++ [y]))) := by
    rintro te D hD i x H' hx ⟨hd, g⟩
    obtain ⟨n, rfl, en⟩ := take_map_succS hx
    refine ⟨_, rfl, n, rfl, fun H2 g2 => ⟨_, g2 _ _ hd, ?_, by rw [upd_same, en], same_over (g.trans g2) hD _⟩⟩
    rw [List.length_map]
    exact small1000 (by rw [List.length_take]; omega)
  rcases hS with hS | hS
  · refine ⟨_, pss_cons (ps_if (pt_val (pe_callB call_isiT (by rfl) B.isi (by decide +kernel) (pa_cons (pv 0) (pa_cons (pe_tup (pa_cons (pe_bltn (v := .ty "list") (by rfl) B.lst (by decide +kernel) rfl) (pa_cons (pe_bltn (v := .ty "tuple") (by rfl) B.tup (by decide +kernel) rfl) pa_nil))) pa_nil))))
        (pss_one (ps_ret (pe_callTy call_tuple_frz (by rfl) B.tup (by decide +kernel) (pa_cons (pe_lc (own := [("part", 1)]) (g := gName 1) (tt := tYes) rfl scF.nd (pi_list (pv 0)) (blkOk_by (N := ["worth", "part"]) (sc := defScope sFrozen) (by decide +kernel))
          (fun _ _ _ _ _ => pg_name (i := 1) scF.nd rfl (Or.inl rfl)) (fun _ _ _ _ _ => pts_nil) (fun _ _ _ _ _ => pe_call G hr rfl mF F.kp bF .nil pass0 (pa_cons (pv 1) pa_nil))) pa_nil)))) pss_nil)
      (pss_one (ps_ret (pv 0))), ?_⟩
    refine ⟨_, rfl, (by show 2 ≤ sizeLine; decide), fun t ht => ?_⟩
    have g1 : Same H (upd H t (.tup [.ty "list", .ty "tuple"])) := same_new ht _
    refine ⟨_, t, _, .type "list", [.type "list", .type "tuple"], true, rfl, upd_same, .cons (.ty _) (.cons (.ty _) .nil), tyL (g1.seq hS), is_seqL, _, rfl, ?_⟩
    refine iteT ?_
    refine ⟨_, rfl, a, rfl, ⟨_, g1.seq hS⟩, fun D hD => ?_⟩
    have hD0 : H D = none := g1.free hD
    refine lc_list (K := K) (a := a) (xs := is.map V.str) (InvSt H D is) ⟨upd_same, same_over g1 hD0 _⟩ (fun i H' _ ⟨_, g⟩ => g.seq hS) (fun i x H' hx hi => ⟨rfl, kept (turn (te := fun _ _ _ => True) hD0 i x H' hx hi)⟩) ?_
    rintro H' ⟨hd, g⟩
    rw [List.length_map, List.take_length] at hd
    refine ⟨D, _, rfl, SqL.of hd, fun l o hl0 hc hdn => ?_⟩
    exact q l _ (g.trans (same_new hl0 _)) (g.free hl0) (TzAt.of upd_same hc hdn)
  · refine ⟨_, pss_cons (ps_if (pt_val (pe_callB call_isiT (by rfl) B.isi (by decide +kernel) (pa_cons (pv 0) (pa_cons (pe_tup (pa_cons (pe_bltn (v := .ty "list") (by rfl) B.lst (by decide +kernel) rfl) (pa_cons (pe_bltn (v := .ty "tuple") (by rfl) B.tup (by decide +kernel) rfl) pa_nil))) pa_nil))))
        (pss_one (ps_ret (pe_callTy call_tuple_frz (by rfl) B.tup (by decide +kernel) (pa_cons (pe_lc (own := [("part", 1)]) (g := gName 1) (tt := tYes) rfl scF.nd (pi_tup (pv 0)) (blkOk_by (N := ["worth", "part"]) (sc := defScope sFrozen) (by decide +kernel))
          (fun _ _ _ _ _ => pg_name (i := 1) scF.nd rfl (Or.inl rfl)) (fun _ _ _ _ _ => pts_nil) (fun _ _ _ _ _ => pe_call G hr rfl mF F.kp bF .nil pass0 (pa_cons (pv 1) pa_nil))) pa_nil)))) pss_nil)
      (pss_one (ps_ret (pv 0))), ?_⟩
    refine ⟨_, rfl, (by show 2 ≤ sizeLine; decide), fun t ht => ?_⟩
    have g1 : Same H (upd H t (.tup [.ty "list", .ty "tuple"])) := same_new ht _
    refine ⟨_, t, _, .type "tuple", [.type "list", .type "tuple"], true, rfl, upd_same, .cons (.ty _) (.cons (.ty _) .nil), tyT (seqT g1 hS), is_seq (by decide +kernel) (by decide +kernel), _, rfl, ?_⟩
    refine iteT ?_
    refine ⟨_, rfl, a, rfl, ⟨_, seqT g1 hS⟩, fun D hD => ?_⟩
    have hD0 : H D = none := g1.free hD
    refine lc_tup (K := K) (a := a) (xs := is.map V.str) (InvSt H D is) ⟨upd_same, same_over g1 hD0 _⟩ (fun i H' _ ⟨_, g⟩ => seqT g hS) (fun i x H' hx hi => ⟨rfl, kept (turn (te := fun _ _ _ => True) hD0 i x H' hx hi)⟩) ?_
    rintro H' ⟨hd, g⟩
    rw [List.length_map, List.take_length] at hd
    refine ⟨D, _, rfl, SqL.of hd, fun l o hl0 hc hdn => ?_⟩
    exact q l _ (g.trans (same_new hl0 _)) (g.free hl0) (TzAt.of upd_same hc hdn)
end
end Lw
namespace Lw
open PySem L2 EnT
abbrev sChkL : Stmt := topS 13
/-- more of the names that the text leaves to Python -/
structure Bx (mg : Str → Option Value) : Prop where
  sorted : mg "sorted" = none
  enum : mg "enumerate" = none
  str : mg "str" = none
theorem sIx_none (n d : Nat) : HT.sIx n d none = d := rfl
theorem sIx_nat (n d i : Nat) : HT.sIx n d (some (i : Int)) = min i n := by
  unfold HT.sIx
  simp only
  split
  · omega
  · omega
theorem cut_take (xs : List V) (i : Nat) (h : i ≤ xs.length) : cutV xs none (some (i : Int)) = xs.take i := by
  unfold cutV
  rw [sIx_nat, sIx_none, List.drop_zero, Nat.sub_zero, Nat.min_eq_left h]
theorem in_strs (z : Str) : ∀ ls : List Str, inV (.str z) (ls.map V.str) = decide (z ∈ ls)
  | [] => by simp [inV]
  | y :: r => by
    have q := in_strs z r
    unfold inV at q ⊢
    rw [List.map_cons, List.any_cons, q]
    show ((y == z) || decide (z ∈ r)) = decide (z ∈ y :: r)
    by_cases h : y = z
    · subst h
      simp
    · have h2 : ¬ z = y := fun e => h e.symm
      simp [h, h2]
theorem flat_strs' (ls : List Str) : (ls.map V.str).all flatV = true := by
  rw [List.all_eq_true]
  intro x hx
  obtain ⟨i, _, rfl⟩ := List.mem_map.mp hx
  rfl
theorem for_enumT {K : PySem.W.Frag} {a : Addr} {xs : List V} {g : TG} {tb : TS} {D : Ends} {σ : St} {H : Hp} (Pv : Nat → St → Hp → Prop) (h0 : Pv 0 σ H) (hl : ∀ i σ H, Pv i σ H → SqT K H a xs)
    (hs : ∀ i σ H x T, xs[i]? = some x → Pv i σ H → H T = none → g (.ref T) σ (upd H T (.tup [.int (i : Nat), x])) fun σ2 H2 => tb { D with nx := Pv (i + 1), ct := Pv (i + 1), bk := D.nx } σ2 H2) (hd : ∀ σ H, Pv xs.length σ H → D.nx σ H) :
    ∃ W : Nat → Nat → St → Hp → Prop, (∃ m, W 0 m σ H) ∧ ∀ i m σ H, W i m σ H →
      ((EnT.IteT K a).stop i H ∧ D.nx σ H) ∨ ((EnT.IteT K a).go i H ∧ ∃ N : St → Hp → Prop, (∀ σ' H', N σ' H' → ∃ m', m' < m ∧ W (i + 1) m' σ' H') ∧ ∀ x H', (EnT.IteT K a).yld i H x H' → g x σ H' fun σ2 H2 => tb { D with nx := N, ct := N, bk := D.nx } σ2 H2) := by
  refine ⟨fun i m σ H => m = xs.length - i ∧ i ≤ xs.length ∧ Pv i σ H, ⟨xs.length, by simp, Nat.zero_le _, h0⟩, ?_⟩
  rintro i m σ H ⟨rfl, hi, p⟩
  have sq := hl i σ H p
  by_cases hlt : i < xs.length
  · refine .inr ⟨⟨xs, xs[i], sq, List.getElem?_eq_getElem hlt⟩, Pv (i + 1), fun σ' H' p' => ⟨xs.length - (i + 1), by omega, rfl, hlt, p'⟩, fun x H' y => ?_⟩
    obtain ⟨T, x', rfl, hT, rfl, hx⟩ := y
    exact hs i σ H x' T (hx xs sq) p hT
  · have e : i = xs.length := by omega
    subst e
    exact .inl ⟨⟨xs, sq, rfl⟩, hd σ H p⟩
section
variable {P : Program} {w : World} {K : PySem.W.Frag} {mg : Str → Option Value} {base : Heap} {f : Addr} {fd : FuncData}
def spChkL (K : PySem.W.Frag) : Sp := fun vs H Q _ => ∃ (t : Addr) (ls : List Str), vs = [.ref t] ∧ SqT K H t (ls.map V.str) ∧ ls.length ≤ 100 ∧ ls.Nodup ∧ ∀ H' : Hp, Same H H' → Q .non H'
theorem scCL : FnScope ["letters", "at", "letter"] ["letters"] (defScope sChkL) := ⟨rfl, rfl, rfl, by decide +kernel, rfl, by decide +kernel, by decide +kernel⟩
theorem ok_chkL (F : Fun K "check_letters" "check_letters" sChkL f fd) (B2 : Bx mg) : FnOk P w K mg base CX0 1 f fd ["letters"] (spChkL K) := by
  refine F.ok scCL (fun vs H Q E h => ?_) (fun cdv A outer s H vs Q E hr h => ?_)
  · obtain ⟨t, ls, rfl, _⟩ := h
    rfl
  obtain ⟨t, ls, rfl, ht, hl, hn, k⟩ := h
  refine ⟨_, pss_one (ps_for PassesOwn.never rfl (EnT.pi_enumT (by rfl) B2.enum (pa_cons (pv 0) pa_nil)) (pg_tup rfl (pgs_cons (pg_name (i := 1) scCL.nd rfl (Or.inl rfl)) (pgs_cons (pg_name (i := 2) scCL.nd rfl (Or.inl rfl)) pgs_nil)))
    (pss_one (ps_if (pt_cmpR (r := rIn K false) op_in_seq (pv 2) (pe_slice sl_tupA (pv 0) po_none (po_some (pv 1))) (by rfl)) (pss_one ps_never) pss_nil))), ?_⟩
  refine ⟨_, rfl, t, _, rfl, ht, for_enumT (K := K) (a := t) (xs := ls.map V.str) (fun i σ' H' => (∃ u v : Option V, σ' = [some (.ref t), u, v]) ∧ Same H H') ⟨⟨_, _, rfl⟩, Same.refl H⟩ (fun i σ' H' ⟨_, g⟩ => seqT g ht) (fun i σ' H' x T hx ⟨⟨u, v, e⟩, g⟩ hT => ?_) (fun σ' H' ⟨_, g⟩ => k H' g)⟩
  subst e
  rw [List.getElem?_map] at hx
  cases ez : ls[i]? with
  | none => rw [ez] at hx; cases hx
  | some z =>
    rw [ez] at hx
    cases hx
    have hi : i < ls.length := (List.getElem?_eq_some_iff.mp ez).1
    have gT := same_new hT (.tup [.int (i : Nat), .str z])
    have htT := seqT (g.trans gT) ht
    have no : decide (z ∈ ls.take i) = false := by
      refine decide_eq_false fun hm => ?_
      obtain ⟨j, hj, ej⟩ := List.getElem_of_mem hm
      rw [List.length_take] at hj
      rw [List.getElem_take] at ej
      obtain ⟨_, e2⟩ := List.getElem?_eq_some_iff.mp ez
      exact absurd ((List.getElem_inj hn).mp (ej.trans e2.symm)) (by omega)
    have ecut : cutV (ls.map V.str) none (some (i : Int)) = (ls.take i).map V.str := by
      rw [cut_take _ _ (by rw [List.length_map]; omega), List.map_take]
    refine ⟨T, _, rfl, SqT.of upd_same, rfl, _, _, rfl, _, _, rfl, rfl, ?_⟩
    refine ⟨_, rfl, _, rfl, _, rfl, _, rfl, t, _, rfl, htT, fun hw => ?_, fun _ p hp => ?_⟩
    · exfalso
      have z2 := hw.2
      rw [sIx_nat, List.length_map] at z2
      omega
    · have gp := same_new hp (.tup (cutV (ls.map V.str) none (some (i : Int))))
      refine ⟨p, _, rfl, .inr (SqT.of upd_same), rfl, by rw [ecut]; exact flat_strs' _, _, rfl, ?_⟩
      have e3 : inV (.str z) (cutV (ls.map V.str) none (some (i : Int))) = false := by
        rw [ecut, in_strs]
        exact no
      exact iteN (c := inV (.str z) (cutV (ls.map V.str) none (some (i : Int)))) e3 ⟨⟨_, _, rfl⟩, (g.trans gT).trans gp⟩
end
end Lw
namespace Lw
open PySem L2 TzR
abbrev sUini : Stmt := inClass (topS 15) 0
/-- a use of the program: its name, its letters, its form -/
def UseAt (K : PySem.W.Frag) (U C : Addr) (H : Hp) (p : Addr) (nm : Str) (ls : List Str) (q : Addr) (ks : List Str) (is : List Int) : Prop :=
  ∃ dx tl : Addr, H p = some (.ins U dx [("name", .str nm), ("letters", .ref tl), ("form", .ref q)]) ∧ TzAt H tl (ls.map V.str) ∧ FormAt K C q ks is H
theorem UseAt.same {K : PySem.W.Frag} {U C : Addr} {H H' : Hp} {p q : Addr} {nm : Str} {ls ks : List Str} {is : List Int} (g : Same H H') : UseAt K U C H p nm ls q ks is → UseAt K U C H' p nm ls q ks is
  | ⟨dx, tl, h1, h2, h3⟩ => ⟨dx, tl, g _ _ h1, tzS g h2, h3.same g⟩
theorem tzK {H H' : Hp} {p q : Addr} {xs : List V} {U dx : Addr} {fs : List (Str × V)} (k : Kp p H H') (hp : H p = some (.ins U dx fs)) : TzAt H q xs → TzAt H' q xs
  | ⟨o, h, z⟩ => ⟨o, k _ _ (fun e => by rw [e, hp] at h; cases h) h, z⟩
structure Us (K : PySem.W.Frag) (U C : Addr) : Prop where
  cl : Cls K U
  nN : PySem.W.findIn K (.ref U) "name" = some none
  nL : PySem.W.findIn K (.ref U) "letters" = some none
  nF : PySem.W.findIn K (.ref U) "form" = some none
  clC : Cls K C
  nK : PySem.W.findIn K (.ref C) "kinds" = some none
theorem scUi : FnScope ["self", "name", "letters", "form"] ["self", "name", "letters", "form"] (defScope sUini) := ⟨rfl, rfl, rfl, by decide +kernel, rfl, by decide +kernel, by decide +kernel⟩
def spUini (K : PySem.W.Frag) (U C : Addr) : Sp := fun vs H Q _ => ∃ (p dx l q : Addr) (nm : Str) (ls ks : List Str) (is : List Int), vs = [.ref p, .str nm, .ref l, .ref q] ∧ H p = some (.ins U dx []) ∧ (SqL K H l (ls.map V.str) ∨ SqT K H l (ls.map V.str)) ∧ ls.length ≤ 100 ∧ ls.Nodup ∧ FormAt K C q ks is H ∧ ks.length = ls.length ∧
  ∀ (H' : Hp) (tl : Addr), Kp p H H' → H' p = some (.ins U dx [("name", .str nm), ("letters", .ref tl), ("form", .ref q)]) → TzAt H' tl (ls.map V.str) → Q .non H'
theorem FormAt.kp {K : PySem.W.Frag} {C p q U dx : Addr} {fs : List (Str × V)} {ks : List Str} {is : List Int} {H H' : Hp} (k : Kp p H H') (hp : H p = some (.ins U dx [])) : FormAt K C q ks is H → FormAt K C q ks is H'
  | ⟨dx', tk, ta, h1, h2, h3⟩ => by
    have nq : q ≠ p := fun e => by
      rw [e, hp] at h1
      cases h1
    exact ⟨dx', tk, ta, k _ _ nq h1, k.seq hp h2, k.seq hp h3⟩
section
variable {P : Program} {w : World} {K : PySem.W.Frag} {mg : Str → Option Value} {base : Heap} {f U C gF gC : Addr} {fd dF dC : FuncData}
theorem ok_uini (F : Fun K "__init__" "Use.__init__" sUini f fd) (T : Us K U C) (B : Bt mg) (GF : FnOk P w K mg base CX0 2 gF dF ["worth"] (spFrzS K)) (bF : Binds K dF ["worth"] []) (kF : PySem.W.keepIn K (.ref gF) = true) (mF : mg "frozen" = some (.ref gF))
    (GC : FnOk P w K mg base CX0 1 gC dC ["letters"] (spChkL K)) (bC : Binds K dC ["letters"] []) (kC : PySem.W.keepIn K (.ref gC) = true) (mC : mg "check_letters" = some (.ref gC)) : FnOk P w K mg base CX0 3 f fd ["self", "name", "letters", "form"] (spUini K U C) := by
  refine F.ok scUi (fun vs H Q E h => ?_) (fun cdv A outer s H vs Q E hr h => ?_)
  · obtain ⟨p, dx, l, q, nm, ls, ks, is, rfl, _⟩ := h
    rfl
  obtain ⟨p, dx, l, q, nm, ls, ks, is, rfl, hp, hS, hl, hn, hq, hkl, k⟩ := h
  refine ⟨_, pss_cons (ps_fld (pv 0) (pv 1) rfl) (pss_cons (ps_fld (pv 0) (pe_call GF hr rfl mF kF bF .nil pass0 (pa_cons (pv 2) pa_nil)) rfl) (pss_cons (ps_fld (pv 0) (pv 3) rfl)
    (pss_cons (ps_expr (pe_call GC (hr.mono (by decide)) rfl mC kC bC .nil pass0 (pa_cons (pe_fld (pv 0) rfl) pa_nil)))
    (pss_one (ps_if (pt_cmpR op_ne (pe_callB call_len_seq (by rfl) B.len PySem.boot_len (pa_cons (pe_fld (pv 3) rfl) pa_nil)) (pe_callB call_len_seq (by rfl) B.len PySem.boot_len (pa_cons (pe_fld (pv 0) rfl) pa_nil)) (nomark _)) (pss_one ps_never) pss_nil))))), ?_⟩
  have l0 : ls.length ≤ 1000 := by omega
  refine ⟨_, rfl, _, rfl, p, U, dx, _, rfl, hp, T.cl, T.nN, (by show 0 < 1000; decide), ?_⟩
  have k1 : Kp p H (upd H p (.ins U dx (putF "name" (.str nm) []))) := fun b o n e => by rw [upd_ne n]; exact e
  have hS1 := hS.imp (fun z => k1.seqL hp z) (fun z => k1.seq hp z)
  have hp1 : (upd H p (.ins U dx (putF "name" (.str nm) []))) p = _ := upd_same
  revert k1 hS1 hp1
  generalize upd H p (.ins U dx (putF "name" (.str nm) [])) = H1
  intro k1 hS1 hp1
  refine ⟨_, rfl, l, ls, rfl, hS1, l0, fun tl H2 g2 n2 h2 => ?_⟩
  have hp2 := g2 _ _ hp1
  refine ⟨_, rfl, p, U, dx, _, rfl, hp2, T.cl, T.nL, (by show 1 < 1000; decide), ?_⟩
  have k2 : Kp p H2 (upd H2 p (.ins U dx (putF "letters" (.ref tl) (putF "name" (.str nm) [])))) := fun b o n e => by rw [upd_ne n]; exact e
  have ht3 := tzK k2 hp2 h2
  have hp3 : (upd H2 p (.ins U dx (putF "letters" (.ref tl) (putF "name" (.str nm) [])))) p = _ := upd_same
  have k3 : Kp p H (upd H2 p (.ins U dx (putF "letters" (.ref tl) (putF "name" (.str nm) [])))) := fun b o n e => k2 b o n (g2 _ _ (k1 b o n e))
  revert ht3 hp3 k3
  generalize upd H2 p (.ins U dx (putF "letters" (.ref tl) (putF "name" (.str nm) []))) = H3
  intro ht3 hp3 k3
  refine ⟨_, rfl, _, rfl, p, U, dx, _, rfl, hp3, T.cl, T.nF, (by show 2 < 1000; decide), ?_⟩
  have k4 : Kp p H3 (upd H3 p (.ins U dx [("name", .str nm), ("letters", .ref tl), ("form", .ref q)])) := fun b o n e => by rw [upd_ne n]; exact e
  have ht4 := tzK k4 hp3 ht3
  have hp4 : (upd H3 p (.ins U dx [("name", .str nm), ("letters", .ref tl), ("form", .ref q)])) p = some (.ins U dx [("name", .str nm), ("letters", .ref tl), ("form", .ref q)]) := upd_same
  have k5 : Kp p H (upd H3 p (.ins U dx [("name", .str nm), ("letters", .ref tl), ("form", .ref q)])) := fun b o n e => k4 b o n (k3 b o n e)
  have hq5 := hq.kp (fs := []) k5 hp
  obtain ⟨dxq, tk, ta, hq1, hq2, hq3⟩ := hq5
  refine ⟨_, rfl, p, U, dx, _, _, rfl, hp4, T.cl, T.nL, rfl, tl, ls, rfl, ht4.seq, hl, hn, fun H5 g5 => ?_⟩
  refine ⟨_, rfl, q, C, dxq, _, _, rfl, g5 _ _ hq1, T.clC, T.nK, flds_k _ _, tk, _, rfl, .inr (seqT g5 hq2), _, rfl, p, U, dx, _, _, rfl, g5 _ _ hp4, T.cl, T.nL, rfl, tl, _, rfl, .inr (seqT g5 ht4.seq), rfl, _, rfl, ?_⟩
  refine iteN (by rw [List.length_map, List.length_map, hkl, dec_int]; simp) ?_
  exact k H5 tl (fun b o n e => g5 _ _ (k5 b o n e)) (g5 _ _ hp4) (tzS g5 ht4)
end
end Lw
/-! operators of the program's own classes: x op y, x op= y, op x by the class's own defs; order of data -/
namespace OwB
open PySem PySem.Spec PyProof.Rows L2
section
variable {X : Cx} {CX : CXT} {k : Nat} {g C : Addr} {gd : FuncData} {ps : List Str} {sp : Sp} {E : XK}
theorem inst_of {pins : List (Addr × Obj)} {σ : L2.St} {H : Hp} {s : Shared} {a dx : Addr} {fs : List (Str × V)} (I : Inv X pins σ H s) (h : H a = some (.ins C dx fs)) : ∃ od, PySem.W.InstAt s.heap a (PySem.W.instObj C dx) C (some od) := by
  obtain ⟨mA, O, _⟩ := ins_get I.hok h
  obtain ⟨od, J, _⟩ := O.look
  exact ⟨od, J⟩
theorem back_of {pins : List (Addr × Obj)} {σ : L2.St} {Q : VK} {v : Value} {s' : Shared} (h : EP X pins σ Q v s') : PySem.W.CmpBack (EP X pins σ Q) v s' := by
  obtain ⟨z, H', I', rz, qz⟩ := h
  exact SlX.cmpback rz ⟨z, H', I', rz, qz⟩
/-- the def at g stands for the class at C under the name x -/
structure OpD (K : PySem.W.Frag) (C g : Addr) (x : Str) : Prop where
  at_ : PySem.W.findIn K (.ref C) x = some (some (.ref g))
  fn : PySem.W.isFn K (.ref g) = true
/-- x op y, both instances of the class at C -/
def rOwnI (C : Addr) (sp : Sp) (E : XK) : R2 := fun x y H Q => ∃ a b dx dy fs gs, x = .ref a ∧ y = .ref b ∧ H a = some (.ins C dx fs) ∧ H b = some (.ins C dy gs) ∧ sp [x, y] H Q E
theorem op_ownB {op : Operator} (hc : PySem.W.selfFirst X.K C = true) (D : OpD X.K C g (PySem.dunder op.info.2)) (F : FnOk X.prog X.w X.K X.mg X.base CX k g gd ps sp) (hr : Room k X.A) (hb : Binds X.K gd ps []) (hx : Passes CX X E) :
    OpR X (binaryOp op) (rOwnI C sp E) := by
  intro pins s σ H x y v u Q I rx ry h
  obtain ⟨a, b, dx, dy, fs, gs, rfl, rfl, ha, hb', q⟩ := h
  cases (show v = Value.ref a from rx)
  cases (show u = Value.ref b from ry)
  obtain ⟨od, J⟩ := inst_of I ha
  obtain ⟨od', J'⟩ := inst_of I hb'
  obtain ⟨m, hF⟩ := I.fr
  refine PySem.W.binop_K hF I.ok.mod.kin J J'.type hc D.at_ D.fn ?_
  exact wpAny_mono (run_fn (us := [.ref a, .ref b]) (vs := [.ref a, .ref b]) F hr hb .nil hx I (.cons rfl (.cons rfl .nil)) q) (fun w s' z => back_of z) fun _ _ x => x
theorem op_ownC {op : CmpOp} (hop : ∀ a b, compareOp op a b = richCompare op a b) (D : OpD X.K C g (cmpInfo op).2.1) (F : FnOk X.prog X.w X.K X.mg X.base CX k g gd ps sp) (hr : Room k X.A) (hb : Binds X.K gd ps []) (hx : Passes CX X E) :
    OpR X (compareOp op) (rOwnI C sp E) := by
  intro pins s σ H x y v u Q I rx ry h
  obtain ⟨a, b, dx, dy, fs, gs, rfl, rfl, ha, hb', q⟩ := h
  cases (show v = Value.ref a from rx)
  cases (show u = Value.ref b from ry)
  obtain ⟨od, J⟩ := inst_of I ha
  obtain ⟨od', J'⟩ := inst_of I hb'
  obtain ⟨m, hF⟩ := I.fr
  rw [hop]
  refine PySem.W.cmp_K (op := op) (tb := .ref C) hr.units0 hF I.ok.mod.kin J J'.type ?_ D.at_ D.fn ?_
  · unfold PySem.W.notFirst
    rw [beq_self_eq_true, Bool.true_or]
  exact wpAny_mono (run_fn (us := [.ref a, .ref b]) (vs := [.ref a, .ref b]) F hr hb .nil hx I (.cons rfl (.cons rfl .nil)) q) (fun w s' z => back_of z) fun _ _ x => x
/-- x op= y, x an instance of the class at C -/
def rOwnA (C : Addr) (sp : Sp) (E : XK) : R2 := fun x y H Q => ∃ a dx fs, x = .ref a ∧ H a = some (.ins C dx fs) ∧ sp [x, y] H Q E
theorem op_ownA {op : Operator} (hc : PySem.W.selfFirst X.K C = true) (D : OpD X.K C g (PySem.dunderI op.info.2)) (F : FnOk X.prog X.w X.K X.mg X.base CX k g gd ps sp) (hr : Room k X.A) (hb : Binds X.K gd ps []) (hx : Passes CX X E) :
    OpR X (inplaceOp op) (rOwnA C sp E) := by
  intro pins s σ H x y v u Q I rx ry h
  obtain ⟨a, dx, fs, rfl, ha, q⟩ := h
  cases (show v = Value.ref a from rx)
  obtain ⟨od, J⟩ := inst_of I ha
  obtain ⟨m, hF⟩ := I.fr
  refine PySem.W.ksp_inplace hF I.ok.mod.kin J hc D.at_ D.fn ?_
  exact wpAny_mono (run_fn (us := [.ref a, u]) (vs := [.ref a, y]) F hr hb .nil hx I (.cons rfl (.cons ry .nil)) q) (fun w s' z => back_of z) fun _ _ x => x
/-- op x -/
def rOwnU (C : Addr) (sp : Sp) (E : XK) : V → Hp → VK → Prop := fun x H Q => ∃ a dx fs, x = .ref a ∧ H a = some (.ins C dx fs) ∧ sp [x] H Q E
theorem un_own_neg (D : OpD X.K C g "__neg__") (F : FnOk X.prog X.w X.K X.mg X.base CX k g gd ps sp) (hr : Room k X.A) (hb : Binds X.K gd ps []) (hx : Passes CX X E) : UnR X (unaryOp .USub) (rOwnU C sp E) := by
  intro pins s σ H x v Q I rx h
  obtain ⟨a, dx, fs, rfl, ha, q⟩ := h
  cases (show v = Value.ref a from rx)
  obtain ⟨od, J⟩ := inst_of I ha
  obtain ⟨m, hF⟩ := I.fr
  exact PySem.W.ksp_neg hF I.ok.mod.kin J D.at_ D.fn (run_fn (us := [.ref a]) (vs := [.ref a]) F hr hb .nil hx I (.cons rfl .nil) q)
theorem un_own_pos (D : OpD X.K C g "__pos__") (F : FnOk X.prog X.w X.K X.mg X.base CX k g gd ps sp) (hr : Room k X.A) (hb : Binds X.K gd ps []) (hx : Passes CX X E) : UnR X (unaryOp .UAdd) (rOwnU C sp E) := by
  intro pins s σ H x v Q I rx h
  obtain ⟨a, dx, fs, rfl, ha, q⟩ := h
  cases (show v = Value.ref a from rx)
  obtain ⟨od, J⟩ := inst_of I ha
  obtain ⟨m, hF⟩ := I.fr
  exact PySem.W.ksp_pos hF I.ok.mod.kin J D.at_ D.fn (run_fn (us := [.ref a]) (vs := [.ref a]) F hr hb .nil hx I (.cons rfl .nil) q)
theorem un_own_inv (D : OpD X.K C g "__invert__") (F : FnOk X.prog X.w X.K X.mg X.base CX k g gd ps sp) (hr : Room k X.A) (hb : Binds X.K gd ps []) (hx : Passes CX X E) : UnR X (unaryOp .Invert) (rOwnU C sp E) := by
  intro pins s σ H x v Q I rx h
  obtain ⟨a, dx, fs, rfl, ha, q⟩ := h
  cases (show v = Value.ref a from rx)
  obtain ⟨od, J⟩ := inst_of I ha
  obtain ⟨m, hF⟩ := I.fr
  exact PySem.W.ksp_inv hF I.ok.mod.kin J D.at_ D.fn (run_fn (us := [.ref a]) (vs := [.ref a]) F hr hb .nil hx I (.cons rfl .nil) q)
/-- x op i, x an instance, i an int -/
def rOwnN (C : Addr) (sp : Sp) (E : XK) : R2 := fun x y H Q => ∃ a dx fs i, x = .ref a ∧ y = .int i ∧ H a = some (.ins C dx fs) ∧ sp [x, y] H Q E
theorem op_ownN {op : Operator} {fo ro rc : Option Value} (hc : PySem.W.selfFirst X.K C = true) (D : OpD X.K C g (PySem.dunder op.info.2)) (hr' : PySem.W.findIn X.K (.ref C) (PySem.dunderR op.info.2) = some rc) (hp : rc = none ∨ ∃ g : Addr, rc = some (.ref g))
    (h1 : PySem.W.findIn X.K (.type "int") (PySem.dunder op.info.2) = some fo) (h2 : PySem.W.findIn X.K (.type "int") (PySem.dunderR op.info.2) = some ro) (hsub : PySem.W.subIn X.K (.type "int") (.ref C) = some false)
    (F : FnOk X.prog X.w X.K X.mg X.base CX k g gd ps sp) (hr : Room k X.A) (hb : Binds X.K gd ps []) (hx : Passes CX X E) : OpR X (binaryOp op) (rOwnN C sp E) := by
  intro pins s σ H x y v u Q I rx ry h
  obtain ⟨a, dx, fs, i, rfl, rfl, ha, q⟩ := h
  cases (show v = Value.ref a from rx)
  obtain ⟨t, rfl⟩ := (show ∃ t, u = Value.int i t from ry)
  obtain ⟨od, J⟩ := inst_of I ha
  obtain ⟨m, hF⟩ := I.fr
  refine PySem.W.ksp_binT (b := .int i t) hF I.ok.mod.kin J rfl hc D.at_ D.fn hr' hp h1 h2 hsub ?_
  exact wpAny_mono (run_fn (us := [.ref a, .int i t]) (vs := [.ref a, .int i]) F hr hb .nil hx I (.cons rfl (.cons ⟨t, rfl⟩ .nil)) q) (fun w s' z => back_of z) fun _ _ x => x
end
/-! ### the order of data -/
section
variable {X : Cx}
def rCmpD (K : PySem.W.Frag) (p : PyData → PyData → Bool) : R2 := fun x y H Q => ∃ d e, Dp K H x d ∧ Dp K H y e ∧ PySem.W.alike d e = true ∧ d ≠ .none ∧ min d.depth e.depth ≤ 32 ∧ Q (.bl (p d e)) H
theorem op_ltD (hu : X.A.units + 64 < cLine) : OpR X (compareOp .Lt) (rCmpD X.K fun d e => PySem.W.dataLt d e) := by
  intro pins s σ H x y v u Q I rx ry ⟨d, e, hd, he, ha, hn, hl, q⟩
  obtain ⟨as, r1⟩ := Dp.reads I d x v hd rx
  obtain ⟨bs, r2⟩ := Dp.reads I e y u he ry
  exact PySem.W.lt_data r1 r2 ha hn (by omega) ⟨.bl _, H, I, rfl, q⟩
theorem op_gtD (hu : X.A.units + 64 < cLine) : OpR X (compareOp .Gt) (rCmpD X.K fun d e => PySem.W.dataLt e d) := by
  intro pins s σ H x y v u Q I rx ry ⟨d, e, hd, he, ha, hn, hl, q⟩
  obtain ⟨as, r1⟩ := Dp.reads I d x v hd rx
  obtain ⟨bs, r2⟩ := Dp.reads I e y u he ry
  exact PySem.W.gt_data r1 r2 ha hn (by omega) ⟨.bl _, H, I, rfl, q⟩
theorem op_leD (hu : X.A.units + 64 < cLine) : OpR X (compareOp .LtE) (rCmpD X.K fun d e => !PySem.W.dataLt e d) := by
  intro pins s σ H x y v u Q I rx ry ⟨d, e, hd, he, ha, hn, hl, q⟩
  obtain ⟨as, r1⟩ := Dp.reads I d x v hd rx
  obtain ⟨bs, r2⟩ := Dp.reads I e y u he ry
  exact PySem.W.le_data r1 r2 ha hn (by omega) ⟨.bl _, H, I, rfl, q⟩
theorem op_geD (hu : X.A.units + 64 < cLine) : OpR X (compareOp .GtE) (rCmpD X.K fun d e => !PySem.W.dataLt d e) := by
  intro pins s σ H x y v u Q I rx ry ⟨d, e, hd, he, ha, hn, hl, q⟩
  obtain ⟨as, r1⟩ := Dp.reads I d x v hd rx
  obtain ⟨bs, r2⟩ := Dp.reads I e y u he ry
  exact PySem.W.ge_data r1 r2 ha hn (by omega) ⟨.bl _, H, I, rfl, q⟩
end
end OwB
/-! list(text): its signs -/
namespace LiS
open PySem PySem.Spec PyProof.Rows L2
section
variable {prog : Program} {w : World} {A : Around} {E : Value → Shared → Prop} {s : Shared} {x : Str} {t : Tok}
theorem hint_str {Q : Bool → Shared → Prop} (h : Q false s) : wpAny (model prog w) A (Builtin.List.listLengthHint (.str x t)) Q E s := by
  unfold Builtin.List.listLengthHint
  refine wpAny_bind (wpAny_specialOf (typeIs_str s x t) PySem.F.slot_str_len.lookup ?_)
  generalize hid : ("str.__len__" : String) = id0
  wp_delta
  rw [show splitId id0 = some ("str", "__len__") from by subst hid; decide +kernel]
  subst hid
  refine wpAny_bind (wpAny_isInstance (T := "str") (b := true) (typeIs_str s x t) (by rw [isSubtype_type]; kernel_rfl) ?_)
  refine wpAny_ite_split (fun hab => absurd hab (by decide)) (fun _ => ?_)
  refine wpAny_ite_split (fun _ => ?_) (fun hab => absurd (by decide +kernel) hab)
  refine wpAny_bind (wpAny_typeOf (typeIs_str s x t) ?_)
  exact wpAny_pure h
theorem ext_str {R : Result → Shared → Prop} (hh : A.handled = none) (ha : x.cps.all (· < 128) = true) (S : Addr) (res : Value) (c₀ : Nat) (hS : s.heap.get? S = some { cls := .type "list", data := .seq #[] c₀ })
    (hR : ∀ h' tk acc' c', (∀ b o, b ≠ S → s.heap.get? b = some o → h'.get? b = some o) → h'.get? S = some { cls := .type "list", dict := none, data := .seq acc' c', slots := #[] } → ItemsOf (SignAt x) acc' x.cps.size → R (.ok (.ret res)) { s with heap := h', toks := tk }) (hn : x.cps.size ≤ sizeLine) :
    wpAny (model prog w) A.in1 (Builtin.List.listExtendWith (.ref S) (.str x t) res)
      (fun fin s' => match fin with | .done f => R (.ok f) s' | .again c' => c'.quiet = true ∧ codeAny (model prog w) A c' R s') (fun e s' => R (.error e) s') s := by
  have hSI : S ≠ s.heap.objs.size := Nat.ne_of_lt (Heap.lt_size hS)
  have hSf : S ∉ [s.heap.objs.size] := by simp only [List.mem_cons, List.not_mem_nil, or_false]; exact hSI
  have W := Walks.strAscii (prog := prog) (w := w) (A := A.in1) hh s.heap.objs.size x t
  have key : ∀ (h : Heap) (c₁ tk : Nat), h.IsStrIter s.heap.objs.size "str_ascii_iterator" x t 0 → (∀ b o, b ≠ S → s.heap.get? b = some o → h.get? b = some o) →
      h.get? S = some { cls := .type "list", data := .seq #[] c₁ } → codeAny (model prog w) A (.builtin "list.extend.loop" ⟨[.ref S, .ref s.heap.objs.size, res], []⟩) R { s with heap := h, toks := tk } := by
    intro h c₁ tk hst hk hS₁
    refine codeAny_extend_loopS W.toS hn S hSf res x.cps.size 0 _ #[] c₁ rfl (Nat.zero_le _) hst hS₁ (ItemsOf.nil _) fun s' acc' c' hm hS' hacc => ?_
    rw [Moved.eq_with hm]
    refine hR s'.heap s'.toks acc' c' (fun b o hb e => hm.heap b o (fun hmem => ?_) (hk b o hb e)) hS' hacc
    rcases List.mem_cons.mp hmem with e' | hmem
    · exact hb e'
    · exact absurd (Heap.lt_size e) (by rw [List.mem_singleton.mp hmem]; exact Nat.lt_irrefl _)
  unfold Builtin.List.listExtendWith
  refine wpAny_bind (wpAny_typeOf (T := "str") (typeIs_str s x t) ?_)
  have h1 : Builtin.List.listSameRef (.ref S) (.str x t) = false := rfl
  have h2 : (Value.type "str" == Value.type "list") = false := by decide
  have h3 : (Value.type "str" == Value.type "tuple") = false := by decide
  simp only [h1, h2, h3, Bool.or_false, Bool.false_eq_true, if_false]
  refine wpAny_bind (wpAny_pyIter_ascii ha ?_)
  have hS₁ := Heap.get?_push_of_some { cls := .type "str_ascii_iterator", data := .fields #[.str x t, .int 0 0] } hS
  have st : (s.heap.push { cls := .type "str_ascii_iterator", data := .fields #[.str x t, .int 0 0] }).IsStrIter s.heap.objs.size "str_ascii_iterator" x t 0 := ⟨_, Heap.get?_push_size _ rfl, rfl, rfl⟩
  refine wpAny_bind (wpAny_holding (hint_str ?_))
  refine wpAny_ite_split (fun _ => ?_) (fun _ => wpAny_pure ⟨plainId_quiet PySem.F.plain_extend_loop _, key _ c₀ _ st (fun b o _ e => Heap.get?_push_of_some _ e) hS₁⟩)
  refine wpAny_bind (wpAny_rule ?_)
  refine wpAny_bind ?_
  show wpAny _ _ (updateSeq S (·.push .none) >>= fun _ => updateSeq S (·.pop)) _ _ _
  refine wpAny_bind (wpAny_updateSeq hS₁ rfl ?_)
  have hS₂ := Heap.get?_update_self (Obj.mapSeq (·.push Value.none)) hS₁ rfl
  refine wpAny_updateSeq (hz := by seq_fits) hS₂ rfl ?_
  have hS₃ := Heap.get?_update_self (Obj.mapSeq (·.pop)) hS₂ rfl
  refine wpAny_pure ⟨plainId_quiet PySem.F.plain_extend_loop _, key _ _ _ ?_ (fun b o hb e => ?_) hS₃⟩
  · refine W.frame 0 _ _ st fun b hb o e => ?_
    have hbS : b ≠ S := fun h => hSf (h ▸ hb)
    exact (Heap.get?_update_other _ _ (Ne.symm hbS)).trans ((Heap.get?_update_other _ _ (Ne.symm hbS)).trans e)
  · exact (Heap.get?_update_other _ _ (Ne.symm hb)).trans ((Heap.get?_update_other _ _ (Ne.symm hb)).trans (Heap.get?_push_of_some _ e))
theorem ini_str {R : Result → Shared → Prop} (hh : A.handled = none) (ha : x.cps.all (· < 128) = true) (S : Addr) (hS : s.heap.get? S = some { cls := .type "list", data := .seq #[] })
    (hR : ∀ h' tk acc' c', (∀ b o, b ≠ S → s.heap.get? b = some o → h'.get? b = some o) → h'.get? S = some { cls := .type "list", dict := none, data := .seq acc' c', slots := #[] } → ItemsOf (SignAt x) acc' x.cps.size → R (.ok (.ret .none)) { s with heap := h', toks := tk }) (hn : x.cps.size ≤ sizeLine) :
    wpAny (model prog w) A.in1 (Builtin.«list.__init__» ⟨[.ref S, .str x t], []⟩)
      (fun fin s' => match fin with | .done f => R (.ok f) s' | .again c' => c'.quiet = true ∧ codeAny (model prog w) A c' R s') (fun e s' => R (.error e) s') s := by
  show wpAny _ _ (do let old ← Builtin.List.listItems (.ref S); Builtin.List.listUpdate (.ref S) (fun _ => #[]); letGo old.toList.reverse; Builtin.List.listExtendWith (.ref S) (.str x t) .none) _ _ s
  refine wpAny_bind ?_
  unfold Builtin.List.listItems
  refine wpAny_bind (wpAny_seqItems hS rfl (wpAny_pure ?_))
  show wpAny _ _ (updateSeq S (fun _ => #[]) >>= fun _ => letGo (#[] : Array Value).toList.reverse >>= fun _ => Builtin.List.listExtendWith (.ref S) (.str x t) .none) _ _ s
  refine wpAny_bind (wpAny_updateSeq hS rfl ?_)
  have hS₂ := Heap.get?_update_self (Obj.mapSeq (fun _ => (#[] : Array Value))) hS rfl
  have oth : ∀ b o, b ≠ S → s.heap.get? b = some o → (s.heap.update S (Obj.mapSeq (fun _ => (#[] : Array Value)))).get? b = some o :=
    fun b o hb e => (Heap.get?_update_other _ _ (Ne.symm hb)).trans e
  refine wpAny_bind (wpAny_letGo ?_)
  refine ext_str hh ha S .none _ hS₂ (fun h' tk acc' c' hk hS' hacc => ?_) hn
  exact hR h' tk acc' c' (fun b o hb e => hk b o hb (oth b o hb e)) hS' hacc
theorem call_str {Q : Value → Shared → Prop} (hh : A.handled = none) (ha : x.cps.all (· < 128) = true) (hn : x.cps.size ≤ sizeLine)
    (hQ : ∀ h' tk acc' c', (∀ b o, s.heap.get? b = some o → h'.get? b = some o) → h'.get? s.heap.objs.size = some { cls := .type "list", dict := none, data := .seq acc' c', slots := #[] } → ItemsOf (SignAt x) acc' x.cps.size → Q (.ref s.heap.objs.size) { s with heap := h', toks := tk }) :
    wpAny (model prog w) A (call (.type "list") [.str x t]) Q E s := by
  refine callType_codes (Q₁ := fun obj s₁ => obj = .ref s.heap.objs.size ∧ s₁ = { s with heap := s.heap.push { cls := .type "list", data := .seq #[] } }) PySem.F.called_list (PySem.F.typeCall_list_1 _) PySem.F.entry_list_init
    (code_list_new _ ⟨rfl, rfl⟩) fun obj s₁ h₁ => ?_
  obtain ⟨rfl, rfl⟩ := h₁
  have hS : (s.heap.push { cls := .type "list", data := .seq #[] }).get? s.heap.objs.size = some { cls := .type "list", data := .seq #[] } := Heap.get?_push_size _ rfl
  refine ⟨⟨_, hS, rfl⟩, PySem.F.args_list_init_2 _ _, ini_str (A := A.in1) hh ha _ hS (fun h' tk acc' c' hk hS' hacc => ?_) hn⟩
  exact ⟨rfl, hQ h' tk acc' c' (fun b o e => hk b o (Nat.ne_of_lt (Heap.lt_size e)) (Heap.get?_push_of_some _ e)) hS' hacc⟩
end
/-- the signs of a text, each a text -/
def signs (z : Str) : List V := z.cps.toList.map fun c => V.str ⟨#[c]⟩
theorem call_listS {X : Cx} (hc : X.calm = true) : CallR X (.type "list") (fun xs H Q => ∃ z, xs = [.str z] ∧ z.cps.all (· < 128) = true ∧ z.cps.size ≤ sizeLine ∧ ∀ l, H l = none → Q (.ref l) (upd H l (.lst (signs z)))) := by
  intro pins s σ H xs us Q I r h
  obtain ⟨z, e, ha, hn, q⟩ := h
  subst e
  obtain ⟨u, rfl, rx⟩ := vals1 r
  obtain ⟨t, rfl⟩ := rx
  refine call_str (I.ok.hd hc) ha hn fun h' tk acc' c' hkeep hS hacc => ?_
  refine ⟨.ref s.heap.objs.size, upd H s.heap.objs.size (.lst (signs z)), I.laid hkeep (Nat.le_refl _) (show ObjOk X.prog X.w _ _ _ (.lst (signs z)) from ⟨?_, acc'.toList, c', ?_, ?_⟩), rfl, q _ (I.hok.fresh (Nat.le_refl _))⟩
  · unfold signs
    rw [List.length_map, Array.length_toList]
    exact hn
  · have el : acc'.toList.length = acc'.size := by simp
    refine vals_of_at (by unfold signs; rw [List.length_map, Array.length_toList, el, hacc.1]) fun j v u h1 h2 => ?_
    obtain ⟨c, tk', hc', rfl⟩ := hacc.2 j u (by rw [← Array.getElem?_toList]; exact h2)
    unfold signs at h1
    rw [List.getElem?_map, Array.getElem?_toList, hc'] at h1
    cases h1
    exact ⟨tk', rfl⟩
  · rw [Array.toArray_toList]; exact hS
end LiS
namespace Lw.Tt
open PySem L2 Lw OwB
abbrev sMixed : Stmt := topS 27
abbrev sLet : Stmt := topS 30
theorem SX.upd_out {st q D : Addr} {H H' : Hp} {o : HO} (g : SX st q H H') (n : H D = none) : SX st q H (upd H' D o) := fun b u h1 h2 e => by rw [upd_ne (ne_of_none e n)]; exact g b u h1 h2 e
theorem Spr.upd {st q D : Addr} {H : Hp} {b : Int} {o : HO} (s : Spr H st q b) (n1 : D ≠ st) (n2 : D ≠ q) : Spr (upd H D o) st q b := by
  obtain ⟨ns, a, c, h1, h2, r⟩ := s
  exact ⟨ns, a, c, by rw [upd_ne n1.symm]; exact h1, by rw [upd_ne n2.symm]; exact h2, r⟩
theorem Spr.out {st q D : Addr} {H : Hp} {b : Int} (s : Spr H st q b) (n : H D = none) : D ≠ st ∧ D ≠ q := by
  obtain ⟨ns, a, c, h1, h2, _⟩ := s
  exact ⟨(ne_of_none h1 n).symm, (ne_of_none h2 n).symm⟩
theorem er_perm {α : Type} : ∀ (l : List α) (k : Nat) (h : k < l.length), (l[k] :: l.eraseIdx k).Perm l
  | a :: r, 0, _ => List.Perm.refl _
  | a :: r, k + 1, h => (List.Perm.swap _ _ _).trans (List.Perm.cons a (er_perm r k (Nat.lt_of_succ_lt_succ h)))
theorem er_map {α β : Type} (f : α → β) : ∀ (l : List α) (k : Nat), (l.map f).eraseIdx k = (l.eraseIdx k).map f
  | [], _ => rfl
  | a :: r, 0 => rfl
  | a :: r, k + 1 => congrArg (f a :: ·) (er_map f r k)
theorem pop_at {ls : List Str} {r : Int} (h0 : 0 ≤ r) (h1 : r < (ls.length : Int)) : ∃ (k : Nat) (n : Str), seqIndex? r (ls.map V.str).length = some k ∧ (ls.map V.str)[k]? = some (.str n) ∧ (ls.map V.str).eraseIdx k = (ls.eraseIdx k).map V.str ∧ (n :: ls.eraseIdx k).Perm ls ∧ (ls.eraseIdx k).length + 1 = ls.length := by
  have hk : r.toNat < ls.length := by omega
  refine ⟨r.toNat, ls[r.toNat], ?_, by rw [List.getElem?_map, List.getElem?_eq_getElem hk] <;> rfl, ?_, er_perm ls _ hk, by rw [List.length_eraseIdx_of_lt hk]; omega⟩
  · refine (ixN_seq (n := (ls.map V.str).length) (i := r) (j := r.toNat) ?_).1
    unfold ixN
    rw [if_pos h0, if_pos (by rw [List.length_map]; exact h1)]
  · rw [er_map]
/-- drawing one by one, out of ls -/
def InvMx (H0 : Hp) (st q L D : Addr) (b : Int) (is : List Str) (i : Nat) (H : Hp) : Prop := ∃ acc ls : List Str, H D = some (.lst (acc.map V.str)) ∧ H L = some (.lst (ls.map V.str)) ∧ acc.length = i ∧ ls.length + i = is.length ∧ (acc ++ ls).Perm is ∧ Spr H st q (b + i) ∧ SX st q H0 H
section
variable {P : Program} {w : World} {K : PySem.W.Frag} {mg : Str → Option Value} {base : Heap} {f g : Addr} {fd gd : FuncData}
abbrev tPop (K : PySem.W.Frag) (i : Nat) : TE := tBM K "list" rPopAt (tVar i) (tCons (tCall spDraw [] E0 (tCons (tVar 0) (tCons (tCB (fun xs H Q => ∃ p ys, xs = [.ref p] ∧ (SqL K H p ys ∨ SqT K H p ys) ∧ Q (.int ys.length) H) (tCons (tVar i) tNil)) tNil))) tNil)
/-- one turn -/
theorem pop_turn {st q L D : Addr} {b : Int} {is : List Str} {i : Nat} {H H2 : Hp} {σ : St} {Nx : Hp → Prop} (nL1 : L ≠ st) (nL2 : L ≠ q) (nD1 : D ≠ st) (nD2 : D ≠ q) (nDL : D ≠ L) (hL : H L = none) (hD : H D = none) (hb0 : 0 ≤ b) (hb1 : b ≤ 900) (h26 : is.length ≤ 50)
    (e0 : σ[0]? = some (some (.ref st))) (e2 : σ[2]? = some (some (.ref L))) (inv : InvMx H st q L D b is i H2) (hi : i < is.length) (nx : ∀ H3, InvMx H st q L D b is (i + 1) H3 → Nx H3) :
    tPop K 2 σ H2 fun y H3 => ∃ acc, H3 D = some (.lst acc) ∧ acc.length < sizeLine ∧ Nx (upd H3 D (.lst (acc ++ [y]))) := by
  obtain ⟨acc, ls, hd, hl2, ha, hn, hp2, hs2, gx⟩ := inv
  have hlen : (((ls.map V.str).length : Nat) : Int) = (ls.length : Int) := by rw [List.length_map]
  refine ⟨_, e2, .inl ⟨rfl, _, SqL.of hl2⟩, _, e0, _, e2, L, _, rfl, .inl (SqL.of hl2), st, q, b + i, _, rfl, hs2, by omega, by omega, by rw [hlen]; omega, by rw [hlen]; omega, fun r H3 r0 r1 hs3 g3 => ?_⟩
  have hd3 := g3 _ _ nD1 nD2 hd
  have hl3 := g3 _ _ nL1 nL2 hl2
  obtain ⟨j, n, e1, e2, e3, e4, e5⟩ := pop_at r0 (by rw [hlen] at r1; exact r1)
  refine ⟨L, _, r, j, _, rfl, rfl, hl3, by omega, by rw [hlen] at r1; omega, e1, e2, ?_⟩
  have hd4 := (upd_ne (o := .lst ((ls.map V.str).eraseIdx j)) nDL).trans hd3
  refine ⟨_, hd4, by rw [List.length_map]; exact small1000 (by omega), nx _ ⟨acc ++ [n], ls.eraseIdx j, by rw [upd_same, List.map_append] <;> rfl, by rw [upd_ne nDL.symm, upd_same, e3], by rw [List.length_append, ha] <;> rfl, by omega, ?_, ?_, ?_⟩⟩
  · rw [List.append_assoc]
    exact (List.Perm.append_left acc e4).trans hp2
  · have e6 : b + (i : Int) + 1 = b + ((i + 1 : Nat) : Int) := by omega
    rw [← e6]
    exact (hs3.upd nL1 nL2).upd nD1 nD2
  · exact ((gx.trans g3).upd_out hL).upd_out hD
def spMixed : Sp := fun vs H Q _ => ∃ (st q p : Addr) (b : Int) (is : List Str), vs = [.ref st, .ref p] ∧ Spr H st q b ∧ 0 ≤ b ∧ b ≤ 900 ∧ H p = some (.lst (is.map V.str)) ∧ is.length ≤ 10 ∧
  ∀ (r : Addr) (os : List Str) (H' : Hp), os.Perm is → Spr H' st q (b + is.length) → SX st q H H' → H' r = some (.lst (os.map V.str)) → H r = none → Q (.ref r) H'
abbrev namesM : List Str := ["_law_stream", "_law_some", "_law_left", "_law_k"]
theorem scM : FnScope namesM ["_law_stream", "_law_some"] (defScope sMixed) := ⟨rfl, rfl, rfl, by decide +kernel, rfl, by decide +kernel, by decide +kernel⟩
theorem ok_mixed (F : Fun K "_law_mixed" "_law_mixed" sMixed f fd) (G : FnOk P w K mg base CX0 1 g gd ["_law_stream", "_law_many"] spDraw) (bG : Binds K gd ["_law_stream", "_law_many"] []) (kG : PySem.W.keepIn K (.ref g) = true) (mG : mg "_law_draw" = some (.ref g)) (B : Bt mg) :
    FnOk P w K mg base CX0 2 f fd ["_law_stream", "_law_some"] spMixed := by
  refine F.ok scM (fun vs H Q E h => ?_) (fun cdv A outer s H vs Q E hr h => ?_)
  · obtain ⟨st, q, p, b, is, rfl, _⟩ := h
    rfl
  obtain ⟨st, q, p, b, is, rfl, hs, hb0, hb1, hp, hl, k⟩ := h
  refine ⟨_, pss_cons (ps_set (i := 2) scM.nd rfl (Or.inr rfl) (pe_callTy call_list_of (by rfl) B.lst (by decide +kernel) (pa_cons (pv 1) pa_nil)))
    (pss_one (ps_ret (pe_lc (own := [("_law_k", 3)]) (g := gName 3) (tt := tYes) (te := tPop K 2) rfl scM.nd (pi_range1 (by rfl) B.range (pa_cons (pe_callB call_len_seq (by rfl) B.len PySem.boot_len (pa_cons (pv 2) pa_nil)) pa_nil)) (blkOk_by (N := namesM) (sc := defScope sMixed) (by decide +kernel))
      (fun _ _ _ _ _ => pg_name (i := 3) scM.nd rfl (Or.inl rfl)) (fun _ _ _ _ _ => pts_nil)
      (fun _ _ _ _ _ => pe_bm PySem.F.plainAttrs_list PySem.F.slot_list_pop PySem.F.type_list_pop mt_popAt (pv 2) (pa_cons (pe_call G hr rfl mG kG bG .nil pass0 (pa_cons (pv 0) (pa_cons (pe_callB call_len_seq (by rfl) B.len PySem.boot_len (pa_cons (pv 2) pa_nil)) pa_nil))) pa_nil))))), ?_⟩
  refine ⟨_, rfl, p, _, rfl, .inl (SqL.of hp), fun L hL => ?_⟩
  have gL := same_new hL (.lst (is.map V.str))
  obtain ⟨nL1, nL2⟩ := hs.out hL
  have hsL := hs.same gL
  refine ⟨_, rfl, L, _, rfl, .inl (SqL.of upd_same), _, rfl, by rw [List.length_map]; omega, by rw [List.length_map]; omega, fun D hD => ?_⟩
  obtain ⟨nD1, nD2⟩ := hsL.out hD
  have nDL : D ≠ L := (ne_of_none (upd_same (H := H) (a := L) (o := .lst (is.map V.str))) hD).symm
  have hD0 : H D = none := gL.free hD
  have gD := same_new hD (.lst [])
  have elm : (is.map V.str).length = is.length := List.length_map _
  refine lc_range (lo := 0) (n := (is.map V.str).length) (InvMx H st q L D b is) ⟨[], is, upd_same, gD _ _ upd_same, rfl, rfl, List.Perm.refl _, ?_, .of (gL.trans gD)⟩ ?_ ?_
  · rw [show b + ((0 : Nat) : Int) = b from Int.add_zero b]
    exact hsL.same gD
  · intro i H2 hi inv
    rw [elm] at hi
    exact ⟨rfl, kept (pop_turn nL1 nL2 nD1 nD2 nDL hL hD0 hb0 hb1 (by omega) rfl rfl inv hi fun _ h => h)⟩
  · rintro H2 ⟨acc, ls, hd, hl2, ha, hn, hp2, hs2, gx⟩
    rw [elm] at hs2
    have els : ls = [] := List.length_eq_zero_iff.mp (by omega)
    subst els
    rw [List.append_nil] at hp2
    exact k D acc H2 hp2 hs2 gx hd hD0
/-! the letters -/
def abc : Str := "abcdefghijklmnopqrstuvwxyz"
def abcL : List Str := abc.cps.toList.map fun c => (⟨#[c]⟩ : Str)
theorem abc_signs : LiS.signs abc = abcL.map V.str := by
  unfold LiS.signs abcL
  rw [List.map_map] <;> rfl
theorem abc_len : abcL.length = 26 := by decide +kernel
theorem abc_nd : abcL.Nodup := by decide +kernel
def spLet : Sp := fun vs H Q _ => ∃ (st q : Addr) (b : Int) (m : Nat), vs = [.ref st, .int m] ∧ Spr H st q b ∧ 0 ≤ b ∧ b ≤ 900 ∧ m ≤ 10 ∧
  ∀ (r : Addr) (os : List Str) (H' : Hp), os.Nodup → os.length = m → Spr H' st q (b + m) → SX st q H H' → H' r = some (.lst (os.map V.str)) → H r = none → Q (.ref r) H'
abbrev namesL : List Str := ["_law_stream", "_law_many", "_law_left", "_law_k"]
theorem scLt : FnScope namesL ["_law_stream", "_law_many"] (defScope sLet) := ⟨rfl, rfl, rfl, by decide +kernel, rfl, by decide +kernel, by decide +kernel⟩
theorem ok_let (F : Fun K "_law_letters" "_law_letters" sLet f fd) (G : FnOk P w K mg base CX0 1 g gd ["_law_stream", "_law_many"] spDraw) (bG : Binds K gd ["_law_stream", "_law_many"] []) (kG : PySem.W.keepIn K (.ref g) = true) (mG : mg "_law_draw" = some (.ref g)) (B : Bt mg) :
    FnOk P w K mg base CX0 2 f fd ["_law_stream", "_law_many"] spLet := by
  refine F.ok scLt (fun vs H Q E h => ?_) (fun cdv A outer s H vs Q E hr h => ?_)
  · obtain ⟨st, q, b, m, rfl, _⟩ := h
    rfl
  obtain ⟨st, q, b, m, rfl, hs, hb0, hb1, hm, k⟩ := h
  refine ⟨_, pss_cons (ps_set (i := 2) scLt.nd rfl (Or.inr rfl) (pe_callTy (LiS.call_listS rfl) (by rfl) B.lst (by decide +kernel) (pa_cons pe_str pa_nil)))
    (pss_one (ps_ret (pe_lc (own := [("_law_k", 3)]) (g := gName 3) (tt := tYes) (te := tPop K 2) rfl scLt.nd (pi_range1 (by rfl) B.range (pa_cons (pv 1) pa_nil)) (blkOk_by (N := namesL) (sc := defScope sLet) (by decide +kernel))
      (fun _ _ _ _ _ => pg_name (i := 3) scLt.nd rfl (Or.inl rfl)) (fun _ _ _ _ _ => pts_nil)
      (fun _ _ _ _ _ => pe_bm PySem.F.plainAttrs_list PySem.F.slot_list_pop PySem.F.type_list_pop mt_popAt (pv 2) (pa_cons (pe_call G hr rfl mG kG bG .nil pass0 (pa_cons (pv 0) (pa_cons (pe_callB call_len_seq (by rfl) B.len PySem.boot_len (pa_cons (pv 2) pa_nil)) pa_nil))) pa_nil))))), ?_⟩
  refine ⟨abc, rfl, by decide +kernel, Nat.le_trans (show abc.cps.size ≤ 26 by decide +kernel) (by decide), fun L hL => ?_⟩
  rw [abc_signs]
  have gL := same_new hL (.lst (abcL.map V.str))
  obtain ⟨nL1, nL2⟩ := hs.out hL
  have hsL := hs.same gL
  refine ⟨_, rfl, _, rfl, by omega, by omega, fun D hD => ?_⟩
  obtain ⟨nD1, nD2⟩ := hsL.out hD
  have nDL : D ≠ L := (ne_of_none (upd_same (H := H) (a := L) (o := .lst (abcL.map V.str))) hD).symm
  have hD0 : H D = none := gL.free hD
  have gD := same_new hD (.lst [])
  have h26 := abc_len
  refine lc_range (lo := 0) (n := m) (InvMx H st q L D b abcL) ⟨[], abcL, upd_same, gD _ _ upd_same, rfl, rfl, List.Perm.refl _, ?_, .of (gL.trans gD)⟩ ?_ ?_
  · rw [show b + ((0 : Nat) : Int) = b from Int.add_zero b]
    exact hsL.same gD
  · intro i H2 hi inv
    exact ⟨rfl, kept (pop_turn nL1 nL2 nD1 nD2 nDL hL hD0 hb0 hb1 (by omega) rfl rfl inv (by omega) fun _ h => h)⟩
  · rintro H2 ⟨acc, ls, hd, hl2, ha, hn, hp2, hs2, gx⟩
    have nd : (acc ++ ls).Nodup := hp2.nodup_iff.mpr abc_nd
    exact k D acc H2 (List.Nodup.sublist (List.sublist_append_left acc ls) nd) ha hs2 gx hd hD0
end
end Lw.Tt
namespace Lw.Tt
open PySem L2 Lw OwB TL
abbrev sName : Stmt := topS 29
theorem ne_tl {x y : Str} (h : tl x ≠ tl y) : x ≠ y := fun e => h (congrArg tl e)
theorem cutS_le (z : Str) (lo hi : Option Int) : (cutS z lo hi).length ≤ z.length := by
  unfold cutS
  show (List.toArray _).size ≤ z.length
  have e : z.cps.toList.length = z.length := by rw [Array.length_toList] <;> rfl
  rw [List.size_toArray, List.length_take, List.length_drop, e]
  omega
/-- four unlike ones don't fit into three -/
theorem pig {ns : List Str} (h : ns.length ≤ 3) (f : Nat → Str) (inj : ∀ i j, i < 4 → j < 4 → f i = f j → i = j) : ∃ i, i < 4 ∧ f i ∉ ns := by
  refine Classical.byContradiction fun no => ?_
  have all : ∀ i, i < 4 → ∃ j, j < 3 ∧ ns[j]? = some (f i) := fun i hi => by
    have hm : f i ∈ ns := Classical.byContradiction fun q => no ⟨i, hi, q⟩
    obtain ⟨j, hj, e⟩ := List.getElem_of_mem hm
    exact ⟨j, by omega, by rw [List.getElem?_eq_getElem hj, e]⟩
  have ne : ∀ i j a b : Nat, i < 4 → j < 4 → i ≠ j → ns[(a : Nat)]? = some (f i) → ns[(b : Nat)]? = some (f j) → a ≠ b := fun i j a b hi hj n e1 e2 q => by
    subst q
    exact n (inj i j hi hj (Option.some.inj (e1.symm.trans e2)))
  obtain ⟨a, ha, ea⟩ := all 0 (by decide)
  obtain ⟨b, hb, eb⟩ := all 1 (by decide)
  obtain ⟨c, hc, ec⟩ := all 2 (by decide)
  obtain ⟨d, hd, ed⟩ := all 3 (by decide)
  have n1 := ne 0 1 a b (by decide) (by decide) (by decide) ea eb
  have n2 := ne 0 2 a c (by decide) (by decide) (by decide) ea ec
  have n3 := ne 0 3 a d (by decide) (by decide) (by decide) ea ed
  have n4 := ne 1 2 b c (by decide) (by decide) (by decide) eb ec
  have n5 := ne 1 3 b d (by decide) (by decide) (by decide) eb ed
  have n6 := ne 2 3 c d (by decide) (by decide) (by decide) ec ed
  omega
/-- another name in its place -/
def zz (c : Nat) (x : Str) : Str := ("zz" : Str) ++ ⟨#[c]⟩ ++ x
theorem zz_ne {a b : Nat} {x : Str} (h : zz a x = zz b x) : a = b := by
  have e : tl (zz a x) = tl (zz b x) := congrArg tl h
  unfold zz at e
  rw [tl_append, tl_append, tl_append, tl_append] at e
  have e2 : ([122, 122, a] : List Nat) ++ tl x = [122, 122, b] ++ tl x := e
  injection e2 with _ e3
  injection e3 with _ e4
  injection e4 with e5 _
def abch : Str := "abcdefgh"
theorem abch_at : ∀ i, i < 4 → abch.cps[i]? = some (97 + i) := by
  intro i hi
  have h : i = 0 ∨ i = 1 ∨ i = 2 ∨ i = 3 := by omega
  rcases h with rfl | rfl | rfl | rfl <;> decide +kernel
section
variable {P : Program} {w : World} {K : PySem.W.Frag} {mg : Str → Option Value} {base : Heap} {f g g2 : Addr} {fd gd gd2 : FuncData}
/-- one sign of a text -/
def spPickS : Sp := fun vs H Q _ => ∃ (st q : Addr) (b : Int) (z : Str), vs = [.ref st, .str z] ∧ Spr H st q b ∧ 0 ≤ b ∧ b ≤ 1000 ∧ 0 < z.length ∧ z.length ≤ 1000 ∧
  ∀ (c : Nat) (H' : Hp), Spr H' st q (b + 1) → SX st q H H' → Q (.str ⟨#[c]⟩) H'
theorem ok_pickS (F : Fun K "_law_pick" "_law_pick" sPick f fd) (G : FnOk P w K mg base CX0 1 g gd ["_law_stream", "_law_many"] spDraw) (bG : Binds K gd ["_law_stream", "_law_many"] []) (kG : PySem.W.keepIn K (.ref g) = true) (mG : mg "_law_draw" = some (.ref g)) (B : Bt mg) :
    FnOk P w K mg base CX0 2 f fd ["_law_stream", "_law_some"] spPickS := by
  refine F.ok scP (fun vs H Q E h => ?_) (fun cdv A outer s H vs Q E hr h => ?_)
  · obtain ⟨st, q, b, z, rfl, _⟩ := h
    rfl
  obtain ⟨st, q, b, z, rfl, hs, hb0, hb1, hx0, hx1, k⟩ := h
  refine ⟨_, pss_one (ps_ret (pe_ix ix_str (pv 1) (pe_call G hr rfl mG kG bG .nil pass0 (pa_cons (pv 0) (pa_cons (pe_callB call_len_str (by rfl) B.len PySem.boot_len (pa_cons (pv 1) pa_nil)) pa_nil))) (fun _ _ => rfl))), ?_⟩
  refine ⟨_, rfl, _, rfl, _, rfl, z, rfl, Nat.le_trans hx1 (by decide), st, q, b, _, rfl, hs, hb0, hb1, by omega, by omega, fun r H' r0 r1 hs' gx => ?_⟩
  have hk : r.toNat < z.cps.toList.length := by rw [Array.length_toList]; show r.toNat < z.length; omega
  have q2 := atI_nat (xs := z.cps.toList) (j := r.toNat) (v := z.cps.toList[r.toNat]) (List.getElem?_eq_getElem hk)
  rw [show ((r.toNat : Nat) : Int) = r by omega] at q2
  exact ⟨z, r, _, rfl, rfl, Nat.le_trans hx1 (by decide), q2, k _ H' hs' gx⟩
def spName : Sp := fun vs H Q _ => ∃ (st q : Addr) (b : Int), vs = [.ref st] ∧ Spr H st q b ∧ 0 ≤ b ∧ b ≤ 900 ∧
  ∀ (nm : Str) (b' : Int) (H' : Hp), nm.length ≤ 8 → b ≤ b' → b' ≤ b + 9 → Spr H' st q b' → SX st q H H' → Q (.str nm) H'
abbrev namesN : List Str := ["_law_stream", "_law_k"]
theorem scNm : FnScope namesN ["_law_stream"] (defScope sName) := ⟨rfl, rfl, rfl, by decide +kernel, rfl, by decide +kernel, by decide +kernel⟩
def InvNm (H0 : Hp) (st q D : Addr) (b : Int) (i : Nat) (H : Hp) : Prop := ∃ acc : List Str, H D = some (.lst (acc.map V.str)) ∧ acc.length = i ∧ (acc.map (·.length)).sum = i ∧ Spr H st q (b + i) ∧ SX st q H0 H
theorem ok_name (F : Fun K "_law_name" "_law_name" sName f fd) (G : FnOk P w K mg base CX0 1 g gd ["_law_stream", "_law_many"] spDraw) (bG : Binds K gd ["_law_stream", "_law_many"] []) (kG : PySem.W.keepIn K (.ref g) = true) (mG : mg "_law_draw" = some (.ref g)) (B : Bt mg)
    (GP : FnOk P w K mg base CX0 2 g2 gd2 ["_law_stream", "_law_some"] spPickS) (bP : Binds K gd2 ["_law_stream", "_law_some"] []) (kP : PySem.W.keepIn K (.ref g2) = true) (mP : mg "_law_pick" = some (.ref g2)) :
    FnOk P w K mg base CX0 3 f fd ["_law_stream"] spName := by
  refine F.ok scNm (fun vs H Q E h => ?_) (fun cdv A outer s H vs Q E hr h => ?_)
  · obtain ⟨st, q, b, rfl, _⟩ := h
    rfl
  obtain ⟨st, q, b, rfl, hs, hb0, hb1, k⟩ := h
  refine ⟨_, pss_one (ps_ret (pe_join pe_str (pe_lc (own := [("_law_k", 1)]) (g := gName 1) (tt := tYes) (te := tCall spPickS [] E0 (tCons (tVar 0) (tCons (tC (.str abc)) tNil))) rfl scNm.nd (pi_range1 (by rfl) B.range (pa_cons (pe_op op_add pe_int (pe_call G (hr.mono (by decide)) rfl mG kG bG .nil pass0 (pa_cons (pv 0) (pa_cons pe_int pa_nil)))) pa_nil)) (blkOk_by (N := namesN) (sc := defScope sName) (by decide +kernel))
      (fun _ _ _ _ _ => pg_name (i := 1) scNm.nd rfl (Or.inl rfl)) (fun _ _ _ _ _ => pts_nil)
      (fun _ _ _ _ _ => pe_call GP hr rfl mP kP bP .nil pass0 (pa_cons (pv 0) (pa_cons pe_str pa_nil)))))), ?_⟩
  refine ⟨⟨_, rfl⟩, _, rfl, st, q, b, 8, rfl, hs, hb0, by omega, by decide, by decide, fun r H1 r0 r1 hs1 gx1 => ?_⟩
  obtain ⟨m, hm⟩ : ∃ m : Nat, (1 : Int) + r = (m : Int) := ⟨(1 + r).toNat, by omega⟩
  refine ⟨_, _, rfl, rfl, 1 + r, rfl, by omega, by omega, fun D hD => ?_⟩
  have em : (1 + r).toNat = m := by omega
  rw [em]
  obtain ⟨nD1, nD2⟩ := hs1.out hD
  have gD := same_new hD (.lst [])
  refine lc_range (lo := 0) (n := m) (InvNm H1 st q D (b + 1)) ⟨[], upd_same, rfl, rfl, ?_, .of gD⟩ ?_ ?_
  · rw [show b + 1 + ((0 : Nat) : Int) = b + 1 from Int.add_zero _]
    exact hs1.same gD
  · rintro i H2 hi ⟨acc, hd, ha, hsum, hs2, gx⟩
    refine ⟨rfl, kept ?_⟩
    refine ⟨_, rfl, st, q, _, abc, rfl, hs2, by omega, by omega, by decide +kernel, Nat.le_trans (show abc.length ≤ 26 by decide +kernel) (by decide), fun c H3 hs3 g3 => ?_⟩
    refine ⟨_, g3 _ _ nD1 nD2 hd, by rw [List.length_map]; exact small1000 (by omega), acc ++ [⟨#[c]⟩], by rw [upd_same, List.map_append] <;> rfl, by rw [List.length_append, ha] <;> rfl, ?_, ?_, (gx.trans g3).upd_out hD⟩
    · rw [List.map_append, List.sum_append, hsum] <;> rfl
    · rw [show b + 1 + ((i + 1 : Nat) : Int) = b + 1 + (i : Int) + 1 by omega]
      exact hs3.upd nD1 nD2
  · rintro H2 ⟨acc, hd, ha, hsum, hs2, gx⟩
    refine ⟨_, D, acc, rfl, rfl, .inl (SqL.of hd), ?_, ?_⟩
    · rw [hsum]
      show m + acc.length * 0 ≤ 16777216
      omega
    · refine k _ _ H2 ?_ ?_ ?_ hs2 (gx1.trans gx)
      · show (Builtin.Str.glued _ acc).length ≤ 8
        rw [size_glued, hsum]
        show m + (acc.length - 1) * 0 ≤ 8
        omega
      · omega
      · omega
end
end Lw.Tt
namespace Lw
open PySem L2 TL
/-- the law's own use: a name, letters, the form's pairs -/
def LuAt (K : PySem.W.Frag) (H : Hp) (u : Addr) (nm : Str) (ls : List Str) (l : List (Str × Int)) : Prop := ∃ (tl tf : Addr) (us : List V), SqT K H u [.str nm, .ref tl, .ref tf] ∧ SqT K H tl (ls.map V.str) ∧ SqT K H tf us ∧ Tups K H us l
theorem LuAt.mono {K : PySem.W.Frag} {H H' : Hp} {u : Addr} {nm : Str} {ls : List Str} {l : List (Str × Int)} (g : TK K H H') : LuAt K H u nm ls l → LuAt K H' u nm ls l
  | ⟨tl, tf, us, h1, h2, h3, h4⟩ => ⟨tl, tf, us, g _ _ h1, g _ _ h2, g _ _ h3, h4.mono g⟩
abbrev s_l_level_letters : Stmt := topS 19
theorem sc_l_level_letters : FnScope ["_law_use", "_law_kind", "_law_axis"] ["_law_use"] (defScope s_l_level_letters) := ⟨rfl, rfl, rfl, by decide +kernel, rfl, by decide +kernel, by decide +kernel⟩
/-- the letter of an axis -/
def letAt (ls : List Str) (p : Str × Int) : Str := ls.getD p.2.toNat Str.empty
def spLvl (K : PySem.W.Frag) : Sp := fun vs H Q _ => ∃ (u : Addr) (nm : Str) (ls : List Str) (l : List (Str × Int)), vs = [.ref u] ∧ LuAt K H u nm ls l ∧ l.length ≤ 3 ∧ (∀ p ∈ l, 0 ≤ p.2 ∧ p.2 < (ls.length : Int)) ∧ ∀ (D : Addr) (H' : Hp), Same H H' → H D = none → H' D = some (.lst ((l.map (letAt ls)).map V.str)) → Q (.ref D) H'
section
variable {P : Program} {w : World} {K : PySem.W.Frag} {mg : Str → Option Value} {base : Heap} {f : Addr} {fd : FuncData}
theorem ok_l_level_letters (F : Fun K "_law_level_letters" "_law_level_letters" s_l_level_letters f fd) : FnOk P w K mg base CX0 1 f fd ["_law_use"] (spLvl K) := by
  refine F.ok sc_l_level_letters (fun vs H Q E h => ?_) (fun cdv A outer s H vs Q E hr h => ?_)
  · obtain ⟨u, nm, ls, l, rfl, _⟩ := h
    rfl
  obtain ⟨u, nm, ls, l, rfl, ⟨tl, tf, us, h1, h2, h3, h4⟩, hl, hp, k⟩ := h
  refine ⟨_, (pss_one (ps_ret (pe_lc (own := [("_law_kind", 1), ("_law_axis", 2)]) (g := (gTup K 2 (gCons (gName 1) (gCons (gName 2) gNil)))) (tt := tYes) (te := tOp (rIxT K) (tOp (rIxT K) (tVar 0) (tC (.int 1))) (tVar 2)) rfl sc_l_level_letters.nd (pi_tup (pe_ix ix_tup (pv 0) pe_int (fun _ _ => rfl))) (blkOk_by (N := ["_law_use", "_law_kind", "_law_axis"]) (sc := defScope s_l_level_letters) (by decide +kernel)) (fun _ _ _ _ _ => (pg_tup rfl (pgs_cons (pg_name (i := 1) sc_l_level_letters.nd rfl (Or.inl rfl)) (pgs_cons (pg_name (i := 2) sc_l_level_letters.nd rfl (Or.inl rfl)) pgs_nil)))) (fun _ _ _ _ _ => pts_nil) (fun _ _ _ _ _ => (pe_ix ix_tup (pe_ix ix_tup (pv 0) pe_int (fun _ _ => rfl)) (pv 2) (fun _ _ => rfl)))))), ?_⟩
  have hul : us.length = l.length := h4.1
  refine ⟨_, rfl, u, _, (2 : Int), .ref tf, rfl, rfl, h1, atI_nat (j := 2) rfl, tf, rfl, ⟨us, h3⟩, fun D hD => ?_⟩
  refine lc_tup (K := K) (a := tf) (xs := us) (InvM H D (fun p : Str × Int => V.str (letAt ls p)) l) ⟨upd_same, same_new hD _⟩ (fun i H' _ ⟨_, g⟩ => seqT g h3) (fun j x H' hx hv => ?_) ?_
  · have hj : j < l.length := by rw [← hul]; exact (List.getElem?_eq_some_iff.mp hx).1
    have ej := List.getElem?_eq_getElem hj
    obtain ⟨y, rfl, zy⟩ := h4.2 j x _ hx ej
    obtain ⟨p0, p1⟩ := hp _ (List.getElem_mem hj)
    have lt : l[j].2.toNat < ls.length := by omega
    refine ⟨y, _, rfl, seqT hv.2 zy, rfl, _, _, rfl, _, _, rfl, rfl, rfl, kept ?_⟩
    have ea : atI (ls.map V.str) l[j].2 = some (.str (letAt ls l[j])) := by
      have z := atI_nat (xs := ls.map V.str) (j := l[j].2.toNat) (v := .str (letAt ls l[j])) (by rw [List.getElem?_map, List.getElem?_eq_getElem lt]; unfold letAt; rw [List.getD_eq_getElem?_getD, List.getElem?_eq_getElem lt] <;> rfl)
      rw [show ((l[j].2.toNat : Nat) : Int) = l[j].2 by omega] at z
      exact z
    refine ⟨_, rfl, u, _, (1 : Int), .ref tl, rfl, rfl, seqT hv.2 h1, atI_nat (j := 1) rfl, _, rfl, tl, _, _, _, rfl, rfl, seqT hv.2 h2, ea, ?_⟩
    exact ⟨_, hv.1, len_m (by omega), InvM.next (f := fun p : Str × Int => V.str (letAt ls p)) hD hv.2 ej _ rfl⟩
  rintro H' ⟨hd, g⟩
  rw [List.take_of_length_le (by rw [hul]; exact Nat.le_refl _)] at hd
  exact k D H' g hD (by rw [hd, List.map_map] <;> rfl)
end
end Lw
/-! sorted(t, key=lambda a: q.index(a)), t and q tuples of texts -/
namespace LamX
open PySem PySem.Spec PyProof.Rows L2 TzR PySem.W
def byPlace (q : List Str) (x y : Str) : Bool := decide ((q.idxOf x : Int) ≤ (q.idxOf y : Int))
def tSrtX (T : List (Addr × Str)) (i : Nat) (te : TE) : TE := fun σ H Q => te σ H fun x H1 => ∃ (l t : Addr) (ls q : List Str), x = .ref l ∧ TzAt H1 l (ls.map V.str) ∧ σ[i]? = some (some (.ref t)) ∧ TzAt H1 t (q.map V.str) ∧ (∀ x ∈ ls, x ∈ q) ∧ ls.length ≤ 1000 ∧ Tabs T H1 ∧
  ∀ (a : Addr) (H2 : Hp), ExtN H1 H2 → Tabs T H2 → H2 a = some (.lst ((ls.mergeSort (byPlace q)).map V.str)) → Q (.ref a) H2
theorem vals_each : ∀ {ls : List Str} {us : List Value}, Vals (ls.map V.str) us → EachIs (fun (v : Value) (x : Str) => RelV (.str x) v) us ls
  | [], _, .nil => .nil
  | _ :: _, _, .cons r t => .cons r (vals_each t)
theorem each_vals : ∀ {ls : List Str} {us : List Value}, EachIs (fun (v : Value) (x : Str) => RelV (.str x) v) us ls → Vals (ls.map V.str) us
  | _, _, .nil => .nil
  | _, _, .cons r t => .cons r (each_vals t)
section
variable {X : Cx}
theorem pe_srtX {T : List (Addr × Str)} {c P : Addr} {params : Arguments} {scope : Scope} {i : Nat} {sq a : Str} {e : Expr} {te : TE} {p pos lpos p1 p2 p3 ipos kpos : Pos}
    (hr : Room 3 X.A) (he : PE X e te) (hg : Gl X "sorted") (hm : X.mg "sorted" = none)
    (TB : TabB X.base X.mg c P) (hcode : X.env.code = .ref c) (hmT : (P, X.env.qual ++ "<lambda>") ∈ T) (hu : ∀ p ∈ T, p.1 = P → p.2 = X.env.qual ++ "<lambda>")
    (L : LamS1 X.env.scope scope a) (hdef : defaultsOf params X.env = ([], []))
    (hbind : ∀ (q : Str) (cl : List (Str × Addr)) (pm cv ctv u : Value), bindArgs (PySem.W.kla_fn "<lambda>" q params (.Call (.Attribute (.Name sq p1) "index" p2) [.Name a p3] [] ipos) scope cl pm cv ctv) ⟨[u], []⟩ = pure [(a, u)])
    (hN : X.N[i]? = some sq) (hfr : scope.names.lookup sq = some .free)
    (hd1 : (a == ("__debug__" : Str)) = false := by decide) (hd2 : (sq == ("__debug__" : Str)) = false := by decide) (hd3 : (sq == ("__classdict__" : Str)) = false := by decide)
    (hline : (p2.endLine == ipos.line) = true := by rfl)
    (hse : backTo pos (starEach [e] X.env) = (false, eval e X.env) :: backTo pos (starEach [] X.env) := by rfl)
    (hse2 : starEach [e] X.env = (false, eval e X.env) :: starEach [] X.env := by rfl) :
    PE X (.Call (.Name "sorted" p) [e] [⟨some "key", .Lambda params (.Call (.Attribute (.Name sq p1) "index" p2) [.Name a p3] [] ipos) scope lpos, kpos⟩] pos) (tSrtX T i te) := by
  refine ⟨fun pins s σ H Q I h => ?_⟩
  refine wpAny_Call_Name_kw (ld_blt I hg hm boot_sorted ?_)
  refine PyProof.Rows.callWith_kw ?_ hse (by rw [hse2] <;> rfl) (by rfl) (by rfl)
  rw [hse]
  refine Calls.spliced_cons (thn (he.run pins s σ H _ I h) fun u s1 ⟨y, H1, I1, r1, l, t, ls, q, ey, hl, hi, hq, hin, hlen, hT, k⟩ => Calls.spliced_nil ?_)
  subst ey
  cases r1
  show wpAny _ _ (evalAll ((do let v ← eval (.Lambda params (.Call (.Attribute (.Name sq p1) "index" p2) [.Name a p3] [] ipos) scope lpos) X.env; standAt pos; pure v) :: [])) _ _ s1
  refine wpAny_evalAll_cons (wpAny_bind (lam_make1 I1 TB hcode hmT hu hT hdef L fun f c' pm ctv H2 s2 I2 eN T2 hf hfn hff hco => wpAny_bind (wpAny_standAt (wpAny_pure (wpAny_evalAll_nil ?_)))))
  have hl2 : TzAt H2 l (ls.map V.str) := by
    obtain ⟨o, h1, h2⟩ := hl
    exact ⟨o, eN _ _ h1 (fun ps z => by cases z), h2⟩
  have hq2 : TzAt H2 t (q.map V.str) := by
    obtain ⟨o, h1, h2⟩ := hq
    exact ⟨o, eN _ _ h1 (fun ps z => by cases z), h2⟩
  obtain ⟨ol, il, nl, el, lc, ld, lda, lv⟩ := hl2.obj I2
  obtain ⟨oq, iq, nq, eq, qc, qd, qda, qv⟩ := hq2.obj I2
  obtain ⟨⟨oc, cvs, ct, hoc, hdc, hvc⟩, _, _⟩ := I2.hok c' _ hco
  -- the cell of the tuple
  obtain ⟨cc, hcc, hcell⟩ : ∃ cc, (cloFrom X.env.cells scope.names []).lookup sq = some cc ∧ s2.heap.IsCell cc (some (.ref t)) := by
    have hfree := L.has I2.ok
    obtain ⟨m, hn, hlk⟩ := I2.loc
    have hy : (sq, NameKind.free) ∈ scope.names := PySem.mem_of_lookup hfr
    have hvis : Vis X.env.scope sq := (L.free _ hy rfl).elim (fun k => .inr (.inl k)) (fun k => .inr (.inr k))
    obtain ⟨w', r, z⟩ := hlk i sq (.ref t) hN hi hvis
    cases r
    obtain ⟨c2, h2⟩ := mem_lookup (cloFrom_has (cells := X.env.cells) (acc := []) hy)
    refine ⟨c2, h2, ?_⟩
    have cm : X.env.cells.lookup sq = some c2 := by
      rcases cloFrom_mem (PySem.mem_of_lookup h2) with hm | ⟨h1, h3⟩
      · cases hm
      · obtain ⟨c1, hc⟩ := hfree _ h1 rfl
        have hc : X.env.cells.lookup sq = some c1 := hc
        have e2 : c2 = c1 := by
          rw [h3, hc] <;> rfl
        rw [e2]
        exact hc
    rcases z with ⟨k', _⟩ | ⟨_, c3, e', z⟩
    · have k' : X.env.scope.names.lookup sq = some .local := k'
      rcases L.free _ hy rfl with k2 | k2 <;> rw [show X.env.scope.names.lookup sq = _ from k2] at k' <;> cases k'
    · rw [cm] at e'
      cases e'
      exact z
  have dp := hr.dp
  have un := hr.un
  refine SoK.sorted_key_dataT (bs := ls) (R := fun (v : Value) (x : Str) => RelV (.str x) v) (b := false) (fun x : Str => PyData.int (q.idxOf x : Int)) ⟨ol, el, lc, nl, lda⟩ (vals_each lv) (AllAlike.of fun _ _ => by simp [alike]) (Sortable.others fun b => ⟨by simp, fun xs => by simp⟩)
    (by rw [sizeLine_eq]; omega) (fun x _ => by simp only [PyData.depth]; omega) (ksk_s1 _ _) (fun _ => ksk_l1 _ _) (fun _ => ksk_t1 _ _) (fun v x hR hx h tk kp => ?_) fun out c3 h3 tk kp fresh hD hol eo => ?_
  · -- a turn
    obtain ⟨t', rfl⟩ := hR
    have rc : codeAny (model X.prog X.w) X.A.in1.in1 (.call (.ref f) ⟨[.str x t'], []⟩) (fun r s3 => match r with | .ok (.ret u) => KeyPure (PyData.int (q.idxOf x : Int)) { s2 with heap := h, toks := tk } u s3 | _ => False) { s2 with heap := h, toks := tk } := by
      refine PySem.W.kla_callFunE (s := { s2 with heap := h, toks := tk }) (by show X.A.depth < recursionLimit; omega) (kp _ _ hf) rfl L.co L.gen rfl ⟨c', oc, cvs, ct, rfl, kp _ _ hoc, hdc, hvc⟩ ?_
      rw [hbind]
      refine wpAny_pure (wpAny_newFunctionEnv (fun y hy => (L.own y hy).1) (fun y hy => ?_) (fun h₁ hns hsb => ⟨(I2.nolimit.keeps kp).fresh _ hsb, ?_⟩) L.kind)
      · cases List.mem_singleton.mp hy
        exact L.par
      have kp1 : ∀ b o, h.get? b = some o → h₁.get? b = some o := fun b o e => hsb.extBut b o (Nat.ne_of_lt (Heap.lt_size e)) (Heap.get?_push_of_some _ e)
      show codeAny _ _ (.expr _ (lamEnv X scope h.objs.size f c')) _ _
      refine PySem.W.kla_codeExpr ?_
      refine wpAny_Call_method_late (by rfl) (by rfl) hline rfl (wpAny_Name (wpAny_loadName_free (c := cc) L.kind hfr hcc (hcell.keeps fun b o e => kp1 _ _ (kp _ _ e)) ?_ hd3) hd2)
      refine ⟨"tuple", "tuple.index", PySem.F.plainAttrs_tuple, PySem.F.slot_tuple_index, PySem.F.type_tuple_index, ⟨oq, kp1 _ _ (kp _ _ eq), qc⟩, fun b z => ?_, ?_⟩
      · cases z
        exact ⟨oq, kp1 _ _ (kp _ _ eq), qd⟩
      show wpAny _ _ (callWith ipos (.builtin "tuple.index") [.ref t] ((false, eval (.Name a p3) (lamEnv X scope h.objs.size f c')) :: []) []) _ _ _
      refine Calls.callWith_builtin rfl (Calls.evalArgs_plain (Calls.spliced_cons (wpAny_Name (wpAny_loadName_local L.kind L.par hns (v := .str x t') (by simp [List.lookup]) ?_) hd1)))
      refine Calls.spliced_nil ?_
      refine SeqAt.tuple_index_strs ⟨oq, kp1 _ _ (kp _ _ eq), qc, nq, qda⟩ (strsAre_of qv) (hin x hx) ?_
      exact ⟨h₁, _, rfl, kp1, .int _ _⟩
    refine wpAny_call (codeAny_mono rc fun r s' hq => ?_)
    cases r with
    | error e => exact False.elim hq
    | ok fl =>
      cases fl with
      | ret u => exact hq
      | next => exact False.elim hq
      | brk => exact False.elim hq
      | cont => exact False.elim hq
  · rw [dataLe_int (fun x : Str => (q.idxOf x : Int))] at eo
    have lv2 := each_vals eo
    have hlen2 : ((ls.mergeSort fun a b => decide ((q.idxOf a : Int) ≤ (q.idxOf b : Int))).map V.str).length ≤ sizeLine := by
      rw [List.length_map, List.length_mergeSort, sizeLine_eq]
      omega
    have I3 : L2.Inv X pins σ (upd H2 (s2.heap.objs.size + 1) (.lst ((ls.mergeSort fun a b => decide ((q.idxOf a : Int) ≤ (q.idxOf b : Int))).map V.str))) { s2 with heap := h3, toks := tk } :=
      I2.laid kp (Nat.le_succ _) ⟨hlen2, out, c3, lv2, hD⟩
    have fr : H2 (s2.heap.objs.size + 1) = none := I2.hok.fresh (Nat.le_succ _)
    have g : ∀ b o, H2 b = some o → (upd H2 (s2.heap.objs.size + 1) (.lst ((ls.mergeSort fun a b => decide ((q.idxOf a : Int) ≤ (q.idxOf b : Int))).map V.str))) b = some o := fun b o e => by
      rw [upd_ne (ne_of_none e fr)]
      exact e
    exact ⟨.ref _, _, I3, rfl, k _ _ (eN.trans (ExtN.of g)) (T2.ext g) upd_same⟩
end
end LamX
namespace Lw
open PySem L2 LamX TzR
/-- the axes of a turned use -/
def tax (ls od : List Str) : List Int := (ls.mergeSort (byPlace od)).map fun x => (ls.idxOf x : Int)
theorem idx_nodup : ∀ {ls : List Str}, ls.Nodup → ∀ {i : Nat} {x : Str}, ls[i]? = some x → ls.idxOf x = i
  | [], _, _, _, e => by simp at e
  | y :: r, h, 0, x, e => by
    have e : y = x := by simpa using e
    rw [e]
    simp
  | y :: r, h, i + 1, x, e => by
    have h1 := List.nodup_cons.mp h
    have e : r[i]? = some x := by simpa using e
    have ne : y ≠ x := fun z => h1.1 (by rw [z]; exact List.mem_of_getElem? e)
    rw [List.idxOf_cons]
    have : (y == x) = false := by simpa using ne
    rw [this, idx_nodup h1.2 e]
    simp
theorem map_idx {ls : List Str} (h : ls.Nodup) : (ls.map fun x => (ls.idxOf x : Int)) = iota ls.length := by
  unfold iota
  apply List.ext_getElem?
  intro i
  rw [List.getElem?_map, List.getElem?_map]
  by_cases hi : i < ls.length
  · rw [List.getElem?_eq_getElem hi, List.getElem?_range hi]
    show some ((ls.idxOf ls[i] : Nat) : Int) = some ((i : Nat) : Int)
    rw [idx_nodup h (List.getElem?_eq_getElem hi)]
  · rw [List.getElem?_eq_none (by omega), List.getElem?_eq_none (by rw [List.length_range]; omega)] <;> rfl
theorem tax_perm {ls od : List Str} (h : ls.Nodup) : (tax ls od).Perm (iota ls.length) := by
  rw [← map_idx h]
  exact (List.mergeSort_perm ls (byPlace od)).map _
theorem tax_len {ls od : List Str} : (tax ls od).length = ls.length := by
  unfold tax
  rw [List.length_map, List.length_mergeSort]
/-- the form of a turned use -/
def tform (l : List (Str × Int)) (ls od : List Str) : List (Str × Int) := (l.map (·.1)).zip (tax ls od)
theorem tform_1 {l : List (Str × Int)} {ls od : List Str} (e : l.length = ls.length) : (tform l ls od).map (·.1) = l.map (·.1) := by
  unfold tform
  rw [List.map_fst_zip]
  rw [tax_len, List.length_map]
  omega
theorem tform_2 {l : List (Str × Int)} {ls od : List Str} (e : l.length = ls.length) : (tform l ls od).map (·.2) = tax ls od := by
  unfold tform
  rw [List.map_snd_zip]
  rw [tax_len, List.length_map]
  omega
theorem tform_good {l : List (Str × Int)} {ls od : List Str} (g : Good l ls.length) (h : ls.Nodup) : Good (tform l ls od) ls.length := by
  obtain ⟨g1, g2, g3⟩ := g
  refine ⟨?_, fun p hp => ?_, ?_⟩
  · unfold tform
    rw [List.length_zip, tax_len, List.length_map, g1, Nat.min_self]
  · have hm : p.1 ∈ (tform l ls od).map (·.1) := List.mem_map.mpr ⟨p, hp, rfl⟩
    rw [tform_1 g1] at hm
    obtain ⟨q, hq, e⟩ := List.mem_map.mp hm
    rw [← e]
    exact g2 q hq
  · rw [tform_2 g1]
    exact tax_perm h
theorem SqT.ext {K : PySem.W.Frag} {H H' : Hp} {a : Addr} {xs : List V} (g : ExtN H H') (h : SqT K H a xs) : SqT K H' a xs := by
  rcases h with (h | ⟨o, h⟩) | h
  · exact .inl (.inl (g _ _ h (fun _ e => by cases e)))
  · exact .inl (.inr ⟨o, g _ _ h (fun _ e => by cases e)⟩)
  · exact .inr h
theorem SqL.ext {K : PySem.W.Frag} {H H' : Hp} {a : Addr} {xs : List V} (g : ExtN H H') (h : SqL K H a xs) : SqL K H' a xs := by
  rcases h with (h | ⟨o, h⟩) | h
  · exact .inl (.inl (g _ _ h (fun _ e => by cases e)))
  · exact .inl (.inr ⟨o, g _ _ h (fun _ e => by cases e)⟩)
  · exact .inr h
theorem tzE {H H' : Hp} {p : Addr} {xs : List V} (g : ExtN H H') : TzAt H p xs → TzAt H' p xs
  | ⟨o, h, z⟩ => ⟨o, g _ _ h (fun _ e => by cases e), z⟩
theorem FormAt.ext {K : PySem.W.Frag} {C q : Addr} {ks : List Str} {is : List Int} {H H' : Hp} (g : ExtN H H') : FormAt K C q ks is H → FormAt K C q ks is H'
  | ⟨dx, tk, ta, h1, h2, h3⟩ => ⟨dx, tk, ta, g _ _ h1 (fun _ e => by cases e), SqT.ext g h2, SqT.ext g h3⟩
theorem UseAt.ext {K : PySem.W.Frag} {U C : Addr} {H H' : Hp} {p q : Addr} {nm : Str} {ls ks : List Str} {is : List Int} (g : ExtN H H') : UseAt K U C H p nm ls q ks is → UseAt K U C H' p nm ls q ks is
  | ⟨dx, tl, h1, h2, h3⟩ => ⟨dx, tl, g _ _ h1 (fun _ e => by cases e), tzE g h2, FormAt.ext g h3⟩
end Lw
namespace Lw
open PySem L2 TL
theorem word_back {a : Str} (h : a ∈ AWORDS) : ((toString (aval a) : String) : Str) = a := by
  have z : ∀ a ∈ AWORDS, ((toString (aval a) : String) : Str) = a := by decide +kernel
  exact z a h
theorem lvl_itm {p : Str} {r : Str × Int} (h : lvl p = some r) : itm r.1 r.2 = p := by
  unfold lvl at h
  split at h
  · rename_i k a e
    by_cases m : a ∈ AWORDS
    · rw [if_pos m] at h
      cases h
      have b := split_back p " " (by decide +kernel) (by decide +kernel)
      rw [e] at b
      refine Eq.trans (ext_tl ?_) b
      show tl (itm k (aval a)) = _
      unfold itm
      rw [word_back m, join_eq, tl_join, tl_append, tl_append, tl_append]
      show tl Str.empty ++ tl k ++ tl " " ++ tl a = tl k ++ (tl " " ++ tl a)
      rw [show tl Str.empty = [] from rfl, List.nil_append, List.append_assoc]
    · rw [if_neg m] at h
      cases h
  · cases h
theorem lvl_all : ∀ {ps : List Str}, (ps.all fun p => (lvl p).isSome) = true → (ps.filterMap lvl).length = ps.length ∧ ((ps.filterMap lvl).map fun r => itm r.1 r.2) = ps
  | [], _ => ⟨rfl, rfl⟩
  | p :: r, h => by
    rw [List.all_cons, Bool.and_eq_true] at h
    obtain ⟨h1, h2⟩ := h
    obtain ⟨i1, i2⟩ := lvl_all h2
    obtain ⟨q, e⟩ := Option.isSome_iff_exists.mp h1
    rw [List.filterMap_cons_some e, List.map_cons, List.length_cons, List.length_cons, i1, i2, lvl_itm e]
    exact ⟨rfl, rfl⟩
theorem split_ne (z : Str) : Txt.split z ", " ≠ [] := fun e => by
  have q := split_spl z ", " (by decide +kernel) (kind_ok (by decide +kernel))
  rw [e] at q
  exact spl_ne _ _ _ _ q.symm
/-- what is read is the text of what was read -/
theorem rd_back {z : Str} {ks : List Str} {is : List Int} (h : rd z = some (ks, is)) : ftext ks is = z ∧ valid ks is = true := by
  unfold rd at h
  by_cases c : z = "-"
  · rw [if_pos c] at h
    cases h
    exact ⟨by rw [c]; rfl, by decide +kernel⟩
  rw [if_neg c] at h
  by_cases c2 : ((Txt.split z ", ").all fun p => (lvl p).isSome) = true ∧ valid (lks (Txt.split z ", ")) (lis (Txt.split z ", ")) = true
  · rw [if_pos c2] at h
    cases h
    obtain ⟨i1, i2⟩ := lvl_all c2.1
    refine ⟨?_, c2.2⟩
    unfold ftext
    rw [if_neg, show (lks (Txt.split z ", ")).zip (lis (Txt.split z ", ")) = (Txt.split z ", ").filterMap lvl from zip_maps _, i2]
    · exact split_back z ", " (by decide +kernel) (by decide +kernel)
    · unfold lks
      rw [List.length_map, i1]
      intro e
      exact split_ne z (List.length_eq_zero_iff.mp e)
  · rw [if_neg c2] at h
    cases h
theorem itm_facts : ∀ k ∈ KINDS, ∀ i ∈ ([0, 1, 2] : List Int), 44 ∉ tl (itm k i) ∧ 32 ∉ tl k ∧ 32 ∉ tl ((toString i : String) : Str) ∧ ((toString i : String) : Str) ∈ AWORDS ∧ aval ((toString i : String) : Str) = i ∧ PyData.strOk (itm k i) = true := by decide +kernel
theorem lvl_of {k : Str} {i : Int} (hk : k ∈ KINDS) (hi : i ∈ ([0, 1, 2] : List Int)) : lvl (itm k i) = some (k, i) := by
  obtain ⟨f1, f2, f3, f4, f5, _⟩ := itm_facts k hk i hi
  have e : Txt.split (itm k i) " " = [k, ((toString i : String) : Str)] := by
    have b := split_join (y := " ") (s := 32) (S := []) (by decide +kernel) (by decide +kernel) (parts := [k, ((toString i : String) : Str)]) (by simp) fun p hp => by
      rcases List.mem_cons.mp hp with rfl | hp
      · exact f2
      · rw [List.mem_singleton.mp hp]
        exact f3
    have e2 : itm k i = Txt.join " " [k, ((toString i : String) : Str)] := by
      refine ext_tl ?_
      unfold itm
      rw [join_eq, tl_join, tl_append, tl_append, tl_append]
      show tl Str.empty ++ tl k ++ tl " " ++ tl _ = tl k ++ (tl " " ++ tl _)
      rw [show tl Str.empty = [] from rfl, List.nil_append, List.append_assoc]
    rw [e2]
    exact b
  rw [lvl_two e, if_pos f4, f5]
theorem fm_itms : ∀ {l : List (Str × Int)}, (∀ p ∈ l, p.1 ∈ KINDS ∧ p.2 ∈ ([0, 1, 2] : List Int)) → ((l.map fun p => itm p.1 p.2).filterMap lvl) = l ∧ ((l.map fun p => itm p.1 p.2).all fun p => (lvl p).isSome) = true
  | [], _ => ⟨rfl, rfl⟩
  | p :: r, h => by
    obtain ⟨i1, i2⟩ := fm_itms (l := r) fun q hq => h q (List.mem_cons_of_mem _ hq)
    obtain ⟨a, b⟩ := h p (List.mem_cons_self ..)
    have e := lvl_of a b
    rw [List.map_cons, List.filterMap_cons_some e, i1, List.all_cons, i2, e]
    exact ⟨rfl, rfl⟩
theorem zip_all : ∀ {ks : List Str} {is : List Int}, is.length = ks.length → (∀ k ∈ ks, k ∈ KINDS) → (∀ i ∈ is, i ∈ ([0, 1, 2] : List Int)) →
    (ks.zip is).map (·.1) = ks ∧ (ks.zip is).map (·.2) = is ∧ ∀ p ∈ ks.zip is, p.1 ∈ KINDS ∧ p.2 ∈ ([0, 1, 2] : List Int)
  | [], [], _, _, _ => ⟨rfl, rfl, fun p h => by cases h⟩
  | [], _ :: _, h, _, _ => by cases h
  | _ :: _, [], h, _, _ => by cases h
  | k :: ks, i :: is, h, h1, h2 => by
    obtain ⟨a, b, c⟩ := zip_all (Nat.succ.inj h) (fun x hx => h1 x (List.mem_cons_of_mem _ hx)) fun x hx => h2 x (List.mem_cons_of_mem _ hx)
    rw [List.zip_cons_cons, List.map_cons, List.map_cons, a, b]
    refine ⟨rfl, rfl, fun p hp => ?_⟩
    rcases List.mem_cons.mp hp with rfl | hp
    · exact ⟨h1 _ (List.mem_cons_self ..), h2 _ (List.mem_cons_self ..)⟩
    · exact c p hp
theorem ok_list (z : Str) : PyData.strOk z = (tl z).all (· < 0x110000) := by
  unfold PyData.strOk
  rw [← Array.all_toList]
/-- the text of a form is read back -/
theorem rd_ftext {ks : List Str} {is : List Int} (h : valid ks is = true) : rd (ftext ks is) = some (ks, is) := by
  obtain ⟨h1, h2, h3, h4⟩ := valid_parts h
  by_cases c : ks.length = 0
  · have e1 : ks = [] := List.length_eq_zero_iff.mp c
    have e2 : is = [] := List.length_eq_zero_iff.mp (h3.trans c)
    subst e1
    subst e2
    rfl
  obtain ⟨z1, z2, z3⟩ := zip_all h3 h2 h4
  obtain ⟨f1, f2⟩ := fm_itms z3
  have ef : ftext ks is = Txt.join ", " ((ks.zip is).map fun p => itm p.1 p.2) := by
    unfold ftext
    rw [if_neg c]
  have ne : ((ks.zip is).map fun p => itm p.1 p.2) ≠ [] := fun e => by
    have e2 := congrArg List.length e
    rw [List.length_map, List.length_zip, h3, Nat.min_self] at e2
    exact c e2
  have es : Txt.split (ftext ks is) ", " = (ks.zip is).map fun p => itm p.1 p.2 := by
    rw [ef]
    refine split_join (s := 44) (S := [32]) (by decide +kernel) (by decide +kernel) ne fun p hp => ?_
    obtain ⟨q, hq, rfl⟩ := List.mem_map.mp hp
    obtain ⟨a, b⟩ := z3 q hq
    exact (itm_facts _ a _ b).1
  have nd : ftext ks is ≠ "-" := fun e => by
    rw [e] at es
    have e0 : Txt.split "-" ", " = [("-" : Str)] := by decide +kernel
    rw [e0] at es
    have m : lvl "-" = none := by decide +kernel
    rw [← es] at f2
    rw [List.all_cons, m] at f2
    cases f2
  unfold rd lks lis
  rw [if_neg nd, es, f1, z1, z2, if_pos ⟨f2, h⟩]
theorem join_len {S : List Nat} (hS : S.length ≤ 2) : ∀ {l : List (List Nat)}, (∀ p ∈ l, p.length ≤ 20) → (joinL S l).length ≤ 22 * l.length
  | [], _ => by simp [joinL]
  | [p], h => by
    have q := h p (List.mem_cons_self ..)
    show p.length ≤ 22 * 1
    omega
  | p :: q :: r, h => by
    have i := join_len hS (l := q :: r) fun x hx => h x (List.mem_cons_of_mem _ hx)
    have j := h p (List.mem_cons_self ..)
    rw [joinL_cons (by simp), List.length_append, List.length_append]
    simp only [List.length_cons] at i ⊢
    omega
theorem join_in {S : List Nat} : ∀ {l : List (List Nat)}, ∀ c ∈ joinL S l, c ∈ S ∨ ∃ p ∈ l, c ∈ p
  | [], c, h => by cases h
  | [p], c, h => .inr ⟨p, List.mem_cons_self .., h⟩
  | p :: q :: r, c, h => by
    rw [joinL_cons (by simp)] at h
    rcases List.mem_append.mp h with h | h
    · exact .inr ⟨p, List.mem_cons_self .., h⟩
    · rcases List.mem_append.mp h with h | h
      · exact .inl h
      · rcases join_in (l := q :: r) c h with z | ⟨x, a, b⟩
        · exact .inl z
        · exact .inr ⟨x, List.mem_cons_of_mem _ a, b⟩
theorem ftext_small {ks : List Str} {is : List Int} (h : valid ks is = true) : (ftext ks is).length ≤ 100 ∧ PyData.strOk (ftext ks is) = true := by
  obtain ⟨h1, h2, h3, h4⟩ := valid_parts h
  by_cases c : ks.length = 0
  · have e : ftext ks is = "-" := by
      unfold ftext
      rw [if_pos c]
    rw [e]
    exact ⟨by decide, by decide +kernel⟩
  obtain ⟨z1, z2, z3⟩ := zip_all h3 h2 h4
  have ef : ftext ks is = Txt.join ", " ((ks.zip is).map fun p => itm p.1 p.2) := by
    unfold ftext
    rw [if_neg c]
  have et : tl (ftext ks is) = joinL (tl ", ") (((ks.zip is).map fun p => itm p.1 p.2).map tl) := by rw [ef, join_eq, tl_join]
  constructor
  · rw [len_tl, et]
    have q := join_len (S := tl ", ") (by decide) (l := ((ks.zip is).map fun p => itm p.1 p.2).map tl) fun p hp => by
      obtain ⟨y, hy, rfl⟩ := List.mem_map.mp hp
      obtain ⟨q, hq, rfl⟩ := List.mem_map.mp hy
      obtain ⟨a, b⟩ := z3 q hq
      rw [← len_tl]
      exact (small_itm _ a _ b).2.2.1
    rw [List.length_map, List.length_map, List.length_zip, h3, Nat.min_self] at q
    omega
  · rw [ok_list, et, List.all_eq_true]
    intro x hx
    rcases join_in x hx with z | ⟨p, hp, hc⟩
    · have y : ∀ x ∈ tl ", ", decide (x < 0x110000) = true := by decide +kernel
      exact y x z
    · obtain ⟨y, hy, rfl⟩ := List.mem_map.mp hp
      obtain ⟨q, hq, rfl⟩ := List.mem_map.mp hy
      obtain ⟨a, b⟩ := z3 q hq
      have o := (itm_facts _ a _ b).2.2.2.2.2
      rw [ok_list, List.all_eq_true] at o
      exact o x hc
end Lw
/-! zip of a tuple with a list -/
namespace ZiX
open PySem PySem.Spec PyProof.Rows L2
def ItX (K : PySem.W.Frag) (a b : Addr) : It where
  go := fun i H => ∃ (xs ys : List V) (x y : V), SqT K H a xs ∧ SqL K H b ys ∧ xs[i]? = some x ∧ ys[i]? = some y
  yld := fun i H v H' => ∃ (T : Addr) (x y : V), v = .ref T ∧ H T = none ∧ H' = upd H T (.tup [x, y]) ∧ (∀ xs, SqT K H a xs → xs[i]? = some x) ∧ ∀ ys, SqL K H b ys → ys[i]? = some y
  stop := fun i H => ∃ xs ys : List V, SqT K H a xs ∧ SqL K H b ys ∧ xs.length = i ∧ ys.length = i
abbrev Five (z TI TO i1 i2 : Addr) : List Addr := [z, TI, TO, i1, i2]
theorem five {z TI TO i1 i2 c : Addr} (h : c ∈ Five z TI TO i1 i2) : c = z ∨ c = TI ∨ c = TO ∨ c = i1 ∨ c = i2 := by simpa using h
def StX (a b z TI TO i1 i2 : Addr) (i : Nat) (h : Heap) : Prop := IsZip h z TI TO .none ∧ IsPair h TI (.ref i1) (.ref i2) ∧ (∃ x y, IsPair h TO x y) ∧ h.IsTupleIter i1 a i ∧ h.IsListIter i2 b i
theorem turnX {P : Program} {w : World} {K : PySem.W.Frag} {elts : List Expr} {kk : Nat} {tpos : Pos} {a b z TI TO i1 i2 : Addr} (S : ZipSep2 z TI TO i1 i2 [i1, a] [i2, b]) (na : a ≠ i1) (nb : b ≠ i2) :
    Turn P w K (.Tuple elts kk tpos) (ItX K a b) (Five z TI TO i1 i2) z (StX a b z TI TO i1 i2) where
  mem := by simp
  obj := fun i h st c hc => by
    obtain ⟨hz, hTI, ⟨x, y, hTO⟩, ⟨o1, e1, _, d1⟩, ⟨o2, e2, _, d2⟩⟩ := st
    rcases five hc with q | q | q | q | q <;> subst q
    · exact ⟨_, hz, fun v r => nomatch r⟩
    · exact ⟨_, hTI, fun v r => nomatch r⟩
    · exact ⟨_, hTO, fun v r => nomatch r⟩
    · exact ⟨o1, e1, fun v r => by rw [d1] at r; cases r⟩
    · exact ⟨o2, e2, fun v r => by rw [d2] at r; cases r⟩
  keep := fun i h h' st k => by
    obtain ⟨hz, hTI, ⟨x, y, hTO⟩, h1, h2⟩ := st
    refine ⟨k _ (by simp) _ hz, k _ (by simp) _ hTI, ⟨x, y, k _ (by simp) _ hTO⟩, ?_, ?_⟩
    · exact h1.at fun o r => k _ (by simp) o r
    · exact h2.at fun o r => k _ (by simp) o r
  item := by
    intro X eP ew eK hc i pins s σ H E I hf st hg
    subst eP ew eK
    obtain ⟨hz, hTI, ⟨x0, y0, hTO⟩, h1, h2⟩ := st
    obtain ⟨xs, ys, x, y, qx, qy, hx, hy⟩ := hg
    obtain ⟨us, rv, p, _⟩ := I.tuple qx
    obtain ⟨vs, rw2, p2, _⟩ := I.list qy
    obtain ⟨u, hu, ru⟩ := rv.get hx
    obtain ⟨v, hv, rvv⟩ := rw2.get hy
    have lu : i < us.toArray.size := by rw [List.size_toArray]; exact (List.getElem?_eq_some_iff.mp hu).1
    have lv : i < vs.toArray.size := by rw [List.size_toArray]; exact (List.getElem?_eq_some_iff.mp hv).1
    have zlt : z < s.heap.objs.size := Heap.lt_size hz
    have hA : X.A.in1.handled = none := I.ok.hd hc
    refine wpAny_pyNext_zipD2_item S (Draws.tuple hA i1 a na us.toArray) (Draws.list hA i2 b nb vs.toArray) hz hTI hTO ⟨h1, p⟩ ⟨h2, p2.isList⟩ lu lv fun x1 x2 h' tk e1 e2 z' TO' s1 s2 hT hsz hk => ?_
    have ex1 : u = x1 := by
      have e1 : us.toArray[i]? = some x1 := e1
      rw [List.getElem?_toArray, hu] at e1
      exact Option.some.inj e1
    have ex2 : v = x2 := by
      have e2 : vs.toArray[i]? = some x2 := e2
      rw [List.getElem?_toArray, hv] at e2
      exact Option.some.inj e2
    subst ex1 ex2
    refine ⟨_, rfl, wpAny_letOwnedTupleGo_zip (s := { s with heap := h', toks := tk }) z' fun h'' z'' sb => ?_⟩
    have pair : IsPair h'' s.heap.objs.size u v := (sb.2 _ (Nat.ne_of_gt zlt)).trans hT
    have new : ObjOk X.prog X.w (upd H s.heap.objs.size (.tup [x, y])) h'' s.heap.objs.size (.tup [x, y]) := ⟨Nat.le_trans (show 2 ≤ 3 by decide) (by decide), [u, v], .cons ru (.cons rvv .nil), ⟨_, pair, rfl, _, rfl⟩⟩
    have kp : ∀ c o, c ∉ Five z TI TO i1 i2 → s.heap.get? c = some o → h''.get? c = some o := fun c o hb q => by
      have nz : c ≠ z := fun e => hb (by simp [e])
      exact (sb.2 c nz).trans (hk c o nz (fun e => hb (by simp [e])) (fun e => hb (by simp [e])) (fun e => hb (by simp [e])) q)
    refine ⟨.ref s.heap.objs.size, _, I.turnedNew (t' := tk) (ch := Five z TI TO i1 i2) kp hf (Nat.le_refl _) new, rfl, ⟨_, x, y, rfl, I.hok.fresh (Nat.le_refl _), rfl, fun l hl => ?_, fun l hl => ?_⟩, ⟨z'', ?_, ⟨u, v, ?_⟩, ?_, ?_⟩, fun c hcm => ?_⟩
    · rw [I.tuple_inj hl qx]
      exact hx
    · rw [I.list_inj hl qy]
      exact hy
    · exact (sb.2 _ S.TIz).trans (hk _ _ S.TIz S.TITO S.TIi1 S.TIi2 hTI)
    · exact (sb.2 _ S.TOz).trans TO'
    · exact s1.1.at fun o q => (sb.2 _ S.zi1.symm).trans q
    · exact s2.1.at fun o q => (sb.2 _ S.zi2.symm).trans q
    · have lt : c < s.heap.objs.size := by
        rcases five hcm with q | q | q | q | q <;> subst q
        · exact zlt
        · exact Heap.lt_size hTI
        · exact Heap.lt_size hTO
        · obtain ⟨_, e, _⟩ := h1
          exact Heap.lt_size e
        · obtain ⟨_, e, _⟩ := h2
          exact Heap.lt_size e
      rw [upd_ne (Nat.ne_of_lt lt)]
      exact (hf c hcm).1
  done := by
    intro X eP ew eK hc i pins s σ H E I hf st hg
    subst eP ew eK
    obtain ⟨hz, hTI, ⟨x0, y0, hTO⟩, h1, h2⟩ := st
    obtain ⟨xs, ys, qx, qy, ei, ej⟩ := hg
    obtain ⟨us, rv, p, _⟩ := I.tuple qx
    obtain ⟨vs, rw2, p2, _⟩ := I.list qy
    have l1 : us.toArray.size = i := by rw [List.size_toArray, ← rv.length]; exact ei
    have l2 : vs.toArray.size = i := by rw [List.size_toArray, ← rw2.length]; exact ej
    have hA : X.A.in1.handled = none := I.ok.hd hc
    refine wpAny_pyNext_zipD2_end S (Draws.tuple hA i1 a na us.toArray) (Draws.list hA i2 b nb vs.toArray) hz hTI hTO ⟨h1, p⟩ ⟨h2, p2.isList⟩ (Nat.le_of_eq l1.symm) (Nat.le_of_eq l2.symm) (.inl l1.symm) fun h' tk hk => ⟨rfl, I.turnedL (t' := tk) (ch := Five z TI TO i1 i2) (fun c o hb q => ?_) hf⟩
    exact hk c o (fun e => hb (by simp [e])) (fun e => hb (by simp [e])) (fun e => hb (by simp [e])) (fun e => hb (by simp [e])) q
  self := fun A i s Q E st h => wpAny_pyIter_zip st.1 h
theorem ne_nat {x y : Nat} (h : ¬ x = y) : @Ne Addr x y := h
theorem out2 {x y z : Nat} (h : ¬ x = y) (h2 : ¬ x = z) : @Not ((x : Addr) ∈ ([y, z] : List Addr)) := fun m => by
  rcases List.mem_cons.mp m with e | m
  · exact h e
  · exact h2 (List.mem_singleton.mp m)
theorem sep_new (n a b : Nat) (ha : a < n) (hb : b < n) : ZipSep2 (n + 4) (n + 2) (n + 3) n (n + 1) [n, a] [n + 1, b] where
  TIz := ne_nat (by omega)
  TOz := ne_nat (by omega)
  TITO := ne_nat (by omega)
  TIi1 := ne_nat (by omega)
  mem1 := List.mem_cons_self ..
  zf1 := out2 (by omega) (by omega)
  Tf1 := out2 (by omega) (by omega)
  TIi2 := ne_nat (by omega)
  mem2 := List.mem_cons_self ..
  zf2 := out2 (by omega) (by omega)
  Tf2 := out2 (by omega) (by omega)
  sep1_2 := out2 (by omega) (by omega)
  sep2_1 := out2 (by omega) (by omega)
theorem ge_new {n c : Nat} (h : c = n + 4 ∨ c = n + 2 ∨ c = n + 3 ∨ c = n ∨ c = n + 1) : n ≤ c := by omega
def iZipX (K : PySem.W.Frag) (ta : TA) : TI := fun σ H R => ta σ H fun vs H1 => ∃ (a b : Addr) (xs ys : List V), vs = [.ref a, .ref b] ∧ SqT K H1 a xs ∧ SqL K H1 b ys ∧ R (ItX K a b) H1
theorem pi_zipX {X : Cx} {e e2 : Expr} {ta : TA} {p pos tpos : Pos} {elts : List Expr} {kk : Nat} (hg : Gl X "zip") (hm : X.mg "zip" = none) (ha : PA X [e, e2] ta)
    (hs : starEach [e, e2] X.env = (false, eval e X.env) :: starEach [e2] X.env := by rfl) (hpl : (backTo pos (starEach [e2] X.env)).any (·.1) = false := by rfl) :
    PI X (.Tuple elts kk tpos) (.Call (.Name "zip" p) [e, e2] [] pos) (iZipX X.K ta) := by
  refine ⟨fun pins s σ H R I h => ?_⟩
  refine Call_ (ld_blt I hg hm PyProof.Rows.boot_zip (PyProof.Rows.callWith_type1 (thn (ha.run pos pins s σ H _ I h) fun us s1 ⟨vs, H1, I1, r1, a, b, xs, ys, ex, qx, qy, q⟩ => ?_) hs hpl))
  subst ex
  obtain ⟨u1, u2, rfl, ra, rb⟩ := vals2 r1
  cases ra
  cases rb
  obtain ⟨us, rv, p1, _⟩ := I1.tuple qx
  obtain ⟨vs, rw2, p2, _⟩ := I1.list qy
  have la : a < s1.heap.objs.size := by
    obtain ⟨o, ho, _⟩ := id p1
    exact Heap.lt_size ho
  have lb : b < s1.heap.objs.size := p2.lt
  refine zip_begins2 (begins_tuple a us.toArray) (begins_list b vs.toArray) p1 p2.isList fun h' hz hTI hTO h1 h2 hsz hk => wpAny_pyIter_zip hz ?_
  have I2 : L2.Inv X pins σ H1 { s1 with heap := h' } := I1.kept (t' := s1.toks) hk
  refine ⟨s1.heap.objs.size + 4, Five (s1.heap.objs.size + 4) (s1.heap.objs.size + 2) (s1.heap.objs.size + 3) s1.heap.objs.size (s1.heap.objs.size + 1), _, _, H1, rfl, I2, turnX (sep_new s1.heap.objs.size a b la lb) (Nat.ne_of_lt la) (Nat.ne_of_lt (Nat.lt_succ_of_lt lb)), ⟨hz, hTI, ⟨_, _, hTO⟩, ⟨_, h1, rfl, rfl⟩, ⟨_, h2, rfl, rfl⟩⟩, fun c hcm => ?_, q⟩
  have hle : s1.heap.objs.size ≤ c := ge_new (five hcm)
  exact I1.fpOk hle (I1.hok.fresh hle)
theorem walkX {K : PySem.W.Frag} {a b : Addr} {xs ys : List V} (e : xs.length = ys.length) : Walk (ItX K a b) xs.length (fun H => SqT K H a xs ∧ SqL K H b ys) (YPair (fun i => xs[i]?) (fun i => ys[i]?)) where
  goes := fun i _ hi q => ⟨xs, ys, xs[i], ys[i]'(by omega), q.1, q.2, List.getElem?_eq_getElem hi, List.getElem?_eq_getElem (by omega)⟩
  stops := fun _ q => ⟨xs, ys, q.1, q.2, rfl, e.symm⟩
  yields := fun i H v H' _ q ⟨T, x, y, h1, h2, h3, h4, h5⟩ => ⟨T, x, y, h1, h2, h3, h4 xs q.1, h5 ys q.2⟩
end ZiX
namespace Lw
open PySem L2 LamX TzR
/-- the pairs that the law sorts -/
def prs (ls od : List Str) : List (Int × Int) := ls.map fun x => ((od.idxOf x : Int), (ls.idxOf x : Int))
theorem perm_eq {α : Type} {r : α → α → Prop} (anti : ∀ a b, r a b → r b a → a = b) : ∀ {l m : List α}, l.Pairwise r → m.Pairwise r → l.Perm m → l = m
  | [], m, _, _, p => (List.nil_perm.mp p).symm
  | x :: l, [], _, _, p => absurd p.length_eq (by simp)
  | x :: l, y :: m, h1, h2, p => by
    obtain ⟨a1, a2⟩ := List.pairwise_cons.mp h1
    obtain ⟨b1, b2⟩ := List.pairwise_cons.mp h2
    have e : x = y := by
      rcases List.mem_cons.mp (p.mem_iff.mp (List.mem_cons_self (a := x) (l := l))) with e | hx
      · exact e
      · rcases List.mem_cons.mp (p.mem_iff.mpr (List.mem_cons_self (a := y) (l := m))) with e | hy
        · exact e.symm
        · exact anti x y (a1 y hy) (b1 x hx)
    subst e
    rw [perm_eq anti a2 b2 p.cons_inv]
theorem sorted_prs {ls od : List Str} (hin : ∀ x ∈ ls, x ∈ od) {zs : List (Int × Int)} (hs : zs.Pairwise fun p q => SrtO.lexB q p = false) (hp : zs.Perm (prs ls od)) : zs.map (·.2) = tax ls od := by
  have e : zs = (ls.mergeSort (byPlace od)).map fun x => ((od.idxOf x : Int), (ls.idxOf x : Int)) := by
    refine perm_eq (r := fun p q => SrtO.lexB q p = false) (fun p q h1 h2 => ?_) hs ?_ (hp.trans ?_)
    · have a := SrtO.lexB_no.mp h1
      have b := SrtO.lexB_no.mp h2
      refine Prod.ext ?_ ?_ <;> omega
    · refine List.pairwise_map.mpr ?_
      have srt : (ls.mergeSort (byPlace od)).Pairwise (fun a b => byPlace od a b = true) := List.pairwise_mergeSort (fun a b c h1 h2 => by
        have h1 := of_decide_eq_true h1
        have h2 := of_decide_eq_true h2
        exact decide_eq_true (by omega)) (fun a b => by
        unfold byPlace
        by_cases h : (od.idxOf a : Int) ≤ od.idxOf b
        · simp [h]
        · have h2 : (od.idxOf b : Int) ≤ od.idxOf a := by omega
          simp [h2]) ls
      refine srt.imp_of_mem fun {a b} ha hb h => ?_
      have h := of_decide_eq_true h
      have ma := hin a (List.mem_mergeSort.mp ha)
      have mb := hin b (List.mem_mergeSort.mp hb)
      refine SrtO.lexB_no.mpr fun c => ?_
      rcases c with c | ⟨c1, c2⟩
      · have c : (od.idxOf b : Int) < od.idxOf a := c
        omega
      · have c1 : (od.idxOf b : Int) = od.idxOf a := c1
        have q1 := (idx_at ma).1
        have q2 := (idx_at mb).1
        have c3 : od.idxOf b = od.idxOf a := by omega
        rw [c3, q1] at q2
        have c2 : (ls.idxOf b : Int) < ls.idxOf a := c2
        rw [Option.some.inj q2] at c2
        omega
    · exact ((List.mergeSort_perm ls (byPlace od)).map _).symm
  rw [e, List.map_map]
  rfl
/-- a walk over a tuple with the places -/
def YEn (xs : Nat → Option V) : Nat → Hp → V → Hp → Prop := fun i H v H' => ∃ (T : Addr) (x : V), v = .ref T ∧ H T = none ∧ H' = upd H T (.tup [.int (i : Nat), x]) ∧ xs i = some x
theorem walk_enT {K : PySem.W.Frag} {a : Addr} {xs : List V} : Walk (EnT.IteT K a) xs.length (fun H => SqT K H a xs) (YEn fun i => xs[i]?) where
  goes := fun i _ hi q => ⟨xs, xs[i], q, List.getElem?_eq_getElem hi⟩
  stops := fun _ q => ⟨xs, q, rfl⟩
  yields := fun i H v H' _ q ⟨T, x, h1, h2, h3, h4⟩ => ⟨T, x, h1, h2, h3, h4 xs q⟩
theorem walk_enL {K : PySem.W.Frag} {a : Addr} {xs : List V} : Walk (Ite K a) xs.length (fun H => SqL K H a xs) (YEn fun i => xs[i]?) where
  goes := fun i _ hi q => ⟨xs, xs[i], q, List.getElem?_eq_getElem hi⟩
  stops := fun _ q => ⟨xs, q, Nat.le_refl _⟩
  yields := fun i H v H' _ q ⟨T, x, h1, h2, h3, h4⟩ => ⟨T, x, h1, h2, h3, h4 xs q⟩
theorem Tups.snoc {K : PySem.W.Frag} {H : Hp} {vs : List V} {l : List (Str × Int)} {a : Addr} {p : Str × Int} (h : Tups K H vs l) (ha : SqT K H a [.str p.1, .int p.2]) : Tups K H (vs ++ [.ref a]) (l ++ [p]) := by
  refine ⟨by rw [List.length_append, List.length_append, h.1] <;> rfl, fun i v q e1 e2 => ?_⟩
  by_cases hi : i < l.length
  · rw [List.getElem?_append_left (by rw [h.1]; exact hi)] at e1
    rw [List.getElem?_append_left hi] at e2
    exact h.2 i v q e1 e2
  · rw [List.getElem?_append_right (by omega)] at e2
    rw [List.getElem?_append_right (by rw [h.1]; omega), h.1] at e1
    have e3 : i - l.length = 0 := by
      obtain ⟨h3, _⟩ := List.getElem?_eq_some_iff.mp e2
      simp at h3
      omega
    rw [e3] at e1 e2
    have e1 : V.ref a = v := by simpa using e1
    have e2 : p = q := by simpa using e2
    rw [← e1, ← e2]
    exact ⟨a, rfl, ha⟩
end Lw
namespace Lw
open PySem L2 LamX TzR
abbrev s_turned : Stmt := topS 17
abbrev n_turned : List Str := ["use", "order", "sequence", "letters", "axes", "letter", "kinds"]
theorem sc_turned : FnScope n_turned ["use", "order"] (defScope s_turned) := ⟨rfl, rfl, rfl, by decide +kernel, rfl, by decide +kernel, by decide +kernel⟩
abbrev qTurned : Str := "turned.<locals>.<lambda>"
def spTurned (K : PySem.W.Frag) (U C : Addr) (T : List (Addr × Str)) : Sp := fun vs H Q _ => ∃ (u o q : Addr) (nm : Str) (ls od : List Str) (l : List (Str × Int)), vs = [.ref u, .ref o] ∧ UseAt K U C H u nm ls q (l.map (·.1)) (l.map (·.2)) ∧ Good l ls.length ∧ ls.length ≤ 3 ∧ ls.Nodup ∧
  (SqL K H o (od.map V.str) ∨ SqT K H o (od.map V.str)) ∧ od.length ≤ 100 ∧ (∀ x ∈ ls, x ∈ od) ∧ Tabs T H ∧
  ∀ (p q' : Addr) (H' : Hp), ExtN H H' → Tabs T H' → UseAt K U C H' p nm ls q' ((tform l ls od).map (·.1)) ((tform l ls od).map (·.2)) → Q (.ref p) H'
section
variable {P : Program} {w : World} {K : PySem.W.Frag} {mg : Str → Option Value} {base : Heap} {U C fU fI BF AW KD gF f c1 P1 : Addr} {MC : Value} {dU dF : FuncData} {T : List (Addr × Str)}
theorem ok_turned {oc kV doc pm ct : Value} {od an : Option Addr} {osl : Array (Option Value)} (lk : K.lookup f = some ⟨oc, od, .func (PySem.W.fnOf "turned" "turned" (defArgs s_turned) (defBody s_turned) (defScope s_turned) .none kV doc pm an (.ref c1) ct), osl⟩) (hcd : PySem.W.codeIn K (.ref c1) "turned" = true)
    (TB : TabB base mg c1 P1) (hT : (P1, qTurned) ∈ T) (hu : ∀ p ∈ T, p.1 = P1 → p.2 = qTurned) (B : Bt mg) (B2 : Bx mg) (Uc : Us K U C)
    (GF : FnOk P w K mg base CX0 2 gF dF ["worth"] (spFrzS K)) (bF : Binds K dF ["worth"] []) (kF : PySem.W.keepIn K (.ref gF) = true) (mF : mg "frozen" = some (.ref gF))
    (MU : Mk K U fU) (GU : FnOk P w K mg base CX0 3 fU dU ["self", "name", "letters", "form"] (spUini K U C)) (bU : Binds K dU ["self", "name", "letters", "form"] []) (mU : mg "Use" = some (.ref U))
    (Fc : Fm K mg C fI BF AW KD MC) (FI : FnF P w K mg base (L2.CX P w) 3 fI "axes" .non (spInit K C BF)) :
    FnOk P w K mg base CX0 6 f (PySem.W.fnOf "turned" "turned" (defArgs s_turned) (defBody s_turned) (defScope s_turned) .none kV doc pm an (.ref c1) ct) ["use", "order"] (spTurned K U C T) := by
  refine fn_of lk hcd sc_turned (fun vs H Q E h => ?_) fun A outer s H vs Q E hr h => ?_
  · obtain ⟨u, o, q, nm, ls, od, l, rfl, _⟩ := h
    rfl
  have fin : ∃ t, PSs (cxOf CX0 P w K mg base n_turned "turned" (defScope s_turned) f (.ref c1) A outer s H E).nox (defBody s_turned) t ∧ t { nx := fun _ H' => Q .non H', rt := Q } (start n_turned vs) H := by
    obtain ⟨u, o, q, nm, ls, od, l, rfl, hU, hg, hl3, hn, ho, hol, hin, hT0, k⟩ := h
    obtain ⟨du, tl, hu1, htl, hq⟩ := hU
    refine ⟨_, (pss_cons (ps_set (i := 2) sc_turned.nd rfl (Or.inr rfl) (pe_call GF (hr.mono (by decide)) rfl mF kF bF .nil pass0 (pa_cons (pv 1) pa_nil)))
      (pss_cons (ps_set (i := 3) sc_turned.nd rfl (Or.inl rfl) (pe_srtX (T := T) (i := 2) (sq := "sequence") (a := "letter") (hr.mono (by decide)) (pe_fld (pv 0) rfl) (by rfl) B2.sorted TB rfl hT hu (lamS1_by (by show lamS1B (defScope s_turned) _ _ = true; decide +kernel)) rfl (fun _ _ _ _ _ _ => rfl) rfl rfl))
      (pss_cons (ps_setLc (i := 4) (own := [("letter", 5)]) (g := (gName 5)) (tt := tYes) (te := tIxZ K (tFld K (tVar 0) "letters") (tCons (tVar 5) tNil)) rfl sc_turned.nd rfl rfl (sw_true rfl rfl rfl (by decide +kernel)) (pi_list (pv 3)) (blkOk_by (N := n_turned) (sc := defScope s_turned) (by decide +kernel)) (fun _ _ _ _ _ => (pg_name (i := 5) sc_turned.nd rfl (Or.inl rfl))) (fun _ _ _ _ _ => pts_nil) (fun _ _ _ _ _ => (pe_ixZ (pe_fld (pv 0) rfl) (pa_cons (pv 5) pa_nil))))
      (pss_cons (ps_set (i := 6) sc_turned.nd rfl (Or.inl rfl) (pe_fld (pe_fld (pv 0) rfl) rfl))
      (pss_one (ps_ret (pe_make MU GU (hr.mono (by decide)) (by rfl) mU bU .nil pass0 (pa_cons (pe_fld (pv 0) rfl) (pa_cons (pe_fld (pv 0) rfl) (pa_cons (pe_Fsk Fc.mkC FI (hr.mono (by decide)) (by rfl) Fc.mC (passL (X := (cxOf CX0 P w K mg base n_turned "turned" (defScope s_turned) f (.ref c1) A outer s H E).nox)) (pv 6) (pv 4)) pa_nil)))))))))), ?_⟩
    refine ⟨_, rfl, o, od, rfl, ho, by omega, fun t H1 g1 n1 ht1 => ?_⟩
    refine ⟨_, rfl, u, U, du, _, _, rfl, g1 _ _ hu1, Uc.cl, Uc.nL, rfl, tl, t, ls, od, rfl, tzS g1 htl, rfl, ht1, hin, by omega, hT0.ext g1, fun a H2 e2 T2 ha2 => ?_⟩
    have e02 : ExtN H H2 := (ExtN.of g1).trans e2
    have hu2 := e02 _ _ hu1 (fun _ z => by cases z)
    have htl2 := tzE e02 htl
    have hq2 := hq.ext e02
    generalize hms : ls.mergeSort (byPlace od) = ms at ha2
    have hml : ms.length = ls.length := by rw [← hms, List.length_mergeSort]
    have hmm : ∀ x ∈ ms, x ∈ ls := fun x hx => by
      rw [← hms] at hx
      exact List.mem_mergeSort.mp hx
    have htx : tax ls od = ms.map fun x => (ls.idxOf x : Int) := by
      unfold tax
      rw [hms]
    refine ⟨_, rfl, a, rfl, ⟨_, SqL.of ha2⟩, fun D hD => ?_⟩
    refine lc_list (K := K) (a := a) (xs := ms.map V.str) (InvM H2 D (fun x : Str => V.int (ls.idxOf x : Int)) ms) ⟨upd_same, same_new hD _⟩ (fun i H' _ ⟨_, g⟩ => SqL.of (g _ _ ha2)) (fun i x H' hx hv => ?_) ?_
    · obtain ⟨z, ez, rfl⟩ := at_map hx
      have zl : z ∈ ls := hmm z (List.mem_of_getElem? ez)
      obtain ⟨i1, i2⟩ := idx_at zl
      refine ⟨rfl, kept ⟨_, rfl, u, U, du, _, _, rfl, hv.2 _ _ hu2, Uc.cl, Uc.nL, rfl, ⟨tl, _, rfl, tzS hv.2 htl2⟩, _, rfl, tl, ls, z, ls.idxOf z, rfl, rfl, (tzS hv.2 htl2).seq, i1, i2, ?_⟩⟩
      exact ⟨_, hv.1, len_m (by omega), InvM.next (f := fun x : Str => V.int (ls.idxOf x : Int)) hD hv.2 ez _ rfl⟩
    rintro H3 ⟨hd3, g3⟩
    rw [List.length_map, List.take_of_length_le (Nat.le_refl _)] at hd3
    have hd3' : H3 D = some (.lst ((tax ls od).map V.int)) := by rw [hd3, htx, List.map_map] <;> rfl
    have hu3 := g3 _ _ hu2
    have htl3 := tzS g3 htl2
    have hq3 := hq2.same g3
    obtain ⟨dq, tk, ta, hq1, hqk, hqa⟩ := id hq3
    have hvl : valid (l.map (·.1)) (tax ls od) = true := by
      have z := iota_valid (tform_good (od := od) hg hn) hl3
      rw [tform_1 hg.1, tform_2 hg.1] at z
      exact z
    have hll : (l.map (·.1)).length = ls.length := by rw [List.length_map, hg.1]
    refine ⟨_, rfl, u, U, du, _, _, rfl, hu3, Uc.cl, Uc.nF, rfl, q, C, dq, _, _, rfl, hq1, Uc.clC, Uc.nK, flds_k _ _, ?_⟩
    refine ⟨_, rfl, u, U, du, _, _, rfl, hu3, Uc.cl, Uc.nN, rfl, _, rfl, u, U, du, _, _, rfl, hu3, Uc.cl, Uc.nL, rfl, _, rfl, _, rfl, tk, _, rfl, .inl hqk, by rw [List.length_map]; exact Nat.le_of_lt (small1000 (by omega)), ?_⟩
    refine mk_form (BF := BF) (ks := l.map (·.1)) (is := tax ls od) (by omega) (by rw [tax_len]; omega) (.inr ⟨D, rfl, .inl (SqL.of hd3')⟩) (fun _ pf H4 g4 hpf => ?_) (fun z => by rw [hvl] at z; cases z)
    intro x dx nx ndx ne
    have g5 : Same H4 (upd (upd H4 dx (.own x)) x (.ins U dx [])) := fun b o e => by rw [upd_ne (ne_of_none e nx), upd_ne (ne_of_none e ndx)]; exact e
    refine ⟨x, dx, tl, pf, nm, ls, l.map (·.1), tax ls od, rfl, upd_same, .inr (tzS g5 (tzS g4 htl3)).seq, by omega, hn, hpf.same g5, hll, fun H6 tl' k6 h6 ht6 => ⟨rfl, ?_⟩⟩
    have g6 : Same H4 H6 := fun b o e => k6 b o (ne_of_none e nx) (g5 _ _ e)
    have e26 : Same H2 H6 := g3.trans (g4.trans g6)
    refine k x pf H6 (e02.trans (ExtN.of e26)) (T2.ext e26) ?_
    rw [tform_1 hg.1, tform_2 hg.1]
    exact ⟨dx, tl', h6, ht6, hpf.same g6⟩
  obtain ⟨t, ht, hq⟩ := fin
  exact ⟨t, ht.nox, hq⟩
end
end Lw
namespace Lw
open PySem L2 LamX TzR TL
abbrev s_l_use_built : Stmt := topS 22
theorem sc_l_use_built : FnScope ["_law_use"] ["_law_use"] (defScope s_l_use_built) := ⟨rfl, rfl, rfl, by decide +kernel, rfl, by decide +kernel, by decide +kernel⟩
def spUb (K : PySem.W.Frag) (U C : Addr) : Sp := fun vs H Q _ => ∃ (u : Addr) (nm : Str) (ls : List Str) (l : List (Str × Int)), vs = [.ref u] ∧ LuAt K H u nm ls l ∧ Good l ls.length ∧ ls.length ≤ 3 ∧ ls.Nodup ∧
  ∀ (p q : Addr) (H' : Hp), Same H H' → UseAt K U C H' p nm ls q (l.map (·.1)) (l.map (·.2)) → Q (.ref p) H'
section
variable {P : Program} {w : World} {K : PySem.W.Frag} {mg : Str → Option Value} {base : Heap} {U C fU fI BF AW KD gX gR pR f : Addr} {MC : Value} {dU dX fd : FuncData}
theorem ok_l_use_built (F : Fun K "_law_use_built" "_law_use_built" s_l_use_built f fd)
    (MU : Mk K U fU) (GU : FnOk P w K mg base CX0 3 fU dU ["self", "name", "letters", "form"] (spUini K U C)) (bU : Binds K dU ["self", "name", "letters", "form"] []) (mU : mg "Use" = some (.ref U))
    (GX : FnOk P w K mg base CX0 1 gX dX ["_law_form_here"] (spFtext K)) (bX : Binds K dX ["_law_form_here"] []) (kX : PySem.W.keepIn K (.ref gX) = true) (mX : mg "_law_form_text" = some (.ref gX))
    (T : Fm K mg C fI BF AW KD MC) (GR : FnR P w K mg base (L2.CX P w) 5 gR (spRead K C BF)) (cR : ClX.CMet K C MC "read" pR gR) :
    FnOk P w K mg base CX0 6 f fd ["_law_use"] (spUb K U C) := by
  refine F.ok sc_l_use_built (fun vs H Q E h => ?_) (fun cdv A outer s H vs Q E hr h => ?_)
  · obtain ⟨u, nm, ls, l, rfl, _⟩ := h
    rfl
  obtain ⟨u, nm, ls, l, rfl, ⟨tl, tf, us, h1, h2, h3, h4⟩, hg, hl, hn, k⟩ := h
  refine ⟨_, (pss_one (ps_ret (pe_make MU GU (hr.mono (by decide)) (by rfl) mU bU .nil pass0 (pa_cons (pe_ix ix_tup (pv 0) pe_int (fun _ _ => rfl)) (pa_cons (pe_ix ix_tup (pv 0) pe_int (fun _ _ => rfl)) (pa_cons (ClX.pe_cmeth (E := E0) (pe_glob (v := .ref C) (by rfl) T.mC rfl) T.cr cR GR (hr.mono (by decide)) (passL (X := (cxOf CX0 P w K mg base ["_law_use"] "_law_use_built" (defScope s_l_use_built) f cdv A outer s H E).nox)) (pa_cons (pe_call GX (hr.mono (by decide)) rfl mX kX bX .nil pass0 (pa_cons (pe_ix ix_tup (pv 0) pe_int (fun _ _ => rfl)) pa_nil)) pa_nil)) pa_nil)))))), ?_⟩
  have hv : valid (l.map (·.1)) (l.map (·.2)) = true := iota_valid hg hl
  refine ⟨_, rfl, u, _, (0 : Int), _, rfl, rfl, h1, atI_nat (j := 0) rfl, _, rfl, u, _, (1 : Int), _, rfl, rfl, h1, atI_nat (j := 1) rfl, ?_⟩
  refine ⟨rfl, _, rfl, u, _, (2 : Int), .ref tf, rfl, rfl, h1, atI_nat (j := 2) rfl, tf, us, l, _, rfl, h3, h4, hg, hl, fun H1 g1 => ?_⟩
  refine ⟨_, rfl, by have := (ftext_small hv).1; omega, fun ks is er pf H4 g4 hpf => ?_, fun z => by rw [rd_ftext hv] at z; cases z⟩
  rw [rd_ftext hv] at er
  cases er
  intro x dx nx ndx ne
  have g5 : Same H4 (upd (upd H4 dx (.own x)) x (.ins U dx [])) := fun b o e => by rw [upd_ne (ne_of_none e nx), upd_ne (ne_of_none e ndx)]; exact e
  refine ⟨x, dx, tl, pf, nm, ls, l.map (·.1), l.map (·.2), rfl, upd_same, .inr (seqT (g1.trans (g4.trans g5)) h2), by omega, hn, hpf.same g5, by rw [List.length_map, hg.1], fun H6 tl' k6 h6 ht6 => ⟨rfl, ?_⟩⟩
  have g6 : Same H4 H6 := fun b o e => k6 b o (ne_of_none e nx) (g5 _ _ e)
  exact k x pf H6 (g1.trans (g4.trans g6)) ⟨dx, tl', h6, ht6, hpf.same g6⟩
end
end Lw
namespace Lw
open PySem L2 LamX TzR ZiX
abbrev s_l_turned : Stmt := topS 23
abbrev n_l_turned : List Str := ["_law_use", "_law_order", "_law_sides", "_law_axis", "_law_letter", "_law_kind", "_law_side"]
theorem sc_l_turned : FnScope n_l_turned ["_law_use", "_law_order"] (defScope s_l_turned) := ⟨rfl, rfl, rfl, by decide +kernel, rfl, by decide +kernel, by decide +kernel⟩
def spTd (K : PySem.W.Frag) : Sp := fun vs H Q _ => ∃ (u o : Addr) (nm : Str) (ls od : List Str) (l : List (Str × Int)), vs = [.ref u, .ref o] ∧ LuAt K H u nm ls l ∧ Good l ls.length ∧ ls.length ≤ 3 ∧ ls.Nodup ∧ TzAt H o (od.map V.str) ∧ (∀ x ∈ ls, x ∈ od) ∧
  ∀ (p : Addr) (H' : Hp), Same H H' → LuAt K H' p nm ls (tform l ls od) → Q (.ref p) H'
/-- the two ints of a pair -/
def twoI (H : Hp) : V → Int × Int
  | .ref t => match H t with
    | some (.tup [.int a, .int b]) => (a, b)
    | _ => (0, 0)
  | _ => (0, 0)
theorem twoI_at {H : Hp} {t : Addr} {a b : Int} (h : H t = some (.tup [.int a, .int b])) : twoI H (.ref t) = (a, b) := by
  simp [twoI, h]
/-- the pairs so far -/
def InvP (H0 : Hp) (D : Addr) (zs : List (Int × Int)) (i : Nat) (H : Hp) : Prop := ∃ acc : List V, H D = some (.lst acc) ∧ acc.length = i ∧ (∀ (j : Nat) (v : V) (p : Int × Int), acc[j]? = some v → zs[j]? = some p → ∃ t, v = .ref t ∧ H t = some (.tup [.int p.1, .int p.2])) ∧ Same H0 H
/-- the pairs of the new form so far -/
def InvF (K : PySem.W.Frag) (H0 : Hp) (D : Addr) (l : List (Str × Int)) (i : Nat) (H : Hp) : Prop := ∃ acc : List V, H D = some (.lst acc) ∧ Tups K H acc (l.take i) ∧ Same H0 H
section
variable {P : Program} {w : World} {K : PySem.W.Frag} {mg : Str → Option Value} {base : Heap} {f : Addr} {fd : FuncData}
theorem ok_l_turned (F : Fun K "_law_turned" "_law_turned" s_l_turned f fd) (B : Bt mg) (B2 : Bx mg) : FnOk P w K mg base CX0 1 f fd ["_law_use", "_law_order"] (spTd K) := by
  refine F.ok sc_l_turned (fun vs H Q E h => ?_) (fun cdv A outer s H vs Q E hr h => ?_)
  · obtain ⟨u, o, nm, ls, od, l, rfl, _⟩ := h
    rfl
  obtain ⟨u, o, nm, ls, od, l, rfl, ⟨tl, tf, us, h1, h2, h3, h4⟩, hg, hl, hn, ho, hin, k⟩ := h
  refine ⟨_, (pss_cons (ps_set (i := 2) sc_l_turned.nd rfl (Or.inl rfl) (pe_callB cr_sortedPO (by rfl) B2.sorted (by decide +kernel) (pa_cons (pe_lc (own := [("_law_axis", 3), ("_law_letter", 4)]) (g := (gTup K 2 (gCons (gName 3) (gCons (gName 4) gNil)))) (tt := tYes) (te := tTup (tCons (tIxZ K (tVar 1) (tCons (tVar 4) tNil)) (tCons (tVar 3) tNil))) rfl sc_l_turned.nd (EnT.pi_enumT (by rfl) B2.enum (pa_cons (pe_ix ix_tup (pv 0) pe_int (fun _ _ => rfl)) pa_nil)) (blkOk_by (N := n_l_turned) (sc := defScope s_l_turned) (by decide +kernel)) (fun _ _ _ _ _ => (pg_tup rfl (pgs_cons (pg_name (i := 3) sc_l_turned.nd rfl (Or.inl rfl)) (pgs_cons (pg_name (i := 4) sc_l_turned.nd rfl (Or.inl rfl)) pgs_nil)))) (fun _ _ _ _ _ => pts_nil) (fun _ _ _ _ _ => (pe_tup (pa_cons (pe_ixZ (pv 1) (pa_cons (pv 4) pa_nil)) (pa_cons (pv 3) pa_nil))))) pa_nil)))
(pss_one (ps_ret (pe_tup (pa_cons (pe_ix ix_tup (pv 0) pe_int (fun _ _ => rfl)) (pa_cons (pe_ix ix_tup (pv 0) pe_int (fun _ _ => rfl)) (pa_cons (pe_callTy call_tuple_of (by rfl) B.tup (by decide +kernel) (pa_cons (pe_lc (own := [("_law_side", 6), ("_law_kind", 5), ("_law_axis", 3)]) (g := (gTup K 2 (gCons (gTup K 2 (gCons (gName 5) (gCons (gName 3) gNil))) (gCons (gName 6) gNil)))) (tt := tYes) (te := tTup (tCons (tVar 5) (tCons (tOp (rIxT K) (tVar 6) (tC (.int 1))) tNil))) rfl sc_l_turned.nd (pi_zipX (by rfl) B.zip (pa_cons (pe_ix ix_tup (pv 0) pe_int (fun _ _ => rfl)) (pa_cons (pv 2) pa_nil))) (blkOk_by (N := n_l_turned) (sc := defScope s_l_turned) (by decide +kernel)) (fun _ _ _ _ _ => (pg_tup rfl (pgs_cons (pg_tup rfl (pgs_cons (pg_name (i := 5) sc_l_turned.nd rfl (Or.inl rfl)) (pgs_cons (pg_name (i := 3) sc_l_turned.nd rfl (Or.inl rfl)) pgs_nil))) (pgs_cons (pg_name (i := 6) sc_l_turned.nd rfl (Or.inl rfl)) pgs_nil)))) (fun _ _ _ _ _ => pts_nil) (fun _ _ _ _ _ => (pe_tup (pa_cons (pv 5) (pa_cons (pe_ix ix_tup (pv 6) pe_int (fun _ _ => rfl)) pa_nil))))) pa_nil)) pa_nil))))))), ?_⟩
  have hlen : (ls.map V.str).length = ls.length := List.length_map _
  refine ⟨_, rfl, u, _, (1 : Int), .ref tl, rfl, rfl, h1, atI_nat (j := 1) rfl, tl, _, rfl, h2, fun D hD => ?_⟩
  have gD := same_new hD (.lst [])
  have np : (prs ls od).length = ls.length := List.length_map _
  refine lc_it (walk_enT (K := K) (a := tl) (xs := ls.map V.str)) (InvP H D (prs ls od)) ⟨[], upd_same, rfl, fun j v p e => by simp at e, gD⟩ (fun i H' _ ⟨_, _, _, _, g⟩ => seqT g h2) (fun i x H1 H2 hi hv hy => ?_) ?_
  · obtain ⟨T, x', rfl, hT, rfl, hx⟩ := hy
    obtain ⟨acc, hd, ha, hacc, g⟩ := hv
    obtain ⟨z, ez, rfl⟩ := at_map hx
    have zl : z ∈ ls := List.mem_of_getElem? ez
    obtain ⟨i1, i2⟩ := idx_at (hin z zl)
    have gT := same_new hT (.tup [.int (i : Nat), .str z])
    have g2 := g.trans gT
    refine ⟨T, _, rfl, SqT.of upd_same, rfl, _, _, rfl, _, _, rfl, rfl, rfl, kept ?_⟩
    refine ⟨_, rfl, ⟨o, _, rfl, tzS g2 ho⟩, _, rfl, o, od, z, od.idxOf z, rfl, rfl, (tzS g2 ho).seq, i1, i2, _, rfl, (by show 2 ≤ sizeLine; decide), fun pp hp => ?_⟩
    have gp := same_new hp (.tup [.int ((od.idxOf z : Nat) : Int), .int (i : Nat)])
    have hd3 := gp _ _ (gT _ _ hd)
    have hin' : i < ls.length := (List.getElem?_eq_some_iff.mp ez).1
    refine ⟨acc, hd3, small1000 (by omega), acc ++ [.ref pp], upd_same, by rw [List.length_append, ha] <;> rfl, fun j v p e1 e2 => ?_, same_over (g2.trans gp) hD _⟩
    have nD : ∀ {t : Addr} {ws : List V}, (upd (upd H1 T (.tup [.int (i : Nat), .str z])) pp (.tup [.int ((od.idxOf z : Nat) : Int), .int (i : Nat)])) t = some (.tup ws) → t ≠ D := fun {t ws} e q => by
      rw [q, hd3] at e
      cases e
    by_cases hj : j < i
    · rw [List.getElem?_append_left (by omega)] at e1
      obtain ⟨t, e, ht⟩ := hacc j v p e1 e2
      have ht3 := gp _ _ (gT _ _ ht)
      exact ⟨t, e, by rw [upd_ne (nD ht3)]; exact ht3⟩
    · rw [List.getElem?_append_right (by omega)] at e1
      have e3 : j - acc.length = 0 := by
        obtain ⟨h5, _⟩ := List.getElem?_eq_some_iff.mp e1
        simp at h5
        omega
      have ej : j = i := by omega
      rw [e3] at e1
      have e1 : V.ref pp = v := by simpa using e1
      rw [ej] at e2
      have e4 : (prs ls od)[i]? = some ((od.idxOf z : Int), (i : Int)) := by
        unfold prs
        rw [List.getElem?_map, ez]
        show some ((od.idxOf z : Int), (ls.idxOf z : Int)) = _
        rw [idx_nodup hn ez]
      rw [e4] at e2
      cases e2
      refine ⟨pp, e1.symm, ?_⟩
      rw [upd_ne (nD upd_same)]
      exact upd_same
  rintro H' ⟨acc, hd, ha, hacc, g⟩
  rw [hlen] at ha
  have at_ : ∀ (j : Nat) (v : V), acc[j]? = some v → ∃ t, v = .ref t ∧ H' t = some (.tup [.int (twoI H' v).1, .int (twoI H' v).2]) ∧ (prs ls od)[j]? = some (twoI H' v) := fun j v e => by
    have hj : j < (prs ls od).length := by rw [np, ← ha]; exact (List.getElem?_eq_some_iff.mp e).1
    obtain ⟨t, e2, ht⟩ := hacc j v _ e (List.getElem?_eq_getElem hj)
    subst e2
    rw [twoI_at ht]
    exact ⟨t, rfl, ht, List.getElem?_eq_getElem hj⟩
  have eacc : acc.map (twoI H') = prs ls od := by
    apply List.ext_getElem?
    intro j
    rw [List.getElem?_map]
    cases e : acc[j]? with
    | none =>
      have : acc.length ≤ j := List.getElem?_eq_none_iff.mp e
      rw [List.getElem?_eq_none (by rw [np]; omega)] <;> rfl
    | some v => exact (at_ j v e).choose_spec.2.2.symm
  have mem_ : ∀ v ∈ acc, ∃ t, v = .ref t ∧ H' t = some (.tup [.int (twoI H' v).1, .int (twoI H' v).2]) := fun v hv => by
    obtain ⟨j, e⟩ := List.mem_iff_getElem?.mp hv
    obtain ⟨t, a, b, _⟩ := at_ j v e
    exact ⟨t, a, b⟩
  refine ⟨D, acc, twoI H', rfl, SqL.of hd, mem_, fun ys p srt stb hp => ?_⟩
  have etax : ys.map (fun y => (twoI H' y).2) = tax ls od := by
    have z := sorted_prs (ls := ls) (od := od) hin (zs := ys.map (twoI H')) (List.pairwise_map.mpr srt) (by rw [← eacc]; exact stb.perm.map _)
    rw [List.map_map] at z
    exact z
  have memy : ∀ v ∈ ys, ∃ t, v = .ref t ∧ H' t = some (.tup [.int (twoI H' v).1, .int (twoI H' v).2]) := fun v hv => mem_ v (stb.perm.mem_iff.mp hv)
  have gp := same_new hp (.lst ys)
  have g1 := g.trans gp
  have hul : us.length = l.length := h4.1
  have hyl : ys.length = ls.length := by
    have z := congrArg List.length etax
    rw [List.length_map, tax_len] at z
    exact z
  have elen : us.length = ys.length := by rw [hul, hyl, hg.1]
  refine ⟨_, rfl, u, _, (0 : Int), .str nm, rfl, rfl, seqT g1 h1, atI_nat (j := 0) rfl, _, rfl, u, _, (1 : Int), .ref tl, rfl, rfl, seqT g1 h1, atI_nat (j := 1) rfl, _, rfl, u, _, (2 : Int), .ref tf, rfl, rfl, seqT g1 h1, atI_nat (j := 2) rfl, _, rfl, tf, p, us, ys, rfl, seqT g1 h3, SqL.of upd_same, fun D2 hD2 => ?_⟩
  have gD2 := same_new hD2 (.lst [])
  have hlt : (tform l ls od).length = ls.length := (tform_good (od := od) hg hn).1
  have hyp0 : (upd H' p (.lst ys)) p = some (.lst ys) := upd_same
  generalize hHp : upd H' p (.lst ys) = Hp' at *
  refine lc_it (walkX (K := K) (a := tf) (b := p) elen) (InvF K Hp' D2 (tform l ls od)) ⟨[], upd_same, ⟨rfl, fun i v p e => by simp at e⟩, gD2⟩ (fun i H2 _ ⟨_, _, _, g2⟩ => ⟨seqT (g1.trans g2) h3, SqL.of (g2 _ _ hyp0)⟩) (fun i x H2 H3 hi hv hy => ?_) ?_
  · obtain ⟨T, x1, y1, rfl, hT, rfl, hx, hy⟩ := hy
    obtain ⟨acc2, hd2, htup, g2⟩ := hv
    have hil : i < l.length := by omega
    have hx : us[i]? = some x1 := hx
    have hy : ys[i]? = some y1 := hy
    have ej := List.getElem?_eq_getElem hil
    obtain ⟨a, rfl, za⟩ := h4.2 i x1 _ hx ej
    obtain ⟨t, rfl, ht⟩ := memy y1 (List.mem_of_getElem? hy)
    have gT := same_new hT (.tup [.ref a, .ref t])
    have g3 := g2.trans gT
    have za3 := seqT (g1.trans g3) za
    have ht3 : SqT K (upd H2 T (.tup [.ref a, .ref t])) t [.int (twoI H' (.ref t)).1, .int (twoI H' (.ref t)).2] := SqT.of (g3 _ _ (gp _ _ ht))
    refine ⟨T, _, rfl, SqT.of upd_same, rfl, _, _, rfl, ⟨a, _, rfl, za3, rfl, _, _, rfl, _, _, rfl, rfl, _, _, rfl, rfl, rfl, kept ?_⟩⟩
    refine ⟨_, rfl, _, rfl, t, _, (1 : Int), .int (twoI H' (.ref t)).2, rfl, rfl, ht3, atI_nat (j := 1) rfl, (by show 2 ≤ sizeLine; decide), fun pp hp2 => ?_⟩
    have g4 := same_new hp2 (.tup [.str l[i].1, .int (twoI H' (.ref t)).2])
    have hd4 := g4 _ _ (gT _ _ hd2)
    have et : (tform l ls od)[i]? = some (l[i].1, (twoI H' (.ref t)).2) := by
      unfold tform
      refine List.getElem?_zip_eq_some.mpr ⟨by rw [List.getElem?_map, ej] <;> rfl, ?_⟩
      rw [← etax, List.getElem?_map, hy] <;> rfl
    have al : acc2.length = i := by rw [htup.1, List.length_take]; omega
    refine ⟨acc2, hd4, small1000 (by omega), acc2 ++ [.ref pp], upd_same, ?_, same_over (g3.trans g4) hD2 _⟩
    rw [List.take_succ, et]
    refine Tups.snoc (p := (l[i].1, (twoI H' (.ref t)).2)) (htup.mono ((TK.of (gT.trans g4)).trans (TK.lst hd4))) ?_
    exact SqT.of (by rw [upd_ne (fun e => by rw [e, upd_same] at hd4; cases hd4)]; exact upd_same)
  rintro H5 ⟨acc2, hd2, htup, g2⟩
  rw [List.take_of_length_le (by omega)] at htup
  refine ⟨D2, acc2, rfl, .inl ⟨SqL.of hd2, fun tt htt => ?_⟩⟩
  have g5 := same_new htt (.tup acc2)
  refine ⟨by show 3 ≤ sizeLine; decide, fun pp hp2 => ?_⟩
  have g6 := same_new hp2 (.tup [.str nm, .ref tl, .ref tt])
  have gg := g2.trans (g5.trans g6)
  exact k pp _ (g1.trans gg) ⟨tl, tt, acc2, SqT.of upd_same, seqT (g1.trans gg) h2, SqT.of (g6 _ _ upd_same), htup.mono (TK.of (g5.trans g6))⟩
end
end Lw
namespace Lw
open PySem L2 LamX TzR ZiX
abbrev s_l_resolved : Stmt := topS 20
abbrev n_l_resolved : List Str := ["_law_use", "_law_bound", "_law_letters_here", "_law_missing", "_law_k", "_law_letter"]
theorem sc_l_resolved : FnScope n_l_resolved ["_law_use", "_law_bound"] (defScope s_l_resolved) := ⟨rfl, rfl, rfl, by decide +kernel, rfl, by decide +kernel, by decide +kernel⟩
def spRes (K : PySem.W.Frag) : Sp := fun vs H Q _ => ∃ (u o : Addr) (nm : Str) (ls od : List Str) (l : List (Str × Int)), vs = [.ref u, .ref o] ∧ LuAt K H u nm ls l ∧ l.length ≤ 3 ∧ (∀ p ∈ l, 0 ≤ p.2 ∧ p.2 < (ls.length : Int)) ∧ SqL K H o (od.map V.str) ∧ (∀ p ∈ l, letAt ls p ∈ od) ∧
  ∀ H' : Hp, Same H H' → Q (.int (l.length : Nat)) H'
theorem at_mapG {α β : Type} {g : α → β} {l : List α} {i : Nat} {x : β} (h : (l.map g)[i]? = some x) : ∃ a, l[i]? = some a ∧ x = g a := by
  rw [List.getElem?_map] at h
  cases e : l[i]? with
  | none => rw [e] at h; cases h
  | some a =>
    rw [e] at h
    exact ⟨a, rfl, (Option.some.inj h).symm⟩
section
variable {P : Program} {w : World} {K : PySem.W.Frag} {mg : Str → Option Value} {base : Heap} {f gL : Addr} {fd dL : FuncData}
theorem ok_l_resolved (F : Fun K "_law_resolved" "_law_resolved" s_l_resolved f fd) (B : Bt mg) (B2 : Bx mg) (GL : FnOk P w K mg base CX0 1 gL dL ["_law_use"] (spLvl K)) (bL : Binds K dL ["_law_use"] []) (kL : PySem.W.keepIn K (.ref gL) = true) (mL : mg "_law_level_letters" = some (.ref gL)) :
    FnOk P w K mg base CX0 2 f fd ["_law_use", "_law_bound"] (spRes K) := by
  refine F.ok sc_l_resolved (fun vs H Q E h => ?_) (fun cdv A outer s H vs Q E hr h => ?_)
  · obtain ⟨u, o, nm, ls, od, l, rfl, _⟩ := h
    rfl
  obtain ⟨u, o, nm, ls, od, l, rfl, hU, hl, hp, ho, hin, k⟩ := h
  refine ⟨_, (pss_cons (ps_set (i := 2) sc_l_resolved.nd rfl (Or.inl rfl) (pe_call GL hr rfl mL kL bL .nil pass0 (pa_cons (pv 0) pa_nil)))
(pss_cons (ps_setLc (i := 3) (own := [("_law_k", 4), ("_law_letter", 5)]) (g := (gTup K 2 (gCons (gName 4) (gCons (gName 5) gNil)))) (tt := tTest (tOp (rIn K true) (tVar 5) (tVar 1))) (te := tVar 4) rfl sc_l_resolved.nd rfl rfl (sw_true rfl rfl rfl (by decide +kernel)) (pi_enum (by rfl) B2.enum (pa_cons (pv 2) pa_nil)) (blkOk_by (N := n_l_resolved) (sc := defScope s_l_resolved) (by decide +kernel)) (fun _ _ _ _ _ => (pg_tup rfl (pgs_cons (pg_name (i := 4) sc_l_resolved.nd rfl (Or.inl rfl)) (pgs_cons (pg_name (i := 5) sc_l_resolved.nd rfl (Or.inl rfl)) pgs_nil)))) (fun _ _ _ _ _ => (pts_one (pt_cmpR op_notIn_seq (pv 5) (pv 1) (by rfl)))) (fun _ _ _ _ _ => (pv 4)))
(pss_one (ps_ret (pe_ifExp (pt_cmpR (op_neD hr.units) (pv 3) (pe_lst pa_nil) (nomark _)) (pe_ix ix_list (pv 3) pe_int (fun _ _ => rfl)) (pe_callB call_len_seq (by rfl) B.len PySem.boot_len (pa_cons (pv 2) pa_nil))))))), ?_⟩
  refine ⟨_, rfl, u, nm, ls, l, rfl, hU, hl, hp, fun D H1 g1 hD0 hD => ?_⟩
  have ho1 := g1.seq ho
  refine ⟨_, rfl, D, _, rfl, SqL.of hD, fun M hM => ?_⟩
  have gM := same_new hM (.lst [])
  refine lc_it (walk_enL (K := K) (a := D) (xs := (l.map (letAt ls)).map V.str)) (fun _ H' => H' M = some (.lst []) ∧ Same H1 H') ⟨upd_same, gM⟩ (fun i H' _ ⟨_, g⟩ => SqL.of (g _ _ hD)) (fun i x H2 H3 hi hv hy => ?_) ?_
  · obtain ⟨T, x', rfl, hT, rfl, hx⟩ := hy
    obtain ⟨z, ez, rfl⟩ := at_map hx
    obtain ⟨pz, epz, rfl⟩ := at_mapG ez
    have zin := hin pz (List.mem_of_getElem? epz)
    have gT := same_new hT (.tup [.int (i : Nat), .str (letAt ls pz)])
    refine ⟨T, _, rfl, SqT.of upd_same, rfl, _, _, rfl, _, _, rfl, rfl, rfl, ?_⟩
    refine ⟨_, rfl, _, rfl, o, od.map V.str, rfl, .inl ((hv.2.trans gT).seq ho1), rfl, flat_strs' od, false, ?_, ?_⟩
    · rw [in_strs, decide_eq_true zin] <;> rfl
    · exact iteN rfl ⟨gT _ _ hv.1, hv.2.trans gT⟩
  rintro H2 ⟨hm, g2⟩
  refine ⟨_, rfl, (by show 0 ≤ sizeLine; decide), fun e he => ?_⟩
  have ge := same_new he (.lst [])
  refine ⟨.list [], .list [], .lst (SqL.of (ge _ _ hm)) .nil, .lst (SqL.of upd_same) .nil, by decide +kernel, by decide +kernel, _, rfl, ?_⟩
  refine iteN (by decide +kernel) ?_
  refine ⟨_, rfl, D, _, rfl, .inl (SqL.of (ge _ _ (g2 _ _ hD))), ?_⟩
  rw [List.length_map, List.length_map]
  exact k _ (g1.trans (g2.trans ge))
end
end Lw
namespace Lw
open PySem L2 LamX TzR ZiX
abbrev s_l_fits : Stmt := topS 21
abbrev n_l_fits : List Str := ["_law_use", "_law_order", "_law_letters_here", "_law_level", "_law_upper"]
theorem sc_l_fits : FnScope n_l_fits ["_law_use", "_law_order"] (defScope s_l_fits) := ⟨rfl, rfl, rfl, by decide +kernel, rfl, by decide +kernel, by decide +kernel⟩
def spFit (K : PySem.W.Frag) : Sp := fun vs H Q _ => ∃ (u o : Addr) (nm : Str) (ls od : List Str) (l : List (Str × Int)), vs = [.ref u, .ref o] ∧ LuAt K H u nm ls l ∧ l.length ≤ 3 ∧ (∀ p ∈ l, 0 ≤ p.2 ∧ p.2 < (ls.length : Int)) ∧ SqL K H o (od.map V.str) ∧ (∀ p ∈ l, letAt ls p ∈ od) ∧
  (l.map (letAt ls)).Pairwise (fun a b => byPlace od a b = true) ∧ ∀ H' : Hp, Same H H' → Q (.bl true) H'
/-- l.index(x) of texts -/
theorem ix_str {od : List Str} {x : Str} (h : x ∈ od) : ∃ z : V, (od.map V.str)[od.idxOf x]? = some z ∧ eqV z (.str x) = true ∧ ∀ (m : Nat) (z' : V), m < od.idxOf x → (od.map V.str)[m]? = some z' → eqV z' (.str x) = false := by
  obtain ⟨i1, i2⟩ := idx_at h
  refine ⟨.str x, by rw [List.getElem?_map, i1] <;> rfl, beq_self_eq_true x, fun m z' hm e => ?_⟩
  obtain ⟨y, ey, rfl⟩ := at_map e
  show (y == x) = false
  exact beq_eq_false_iff_ne.mpr fun q => i2 m hm (by rw [ey, q])
section
variable {P : Program} {w : World} {K : PySem.W.Frag} {mg : Str → Option Value} {base : Heap} {f gL gR : Addr} {fd dL dR : FuncData}
theorem ok_l_fits (F : Fun K "_law_fits" "_law_fits" s_l_fits f fd) (B : Bt mg) (GL : FnOk P w K mg base CX0 1 gL dL ["_law_use"] (spLvl K)) (bL : Binds K dL ["_law_use"] []) (kL : PySem.W.keepIn K (.ref gL) = true) (mL : mg "_law_level_letters" = some (.ref gL))
    (GR : FnOk P w K mg base CX0 2 gR dR ["_law_use", "_law_bound"] (spRes K)) (bR : Binds K dR ["_law_use", "_law_bound"] []) (kR : PySem.W.keepIn K (.ref gR) = true) (mR : mg "_law_resolved" = some (.ref gR)) :
    FnOk P w K mg base CX0 3 f fd ["_law_use", "_law_order"] (spFit K) := by
  refine F.ok sc_l_fits (fun vs H Q E h => ?_) (fun cdv A outer s H vs Q E hr h => ?_)
  · obtain ⟨u, o, nm, ls, od, l, rfl, _⟩ := h
    rfl
  obtain ⟨u, o, nm, ls, od, l, rfl, hU, hl, hp, ho, hin, hs, k⟩ := h
  refine ⟨_, (pss_cons (ps_set (i := 2) sc_l_fits.nd rfl (Or.inl rfl) (pe_call GL (hr.mono (by decide)) rfl mL kL bL .nil pass0 (pa_cons (pv 0) pa_nil)))
(pss_cons (ps_for PassesOwn.never rfl (pi_range1 (by rfl) B.range (pa_cons (pe_call GR (hr.mono (by decide)) rfl mR kR bR .nil pass0 (pa_cons (pv 0) (pa_cons (pv 1) pa_nil))) pa_nil)) (pg_name (i := 3) sc_l_fits.nd rfl (Or.inl rfl))
(pss_one (ps_if (pt_cmpR op_eq (pe_ix ix_tup (pe_ix ix_tup (pe_ix ix_tup (pv 0) pe_int (fun _ _ => rfl)) (pv 3) (fun _ _ => rfl)) pe_int (fun _ _ => rfl)) pe_str (nomark _))
(pss_one (ps_for PassesOwn.never rfl (pi_list (pe_slice sl_list (pv 2) po_none (po_some (pv 3)))) (pg_name (i := 4) sc_l_fits.nd rfl (Or.inl rfl))
(pss_one (ps_if (pt_cmpR op_gt (pe_bm PySem.F.plainAttrs_list PySem.F.slot_list_index PySem.F.type_list_index mt_index (pv 1) (pa_cons (pv 4) pa_nil)) (pe_bm PySem.F.plainAttrs_list PySem.F.slot_list_index PySem.F.type_list_index mt_index (pv 1) (pa_cons (pe_ix ix_list (pv 2) (pv 3) (fun _ _ => rfl)) pa_nil)) (nomark _))
(pss_one (ps_ret pe_bl)) pss_nil)))) pss_nil)))
(pss_one (ps_ret pe_bl)))), ?_⟩
  refine ⟨_, rfl, u, nm, ls, l, rfl, hU, hl, hp, fun D H1 g1 hD0 hD => ?_⟩
  have hU1 : LuAt K H1 u nm ls l := hU.mono (TK.of g1)
  refine ⟨_, rfl, _, rfl, u, o, nm, ls, od, l, rfl, hU1, hl, hp, g1.seq ho, hin, fun H2 g2 => ?_⟩
  refine ⟨(l.length : Int), rfl, by omega, by omega, for_range (n := l.length) (fun i σ H' => (∃ u3 u4 : Option V, σ = [some (.ref u), some (.ref o), some (.ref D), u3, u4]) ∧ Same H2 H') ⟨⟨_, _, rfl⟩, Same.refl H2⟩ ?_ ?_⟩
  · rintro i σ H3 hi ⟨⟨u3, u4, rfl⟩, g3⟩
    have g13 := g2.trans g3
    have g03 := g1.trans g13
    obtain ⟨tl, tf, us, h1, h2, h3, h4⟩ := hU
    have ej := List.getElem?_eq_getElem hi
    have hiu : i < us.length := by rw [h4.1]; exact hi
    obtain ⟨y, ey, zy⟩ := h4.2 i us[i] _ (List.getElem?_eq_getElem hiu) ej
    have eus : us[i]? = some (.ref y) := by rw [List.getElem?_eq_getElem hiu, ey]
    have eit : atI us (0 + (i : Int)) = some (.ref y) := by
      rw [Int.zero_add]
      exact atI_nat (j := i) eus
    have hD3 : H3 D = some (.lst ((l.map (letAt ls)).map V.str)) := g13 _ _ hD
    have elv : (l.map (letAt ls))[i]? = some (letAt ls l[i]) := by rw [List.getElem?_map, ej] <;> rfl
    have elt : atI ((l.map (letAt ls)).map V.str) (0 + (i : Int)) = some (.str (letAt ls l[i])) := by
      rw [Int.zero_add]
      exact atI_nat (j := i) (by rw [List.getElem?_map, elv] <;> rfl)
    refine ⟨_, rfl, u, _, (2 : Int), .ref tf, rfl, rfl, seqT g03 h1, atI_nat (j := 2) rfl, _, rfl, tf, us, (0 + (i : Int)), .ref y, rfl, rfl, seqT g03 h3, eit, y, _, (0 : Int), .str l[i].1, rfl, rfl, seqT g03 zy, atI_nat (j := 0) rfl, rfl, _, rfl, ?_⟩
    refine ite2 (fun c => ?_) (fun c => ⟨⟨_, _, rfl⟩, g3⟩)
    refine ⟨_, rfl, _, rfl, _, rfl, D, _, rfl, SqL.of hD3, fun p hp => ?_⟩
    have ecut : cutV ((l.map (letAt ls)).map V.str) none (some (0 + (i : Int))) = ((l.map (letAt ls)).take i).map V.str := by
      rw [Int.zero_add, cut_take _ _ (by rw [List.length_map, List.length_map]; omega), List.map_take]
    rw [ecut]
    have gp := same_new hp (.lst (((l.map (letAt ls)).take i).map V.str))
    refine ⟨p, rfl, ⟨_, SqL.of upd_same⟩, for_list (K := K) (a := p) (xs := ((l.map (letAt ls)).take i).map V.str) (fun j σ' H' => (∃ u4 : Option V, σ' = [some (.ref u), some (.ref o), some (.ref D), some (.int (0 + (i : Int))), u4]) ∧ Same (upd H3 p (.lst (((l.map (letAt ls)).take i).map V.str))) H') ⟨⟨_, rfl⟩, Same.refl _⟩ (fun j σ' H' _ ⟨_, g⟩ => SqL.of (g _ _ upd_same)) ?_ (fun σ' H' ⟨⟨u4', e⟩, g⟩ => ⟨⟨_, _, e⟩, g3.trans (gp.trans g)⟩)⟩
    rintro j x σ' H4 hx ⟨⟨u4', rfl⟩, g4⟩
    obtain ⟨z, ez, rfl⟩ := at_map hx
    have hji : j < i := by
      have := (List.getElem?_eq_some_iff.mp ez).1
      rw [List.length_take] at this
      omega
    rw [List.getElem?_take, if_pos hji] at ez
    have g34 := gp.trans g4
    have ho4 := (g03.trans g34).seq ho
    have zin : z ∈ od := by
      obtain ⟨pz, epz, rfl⟩ := at_mapG ez
      exact hin pz (List.mem_of_getElem? epz)
    have lin : letAt ls l[i] ∈ od := hin _ (List.getElem_mem hi)
    have cmp : byPlace od z (letAt ls l[i]) = true := by
      obtain ⟨q1, q2⟩ := List.getElem?_eq_some_iff.mp ez
      obtain ⟨q3, q4⟩ := List.getElem?_eq_some_iff.mp elv
      have z5 := List.pairwise_iff_getElem.mp hs j i q1 q3 hji
      rw [q2, q4] at z5
      exact z5
    have cmp := of_decide_eq_true cmp
    obtain ⟨w1, a1, b1, c1⟩ := ix_str zin
    obtain ⟨w2, a2, b2, c2⟩ := ix_str lin
    refine ⟨_, rfl, .inl ⟨rfl, _, ho4⟩, _, rfl, o, od.map V.str, .str z, od.idxOf z, w1, rfl, rfl, ho4, rfl, flat_strs' od, a1, b1, c1, ?_⟩
    refine ⟨_, rfl, .inl ⟨rfl, _, ho4⟩, _, rfl, _, rfl, D, _, (0 + (i : Int)), _, rfl, rfl, SqL.of (g34 _ _ hD3), elt, o, od.map V.str, .str (letAt ls l[i]), od.idxOf (letAt ls l[i]), w2, rfl, rfl, ho4, rfl, flat_strs' od, a2, b2, c2, ?_⟩
    refine ⟨_, _, rfl, rfl, _, rfl, ?_⟩
    refine iteN (decide_eq_false (by omega)) ?_
    exact ⟨⟨_, rfl⟩, g4⟩
  · rintro σ H3 ⟨_, g3⟩
    exact k H3 (g1.trans (g2.trans g3))
end
end Lw
namespace Lw
open PySem L2 LamX TzR ZiX TL
/-- a def that the law calls -/
structure Ca (P : Program) (w : World) (K : PySem.W.Frag) (mg : Str → Option Value) (base : Heap) (n : Nat) (x : Str) (ps : List Str) (sp : Sp) : Prop where
  ex : ∃ (g : Addr) (gd : FuncData), FnOk P w K mg base CX0 n g gd ps sp ∧ Binds K gd ps [] ∧ PySem.W.keepIn K (.ref g) = true ∧ mg x = some (.ref g)
section
variable {X : Cx} {k j : Nat} {x : Str} {ps : List Str} {sp : Sp} {p pos : Pos} {e : Expr} {es : List Expr} {t : TA}
theorem pca (c : Ca X.prog X.w X.K X.mg X.base k x ps sp) (hr : Room j X.A) (hk : k ≤ j) (hg : Gl X x) (ha : PA X (e :: es) t)
    (hdb : (x == ("__debug__" : Str)) = false := by decide) (he : starEach (e :: es) X.env = (false, eval e X.env) :: starEach es X.env := by rfl) (hpl : (backTo pos (starEach es X.env)).any (·.1) = false := by rfl) :
    PE X (.Call (.Name x p) (e :: es) [] pos) (tCall sp [] E0 t) := by
  obtain ⟨f, fd, F, b, kp, hm⟩ := c.ex
  exact pe_call F (hr.mono hk) hg hm kp b .nil pass0 ha hdb he hpl
end
theorem tabs_sx {T : List (Addr × Str)} {H H' : Hp} {st q : Addr} {b : Int} (s : Spr H st q b) (g : SX st q H H') (t : Tabs T H) : Tabs T H' := fun p hp => by
  obtain ⟨ns, a, c, z1, z2, _⟩ := s
  have key : ∀ (x : Addr) (o : HO), (∀ xs, o ≠ .lst xs) → H x = some o → H' x = some o := fun x o no e => g x o (fun z => by rw [z, z1] at e; exact no _ (Option.some.inj e).symm) (fun z => by rw [z, z2] at e; exact no _ (Option.some.inj e).symm) e
  obtain ⟨ps, e1, e2, e3⟩ := t p hp
  refine ⟨ps, key _ _ (fun xs z => by cases z) e1, e2, fun pos cv hc => ?_⟩
  obtain ⟨c', e4, e5⟩ := e3 pos cv hc
  exact ⟨c', e4, key _ _ (fun xs z => by unfold CodeO at z; cases z) e5⟩
theorem spr_ext {H H' : Hp} {st q : Addr} {b : Int} (g : ExtN H H') : Spr H st q b → Spr H' st q b
  | ⟨ns, a, c, h1, h2, r⟩ => ⟨ns, a, c, g _ _ h1 (fun _ z => by cases z), g _ _ h2 (fun _ z => by cases z), r⟩
theorem useSx {K : PySem.W.Frag} {U C st sq : Addr} {H H' : Hp} {b : Int} {p q : Addr} {nm : Str} {ls ks : List Str} {is : List Int} (s : Spr H st sq b) (g : SX st sq H H') : UseAt K U C H p nm ls q ks is → UseAt K U C H' p nm ls q ks is
  | ⟨dx, tl, h1, ⟨o, h2, z⟩, ⟨dy, tk, ta, h3, h4, h5⟩⟩ => by
    obtain ⟨ns, a, c, z1, z2, _⟩ := id s
    have key : ∀ (x : Addr) (o : HO), (∀ xs, o ≠ .lst xs) → H x = some o → H' x = some o := fun x o no e => g x o (fun z => by rw [z, z1] at e; exact no _ (Option.some.inj e).symm) (fun z => by rw [z, z2] at e; exact no _ (Option.some.inj e).symm) e
    exact ⟨dx, tl, key _ _ (fun _ z => by cases z) h1, ⟨o, key _ _ (fun _ z => by cases z) h2, z⟩, ⟨dy, tk, ta, key _ _ (fun _ z => by cases z) h3, TK.sx s g _ _ h4, TK.sx s g _ _ h5⟩⟩
theorem TK.ext {K : PySem.W.Frag} {H H' : Hp} (g : ExtN H H') : TK K H H' := fun b xs h => SqT.ext g h
theorem tform_let {l : List (Str × Int)} {ls od : List Str} (e : l.length = ls.length) : (tform l ls od).map (letAt ls) = ls.mergeSort (byPlace od) := by
  have h1 : (tform l ls od).map (letAt ls) = ((tform l ls od).map (·.2)).map (fun i : Int => ls.getD i.toNat Str.empty) := by
    rw [List.map_map]
    rfl
  rw [h1, tform_2 e]
  unfold tax
  rw [List.map_map]
  refine (List.map_congr_left fun x hx => ?_).trans (List.map_id _)
  have hx' : x ∈ ls := List.mem_mergeSort.mp hx
  show ls.getD ((ls.idxOf x : Nat) : Int).toNat Str.empty = x
  rw [Int.toNat_natCast, List.getD_eq_getElem?_getD, (idx_at hx').1] <;> rfl
theorem place_sorted (ls od : List Str) : (ls.mergeSort (byPlace od)).Pairwise (fun a b => byPlace od a b = true) := List.pairwise_mergeSort (fun a b c h1 h2 => by
    have h1 := of_decide_eq_true h1
    have h2 := of_decide_eq_true h2
    exact decide_eq_true (by omega)) (fun a b => by
    unfold byPlace
    by_cases h : (od.idxOf a : Int) ≤ od.idxOf b
    · simp [h]
    · have h2 : (od.idxOf b : Int) ≤ od.idxOf a := by omega
      simp [h2]) ls
theorem sm_str {K : PySem.W.Frag} {H : Hp} {n : Nat} (z : Str) : Sm K H (n + 1) (.str z) (.str z) := .inr (.inl ⟨z, rfl, rfl⟩)
theorem sm_strs {K : PySem.W.Frag} {H : Hp} {n : Nat} {a b : Addr} {zs : List Str} (h1 : SqT K H a (zs.map V.str)) (h2 : SqT K H b (zs.map V.str)) (hl : zs.length ≤ 1000) : Sm K H (n + 2) (.ref a) (.ref b) := by
  refine .inr (.inr (.inr (.inl ⟨a, b, _, _, rfl, rfl, h1, h2, rfl, by rw [List.length_map]; exact hl, fun i x y e1 e2 => ?_⟩)))
  rw [e1] at e2
  cases e2
  obtain ⟨z, _, rfl⟩ := at_map e1
  exact sm_str z
abbrev s_law : Stmt := topS 33
abbrev n_law : List Str := ["_law_script", "_law_stream", "_law_turn", "_law_letters_here", "_law_own", "_law_use", "_law_order", "_law_made", "_law_due", "_law_told"]
theorem sc_law : FnScope n_law ["_law_script"] (defScope s_law) := ⟨rfl, rfl, rfl, by decide +kernel, rfl, by decide +kernel, by decide +kernel⟩
def spLaw (K : PySem.W.Frag) (T : List (Addr × Str)) : Sp := fun vs H Q _ => ∃ (a : Addr) (ns : List Int), vs = [.ref a] ∧ SqL K H a (ns.map V.int) ∧ ns.length ≤ 63 ∧ Tabs T H ∧ ∀ H' : Hp, Q (.bl true) H'
/-- behind the turning -/
structure Mid (K : PySem.W.Frag) (U C : Addr) (T : List (Addr × Str)) (st q own u o pm du pt : Addr) (b : Int) (H : Hp) (nm : Str) (ls od : List Str) (l : List (Str × Int)) : Prop where
  tabs : Tabs T H
  spr : ∃ b' : Int, Spr H st q b' ∧ b ≤ b' ∧ b' ≤ b + 40
  good : Good l ls.length
  len : ls.length ≤ 3
  nd : ls.Nodup
  odl : od.length ≤ 100
  sub : ∀ x ∈ ls, x ∈ od
  own : SqT K H own (ls.map V.str)
  use : LuAt K H u nm ls l
  ord : SqT K H o (od.map V.str)
  made : ∃ qm : Addr, UseAt K U C H pm nm ls qm (l.map (·.1)) (l.map (·.2))
  due : LuAt K H du nm ls (tform l ls od)
  told : ∃ qt : Addr, UseAt K U C H pt nm ls qt ((tform l ls od).map (·.1)) ((tform l ls od).map (·.2))
section
variable {P : Program} {w : World} {K : PySem.W.Frag} {mg : Str → Option Value} {base : Heap} {U C pT gT f : Addr} {fd dT : FuncData} {T : List (Addr × Str)}
theorem ok_law (F : Fun K "law" "law" s_law f fd) (B : Bt mg) (B2 : Bx mg) (Uc : Us K U C)
    (cS : Ca P w K mg base 1 "_law_start" ["_law_script"] (spStart K)) (cD : Ca P w K mg base 1 "_law_draw" ["_law_stream", "_law_many"] spDraw)
    (cL : Ca P w K mg base 2 "_law_letters" ["_law_stream", "_law_many"] Tt.spLet) (cM : Ca P w K mg base 2 "_law_mixed" ["_law_stream", "_law_some"] Tt.spMixed) (cN : Ca P w K mg base 3 "_law_name" ["_law_stream"] Tt.spName)
    (cF : Ca P w K mg base 3 "_law_form" ["_law_stream", "_law_rank"] (spForm K)) (cX : Ca P w K mg base 1 "_law_form_text" ["_law_form_here"] (spFtext K)) (cB : Ca P w K mg base 6 "_law_use_built" ["_law_use"] (spUb K U C))
    (cT : Ca P w K mg base 1 "_law_turned" ["_law_use", "_law_order"] (spTd K)) (cU : Ca P w K mg base 6 "turned" ["use", "order"] (spTurned K U C T)) (cE : Ca P w K mg base 3 "_law_same" ["_law_found", "_law_due"] (spSame K 3)) (cI : Ca P w K mg base 3 "_law_fits" ["_law_use", "_law_order"] (spFit K))
    (GT : FnOk P w K mg base CX0 1 gT dT ["self"] (spText K C)) (bT : Binds K dT ["self"] []) (pTx : PropOf K C "text" pT gT) :
    FnOk P w K mg base CX0 8 f fd ["_law_script"] (spLaw K T) := by
  refine F.ok sc_law (fun vs H Q E h => ?_) (fun cdv A outer s H vs Q E hr h => ?_)
  · obtain ⟨a, ns, rfl, _⟩ := h
    rfl
  obtain ⟨a, ns, rfl, hS, hns, hT, k⟩ := h
  refine ⟨_, (pss_cons (ps_set (i := 1) sc_law.nd rfl (Or.inl rfl) (pca cS hr (by decide) rfl (pa_cons (pv 0) pa_nil)))
(pss_cons (ps_for PassesOwn.never rfl (pi_range1 (by rfl) B.range (pa_cons pe_int pa_nil)) (pg_name (i := 2) sc_law.nd rfl (Or.inl rfl))
(pss_cons (ps_set (i := 3) sc_law.nd rfl (Or.inl rfl) (pca cL hr (by decide) rfl (pa_cons (pv 1) (pa_cons pe_int pa_nil))))
(pss_cons (ps_set (i := 4) sc_law.nd rfl (Or.inl rfl) (pe_callTy call_tuple_of (by rfl) B.tup (by decide +kernel) (pa_cons (pe_slice sl_list (pca cM hr (by decide) rfl (pa_cons (pv 1) (pa_cons (pv 3) pa_nil))) po_none (po_some (pca cD hr (by decide) rfl (pa_cons (pv 1) (pa_cons pe_int pa_nil))))) pa_nil)))
(pss_cons (ps_par (i := 5) (j := 6) rfl sc_law.nd rfl rfl (by decide) rfl rfl (pa_cons (pe_tup (pa_cons (pca cN hr (by decide) rfl (pa_cons (pv 1) pa_nil)) (pa_cons (pv 4) (pa_cons (pca cF hr (by decide) rfl (pa_cons (pv 1) (pa_cons (pe_callB call_len_seq (by rfl) B.len PySem.boot_len (pa_cons (pv 4) pa_nil)) pa_nil))) pa_nil)))) (pa_cons (pe_callTy call_tuple_frz (by rfl) B.tup (by decide +kernel) (pa_cons (pca cM hr (by decide) rfl (pa_cons (pv 1) (pa_cons (pv 3) pa_nil))) pa_nil)) pa_nil)) (by rfl))
(pss_cons (ps_par (i := 7) (j := 8) rfl sc_law.nd rfl rfl (by decide) rfl rfl (pa_cons (pca cB hr (by decide) rfl (pa_cons (pv 5) pa_nil)) (pa_cons (pca cT hr (by decide) rfl (pa_cons (pv 5) (pa_cons (pv 6) pa_nil))) pa_nil)) (by rfl))
(C8.pss_cut (ps_set (i := 9) sc_law.nd rfl (Or.inl rfl) (pca cU hr (by decide) rfl (pa_cons (pv 7) (pa_cons (pe_ifExp (pt_cmpR op_eq (pca cD hr (by decide) rfl (pa_cons (pv 1) (pa_cons pe_int pa_nil))) pe_int (nomark _)) (pe_callTy call_list_of (by rfl) B.lst (by decide +kernel) (pa_cons (pv 6) pa_nil)) (pv 6)) pa_nil))))
(pss_cons (ps_if (pt_not (pt_val (pca cE hr (by decide) rfl (pa_cons (pe_lst (pa_cons (pe_fld (pv 9) rfl) (pa_cons (pe_fld (pv 9) rfl) (pa_cons (pe_prop (dvs := []) (pe_fld (pv 9) rfl) Uc.clC pTx GT (hr.mono (by decide)) bT .nil pass0 rfl) pa_nil)))) (pa_cons (pe_lst (pa_cons (pe_ix ix_tup (pv 5) pe_int (fun _ _ => rfl)) (pa_cons (pv 4) (pa_cons (pca cX hr (by decide) rfl (pa_cons (pe_ix ix_tup (pv 8) pe_int (fun _ _ => rfl)) pa_nil)) pa_nil)))) pa_nil)))))
(pss_one (ps_ret pe_bl)) pss_nil)
(pss_one (ps_if (PW.pt (pw_or (pt_cmpR op_ne (pe_prop (dvs := []) (pe_fld (pv 7) rfl) Uc.clC pTx GT (hr.mono (by decide)) bT .nil pass0 rfl) (pca cX hr (by decide) rfl (pa_cons (pe_ix ix_tup (pv 5) pe_int (fun _ _ => rfl)) pa_nil)) (nomark _)) (pw_or1 (pt_not (pt_val (pca cI hr (by decide) rfl (pa_cons (pv 8) (pa_cons (pe_callTy call_list_of (by rfl) B.lst (by decide +kernel) (pa_cons (pv 6) pa_nil)) pa_nil))))))))
(pss_one (ps_ret pe_bl)) pss_nil)))))))))
(pss_one (ps_ret pe_bl)))), ?_⟩
  refine ⟨_, rfl, a, ns, rfl, hS, hns, fun st q H1 g1 hs1 => ?_⟩
  refine ⟨6, rfl, by decide, by decide, for_range (lo := 0) (n := 6) (fun i σ' H' => ∃ (b : Int) (x2 x3 x4 x5 x6 x7 x8 x9 : Option V), σ' = [some (.ref a), some (.ref st), x2, x3, x4, x5, x6, x7, x8, x9] ∧ Tabs T H' ∧ Spr H' st q b ∧ 0 ≤ b ∧ b ≤ 110 * i)
    ⟨0, _, _, _, _, _, _, _, _, rfl, hT.ext g1, hs1, by decide, by decide⟩ ?_ ?_⟩
  · rintro i σ' H2 hi ⟨b, x2, x3, x4, x5, x6, x7, x8, x9, rfl, hT2, hs2, hb0, hb1⟩
    refine ⟨_, rfl, st, q, b, 4, rfl, hs2, hb0, by omega, by decide, fun L lets H3 hnd hlen hs3 g3 hL hL0 => ?_⟩
    obtain ⟨nL1, nL2⟩ := hs2.out hL0
    have hT3 := tabs_sx hs2 g3 hT2
    refine ⟨_, rfl, _, rfl, st, q, L, b + 4, lets, rfl, hs3, by omega, by omega, hL, by omega, fun r os1 H4 perm1 hs4 g4 hr1 hr0 => ?_⟩
    rw [hlen] at hs4
    obtain ⟨nr1, nr2⟩ := hs3.out hr0
    have hL4 := g4 _ _ nL1 nL2 hL
    have hT4 := tabs_sx hs3 g4 hT3
    refine ⟨_, rfl, st, q, b + 4 + 4, 4, rfl, hs4, by omega, by omega, by decide, by decide, fun d H5 d0 d1 hs5 g5 => ?_⟩
    obtain ⟨n, rfl⟩ : ∃ n : Nat, d = n := ⟨d.toNat, by omega⟩
    have hL5 := g5 _ _ nL1 nL2 hL4
    have hr5 := g5 _ _ nr1 nr2 hr1
    have hT5 := tabs_sx hs4 g5 hT4
    have o1l : os1.length = 4 := by rw [perm1.length_eq, hlen]
    have ecut : cutV (os1.map V.str) none (some (n : Int)) = (os1.take n).map V.str := by
      rw [cut_take _ _ (by rw [List.length_map]; omega), List.map_take]
    refine ⟨_, rfl, r, _, rfl, SqL.of hr5, fun p hp => ?_⟩
    rw [ecut]
    generalize hls : os1.take n = ls
    have lsl : ls.length ≤ 3 := by rw [← hls, List.length_take]; omega
    have lsn : ls.Nodup := by rw [← hls]; exact (perm1.nodup_iff.mpr hnd).sublist (List.take_sublist _ _)
    have lss : ∀ x ∈ ls, x ∈ lets := fun x hx => by
      rw [← hls] at hx
      exact perm1.mem_iff.mp (List.mem_of_mem_take hx)
    have gp := same_new hp (.lst (ls.map V.str))
    refine ⟨p, _, rfl, .inl ⟨SqL.of upd_same, fun own hown => ?_⟩⟩
    have go := same_new hown (.tup (ls.map V.str))
    have g56 := gp.trans go
    have hown6 : SqT K (upd (upd H5 p (.lst (ls.map V.str))) own (.tup (ls.map V.str))) own (ls.map V.str) := SqT.of upd_same
    have hs6 := hs5.same g56
    have hL6 := g56 _ _ hL5
    have hT6 := hT5.ext g56
    generalize (upd (upd H5 p (.lst (ls.map V.str))) own (.tup (ls.map V.str))) = H6 at hown6 hs6 hL6 hT6
    clear g56 go gp hown hp ecut hr5 hr1 hr0 g5 g4 g3 hs2 hs3 hs4 hs5 hL hL4 hL5 hT2 hT3 hT4 hT5
    refine ⟨_, rfl, st, q, b + 4 + 4 + 1, rfl, hs6, by omega, by omega, fun nm b7 H7 _ hb7 hb7' hs7 g7 => ?_⟩
    have hT7 := tabs_sx hs6 g7 hT6
    have hL7 := g7 _ _ nL1 nL2 hL6
    have hown7 := TK.sx hs6 g7 _ _ hown6
    refine ⟨_, rfl, _, rfl, _, rfl, own, _, rfl, .inr hown7, st, q, b7, _, rfl, hs7, by omega, by omega, by rw [List.length_map]; exact lsl, fun tf us l b8 H8 hg htf htu hb8 hb8' hs8 g8 => ?_⟩
    rw [List.length_map] at hg
    have hT8 := tabs_sx hs7 g8 hT7
    have hL8 := g8 _ _ nL1 nL2 hL7
    have hown8 := TK.sx hs7 g8 _ _ hown7
    refine ⟨by show 3 ≤ sizeLine; decide, fun u hu => ?_⟩
    have gu := same_new hu (.tup [.str nm, .ref own, .ref tf])
    have hs9 := hs8.same gu
    have hL9 := gu _ _ hL8
    have hT9 := hT8.ext gu
    have huse9 : LuAt K (upd H8 u (.tup [.str nm, .ref own, .ref tf])) u nm ls l := ⟨own, tf, us, SqT.of upd_same, seqT gu hown8, seqT gu htf, htu.mono (TK.of gu)⟩
    have hown9 := seqT gu hown8
    generalize (upd H8 u (.tup [.str nm, .ref own, .ref tf])) = H9 at hs9 hL9 hT9 huse9 hown9
    refine ⟨_, rfl, _, rfl, st, q, L, b8, lets, rfl, hs9, by omega, by omega, hL9, by omega, fun r2 od H10 perm2 hs10 g10 hr2 hr20 => ?_⟩
    rw [hlen] at hs10
    have odl : od.length = 4 := by rw [perm2.length_eq, hlen]
    have hT10 := tabs_sx hs9 g10 hT9
    have hown10 := TK.sx hs9 g10 _ _ hown9
    have huse10 := huse9.mono (TK.sx hs9 g10)
    refine ⟨r2, _, rfl, SqL.of hr2, fun o ob ho hoc hod => ?_⟩
    have go := same_new ho (.frz ob (.tup (od.map V.str)))
    have hs11 := hs10.same go
    have hT11 := hT10.ext go
    have hown11 := seqT go hown10
    have huse11 := huse10.mono (TK.of go)
    have hord11 : TzAt (upd H10 o (.frz ob (.tup (od.map V.str)))) o (od.map V.str) := TzAt.of upd_same hoc hod
    generalize (upd H10 o (.frz ob (.tup (od.map V.str)))) = H11 at hs11 hT11 hown11 huse11 hord11
    have sub : ∀ x ∈ ls, x ∈ od := fun x hx => perm2.mem_iff.mpr (lss x hx)
    refine ⟨_, _, rfl, _, rfl, u, nm, ls, l, rfl, huse11, hg, lsl, lsn, fun pm qm H12 g12 hm => ?_⟩
    refine ⟨_, rfl, _, rfl, u, o, nm, ls, od, l, rfl, huse11.mono (TK.of g12), hg, lsl, lsn, tzS g12 hord11, sub, fun du H13 g13 hdue => ?_⟩
    have g113 := g12.trans g13
    refine ⟨_, _, rfl, fun σ' H' => ∃ pt : Addr, σ' = [some (.ref a), some (.ref st), some (.int (0 + (i : Int))), some (.ref L), some (.ref own), some (.ref u), some (.ref o), some (.ref pm), some (.ref du), some (.ref pt)] ∧ Mid K U C T st q own u o pm du pt b H' nm ls od l, ?_, ?_⟩
    · refine ⟨_, rfl, _, rfl, st, q, b8 + 4, 2, rfl, hs11.same g113, by omega, by omega, by decide, by decide, fun d2 H14 _ _ hs14 g14 => ?_⟩
      have hsx := hs11.same g113
      have hT14 := tabs_sx hsx g14 (hT11.ext g113)
      have tk : TK K H11 H14 := (TK.of g113).trans (TK.sx hsx g14)
      have hm14 := useSx hsx g14 (hm.same g13)
      have hdue14 : LuAt K H14 du nm ls (tform l ls od) := hdue.mono (TK.sx hsx g14)
      have hord14 : SqT K H14 o (od.map V.str) := tk _ _ hord11.seq
      have fin : ∀ (o' : Addr) (H15 : Hp), Same H14 H15 → (SqL K H15 o' (od.map V.str) ∨ SqT K H15 o' (od.map V.str)) → spTurned K U C T [.ref pm, .ref o'] H15 (fun v H' => ∃ pt : Addr, [some (.ref a), some (.ref st), some (.int (0 + (i : Int))), some (.ref L), some (.ref own), some (.ref u), some (.ref o), some (.ref pm), some (.ref du), some v] = [some (V.ref a), some (.ref st), some (.int (0 + (i : Int))), some (.ref L), some (.ref own), some (.ref u), some (.ref o), some (.ref pm), some (.ref du), some (.ref pt)] ∧ Mid K U C T st q own u o pm du pt b H' nm ls od l) E0 := fun o' H15 g15 ho' => by
        refine ⟨pm, o', qm, nm, ls, od, l, rfl, hm14.same g15, hg, lsl, lsn, ho', by omega, sub, hT14.ext g15, fun pt qt H16 e16 hT16 hpt => ⟨pt, rfl, ?_⟩⟩
        have e1416 : ExtN H14 H16 := (ExtN.of g15).trans e16
        have tk16 : TK K H11 H16 := tk.trans (TK.ext e1416)
        exact { tabs := hT16, spr := ⟨_, spr_ext e1416 hs14, by omega, by omega⟩, good := hg, len := lsl, nd := lsn, odl := by omega, sub := sub, own := tk16 _ _ hown11, use := huse11.mono tk16, ord := tk16 _ _ hord11.seq, made := ⟨qm, UseAt.ext e1416 hm14⟩, due := hdue14.mono (TK.ext e1416), told := ⟨qt, hpt⟩ }
      refine ⟨rfl, _, rfl, ?_⟩
      refine ite2 (fun c => ?_) (fun c => ?_)
      · refine ⟨_, rfl, o, _, rfl, .inr hord14, fun ol hol => ?_⟩
        exact fin ol _ (same_new hol _) (.inl (SqL.of upd_same))
      · exact ⟨_, rfl, fin o _ (Same.refl _) (.inr hord14)⟩
    · rintro σ' H3 ⟨pt, rfl, M⟩
      obtain ⟨qt, dt, tlt, hp1, hp2, hp3⟩ := M.told
      obtain ⟨dq, tk, ta, hq1, hqk, hqa⟩ := id hp3
      obtain ⟨qm', dm, tlm, hm1, hm2, hm3⟩ := M.made
      obtain ⟨dqm, tkm, tam, hqm1, hqmk, hqma⟩ := id hm3
      obtain ⟨tlu, tfu, usu, hu1, hu2, hu3, hu4⟩ := id M.use
      obtain ⟨tld, tfd, usd, hd1, hd2, hd3, hd4⟩ := id M.due
      have tg := tform_good (od := od) M.good M.nd
      have hvt := iota_valid tg M.len
      have hvm := iota_valid M.good M.len
      refine ⟨_, rfl, pt, U, dt, _, _, rfl, hp1, Uc.cl, Uc.nN, rfl, _, rfl, pt, U, dt, _, _, rfl, hp1, Uc.cl, Uc.nL, rfl, _, rfl, pt, U, dt, _, _, rfl, hp1, Uc.cl, Uc.nF, rfl, qt, dq, _, rfl, hq1, qt, _, _, rfl, hp3, hvt, fun H4 g4 => ?_⟩
      refine ⟨by show 3 ≤ sizeLine; decide, fun A hA => ?_⟩
      have gA := same_new hA (.lst [.str nm, .ref tlt, .str (ftext ((tform l ls od).map (·.1)) ((tform l ls od).map (·.2)))])
      have g4A := g4.trans gA
      refine ⟨_, rfl, u, _, (0 : Int), .str nm, rfl, rfl, seqT g4A hu1, atI_nat (j := 0) rfl, _, rfl, _, rfl, du, _, (2 : Int), .ref tfd, rfl, rfl, seqT g4A hd1, atI_nat (j := 2) rfl, tfd, usd, _, _, rfl, seqT g4A hd3, hd4.mono (TK.of g4A), tg, M.len, fun H5 g5 => ?_⟩
      refine ⟨by show 3 ≤ sizeLine; decide, fun A2 hA2 => ?_⟩
      have gA2 := same_new hA2 (.lst [.str nm, .ref own, .str (ftext ((tform l ls od).map (·.1)) ((tform l ls od).map (·.2)))])
      have g5A := g5.trans gA2
      have gg := g4A.trans g5A
      refine ⟨.ref A, .ref A2, rfl, .inr (.inr (.inr (.inr ⟨A, A2, _, _, rfl, rfl, g5A _ _ upd_same, upd_same, rfl, by show 3 ≤ 1000; decide, fun j x y e1 e2 => ?_⟩))), fun H7 g7 => ?_⟩
      · match j with
        | 0 =>
          cases e1
          cases e2
          exact sm_str nm
        | 1 =>
          cases e1
          cases e2
          exact sm_strs (seqT gg hp2.seq) (seqT gg M.own) (by have := M.len; omega)
        | 2 =>
          cases e1
          cases e2
          exact sm_str _
        | j + 3 => cases e1
      refine ⟨_, rfl, iteF ?_⟩
      have g37 := gg.trans g7
      refine ⟨_, rfl, pm, U, dm, _, _, rfl, g37 _ _ hm1, Uc.cl, Uc.nF, rfl, qm', dqm, _, rfl, g37 _ _ hqm1, qm', _, _, rfl, hm3.same g37, hvm, fun H8 g8 => ?_⟩
      have g38 := g37.trans g8
      refine ⟨_, rfl, u, _, (2 : Int), .ref tfu, rfl, rfl, seqT g38 hu1, atI_nat (j := 2) rfl, tfu, usu, _, _, rfl, seqT g38 hu3, hu4.mono (TK.of g38), M.good, M.len, fun H9 g9 => ?_⟩
      have g39 := g38.trans g9
      refine ⟨rfl, _, rfl, iteN (by rw [decide_eq_true rfl] <;> rfl) ?_⟩
      refine ⟨_, rfl, _, rfl, o, _, rfl, .inr (seqT g39 M.ord), fun ol hol => ?_⟩
      have gl := same_new hol (.lst (od.map V.str))
      have el := tform_let (od := od) M.good.1
      have lin : ∀ p ∈ tform l ls od, letAt ls p ∈ ls := fun p hp => by
        have z : letAt ls p ∈ (tform l ls od).map (letAt ls) := List.mem_map_of_mem hp
        rw [el] at z
        exact List.mem_mergeSort.mp z
      refine ⟨du, ol, nm, ls, od, tform l ls od, rfl, M.due.mono (TK.of (g39.trans gl)), by rw [tg.1]; exact M.len, fun p hp => ?_, SqL.of upd_same, fun p hp => M.sub _ (lin p hp), by rw [el]; exact place_sorted ls od, fun H10 g10 => ?_⟩
      · have z : p.2 ∈ iota ls.length := tg.2.2.mem_iff.mp (List.mem_map_of_mem hp)
        unfold iota at z
        obtain ⟨j, hj, e⟩ := List.mem_map.mp z
        have hj := List.mem_range.mp hj
        omega
      have gz := (g39.trans gl).trans g10
      obtain ⟨b', hs', hb', hb2'⟩ := M.spr
      exact ⟨_, rfl, iteF ⟨b', _, _, _, _, _, _, _, _, rfl, M.tabs.ext gz, hs'.same gz, by omega, by omega⟩⟩
  · rintro σ' H2 ⟨b, x2, x3, x4, x5, x6, x7, x8, x9, rfl, _⟩
    exact k H2
end
end Lw
namespace Lw
open PySem L2 TL LamX TzR
/-- a def of the text, as the top leaves it -/
structure Dx (K : PySem.W.Frag) (mg : Str → Option Value) (x : Str) (st : Stmt) (f : Addr) (fd : FuncData) : Prop where
  F : Fun K x x st f fd
  m : mg x = some (.ref f)
theorem dx_mk {K : PySem.W.Frag} {h : Heap} {mg : Str → Option Value} {x : Str} {st : Stmt} {f : Addr} (X : K.In h) (G : h.Ns mainGlobals mg) {od an : Option Addr} {sl : Array (Option Value)} {oc kV dc pm cd ct : Value}
    (a : PySem.W.nsIn K mainGlobals x = some (some (.ref f))) (l : K.lookup f = some ⟨oc, od, .func (PySem.W.fnOf x x (defArgs st) (defBody st) (defScope st) .none kV dc pm an cd ct), sl⟩) (c : PySem.W.codeIn K cd x = true) (k : PySem.W.keepIn K (.ref f) = true) :
    Dx K mg x st f (PySem.W.fnOf x x (defArgs st) (defBody st) (defScope st) .none kV dc pm an cd ct) := ⟨fun_mk l c k, PySem.W.mg_of X G a⟩
theorem sq_const {K : PySem.W.Frag} {H : Hp} {a : Addr} {xs : List V} {od : Option Addr} {its : Array Value} {n : Nat} {sl : Array (Option Value)} (l : K.lookup a = some ⟨.type "tuple", od, .seq its n, sl⟩) (h : its.size ≤ sizeLine) (v : Vals xs its.toList) : SqT K H a xs :=
  .inr ⟨_, its, n, l, rfl, rfl, h, v⟩
theorem ok_sames {P : Program} {w : World} {K : PySem.W.Frag} {mg : Str → Option Value} {base : Heap} {f : Addr} {fd : FuncData} (F : Fun K "_law_same" "_law_same" sSame f fd) (bF : Binds K fd ["_law_found", "_law_due"] []) (mF : mg "_law_same" = some (.ref f)) (B : Bt mg) :
    ∀ n : Nat, FnOk P w K mg base CX0 n f fd ["_law_found", "_law_due"] (spSame K n)
  | 0 => none_left fun vs H Q E ⟨_, _, _, h, _⟩ => h
  | n + 1 => ok_same F (ok_sames F bF mF B n) bF F.kp mF B
theorem all_mk {l : PySem.W.OpenLaw} {w : World} {K : PySem.W.Frag} {h : Heap} {mg : Str → Option Value} {fa : Addr} (X : K.In h) (G : h.Ns mainGlobals mg) (hfa : mg "law" = some (.ref fa))
    {fL C U fI fU BF AW KD Dk pT gT pR gR fT cT P1 fW fZ fA fCL fD fB fP fMx fS fN fLt fF fX fLv fR fFi fUb fTd : Addr} {dW dZ dA dCL dD dB dP dMx dS dN dLt dF dX dLv dR dFi dUb dTd : FuncData} {cd0 cd1 cd3 cd6 cd7 ct0 ct1 ct2 ct3 ct6 ct7 dc0 dc1 dc2 dc3 dc6 dc7 kV0 kV1 kV2 kV6 kV7 oc0 oc1 oc2 oc3 oc6 oc7 oc8 pm0 pm1 pm2 pm3 pm6 pm7 : Value} {an0 an1 an2 an3 an6 an7 od0 od1 od2 od3 od4 od5 od6 od7 od8 : Option Addr} {sl0 sl1 sl2 sl3 sl4 sl5 sl6 sl7 sl8 : Array (Option Value)} {vs1 its4 its5 : Array Value} {n4 n5 : Nat} {rest6 rest7 : List Value} {t3 : Tok}
    (lA : PySem.W.nsIn K mainGlobals "law" = some (some (.ref fL)))
    (lL : K.lookup fL = some ⟨oc0, od0, .func (PySem.W.fnOf "law" "law" (defArgs s_law) (defBody s_law) (defScope s_law) .none kV0 dc0 pm0 an0 cd0 ct0), sl0⟩)
    (lC : PySem.W.codeIn K cd0 "law" = true)
    (lk : PySem.W.keepIn K (.ref fL) = true)
    (aC : PySem.W.nsIn K mainGlobals "Form" = some (some (.ref C)))
    (aB : PySem.W.nsIn K mainGlobals "BadForm" = some (some (.ref BF)))
    (aM : PySem.W.nsIn K mainGlobals "MOST_LEVELS" = some (some (.int 3 t3)))
    (aA : PySem.W.nsIn K mainGlobals "AXIS_WORDS" = some (some (.ref AW)))
    (a1 : PySem.W.findIn K (.ref C) "__init__" = some (some (.ref fI)))
    (i1 : PySem.W.isFn K (.ref fI) = true)
    (l1 : K.lookup fI = some ⟨oc3, od3, .func (PySem.W.fnOf "__init__" "Form.__init__" (defArgs sInit) (defBody sInit) (defScope sInit) .none (.ref Dk) dc3 pm3 an3 cd3 ct3), sl3⟩)
    (c1 : PySem.W.codeIn K cd3 "Form.__init__" = true)
    (n1 : PySem.W.nsIn K Dk "axes" = some (some .none))
    (mk : PySem.W.makesIn K C = true)
    (kC : PySem.W.keepIn K (.ref C) = true)
    (pg : PySem.W.plainGet K C Str.empty = true)
    (hd : PySem.W.hasDictIn K C = true)
    (po : PySem.W.plainOver K C = true)
    (sa : PySem.W.findIn K (.ref C) "__setattr__" = some (some (.builtin "object.__setattr__")))
    (nK : PySem.W.findIn K (.ref C) "kinds" = some none)
    (nA : PySem.W.findIn K (.ref C) "axes" = some none)
    (r1 : PySem.W.readsIn K C (.type "type") = true)
    (r2 : PySem.W.specialIn K (.ref C) "__getattribute__" = some (some (.builtin "type.__getattribute__")))
    (kd : PySem.W.findCls K (.ref C) (.type "type") "KINDS" = some (.val (.ref KD)))
    (kl : K.lookup KD = some ⟨.type "tuple", od4, .seq its4 n4, sl4⟩)
    (kz : its4.size ≤ sizeLine)
    (kv : Vals (KINDS.map V.str) its4.toList)
    (al : K.lookup AW = some ⟨.type "tuple", od5, .seq its5 n5, sl5⟩)
    (az : its5.size ≤ sizeLine)
    (av : Vals (AWORDS.map V.str) its5.toList)
    (m1 : PySem.W.findCls K (.ref C) (.type "type") "read" = some (.get (.builtin "classmethod.__get__") (.ref pR) .none (.ref C)))
    (m2 : PySem.W.recIn K pR "classmethod" = some (.ref gR :: rest6))
    (m3 : PySem.W.fnIn K gR = true)
    (m4 : K.lookup gR = some ⟨oc6, od6, .func (PySem.W.fnOf "read" "Form.read" (defArgs sRead) (defBody sRead) (defScope sRead) .none kV6 dc6 pm6 an6 cd6 ct6), sl6⟩)
    (m5 : PySem.W.codeIn K cd6 "Form.read" = true)
    (m6 : PySem.W.keepIn K (.ref gR) = true)
    (t1 : PySem.W.findIn K (.ref C) "text" = some (some (.ref pT)))
    (t2 : PySem.W.specialIn K (.ref pT) "__get__" = some (some (.builtin "property.__get__")))
    (t4 : PySem.W.takesIn K (.ref pT) = some true)
    (t5 : PySem.W.recIn K pT "property" = some (.ref gT :: rest7))
    (t6 : K.lookup gT = some ⟨oc7, od7, .func (PySem.W.fnOf "text" "Form.text" (defArgs sText) (defBody sText) (defScope sText) .none kV7 dc7 pm7 an7 cd7 ct7), sl7⟩)
    (t7 : PySem.W.codeIn K cd7 "Form.text" = true)
    (t8 : PySem.W.keepIn K (.ref gT) = true)
    (xB : PySem.W.excIn K BF veB "ValueError.__new__" = true)
    (kB : PySem.W.keepIn K (.ref BF) = true)
    (rB : PySem.W.subIn K (.ref BF) (.type "BaseException") = some true)
    (tB : PySem.W.typeIn K (.ref BF) = some (.type "type"))
    (vA : PySem.W.nsIn K mainGlobals "Use" = some (some (.ref U)))
    (v1 : PySem.W.findIn K (.ref U) "__init__" = some (some (.ref fU)))
    (v2 : PySem.W.isFn K (.ref fU) = true)
    (v3 : K.lookup fU = some ⟨oc1, od1, .func (PySem.W.fnOf "__init__" "Use.__init__" (defArgs sUini) (defBody sUini) (defScope sUini) .none kV1 dc1 pm1 an1 cd1 ct1), sl1⟩)
    (v4 : PySem.W.codeIn K cd1 "Use.__init__" = true)
    (v5 : PySem.W.keepIn K (.ref fU) = true)
    (vmk : PySem.W.makesIn K U = true)
    (vk : PySem.W.keepIn K (.ref U) = true)
    (vpg : PySem.W.plainGet K U Str.empty = true)
    (vhd : PySem.W.hasDictIn K U = true)
    (vpo : PySem.W.plainOver K U = true)
    (vsa : PySem.W.findIn K (.ref U) "__setattr__" = some (some (.builtin "object.__setattr__")))
    (vn : PySem.W.findIn K (.ref U) "name" = some none)
    (vl : PySem.W.findIn K (.ref U) "letters" = some none)
    (vf : PySem.W.findIn K (.ref U) "form" = some none)
    (uA : PySem.W.nsIn K mainGlobals "turned" = some (some (.ref fT)))
    (uL : K.lookup fT = some ⟨oc2, od2, .func (PySem.W.fnOf "turned" "turned" (defArgs s_turned) (defBody s_turned) (defScope s_turned) .none kV2 dc2 pm2 an2 (.ref cT) ct2), sl2⟩)
    (uC : PySem.W.codeIn K (.ref cT) "turned" = true)
    (uK : PySem.W.keepIn K (.ref fT) = true)
    (o6 : K.lookup cT = some ⟨oc8, od8, .fields vs1, sl8⟩)
    (o7 : vs1[11]? = some (.ref P1))
    (o8 : PySem.W.codeHdIn K cT P1 = true)
    (o9 : K.lookup P1 = none)
    (own : h.get? P1 = some { cls := .none, data := .fields #[] })
    (z_isinstance : PySem.W.nsIn K mainGlobals "isinstance" = some none)
    (z_list : PySem.W.nsIn K mainGlobals "list" = some none)
    (z_tuple : PySem.W.nsIn K mainGlobals "tuple" = some none)
    (z_len : PySem.W.nsIn K mainGlobals "len" = some none)
    (z_all : PySem.W.nsIn K mainGlobals "all" = some none)
    (z_zip : PySem.W.nsIn K mainGlobals "zip" = some none)
    (z_dict : PySem.W.nsIn K mainGlobals "dict" = some none)
    (z_int : PySem.W.nsIn K mainGlobals "int" = some none)
    (z_bool : PySem.W.nsIn K mainGlobals "bool" = some none)
    (z_range : PySem.W.nsIn K mainGlobals "range" = some none)
    (z_str : PySem.W.nsIn K mainGlobals "str" = some none)
    (z_any : PySem.W.nsIn K mainGlobals "any" = some none)
    (z_sorted : PySem.W.nsIn K mainGlobals "sorted" = some none)
    (z_ValueError : PySem.W.nsIn K mainGlobals "ValueError" = some none)
    (z_enumerate : PySem.W.nsIn K mainGlobals "enumerate" = some none)
    (DW : Dx K mg "is_whole" sWhole fW dW)
    (DZ : Dx K mg "frozen" sFrozen fZ dZ)
    (DA : Dx K mg "are_axes" sAxes fA dA)
    (DCL : Dx K mg "check_letters" sChkL fCL dCL)
    (DD : Dx K mg "_law_draw" sDraw fD dD)
    (DB : Dx K mg "_law_start" sStart fB dB)
    (DP : Dx K mg "_law_pick" sPick fP dP)
    (DMx : Dx K mg "_law_mixed" sMixed fMx dMx)
    (DS : Dx K mg "_law_same" sSame fS dS)
    (DN : Dx K mg "_law_name" Tt.sName fN dN)
    (DLt : Dx K mg "_law_letters" Tt.sLet fLt dLt)
    (DF : Dx K mg "_law_form" sForm fF dF)
    (DX : Dx K mg "_law_form_text" sFtext fX dX)
    (DLv : Dx K mg "_law_level_letters" s_l_level_letters fLv dLv)
    (DR : Dx K mg "_law_resolved" s_l_resolved fR dR)
    (DFi : Dx K mg "_law_fits" s_l_fits fFi dFi)
    (DUb : Dx K mg "_law_use_built" s_l_use_built fUb dUb)
    (DTd : Dx K mg "_law_turned" s_l_turned fTd dTd)
    : LawAtS l w K CX0 8 63 "_law_script" mg fa h := by
  have e := hfa.symm.trans (PySem.W.mg_of X G lA)
  cases e
  have B : Bt mg := ⟨PySem.W.mg_none_of X G z_isinstance, PySem.W.mg_none_of X G z_list, PySem.W.mg_none_of X G z_tuple, PySem.W.mg_none_of X G z_len, PySem.W.mg_none_of X G z_all, PySem.W.mg_none_of X G z_zip, PySem.W.mg_none_of X G z_dict, PySem.W.mg_none_of X G z_int, PySem.W.mg_none_of X G z_bool, PySem.W.mg_none_of X G z_range⟩
  have S : Bs mg := ⟨PySem.W.mg_none_of X G z_str, PySem.W.mg_none_of X G z_any, PySem.W.mg_none_of X G z_sorted, PySem.W.mg_none_of X G z_ValueError⟩
  have B2 : Bx mg := ⟨PySem.W.mg_none_of X G z_sorted, PySem.W.mg_none_of X G z_enumerate, PySem.W.mg_none_of X G z_str⟩
  have T : Fm K mg C fI BF AW KD (.type "type") := { cl := ⟨pg, hd, po, sa⟩, nK := nK, nA := nA, mkC := ⟨mk, a1, i1, kC⟩, mC := PySem.W.mg_of X G aC, mB := PySem.W.mg_of X G aB, xB := xB, kB := kB, rB := rB, tB := tB, most := ⟨t3, PySem.W.mg_of X G aM⟩, cr := ⟨r1, r2⟩, kd := ⟨kd, rfl⟩, kdT := fun H => sq_const kl kz kv, mAW := PySem.W.mg_of X G aA, awT := fun H => sq_const al az av }
  have Uc : Us K U C := ⟨⟨vpg, vhd, vpo, vsa⟩, vn, vl, vf, ⟨pg, hd, po, sa⟩, nK⟩
  have MU : Mk K U fU := ⟨vmk, v1, v2, vk⟩
  have mU := PySem.W.mg_of X G vA
  have Fu : Fun K "__init__" "Use.__init__" sUini fU _ := fun_mk v3 v4 v5
  have bU := Fu.binds (ps := ["self", "name", "letters", "form"]) fun _ _ _ _ _ _ us hl => match us, hl with | [_, _, _, _], _ => rfl
  have Frd : Fun K "read" "Form.read" sRead gR _ := fun_mk m4 m5 m6
  have bRd := Frd.binds (ps := ["cls", "text"]) fun _ _ _ _ _ _ us hl => match us, hl with | [_, _], _ => rfl
  have Ftx : Fun K "text" "Form.text" sText gT _ := fun_mk t6 t7 t8
  have bTx := Ftx.binds (ps := ["self"]) fun _ _ _ _ _ _ us hl => match us, hl with | [_], _ => rfl
  have Ft : Fun K "turned" "turned" s_turned fT _ := fun_mk uL uC uK
  have bFt := Ft.binds (ps := ["use", "order"]) fun _ _ _ _ _ _ us hl => match us, hl with | [_, _], _ => rfl
  have Fl : Fun K "law" "law" s_law fa _ := fun_mk lL lC lk
  have bW := DW.F.binds (ps := ["n"]) fun _ _ _ _ _ _ us hl => match us, hl with | [_], _ => rfl
  have bZ := DZ.F.binds (ps := ["worth"]) fun _ _ _ _ _ _ us hl => match us, hl with | [_], _ => rfl
  have bA := DA.F.binds (ps := ["axes", "many"]) fun _ _ _ _ _ _ us hl => match us, hl with | [_, _], _ => rfl
  have bCL := DCL.F.binds (ps := ["letters"]) fun _ _ _ _ _ _ us hl => match us, hl with | [_], _ => rfl
  have bD := DD.F.binds (ps := ["_law_stream", "_law_many"]) fun _ _ _ _ _ _ us hl => match us, hl with | [_, _], _ => rfl
  have bB := DB.F.binds (ps := ["_law_script"]) fun _ _ _ _ _ _ us hl => match us, hl with | [_], _ => rfl
  have bP := DP.F.binds (ps := ["_law_stream", "_law_some"]) fun _ _ _ _ _ _ us hl => match us, hl with | [_, _], _ => rfl
  have bMx := DMx.F.binds (ps := ["_law_stream", "_law_some"]) fun _ _ _ _ _ _ us hl => match us, hl with | [_, _], _ => rfl
  have bS := DS.F.binds (ps := ["_law_found", "_law_due"]) fun _ _ _ _ _ _ us hl => match us, hl with | [_, _], _ => rfl
  have bN := DN.F.binds (ps := ["_law_stream"]) fun _ _ _ _ _ _ us hl => match us, hl with | [_], _ => rfl
  have bLt := DLt.F.binds (ps := ["_law_stream", "_law_many"]) fun _ _ _ _ _ _ us hl => match us, hl with | [_, _], _ => rfl
  have bF := DF.F.binds (ps := ["_law_stream", "_law_rank"]) fun _ _ _ _ _ _ us hl => match us, hl with | [_, _], _ => rfl
  have bX := DX.F.binds (ps := ["_law_form_here"]) fun _ _ _ _ _ _ us hl => match us, hl with | [_], _ => rfl
  have bLv := DLv.F.binds (ps := ["_law_use"]) fun _ _ _ _ _ _ us hl => match us, hl with | [_], _ => rfl
  have bR := DR.F.binds (ps := ["_law_use", "_law_bound"]) fun _ _ _ _ _ _ us hl => match us, hl with | [_, _], _ => rfl
  have bFi := DFi.F.binds (ps := ["_law_use", "_law_order"]) fun _ _ _ _ _ _ us hl => match us, hl with | [_, _], _ => rfl
  have bUb := DUb.F.binds (ps := ["_law_use"]) fun _ _ _ _ _ _ us hl => match us, hl with | [_], _ => rfl
  have bTd := DTd.F.binds (ps := ["_law_use", "_law_order"]) fun _ _ _ _ _ _ us hl => match us, hl with | [_, _], _ => rfl
  have hh : PySem.W.CodeHd h cT P1 := PySem.W.codeHd_of_K X o8
  refine ⟨_, [(cT, P1)], spLaw K [(P1, qTurned)], fun p hp => ?_, fun p hp => ?_, fun p hp => ?_, fun s v => .of_eq (fd := PySem.W.fnOf "law" "law" (defArgs s_law) (defBody s_law) (defScope s_law) .none kV0 dc0 pm0 an0 cd0 ct0) rfl, fun H a ns hl _ hT hS => ⟨a, ns, rfl, hS, hl, fun p hp => ?_, fun _ => rfl⟩, fun base _ _ hTB => ?_⟩
  · rw [List.mem_singleton.mp hp]
    exact own
  · rw [List.mem_singleton.mp hp]
    exact o9
  · rw [List.mem_singleton.mp hp]
    exact hh
  · rw [List.mem_singleton.mp hp]
    exact TabS.nil (hT (cT, P1) (List.mem_singleton.mpr rfl))
  have GS := ok_sames (P := l.prog) (w := w) (base := base) DS.F bS DS.m B 3
  have GD := ok_draw (P := l.prog) (w := w) (base := base) DD.F B
  have GB := ok_start (P := l.prog) (w := w) (base := base) DB.F B
  have GP := ok_pick DP.F GD bD DD.F.kp DD.m B
  have GPs := Tt.ok_pickS DP.F GD bD DD.F.kp DD.m B
  have GMx := ok_mixed DMx.F GD bD DD.F.kp DD.m B
  have GMs := Tt.ok_mixed DMx.F GD bD DD.F.kp DD.m B
  have GL := Tt.ok_let DLt.F GD bD DD.F.kp DD.m B
  have GN := Tt.ok_name DN.F GD bD DD.F.kp DD.m B GPs bP DP.F.kp DP.m
  have GF := ok_form DF.F GMx bMx DMx.F.kp DMx.m GP bP DP.F.kp DP.m B
  have GX := ok_ftext (P := l.prog) (w := w) (base := base) DX.F B S
  have GW := ok_whole (P := l.prog) (w := w) (base := base) DW.F B
  have GZ := ok_frz (P := l.prog) (w := w) (base := base) DZ.F bZ DZ.m B
  have GZs := ok_frzS (P := l.prog) (w := w) (base := base) DZ.F bZ DZ.m B
  have GA := ok_axes DA.F GW bW DW.F.kp DW.m B
  have FI := ok_init (P := l.prog) (w := w) (base := base) (du := .none) l1 c1 n1 T B GZ bZ DZ.F.kp DZ.m GA bA DA.F.kp DA.m
  have GR := fnR_of (ok_read Frd T B FI) bRd
  have GT := ok_text (P := l.prog) (w := w) (base := base) Ftx T B
  have GC := ok_chkL (P := l.prog) (w := w) (base := base) DCL.F B2
  have GU := ok_uini Fu Uc B GZs bZ DZ.F.kp DZ.m GC bCL DCL.F.kp DCL.m
  have GUb := ok_l_use_built DUb.F MU GU bU mU GX bX DX.F.kp DX.m T GR ⟨m1, ⟨_, m2⟩, m3⟩
  have GLv := ok_l_level_letters (P := l.prog) (w := w) (mg := mg) (base := base) DLv.F
  have GRs := ok_l_resolved DR.F B B2 GLv bLv DLv.F.kp DLv.m
  have GI := ok_l_fits DFi.F B GLv bLv DLv.F.kp DLv.m GRs bR DR.F.kp DR.m
  have GTd := ok_l_turned (P := l.prog) (w := w) (base := base) DTd.F B B2
  have GTu := ok_turned uL uC (hTB (cT, P1) (List.mem_singleton.mpr rfl)) (List.mem_singleton.mpr rfl) (fun p hp _ => by rw [List.mem_singleton.mp hp]) B B2 Uc GZs bZ DZ.F.kp DZ.m MU GU bU mU T FI
  exact ok_law Fl B B2 Uc ⟨_, _, GB, bB, DB.F.kp, DB.m⟩ ⟨_, _, GD, bD, DD.F.kp, DD.m⟩ ⟨_, _, GL, bLt, DLt.F.kp, DLt.m⟩ ⟨_, _, GMs, bMx, DMx.F.kp, DMx.m⟩ ⟨_, _, GN, bN, DN.F.kp, DN.m⟩ ⟨_, _, GF, bF, DF.F.kp, DF.m⟩ ⟨_, _, GX, bX, DX.F.kp, DX.m⟩ ⟨_, _, GUb, bUb, DUb.F.kp, DUb.m⟩ ⟨_, _, GTd, bTd, DTd.F.kp, DTd.m⟩
    ⟨_, _, GTu, bFt, uK, PySem.W.mg_of X G uA⟩ ⟨_, _, GS, bS, DS.F.kp, DS.m⟩ ⟨_, _, GI, bFi, DFi.F.kp, DFi.m⟩ GT bTx ⟨t1, t2, t4, ⟨_, t5⟩⟩
end Lw
open PySem PySem.W PyProof.Rows
set_option maxRecDepth 100000 in
set_option maxHeartbeats 0 in
theorem PySem.Challenge.cw_levelwalks_k63_turned_holds : PySem.Challenge.rw_levelwalks_k63_turned.Holds := by
  w_on; o_law; k_head; (case hw => w_witness2)
  k_fill
  refine LamX.walk_ofTs (l := PySem.Challenge.rw_levelwalks_k63_turned) (n := 63) (k := 8) (x := "_law_script") (CX := fun _ => L2.CX0) rfl (by decide) rfl ⟨rfl, by decide, by decide⟩ (fun w h Y => PySem.W.km_in_of Y) ?F (fun _ _ _ _ _ z => z)
  case F =>
    intro w mg fa h Y KX G hmg
    refine' Lw.all_mk KX G hmg ?lA ?lL ?lC ?lk ?aC ?aB ?aM ?aA ?a1 ?i1 ?l1 ?c1 ?n1 ?mk ?kC ?pg ?hd ?po ?sa ?nK ?nA ?r1 ?r2 ?kd ?kl ?kz ?kv ?al ?az ?av ?m1 ?m2 ?m3 ?m4 ?m5 ?m6 ?t1 ?t2 ?t4 ?t5 ?t6 ?t7 ?t8 ?xB ?kB ?rB ?tB ?vA ?v1 ?v2 ?v3 ?v4 ?v5 ?vmk ?vk ?vpg ?vhd ?vpo ?vsa ?vn ?vl ?vf ?uA ?uL ?uC ?uK ?o6 ?o7 ?o8 ?o9 ?own ?z_isinstance ?z_list ?z_tuple ?z_len ?z_all ?z_zip ?z_dict ?z_int ?z_bool ?z_range ?z_str ?z_any ?z_sorted ?z_ValueError ?z_enumerate ?DW ?DZ ?DA ?DCL ?DD ?DB ?DP ?DMx ?DS ?DN ?DLt ?DF ?DX ?DLv ?DR ?DFi ?DUb ?DTd
    (case lA => k_is)
    (case lL => k_is)
    (case lC => k_is)
    (case lk => k_is)
    (case aC => k_is)
    (case aB => k_is)
    (case aM => k_is)
    (case aA => k_is)
    (case a1 => k_is)
    (case i1 => k_is)
    (case l1 => k_is)
    (case c1 => k_is)
    (case n1 => k_is)
    (case mk => k_is)
    (case kC => k_is)
    (case pg => k_is)
    (case hd => k_is)
    (case po => k_is)
    (case sa => k_is)
    (case nK => k_is)
    (case nA => k_is)
    (case r1 => k_is)
    (case r2 => k_is)
    (case kd => k_is)
    (case kl => k_is)
    (case kz => decide)
    (case kv => exact .cons ⟨_, rfl⟩ (.cons ⟨_, rfl⟩ (.cons ⟨_, rfl⟩ (.cons ⟨_, rfl⟩ (.nil)))))
    (case al => k_is)
    (case az => decide)
    (case av => exact .cons ⟨_, rfl⟩ (.cons ⟨_, rfl⟩ (.cons ⟨_, rfl⟩ (.nil))))
    (case m1 => k_is)
    (case m2 => k_is)
    (case m3 => k_is)
    (case m4 => k_is)
    (case m5 => k_is)
    (case m6 => k_is)
    (case t1 => k_is)
    (case t2 => k_is)
    (case t4 => k_is)
    (case t5 => k_is)
    (case t6 => k_is)
    (case t7 => k_is)
    (case t8 => k_is)
    (case xB => k_exc)
    (case kB => k_is)
    (case rB => k_is)
    (case tB => k_is)
    (case vA => k_is)
    (case v1 => k_is)
    (case v2 => k_is)
    (case v3 => k_is)
    (case v4 => k_is)
    (case v5 => k_is)
    (case vmk => k_is)
    (case vk => k_is)
    (case vpg => k_is)
    (case vhd => k_is)
    (case vpo => k_is)
    (case vsa => k_is)
    (case vn => k_is)
    (case vl => k_is)
    (case vf => k_is)
    (case uA => k_is)
    (case uL => k_is)
    (case uC => k_is)
    (case uK => k_is)
    (case o6 => k_is)
    (case o7 => rfl)
    (case o8 => rfl)
    (case o9 => rfl)
    (case own => exact PySem.W.km_tabs_of Y _ (by decide))
    (case z_isinstance => k_is)
    (case z_list => k_is)
    (case z_tuple => k_is)
    (case z_len => k_is)
    (case z_all => k_is)
    (case z_zip => k_is)
    (case z_dict => k_is)
    (case z_int => k_is)
    (case z_bool => k_is)
    (case z_range => k_is)
    (case z_str => k_is)
    (case z_any => k_is)
    (case z_sorted => k_is)
    (case z_ValueError => k_is)
    (case z_enumerate => k_is)
    (case DW => (refine' Lw.dx_mk KX G ?a ?l ?c ?k; (case a => k_is); (case l => k_is); (case c => k_is); (case k => k_is)))
    (case DZ => (refine' Lw.dx_mk KX G ?a ?l ?c ?k; (case a => k_is); (case l => k_is); (case c => k_is); (case k => k_is)))
    (case DA => (refine' Lw.dx_mk KX G ?a ?l ?c ?k; (case a => k_is); (case l => k_is); (case c => k_is); (case k => k_is)))
    (case DCL => (refine' Lw.dx_mk KX G ?a ?l ?c ?k; (case a => k_is); (case l => k_is); (case c => k_is); (case k => k_is)))
    (case DD => (refine' Lw.dx_mk KX G ?a ?l ?c ?k; (case a => k_is); (case l => k_is); (case c => k_is); (case k => k_is)))
    (case DB => (refine' Lw.dx_mk KX G ?a ?l ?c ?k; (case a => k_is); (case l => k_is); (case c => k_is); (case k => k_is)))
    (case DP => (refine' Lw.dx_mk KX G ?a ?l ?c ?k; (case a => k_is); (case l => k_is); (case c => k_is); (case k => k_is)))
    (case DMx => (refine' Lw.dx_mk KX G ?a ?l ?c ?k; (case a => k_is); (case l => k_is); (case c => k_is); (case k => k_is)))
    (case DS => (refine' Lw.dx_mk KX G ?a ?l ?c ?k; (case a => k_is); (case l => k_is); (case c => k_is); (case k => k_is)))
    (case DN => (refine' Lw.dx_mk KX G ?a ?l ?c ?k; (case a => k_is); (case l => k_is); (case c => k_is); (case k => k_is)))
    (case DLt => (refine' Lw.dx_mk KX G ?a ?l ?c ?k; (case a => k_is); (case l => k_is); (case c => k_is); (case k => k_is)))
    (case DF => (refine' Lw.dx_mk KX G ?a ?l ?c ?k; (case a => k_is); (case l => k_is); (case c => k_is); (case k => k_is)))
    (case DX => (refine' Lw.dx_mk KX G ?a ?l ?c ?k; (case a => k_is); (case l => k_is); (case c => k_is); (case k => k_is)))
    (case DLv => (refine' Lw.dx_mk KX G ?a ?l ?c ?k; (case a => k_is); (case l => k_is); (case c => k_is); (case k => k_is)))
    (case DR => (refine' Lw.dx_mk KX G ?a ?l ?c ?k; (case a => k_is); (case l => k_is); (case c => k_is); (case k => k_is)))
    (case DFi => (refine' Lw.dx_mk KX G ?a ?l ?c ?k; (case a => k_is); (case l => k_is); (case c => k_is); (case k => k_is)))
    (case DUb => (refine' Lw.dx_mk KX G ?a ?l ?c ?k; (case a => k_is); (case l => k_is); (case c => k_is); (case k => k_is)))
    (case DTd => (refine' Lw.dx_mk KX G ?a ?l ?c ?k; (case a => k_is); (case l => k_is); (case c => k_is); (case k => k_is)))
