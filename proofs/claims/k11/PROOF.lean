import PyProof.Rows.All
import Wide.All
import OpenK.AllK
import Wide.FinOn
import HandS.ForExc
import HandS.ForMost
import HandS.Wide
import HandS.IsInst
import HandS.Walk
import HandS.Zip
import HandS.Style
import HandS.Codes
import HandS.Conv
import HandS.FStr
import HandS.Property
import HandS.ClsMeth
import HandS.Text
import HandS.Strs
import HandS.SortKw
import HandS.RaiseMore
import HandS.ExcIs
import HandS.TryMany
import HandS.Lambda
import HandS.EndTab
import HandS.EndBits
import HandS.TupAny
import HandS.Star
import HandS.MakeKw
import HandS.MakeKwOnly
import HandS.ReCall
import HandS.TupSets
import HandS.More
import HandS.DictTup
import HandS.SortOrd
import KE.SortData
import HandS.DictComp
import HandS.Comp
import KE.KDictItemsList
import KE.KDictOf
import KE.KDictCopyH
import KE.KAssignIn
import HandS.Deep
import KE.GoesZip
import KE.GoesMore
import HandS.WordsExc
import HandS.StrMore
import HandS.Steps
import KE.DataFind
import HandS.TryOnly
import HandS.EndOwn
import KE.KNestM
import PySem.Challenge.RW_levelwalks_k11_table_read_back
set_option Elab.async false
set_option linter.all false
set_option maxRecDepth 100000
set_option maxHeartbeats 8000000
namespace Lw
open PySem L2
def topS (i : Nat) : Stmt := PySem.Challenge.pw_levelwalks_k11_table_read_back.main.body.getD i (.Pass ⟨0, 0, 0, 0⟩)
theorem seqT {K : PySem.W.Frag} {H H' : Hp} (g : Same H H') {a : Addr} {xs : List V} (h : SqT K H a xs) : SqT K H' a xs := by
  rcases h with (h | ⟨o, h⟩) | h
  · exact .inl (.inl (g _ _ h))
  · exact .inl (.inr ⟨o, g _ _ h⟩)
  · exact .inr h
theorem tyT {K : PySem.W.Frag} {H : Hp} {a : Addr} {xs : List V} (h : SqT K H a xs) : TyX K H (.ref a) (.type "tuple") := by
  rcases h with (h | ⟨o, h⟩) | ⟨o, its, n, h, c, _⟩
  · exact .base (.tup h)
  · exact .fTuple h
  · exact .kTuple h c
theorem tyL {K : PySem.W.Frag} {H : Hp} {a : Addr} {xs : List V} (h : SqL K H a xs) : TyX K H (.ref a) (.type "list") := by
  rcases h with (h | ⟨o, h⟩) | ⟨o, its, n, h, c, _⟩
  · exact .base (.lst h)
  · exact .base (.frz h)
  · exact .kList h c
/-! two values that show the same data: ints, texts, truth values, tuples and lists of such; at most n deep -/
def Sm (K : PySem.W.Frag) (H : Hp) : Nat → V → V → Prop
  | 0, _, _ => False
  | n + 1, v, w => (∃ i : Int, v = .int i ∧ w = .int i) ∨ (∃ s : Str, v = .str s ∧ w = .str s) ∨ (∃ b : Bool, v = .bl b ∧ w = .bl b) ∨
    (∃ (a b : Addr) (xs ys : List V), v = .ref a ∧ w = .ref b ∧ SqT K H a xs ∧ SqT K H b ys ∧ xs.length = ys.length ∧ xs.length ≤ 1000 ∧ ∀ (i : Nat) (x y : V), xs[i]? = some x → ys[i]? = some y → Sm K H n x y) ∨
    (∃ (a b : Addr) (xs ys : List V), v = .ref a ∧ w = .ref b ∧ H a = some (.lst xs) ∧ H b = some (.lst ys) ∧ xs.length = ys.length ∧ xs.length ≤ 1000 ∧ ∀ (i : Nat) (x y : V), xs[i]? = some x → ys[i]? = some y → Sm K H n x y)
theorem Sm.mono {K : PySem.W.Frag} {H H' : Hp} (g : Same H H') : ∀ {n : Nat} {v w : V}, Sm K H n v w → Sm K H' n v w
  | 0, _, _, h => h
  | n + 1, v, w, h => by
    rcases h with h | h | h | ⟨a, b, xs, ys, e1, e2, h1, h2, h3, h4, h5⟩ | ⟨a, b, xs, ys, e1, e2, h1, h2, h3, h4, h5⟩
    · exact .inl h
    · exact .inr (.inl h)
    · exact .inr (.inr (.inl h))
    · exact .inr (.inr (.inr (.inl ⟨a, b, xs, ys, e1, e2, seqT g h1, seqT g h2, h3, h4, fun i x y p q => Sm.mono g (h5 i x y p q)⟩)))
    · exact .inr (.inr (.inr (.inr ⟨a, b, xs, ys, e1, e2, g _ _ h1, g _ _ h2, h3, h4, fun i x y p q => Sm.mono g (h5 i x y p q)⟩)))
theorem Sm.int {K : PySem.W.Frag} {H : Hp} {n : Nat} (i : Int) : Sm K H (n + 1) (.int i) (.int i) := .inl ⟨i, rfl, rfl⟩
theorem Sm.str {K : PySem.W.Frag} {H : Hp} {n : Nat} (z : Str) : Sm K H (n + 1) (.str z) (.str z) := .inr (.inl ⟨z, rfl, rfl⟩)
theorem Sm.bl {K : PySem.W.Frag} {H : Hp} {n : Nat} (b : Bool) : Sm K H (n + 1) (.bl b) (.bl b) := .inr (.inr (.inl ⟨b, rfl, rfl⟩))
/-- place by place -/
def SmAll (K : PySem.W.Frag) (H : Hp) (n : Nat) (xs ys : List V) : Prop := xs.length = ys.length ∧ ∀ (i : Nat) (x y : V), xs[i]? = some x → ys[i]? = some y → Sm K H n x y
theorem SmAll.nil {K : PySem.W.Frag} {H : Hp} {n : Nat} : SmAll K H n [] [] := ⟨rfl, fun i x y e => by cases e⟩
theorem SmAll.cons {K : PySem.W.Frag} {H : Hp} {n : Nat} {x y : V} {xs ys : List V} (h : Sm K H n x y) (t : SmAll K H n xs ys) : SmAll K H n (x :: xs) (y :: ys) :=
  ⟨congrArg Nat.succ t.1, fun i a b e1 e2 => by
    cases i with
    | zero => cases e1; cases e2; exact h
    | succ i => exact t.2 i a b e1 e2⟩
theorem Sm.tup {K : PySem.W.Frag} {H : Hp} {n : Nat} {a b : Addr} {xs ys : List V} (h1 : SqT K H a xs) (h2 : SqT K H b ys) (hl : xs.length ≤ 1000) (t : SmAll K H n xs ys) : Sm K H (n + 1) (.ref a) (.ref b) :=
  .inr (.inr (.inr (.inl ⟨a, b, xs, ys, rfl, rfl, h1, h2, t.1, hl, t.2⟩)))
theorem Sm.lst {K : PySem.W.Frag} {H : Hp} {n : Nat} {a b : Addr} {xs ys : List V} (h1 : H a = some (.lst xs)) (h2 : H b = some (.lst ys)) (hl : xs.length ≤ 1000) (t : SmAll K H n xs ys) : Sm K H (n + 1) (.ref a) (.ref b) :=
  .inr (.inr (.inr (.inr ⟨a, b, xs, ys, rfl, rfl, h1, h2, t.1, hl, t.2⟩)))
def TK (K : PySem.W.Frag) (H H' : Hp) : Prop := ∀ (b : Addr) (xs : List V), SqT K H b xs → SqT K H' b xs
theorem TK.of {K : PySem.W.Frag} {H H' : Hp} (g : Same H H') : TK K H H' := fun b xs h => seqT g h
theorem TK.trans {K : PySem.W.Frag} {H H1 H2 : Hp} (g : TK K H H1) (g' : TK K H1 H2) : TK K H H2 := fun b xs h => g' b xs (g b xs h)
theorem TK.but {K : PySem.W.Frag} {H H' : Hp} (h : ∀ (b : Addr) (o : HO), (∀ xs, o ≠ .lst xs) → H b = some o → H' b = some o) : TK K H H' := fun b xs q => by
  rcases q with (q | ⟨o, q⟩) | q
  · exact .inl (.inl (h _ _ (by intro z e; cases e) q))
  · exact .inl (.inr ⟨o, h _ _ (by intro z e; cases e) q⟩)
  · exact .inr q
theorem TK.lst {K : PySem.W.Frag} {H : Hp} {D : Addr} {xs ys : List V} (h : H D = some (.lst xs)) : TK K H (upd H D (.lst ys)) := .but fun b o no q => by
  rw [upd_ne (fun e => by rw [e, h] at q; exact no _ (Option.some.inj q).symm)]
  exact q
theorem same_new {H : Hp} {p : Addr} (h : H p = none) (o : HO) : Same H (upd H p o) := fun b u q => by rw [upd_ne (ne_of_none q h)]; exact q
theorem same_over {H H' : Hp} {p : Addr} (g : Same H H') (h : H p = none) (o : HO) : Same H (upd H' p o) := fun b u q => by rw [upd_ne (ne_of_none q h)]; exact g _ _ q
/-- a comprehension's turn without a test -/
theorem kept {te : TE} {σ : St} {H : Hp} {R : V → Hp → Prop} {S : Hp → Prop} (h : te σ H R) : tYes σ H fun b H3 => if b = true then te σ H3 R else S H3 := iteT (A := te σ H R) (B := S H) h
/-- the built-in names that the program's text does not make its own -/
structure Bt (mg : Str → Option Value) : Prop where
  isi : mg "isinstance" = none
  lst : mg "list" = none
  tup : mg "tuple" = none
  len : mg "len" = none
  all : mg "all" = none
  zip : mg "zip" = none
  dict : mg "dict" = none
  int : mg "int" = none
  bool : mg "bool" = none
  range : mg "range" = none
section
variable {P : Program} {w : World} {K : PySem.W.Frag} {mg : Str → Option Value} {base : Heap} {f : Addr} {fd : FuncData}
theorem none_left {sp : Sp} {ps : List Str} {CX : CXT} (no : ∀ vs H Q E, ¬ sp vs H Q E) : FnOk P w K mg base CX 0 f fd ps sp :=
  ⟨fun vs H Q E h => absurd h (no vs H Q E), fun A outer s H args us vs Q E _ _ _ _ h => absurd h (no vs H Q E)⟩
theorem is_seq {K : PySem.W.Frag} {t : String} {b : Bool} (h1 : kitB t "list" = some false) (h2 : kitB t "tuple" = some b) : PySem.W.kitAny K (.type t) [.type "list", .type "tuple"] = some b :=
  kitAny_cons (kit_ty h1) (fun _ => kitAny_cons (kit_ty h2) (fun e => by rw [e]; exact kitAny_nil) (fun e => e)) (fun e => by cases e)
abbrev sSame : Stmt := topS 65
/-! zip of two tuples, as a walk -/
theorem walk_zipT {K : PySem.W.Frag} {a b : Addr} {xs ys : List V} (e : xs.length = ys.length) : Walk (RZ.ItzT K a b) xs.length (fun H => SqT K H a xs ∧ SqT K H b ys) (YPair (fun i => xs[i]?) (fun i => ys[i]?)) :=
  ⟨fun i _ hi q => ⟨xs, ys, xs[i], ys[i]'(by omega), q.1, q.2, List.getElem?_eq_getElem hi, List.getElem?_eq_getElem (by omega)⟩, fun _ q => ⟨xs, ys, q.1, q.2, .inl (Nat.le_refl _)⟩,
    fun i H v H' _ q ⟨T, x, y, h1, h2, h3, h4, h5⟩ => ⟨T, x, y, h1, h2, h3, h4 xs q.1, h5 ys q.2⟩⟩
def spSame (K : PySem.W.Frag) (n : Nat) : Sp := fun vs H Q _ => ∃ v u : V, vs = [v, u] ∧ Sm K H n v u ∧ ∀ H' : Hp, Same H H' → Q (.bl true) H'
abbrev namesS : List Str := ["_law_found", "_law_due", "_law_one", "_law_other"]
theorem scS : FnScope namesS ["_law_found", "_law_due"] (defScope sSame) := ⟨rfl, rfl, rfl, by decide +kernel, rfl, by decide +kernel, by decide +kernel⟩
theorem is_four {K : PySem.W.Frag} {t : String} (h1 : kitB t "int" = some false) (h2 : kitB t "list" = some false) (h3 : kitB t "tuple" = some false) (h4 : kitB t "dict" = some false) :
    PySem.W.kitAny K (.type t) [.type "int", .type "list", .type "tuple", .type "dict"] = some false :=
  kitAny_cons (kit_ty h1) (fun _ => kitAny_cons (kit_ty h2) (fun _ => kitAny_cons (kit_ty h3) (fun _ => kitAny_cons (kit_ty h4) (fun _ => kitAny_nil) (fun e => by cases e)) (fun e => by cases e)) (fun e => by cases e)) (fun e => by cases e)
theorem is_seqL {K : PySem.W.Frag} : PySem.W.kitAny K (.type "list") [.type "list", .type "tuple"] = some true :=
  kitAny_cons (kit_ty (r := true) (by decide +kernel)) (fun e => by cases e) (fun _ => rfl)
theorem iteC {c : Bool} {A B : Prop} (hc : c = true) (h : A) : if c = true then A else B := by
  rw [if_pos hc]
  exact h
theorem iteN {c : Bool} {A B : Prop} (hc : c = false) (h : B) : if c = true then A else B := by
  rw [if_neg (by rw [hc]; decide)]
  exact h
theorem all_true {n : Nat} : (List.replicate n true).all id = true := by
  rw [List.all_eq_true]
  intro x hx
  rw [(List.mem_replicate.mp hx).2]
  rfl
/-- the list of answers so far -/
def InvS (H0 : Hp) (D : Addr) (i : Nat) (H : Hp) : Prop := H D = some (.lst (List.replicate i (.bl true))) ∧ Same H0 H
theorem ok_same {n : Nat} (F : Fun K "_law_same" "_law_same" sSame f fd) (G : FnOk P w K mg base CX0 n f fd ["_law_found", "_law_due"] (spSame K n)) (bF : Binds K fd ["_law_found", "_law_due"] []) (kF : PySem.W.keepIn K (.ref f) = true) (mF : mg "_law_same" = some (.ref f)) (B : Bt mg) :
    FnOk P w K mg base CX0 (n + 1) f fd ["_law_found", "_law_due"] (spSame K (n + 1)) := by
  refine F.ok scS (fun vs H Q E h => ?_) (fun cdv A outer s H vs Q E hr h => ?_)
  · obtain ⟨v, u, rfl, _⟩ := h
    rfl
  obtain ⟨v, u, rfl, hA, q⟩ := h
  refine ⟨_, pss_cons (ps_if (pt_val (pe_callB call_isiT (by rfl) B.isi (by decide +kernel) (pa_cons (pv 1) (pa_cons (pe_tup (pa_cons (pe_bltn (v := .ty "list") (by rfl) B.lst (by decide +kernel) rfl) (pa_cons (pe_bltn (v := .ty "tuple") (by rfl) B.tup (by decide +kernel) rfl) pa_nil))) pa_nil))))
      (pss_cons (ps_if (PW.pt (pw_or (pt_cmpR op_ne (pe_callB call_isi (by rfl) B.isi (by decide +kernel) (pa_cons (pv 0) (pa_cons (pe_bltn (v := .ty "list") (by rfl) B.lst (by decide +kernel) rfl) pa_nil))) (pe_callB call_isi (by rfl) B.isi (by decide +kernel) (pa_cons (pv 1) (pa_cons (pe_bltn (v := .ty "list") (by rfl) B.lst (by decide +kernel) rfl) pa_nil))) (nomark _)) (pw_or1 (pt_cmpR op_ne (pe_callB call_isi (by rfl) B.isi (by decide +kernel) (pa_cons (pv 0) (pa_cons (pe_bltn (v := .ty "tuple") (by rfl) B.tup (by decide +kernel) rfl) pa_nil))) (pe_callB call_isi (by rfl) B.isi (by decide +kernel) (pa_cons (pv 1) (pa_cons (pe_bltn (v := .ty "tuple") (by rfl) B.tup (by decide +kernel) rfl) pa_nil))) (nomark _))))) (pss_one (ps_ret pe_bl)) pss_nil)
        (pss_one (ps_ret (pe_and (pe_cmpR op_eq (pe_callB call_len_seq (by rfl) B.len PySem.boot_len (pa_cons (pv 0) pa_nil)) (pe_callB call_len_seq (by rfl) B.len PySem.boot_len (pa_cons (pv 1) pa_nil)) (nomark _)) (pe_one (pe_callB (cr_all rfl) (by rfl) B.all (by decide +kernel) (pa_cons
          (pe_lc (own := [("_law_one", 2), ("_law_other", 3)]) (g := gTup K 2 (gCons (gName 2) (gCons (gName 3) gNil))) (tt := tYes) rfl scS.nd (RZ.pi_zipA (by rfl) B.zip (pa_cons (pv 0) (pa_cons (pv 1) pa_nil))) (blkOk_by (N := namesS) (sc := defScope sSame) (by decide +kernel))
            (fun _ _ _ _ _ => pg_tup rfl (pgs_cons (pg_name (i := 2) scS.nd rfl (Or.inl rfl)) (pgs_cons (pg_name (i := 3) scS.nd rfl (Or.inl rfl)) pgs_nil))) (fun _ _ _ _ _ => pts_nil)
            (fun _ _ _ _ _ => pe_call G hr rfl mF kF bF .nil pass0 (pa_cons (pv 2) (pa_cons (pv 3) pa_nil)))) pa_nil))))))) pss_nil)
    (pss_cons (ps_if (pt_val (pe_callB call_isi (by rfl) B.isi (by decide +kernel) (pa_cons (pv 1) (pa_cons (pe_bltn (v := .ty "dict") (by rfl) B.dict (by decide +kernel) rfl) pa_nil)))) (pss_cons ps_never (pss_one ps_never)) pss_nil)
    (pss_cons (ps_if (pt_val (pe_callB call_isi (by rfl) B.isi (by decide +kernel) (pa_cons (pv 1) (pa_cons (pe_bltn (v := .ty "int") (by rfl) B.int (by decide +kernel) rfl) pa_nil)))) (pss_one (ps_ret (pe_and (pe_callB call_isi (by rfl) B.isi (by decide +kernel) (pa_cons (pv 0) (pa_cons (pe_bltn (v := .ty "int") (by rfl) B.int (by decide +kernel) rfl) pa_nil))) (pe_and (pe_cmpR op_eq (pe_callB call_isi (by rfl) B.isi (by decide +kernel) (pa_cons (pv 0) (pa_cons (pe_bltn (v := .ty "bool") (by rfl) B.bool (by decide +kernel) rfl) pa_nil))) (pe_callB call_isi (by rfl) B.isi (by decide +kernel) (pa_cons (pv 1) (pa_cons (pe_bltn (v := .ty "bool") (by rfl) B.bool (by decide +kernel) rfl) pa_nil))) (nomark _)) (pe_one (pe_cmpR op_eq (pv 0) (pv 1) (nomark _))))))) pss_nil)
    (pss_one (ps_ret (pe_and (pe_cmpR op_eq (pv 0) (pv 1) (nomark _)) (pe_one (pe_cmpR op_isBl (pe_callB call_isiT (by rfl) B.isi (by decide +kernel) (pa_cons (pv 0) (pa_cons (pe_tup (pa_cons (pe_bltn (v := .ty "int") (by rfl) B.int (by decide +kernel) rfl) (pa_cons (pe_bltn (v := .ty "list") (by rfl) B.lst (by decide +kernel) rfl) (pa_cons (pe_bltn (v := .ty "tuple") (by rfl) B.tup (by decide +kernel) rfl) (pa_cons (pe_bltn (v := .ty "dict") (by rfl) B.dict (by decide +kernel) rfl) pa_nil))))) pa_nil))) pe_bl (nomark _)))))))), ?_⟩
  refine ⟨_, rfl, (by show 2 ≤ sizeLine; decide), fun t ht => ?_⟩
  have g1 : Same H (upd H t (.tup [.ty "list", .ty "tuple"])) := same_new ht _
  rcases hA with ⟨i, rfl, rfl⟩ | ⟨z, rfl, rfl⟩ | ⟨bb, rfl, rfl⟩ | ⟨a, b, xs, ys, rfl, rfl, h1, h2, h3, h4, h5⟩ | ⟨a, b, xs, ys, rfl, rfl, h1, h2, h3, h4, h5⟩
  · refine ⟨_, t, _, .type "int", [.type "list", .type "tuple"], false, rfl, upd_same, .cons (.ty _) (.cons (.ty _) .nil), .base (.int i), is_seq (by decide +kernel) (by decide +kernel), _, rfl, ?_⟩
    refine iteF ?_
    refine ⟨_, rfl, _, _, .type "int", .type "dict", false, rfl, .ty _, .base (.int i), kit_ty (by decide +kernel), _, rfl, ?_⟩
    refine iteF ?_
    refine ⟨_, rfl, _, _, .type "int", .type "int", true, rfl, .ty _, .base (.int i), kit_ty (by decide +kernel), _, rfl, ?_⟩
    refine iteT ?_
    refine ⟨_, rfl, _, _, .type "int", .type "int", true, rfl, .ty _, .base (.int i), kit_ty (by decide +kernel), _, rfl, ?_⟩
    refine iteT ?_
    refine ⟨_, rfl, _, _, .type "int", .type "bool", false, rfl, .ty _, .base (.int i), kit_ty (by decide +kernel), ?_⟩
    refine ⟨_, rfl, _, _, .type "int", .type "bool", false, rfl, .ty _, .base (.int i), kit_ty (by decide +kernel), ?_⟩
    refine ⟨rfl, _, rfl, iteC (decide_eq_true rfl) ?_⟩
    refine ⟨_, rfl, _, rfl, rfl, ?_⟩
    show Q (.bl (decide (V.int i = V.int i))) _
    rw [decide_eq_true rfl]
    exact q _ g1
  · refine ⟨_, t, _, .type "str", [.type "list", .type "tuple"], false, rfl, upd_same, .cons (.ty _) (.cons (.ty _) .nil), .base (.str z), is_seq (by decide +kernel) (by decide +kernel), _, rfl, ?_⟩
    refine iteF ?_
    refine ⟨_, rfl, _, _, .type "str", .type "dict", false, rfl, .ty _, .base (.str z), kit_ty (by decide +kernel), _, rfl, ?_⟩
    refine iteF ?_
    refine ⟨_, rfl, _, _, .type "str", .type "int", false, rfl, .ty _, .base (.str z), kit_ty (by decide +kernel), _, rfl, ?_⟩
    refine iteF ?_
    refine ⟨_, rfl, _, rfl, rfl, _, rfl, iteC (decide_eq_true rfl) ?_⟩
    refine ⟨_, rfl, (by show 4 ≤ sizeLine; decide), fun t2 ht2 => ?_⟩
    refine ⟨_, t2, _, .type "str", [.type "int", .type "list", .type "tuple", .type "dict"], false, rfl, upd_same, .cons (.ty _) (.cons (.ty _) (.cons (.ty _) (.cons (.ty _) .nil))), .base (.str z), is_four (by decide +kernel) (by decide +kernel) (by decide +kernel) (by decide +kernel), _, _, rfl, rfl, ?_⟩
    exact q _ (g1.trans (same_new ht2 _))
  · refine ⟨_, t, _, .type "bool", [.type "list", .type "tuple"], false, rfl, upd_same, .cons (.ty _) (.cons (.ty _) .nil), .base (.bl bb), is_seq (by decide +kernel) (by decide +kernel), _, rfl, ?_⟩
    refine iteF ?_
    refine ⟨_, rfl, _, _, .type "bool", .type "dict", false, rfl, .ty _, .base (.bl bb), kit_ty (by decide +kernel), _, rfl, ?_⟩
    refine iteF ?_
    refine ⟨_, rfl, _, _, .type "bool", .type "int", true, rfl, .ty _, .base (.bl bb), kit_ty (by decide +kernel), _, rfl, ?_⟩
    refine iteT ?_
    refine ⟨_, rfl, _, _, .type "bool", .type "int", true, rfl, .ty _, .base (.bl bb), kit_ty (by decide +kernel), _, rfl, ?_⟩
    refine iteT ?_
    refine ⟨_, rfl, _, _, .type "bool", .type "bool", true, rfl, .ty _, .base (.bl bb), kit_ty (by decide +kernel), ?_⟩
    refine ⟨_, rfl, _, _, .type "bool", .type "bool", true, rfl, .ty _, .base (.bl bb), kit_ty (by decide +kernel), ?_⟩
    refine ⟨rfl, _, rfl, iteC (decide_eq_true rfl) ?_⟩
    refine ⟨_, rfl, _, rfl, rfl, ?_⟩
    show Q (.bl (decide (V.bl bb = V.bl bb))) _
    rw [decide_eq_true rfl]
    exact q _ g1
  · refine ⟨_, t, _, .type "tuple", [.type "list", .type "tuple"], true, rfl, upd_same, .cons (.ty _) (.cons (.ty _) .nil), tyT (seqT g1 h2), is_seq (by decide +kernel) (by decide +kernel), _, rfl, ?_⟩
    refine iteT ?_
    have ka := seqT g1 h1
    have kb := seqT g1 h2
    refine ⟨_, rfl, _, _, .type "tuple", .type "list", false, rfl, .ty _, tyT ka, kit_ty (by decide +kernel), _, rfl, _, _, .type "tuple", .type "list", false, rfl, .ty _, tyT kb, kit_ty (by decide +kernel), rfl, _, rfl, ?_⟩
    refine iteN rfl ?_
    refine ⟨_, rfl, _, _, .type "tuple", .type "tuple", true, rfl, .ty _, tyT ka, kit_ty (by decide +kernel), _, rfl, _, _, .type "tuple", .type "tuple", true, rfl, .ty _, tyT kb, kit_ty (by decide +kernel), rfl, _, rfl, ?_⟩
    refine iteN rfl ?_
    refine ⟨_, rfl, a, xs, rfl, .inr (ka), _, rfl, b, ys, rfl, .inr (kb), rfl, _, rfl, iteC (decide_eq_true (by rw [h3])) ?_⟩
    refine ⟨_, rfl, _, rfl, a, b, xs, ys, rfl, .inr ⟨ka, kb, fun D hD => ?_⟩⟩
    have hD0 : H D = none := g1.free hD
    refine lc_it (walk_zipT (K := K) (a := a) (b := b) h3) (InvS H D) ⟨upd_same, same_over g1 hD0 _⟩ (fun i H' _ ⟨_, g⟩ => ⟨seqT g h1, seqT g h2⟩) ?_ ?_
    · rintro i v H' H'' hi ⟨hd, g⟩ ⟨T, x, y, rfl, hT, rfl, ex, ey⟩
      have gT : Same H' (upd H' T (.tup [x, y])) := same_new hT _
      have hi1 : i < 1001 := by omega
      refine ⟨T, [x, y], rfl, SqT.of upd_same, rfl, x, [y], rfl, y, [], rfl, rfl, ?_⟩
      refine ⟨rfl, kept ?_⟩
      refine ⟨_, rfl, _, rfl, x, y, rfl, (h5 i x y ex ey).mono (g.trans gT), fun H2 g2 => ?_⟩
      refine ⟨_, g2 _ _ (gT _ _ hd), by rw [List.length_replicate]; exact small1000 (by omega), by rw [upd_same, List.replicate_succ'], same_over ((g.trans gT).trans g2) hD0 _⟩
    · rintro H' ⟨hd, g⟩
      exact ⟨D, List.replicate xs.length true, rfl, SqL.of (by rw [hd, List.map_replicate]), by rw [all_true]; exact q _ g⟩
  · refine ⟨_, t, _, .type "list", [.type "list", .type "tuple"], true, rfl, upd_same, .cons (.ty _) (.cons (.ty _) .nil), .base (.lst (g1 _ _ h2)), is_seqL, _, rfl, ?_⟩
    refine iteT ?_
    have ka := g1 _ _ h1
    have kb := g1 _ _ h2
    refine ⟨_, rfl, _, _, .type "list", .type "list", true, rfl, .ty _, .base (.lst ka), kit_ty (by decide +kernel), _, rfl, _, _, .type "list", .type "list", true, rfl, .ty _, .base (.lst kb), kit_ty (by decide +kernel), rfl, _, rfl, ?_⟩
    refine iteN rfl ?_
    refine ⟨_, rfl, _, _, .type "list", .type "tuple", false, rfl, .ty _, .base (.lst ka), kit_ty (by decide +kernel), _, rfl, _, _, .type "list", .type "tuple", false, rfl, .ty _, .base (.lst kb), kit_ty (by decide +kernel), rfl, _, rfl, ?_⟩
    refine iteN rfl ?_
    refine ⟨_, rfl, a, xs, rfl, .inl (SqL.of ka), _, rfl, b, ys, rfl, .inl (SqL.of kb), rfl, _, rfl, iteC (decide_eq_true (by rw [h3])) ?_⟩
    refine ⟨_, rfl, _, rfl, a, b, xs, ys, rfl, .inl ⟨SqL.of ka, SqL.of kb, fun D hD => ?_⟩⟩
    have hD0 : H D = none := g1.free hD
    refine lc_it (walk_zip (K := K) (a := a) (b := b) (n := xs.length) (by omega)) (InvS H D) ⟨upd_same, same_over g1 hD0 _⟩ (fun i H' _ ⟨_, g⟩ => ⟨SqL.of (g _ _ h1), SqL.of (g _ _ h2)⟩) ?_ ?_
    · rintro i v H' H'' hi ⟨hd, g⟩ ⟨T, x, y, rfl, hT, rfl, ex, ey⟩
      have gT : Same H' (upd H' T (.tup [x, y])) := same_new hT _
      have hi1 : i < 1001 := by omega
      refine ⟨T, [x, y], rfl, SqT.of upd_same, rfl, x, [y], rfl, y, [], rfl, rfl, ?_⟩
      refine ⟨rfl, kept ?_⟩
      refine ⟨_, rfl, _, rfl, x, y, rfl, (h5 i x y ex ey).mono (g.trans gT), fun H2 g2 => ?_⟩
      refine ⟨_, g2 _ _ (gT _ _ hd), by rw [List.length_replicate]; exact small1000 (by omega), by rw [upd_same, List.replicate_succ'], same_over ((g.trans gT).trans g2) hD0 _⟩
    · rintro H' ⟨hd, g⟩
      exact ⟨D, List.replicate xs.length true, rfl, SqL.of (by rw [hd, List.map_replicate]), by rw [all_true]; exact q _ g⟩
abbrev sDraw : Stmt := topS 61
/-! the spring of numbers: a list of four, its first one a list of ints -/
def Spr (H : Hp) (st q : Addr) (b : Int) : Prop := ∃ (ns : List Int) (a c : Int), H st = some (.lst [.ref q, .int a, .int b, .int c]) ∧ H q = some (.lst (ns.map V.int)) ∧ 0 ≤ a ∧ 0 ≤ c ∧ c < 2147483647 ∧ ns.length ≤ 63
/-! all else is as it was -/
def SX (st q : Addr) (H H' : Hp) : Prop := ∀ (x : Addr) (o : HO), x ≠ st → x ≠ q → H x = some o → H' x = some o
theorem SX.refl {st q : Addr} {H : Hp} : SX st q H H := fun _ _ _ _ h => h
theorem SX.trans {st q : Addr} {H H1 H2 : Hp} (g : SX st q H H1) (g' : SX st q H1 H2) : SX st q H H2 := fun x o h1 h2 h => g' x o h1 h2 (g x o h1 h2 h)
theorem SX.of {st q : Addr} {H H' : Hp} (g : Same H H') : SX st q H H' := fun x o _ _ h => g x o h
theorem SX.st {st q : Addr} {H : Hp} {o : HO} : SX st q H (upd H st o) := fun x u h1 _ h => by rw [upd_ne h1]; exact h
theorem SX.q {st q : Addr} {H : Hp} {o : HO} : SX st q H (upd H q o) := fun x u _ h2 h => by rw [upd_ne h2]; exact h
theorem Spr.ne {H : Hp} {st q : Addr} {a b c : Int} {ns : List Int} (h1 : H st = some (.lst [.ref q, .int a, .int b, .int c])) (h2 : H q = some (.lst (ns.map V.int))) : q ≠ st := fun e => by
  rw [e, h1] at h2
  cases ns with
  | nil => cases h2
  | cons n r => cases h2
def spDraw : Sp := fun vs H Q _ => ∃ (st q : Addr) (b m : Int), vs = [.ref st, .int m] ∧ Spr H st q b ∧ 0 ≤ b ∧ b ≤ 1000 ∧ 0 < m ∧ m < 1073741824 ∧
  ∀ (r : Int) (H' : Hp), 0 ≤ r → r < m → Spr H' st q (b + 1) → SX st q H H' → Q (.int r) H'
theorem scD : FnScope ["_law_stream", "_law_many", "_law_digit", "_law_mixed_here"] ["_law_stream", "_law_many"] (defScope sDraw) := ⟨rfl, rfl, rfl, by decide +kernel, rfl, by decide +kernel, by decide +kernel⟩
theorem dp_ints {H : Hp} : ∀ ns : List Int, DpAll K H (ns.map V.int) (ns.map PyData.int)
  | [] => .nil
  | n :: r => .cons (.int n) (dp_ints r)
theorem first_ix {n : Nat} (h : 0 < n) : seqIndex? 0 n = some 0 := (ixN_seq (n := n) (i := 0) (j := 0) (by unfold ixN; rw [if_pos (by decide), if_pos (by omega)]; rfl)).1
theorem ok_draw (F : Fun K "_law_draw" "_law_draw" sDraw f fd) (B : Bt mg) : FnOk P w K mg base CX0 1 f fd ["_law_stream", "_law_many"] spDraw := by
  refine F.ok scD (fun vs H Q E h => ?_) (fun cdv A outer s H vs Q E hr h => ?_)
  · obtain ⟨st, q, b, m, rfl, _⟩ := h
    rfl
  obtain ⟨st, q, b, m, rfl, ⟨ns, a, c, h1, h2, ha, hc, hc2, hns⟩, hb0, hb1, hm0, hm1, k⟩ := h
  refine ⟨_, pss_cons (ps_asg (pe_op op_add (pe_ix ix_list (pv 0) pe_int (fun _ _ => rfl)) pe_int) (pg_sub (pv 0) pe_int set_list))
    (C8.pss_cut (ps_if (PW.pt (pw_and (pt_cmpR op_eq (pe_ix ix_list (pv 0) pe_int (fun _ _ => rfl)) pe_int (nomark _)) (pw_and1 (pt_cmpR (op_neD hr.units) (pe_ix ix_list (pv 0) pe_int (fun _ _ => rfl)) (pe_lst pa_nil) (nomark _))))) (pss_cons (ps_asg (pe_bm PySem.F.plainAttrs_list PySem.F.slot_list_pop PySem.F.type_list_pop mt_popAt (pe_ix ix_list (pv 0) pe_int (fun _ _ => rfl)) (pa_cons pe_int pa_nil)) (pg_sub (pv 0) pe_int set_list)) (pss_one (ps_if (pt_cmpR op_lt (pe_ix ix_list (pv 0) pe_int (fun _ _ => rfl)) (pe_op op_pow pe_int pe_int) (nomark _)) (pss_cons (ps_asg (pe_op op_mod (pe_callTy call_int1 (by rfl) B.int (by decide +kernel) (pa_cons (pe_op op_add (pe_op op_add (pe_op op_mul (pe_ix ix_list (pv 0) pe_int (fun _ _ => rfl)) pe_int) (pe_ix ix_list (pv 0) pe_int (fun _ _ => rfl))) pe_int) pa_nil)) pe_int) (pg_sub (pv 0) pe_int set_list)) (pss_one (ps_asg pe_int (pg_sub (pv 0) pe_int set_list)))) pss_nil))) pss_nil)
    (pss_cons (ps_if (pt_cmpR op_gt (pe_ix ix_list (pv 0) pe_int (fun _ _ => rfl)) pe_int (nomark _)) (pss_cons (ps_set (i := 2) scD.nd rfl (Or.inl rfl) (pe_op op_mod (pe_callTy call_int1 (by rfl) B.int (by decide +kernel) (pa_cons (pe_ix ix_list (pv 0) pe_int (fun _ _ => rfl)) pa_nil)) (pv 1))) (pss_cons (ps_asg (pe_op op_fdiv (pe_ix ix_list (pv 0) pe_int (fun _ _ => rfl)) (pv 1)) (pg_sub (pv 0) pe_int set_list)) (pss_one (ps_ret (pv 2))))) pss_nil)
    (pss_cons (ps_set (i := 3) scD.nd rfl (Or.inl rfl) (pe_op op_mod (pe_op op_pow (pe_op op_add (pe_op op_add (pe_ix ix_list (pv 0) pe_int (fun _ _ => rfl)) (pe_op op_mul pe_int (pe_ix ix_list (pv 0) pe_int (fun _ _ => rfl)))) pe_int) pe_int) pe_int))
    (pss_one (ps_ret (pe_op op_mod (pe_op op_mod (pe_op op_pow (pe_op op_add (pe_op op_add (pe_op op_mul (pv 3) pe_int) (pe_op op_mul (pe_op op_mul pe_int (pe_ix ix_list (pv 0) pe_int (fun _ _ => rfl))) (pe_ix ix_list (pv 0) pe_int (fun _ _ => rfl)))) pe_int) pe_int) pe_int) (pv 1))))))), ?_⟩
  have nqs : q ≠ st := Spr.ne h1 h2
  refine ⟨_, rfl, st, _, _, _, rfl, rfl, SqL.of h1, rfl, _, _, rfl, rfl, _, rfl, st, _, _, _, rfl, rfl, h1, rfl, ?_⟩
  have e1 : upd H st (.lst [.ref q, .int a, .int (b + 1), .int c]) st = some (.lst [.ref q, .int a, .int (b + 1), .int c]) := upd_same
  have e2 : upd H st (.lst [.ref q, .int a, .int (b + 1), .int c]) q = some (.lst (ns.map V.int)) := by rw [upd_ne nqs]; exact h2
  have gx : SX st q H (upd H st (.lst [.ref q, .int a, .int (b + 1), .int c])) := SX.st
  refine ⟨fun σ' H' => σ' = [some (.ref st), some (.int m), none, none] ∧ Spr H' st q (b + 1) ∧ SX st q H H', ?_, ?_⟩
  · refine ⟨_, rfl, st, _, _, _, rfl, rfl, SqL.of e1, rfl, rfl, _, rfl, ?_⟩
    refine ite2 (fun ca => ?_) (fun _ => ⟨rfl, ⟨ns, a, c, e1, e2, ha, hc, hc2, hns⟩, gx⟩)
    have ca0 : a = 0 := by
      have z := of_decide_eq_true ca
      cases z
      rfl
    refine ⟨_, rfl, st, _, _, _, rfl, rfl, SqL.of e1, rfl, Nat.zero_le _, fun l hl => ?_⟩
    have g2 := same_new hl (.lst [])
    have f1 := g2 _ _ e1
    have f2 := g2 _ _ e2
    have gx2 := gx.trans (.of g2)
    cases ns with
    | nil =>
      refine ⟨.list [], .list [], .lst (SqL.of f2) .nil, .lst (SqL.of upd_same) .nil, by decide +kernel, by decide +kernel, _, rfl, ?_⟩
      refine iteN (by decide +kernel) ⟨rfl, ⟨[], a, c, f1, f2, ha, hc, hc2, hns⟩, gx2⟩
    | cons n r =>
      refine ⟨.list ((n :: r).map PyData.int), .list [], .lst (SqL.of f2) (dp_ints _), .lst (SqL.of upd_same) .nil, PySem.W.ke_shaped_ints _, by decide +kernel, _, rfl, ?_⟩
      refine iteC rfl ?_
      refine ⟨_, rfl, st, _, _, _, rfl, rfl, SqL.of f1, rfl, .inl ⟨rfl, _, SqL.of f2⟩, q, _, 0, 0, _, rfl, rfl, f2, by decide, by decide, first_ix (by simp), rfl, ?_⟩
      have p1 := (upd_ne (o := .lst (r.map V.int)) nqs.symm).trans f1
      have gx3 := gx2.trans (SX.q (o := .lst (r.map V.int)))
      refine ⟨_, rfl, st, _, _, _, rfl, rfl, p1, rfl, ?_⟩
      have gx4 := gx3.trans (SX.st (o := .lst [.ref q, .int n, .int (b + 1), .int c]))
      refine ⟨_, rfl, st, _, _, _, rfl, rfl, SqL.of upd_same, rfl, _, _, rfl, rfl, ⟨by decide, by decide, by decide⟩, _, _, rfl, rfl, _, rfl, ?_⟩
      refine ite2 (fun cn => ?_) (fun cn => ?_)
      · refine ⟨_, rfl, st, _, _, _, rfl, rfl, SqL.of upd_same, rfl, _, _, rfl, rfl, .inr ⟨by decide, by decide⟩, _, rfl, st, _, _, _, rfl, rfl, SqL.of upd_same, rfl, _, _, rfl, rfl, _, _, rfl, rfl, .inl ⟨_, rfl, ?_⟩⟩
        refine ⟨_, _, rfl, rfl, (by show (0 : Int) < 2147483647; decide), _, rfl, st, _, _, _, rfl, rfl, upd_same, rfl, _, rfl, st, _, _, _, rfl, rfl, upd_same, rfl, ?_⟩
        refine ⟨rfl, ⟨r, 0, (c * 31 + n + 7) % 2147483647, upd_same, ?_, by decide, Int.emod_nonneg _ (by decide), Int.emod_lt_of_pos _ (by decide), by simp at hns; omega⟩, (gx4.trans SX.st).trans SX.st⟩
        rw [upd_ne nqs, upd_ne nqs, upd_ne nqs, upd_same]
        rfl
      · have cn1 : ¬ n < (10 : Int) ^ 18 := of_decide_eq_false (Bool.eq_false_iff.mpr cn)
        refine ⟨rfl, ⟨r, n, c, upd_same, ?_, by omega, hc, hc2, by simp at hns; omega⟩, gx4⟩
        rw [upd_ne nqs, upd_same]
        rfl
  · rintro σ' H' ⟨rfl, ⟨ns', a', c', d1, d2, ha', hc', hc2', hns'⟩, g'⟩
    refine ⟨_, rfl, st, _, _, _, rfl, rfl, SqL.of d1, rfl, _, _, rfl, rfl, _, rfl, ?_⟩
    refine ite2 (fun cp => ?_) (fun cp => ?_)
    · have cp1 : a' > 0 := of_decide_eq_true cp
      refine ⟨_, rfl, st, _, _, _, rfl, rfl, SqL.of d1, rfl, .inl ⟨_, rfl, ?_⟩⟩
      refine ⟨_, rfl, _, _, rfl, rfl, hm0, _, rfl, st, _, _, _, rfl, rfl, SqL.of d1, rfl, _, rfl, _, _, rfl, rfl, ⟨hm0, hm1⟩, _, rfl, st, _, _, _, rfl, rfl, d1, rfl, _, rfl, ?_⟩
      exact k _ _ (Int.emod_nonneg _ (by omega)) (Int.emod_lt_of_pos _ hm0) ⟨ns', a' / m, c', upd_same, by rw [upd_ne nqs]; exact d2, Int.ediv_nonneg ha' (by omega), hc', hc2', hns'⟩ (g'.trans SX.st)
    · refine ⟨_, rfl, st, _, _, _, rfl, rfl, SqL.of d1, rfl, _, rfl, st, _, _, _, rfl, rfl, SqL.of d1, rfl, _, _, rfl, rfl, .inl ⟨by decide, by decide⟩, _, _, rfl, rfl, _, _, rfl, rfl, _, _, rfl, rfl, ⟨by decide, by decide, ?_⟩, _, _, rfl, rfl, (by show (0 : Int) < 2147483629; decide), ?_⟩
      · show (c' + 104729 * (b + 1) + 17).natAbs < 18446744073709551616
        omega
      have x0 : 0 ≤ (c' + 104729 * (b + 1) + 17) ^ (5 : Int).toNat % 2147483629 := Int.emod_nonneg _ (by decide)
      have x1 : (c' + 104729 * (b + 1) + 17) ^ (5 : Int).toNat % 2147483629 < 2147483629 := Int.emod_lt_of_pos _ (by decide)
      refine ⟨_, rfl, _, _, rfl, rfl, .inr ⟨by decide, by decide⟩, _, rfl, st, _, _, _, rfl, rfl, SqL.of d1, rfl, _, _, rfl, rfl, .inl ⟨by decide, by decide⟩, _, rfl, st, _, _, _, rfl, rfl, SqL.of d1, rfl, _, _, rfl, rfl, .inr ⟨?_, ?_⟩, _, _, rfl, rfl, _, _, rfl, rfl, _, _, rfl, rfl, ⟨by decide, by decide, ?_⟩, _, _, rfl, rfl, (by show (0 : Int) < 1000000007; decide), _, rfl, _, _, rfl, rfl, hm0, ?_⟩
      · show -(18446744073709551616 : Int) < b + 1
        omega
      · show b + 1 < (18446744073709551616 : Int)
        omega
      · show ((c' + 104729 * (b + 1) + 17) ^ (5 : Int).toNat % 2147483629 * 48271 + 40503 * (b + 1) * (b + 1) + 13).natAbs < 18446744073709551616
        have y0 : 0 ≤ 40503 * (b + 1) * (b + 1) := Int.mul_nonneg (by omega) (by omega)
        have y1 : 40503 * (b + 1) * (b + 1) ≤ 40543503 * 1001 := Int.mul_le_mul (by omega) (by omega) (by omega) (by omega)
        revert x0 x1 y0 y1
        generalize (c' + 104729 * (b + 1) + 17) ^ (5 : Int).toNat % 2147483629 = x
        generalize 40503 * (b + 1) * (b + 1) = y
        intro x0 x1 y0 y1
        omega
      · exact k _ _ (Int.emod_nonneg _ (by omega)) (Int.emod_lt_of_pos _ hm0) ⟨ns', a', c', d1, d2, ha', hc', hc2', hns'⟩ g'
theorem Spr.same {H H' : Hp} {st q : Addr} {b : Int} (g : Same H H') : Spr H st q b → Spr H' st q b
  | ⟨ns, a, c, h1, h2, r⟩ => ⟨ns, a, c, g _ _ h1, g _ _ h2, r⟩
theorem TK.sx {H H' : Hp} {st q : Addr} {b : Int} (s : Spr H st q b) (g : SX st q H H') : TK K H H' := by
  obtain ⟨ns, a, c, h1, h2, _⟩ := s
  exact .but fun t o no h => g _ _ (fun e => by rw [e, h1] at h; exact no _ (Option.some.inj h).symm) (fun e => by rw [e, h2] at h; exact no _ (Option.some.inj h).symm) h
abbrev sStart : Stmt := topS 62
abbrev sPick : Stmt := topS 63
def spStart (K : PySem.W.Frag) : Sp := fun vs H Q _ => ∃ (a : Addr) (ns : List Int), vs = [.ref a] ∧ SqL K H a (ns.map V.int) ∧ ns.length ≤ 63 ∧
  ∀ (st q : Addr) (H' : Hp), Same H H' → Spr H' st q 0 → Q (.ref st) H'
theorem scT : FnScope ["_law_script"] ["_law_script"] (defScope sStart) := ⟨rfl, rfl, rfl, by decide +kernel, rfl, by decide +kernel, by decide +kernel⟩
theorem ok_start (F : Fun K "_law_start" "_law_start" sStart f fd) (B : Bt mg) : FnOk P w K mg base CX0 1 f fd ["_law_script"] (spStart K) := by
  refine F.ok scT (fun vs H Q E h => ?_) (fun cdv A outer s H vs Q E hr h => ?_)
  · obtain ⟨a, ns, rfl, _⟩ := h
    rfl
  obtain ⟨a, ns, rfl, hS, hn, k⟩ := h
  refine ⟨_, pss_one (ps_ret (pe_lst (pa_cons (pe_callTy call_list_of (by rfl) B.lst (by decide +kernel) (pa_cons (pv 0) pa_nil)) (pa_cons pe_int (pa_cons pe_int (pa_cons pe_int pa_nil)))))), ?_⟩
  refine ⟨_, rfl, a, _, rfl, .inl hS, fun l hl => ?_⟩
  have g1 := same_new hl (.lst (ns.map V.int))
  refine ⟨(by show 4 ≤ sizeLine; decide), fun t ht => ?_⟩
  have g2 := same_new ht (.lst [.ref l, .int 0, .int 0, .int 0])
  exact k t l _ (g1.trans g2) ⟨ns, 0, 0, upd_same, g2 _ _ upd_same, by decide, by decide, by decide, hn⟩
def spPick (K : PySem.W.Frag) : Sp := fun vs H Q _ => ∃ (st q p : Addr) (b : Int) (xs : List V), vs = [.ref st, .ref p] ∧ Spr H st q b ∧ 0 ≤ b ∧ b ≤ 1000 ∧ H p = some (.lst xs) ∧ p ≠ st ∧ p ≠ q ∧ 0 < xs.length ∧ xs.length ≤ 1000 ∧
  ∀ (v : V) (H' : Hp), v ∈ xs → Spr H' st q (b + 1) → SX st q H H' → Q v H'
theorem scP : FnScope ["_law_stream", "_law_some"] ["_law_stream", "_law_some"] (defScope sPick) := ⟨rfl, rfl, rfl, by decide +kernel, rfl, by decide +kernel, by decide +kernel⟩
theorem at_int {xs : List V} {r : Int} (h0 : 0 ≤ r) (h1 : r < (xs.length : Int)) : ∃ v, v ∈ xs ∧ atI xs r = some v := by
  have hk : r.toNat < xs.length := by omega
  refine ⟨xs[r.toNat], List.getElem_mem hk, ?_⟩
  have q := atI_nat (xs := xs) (j := r.toNat) (v := xs[r.toNat]) (List.getElem?_eq_getElem hk)
  rwa [show ((r.toNat : Nat) : Int) = r by omega] at q
theorem ok_pick (F : Fun K "_law_pick" "_law_pick" sPick f fd) {g : Addr} {gd : FuncData} (G : FnOk P w K mg base CX0 1 g gd ["_law_stream", "_law_many"] spDraw) (bG : Binds K gd ["_law_stream", "_law_many"] []) (kG : PySem.W.keepIn K (.ref g) = true) (mG : mg "_law_draw" = some (.ref g)) (B : Bt mg) :
    FnOk P w K mg base CX0 2 f fd ["_law_stream", "_law_some"] (spPick K) := by
  refine F.ok scP (fun vs H Q E h => ?_) (fun cdv A outer s H vs Q E hr h => ?_)
  · obtain ⟨st, q, p, b, xs, rfl, _⟩ := h
    rfl
  obtain ⟨st, q, p, b, xs, rfl, hs, hb0, hb1, hp, n1, n2, hx0, hx1, k⟩ := h
  refine ⟨_, pss_one (ps_ret (pe_ix ix_list (pv 1) (pe_call G hr rfl mG kG bG .nil pass0 (pa_cons (pv 0) (pa_cons (pe_callB call_len_seq (by rfl) B.len PySem.boot_len (pa_cons (pv 1) pa_nil)) pa_nil))) (fun _ _ => rfl))), ?_⟩
  refine ⟨_, rfl, _, rfl, _, rfl, p, xs, rfl, .inl (SqL.of hp), st, q, b, _, rfl, hs, hb0, hb1, by omega, by omega, fun r H' r0 r1 hs' gx => ?_⟩
  obtain ⟨v, hv, ev⟩ := at_int r0 r1
  exact ⟨p, xs, r, v, rfl, rfl, SqL.of (gx _ _ n1 n2 hp), ev, k v H' hv hs' gx⟩
theorem all_nil {p : V → Prop} : ∀ x ∈ ([] : List V), p x := fun x h => by cases h
theorem all_cons {p : V → Prop} {a : V} {l : List V} (h : p a) (t : ∀ x ∈ l, p x) : ∀ x ∈ a :: l, p x := fun x q => by
  cases q with
  | head => exact h
  | tail _ q => exact t x q
end
end Lw
namespace PySem.W
open PySem PySem.Calls PyProof.Rows
section
variable {M : Model} {A : Around} {E : Value → Shared → Prop} {s : Shared} {K : Frag} {env : Env} {pos p : Pos} {f : Value} {first : List Value} {Q : Value → Shared → Prop} {h₀ : Heap} {e : Expr} {rest : List Expr}
/-- f(*x, k = v): the starred one is read last -/
theorem lone_kw {x : Sem Value} {kw : List (Option Str × Sem Value)} {R : Args → Shared → Prop} (hall : kw.all (·.1.isSome) = true)
    (h : wpAny M A x (fun v s1 => wpAny M A (evalAll (kw.map (·.2))) (fun ks s2 => StarOf M A E v (fun vs s3 => R ⟨vs, (kw.filterMap (·.1)).zip ks⟩ s3) s2) E s1) E s) :
    wpAny M A (evalArgs f true [(true, (do let v ← x; standAt pos; pure v))] kw) R E s := by
  unfold evalArgs
  first
    | refine wpAny_bind (wpAny_bind (wpAny_mono h (fun v s1 h1 => wpAny_bind (wpAny_standAt (wpAny_pure ?_))) fun _ _ x => x))
    | refine wpAny_bind (wpAny_bind (wpAny_bind (wpAny_mono h (fun v s1 h1 => wpAny_bind (wpAny_standAt (wpAny_pure (wpAny_pure ?_)))) fun _ _ x => x)))
  refine wpAny_holding ?_
  simp only [hall, if_true]
  refine wpAny_bind (wpAny_mono h1 (fun ks s2 h2 => ?_) fun _ _ x => x)
  unfold StarOf at h2
  refine wpAny_bind (wpAny_bind (wpAny_mono h2 (fun b s3 h3 => ?_) fun _ _ x => x))
  obtain ⟨rfl, h3⟩ := h3
  have z := wpAny_holding (vs := ((kw.filterMap (·.1)).zip ks).map (·.2)) (wpAny_mono h3 (fun vs s4 h4 => (wpAny_pure h4 : wpAny M A (pure (⟨vs, (kw.filterMap (·.1)).zip ks⟩ : Args)) R E s4)) fun _ _ x => x)
  try simp only [Bool.false_eq_true, if_false]
  first
    | exact z
    | exact wpAny_bind (wpAny_pure z)
    | exact wpAny_bind z
theorem call_star_kw {P : Heap → Prop} {args : List (Bool × Sem Value)} {kw : List (Option Str × Sem Value)} (hst : args.any (·.1) = true)
    (hk : ∀ h, P h → ∃ k, (k = Keeper.frame ∨ k = Keeper.machine ∨ k = Keeper.boundFrame) ∧ Looks M h (keeperOf f) k)
    (h : wpAny M A (evalArgs f true args kw) (fun a s1 => P s1.heap ∧ wpAny M A (call f (first ++ a.pos) a.kw) Q E s1) E s) : wpAny M A (callWith pos f first args kw) Q E s := by
  unfold callWith
  refine wpAny_bind (wpAny_holding (wpAny_mono h (fun a s1 h1 => wpAny_bind (wpAny_standAt ?_)) fun _ _ x => x))
  obtain ⟨k, hk', L⟩ := hk _ h1.1
  simp only [hst, Bool.true_or]
  refine wpAny_bind (L.here ?_)
  have fin : ∀ {t : Sem Value}, wpAny M A t Q E s1 → wpAny M A (t >>= fun r => holding [r] point >>= fun _ => pure r) Q E s1 :=
    fun ht => wpAny_bind (wpAny_mono ht (fun r s2 hr => wpAny_bind (wpAny_holding (wpAny_point (wpAny_pure hr)))) fun _ _ x => x)
  have mrk (mk : Value) : wpAny M A (callMarked mk f (first ++ a.pos) a.kw) Q E s1 := by unfold callMarked; exact Calls.wpAny_keep h1.2
  rcases hk' with rfl | rfl | rfl <;> dsimp only <;> first | exact fin (mrk _) | exact fin h1.2 | exact fin (wpAny_operating h1.2)
end
end PySem.W
namespace L2
open PySem PySem.Spec PyProof.Rows
/-- raise C(): an own class without an __init__ of its own -/
theorem pmk_own0 {X : Cx} {C : Addr} {bmB : List Value} {B newId initId : String} {x : Str} {p pos : Pos} (F : ExcBaseFacts B newId initId bmB) (q : PySem.W.excIn X.K C bmB newId = true) (gC : X.mg x = some (.ref C))
    (kC : PySem.W.keepIn X.K (.ref C) = true) (r : Raises X (.ref C)) (hg : Gl X x) (hdb : (x == ("__debug__" : Str)) = false := by decide) : PMk X (.Call (.Name x p) [] [] pos) (fun _ H Q => Q (.ref C) none H) := by
  intro pins s σ H Q I h
  refine wpAny_Call_Name_kw (ld_glob I hg gC ?_ hdb)
  refine PySem.W.callWith_KW0 (h₀ := X.base) (kws := []) I.ok.mod.kin kC rfl ?_ rfl
  refine wpAny_evalAll_nil ⟨I.kIn, ?_⟩
  show wpAny _ _ (call (.ref C) []) _ _ _
  obtain ⟨bm, N, nm, qn, bs, hdct, sn, sub, ab, col, dd, k0, k1, k2, k3, k5, mN, hC, hN, hni, T⟩ := exc_obj I.kIn q
  refine wpAny_call_exc_subT F T hC hN hni (fun h' e hm => ?_) (by show 0 ≤ sizeLine; decide)
  exact mk_of I hm r h (I.hok.gone hm.new)
/-! a class whose __init__ is (self, *v, k=d): what it promises, by the items of v and the value of k -/
/-- self, the positional items, the keyword's value -/
abbrev SpF := V → List V → V → Hp → VK → XK → Prop
/-- how such a call is written: the keyword there (its value), or not -/
def KwOf (kn : Str) : Option Value → List (Str × Value)
  | some u => [(kn, u)]
  | none => []
def FnF (P : Program) (w : World) (K : PySem.W.Frag) (mg : Str → Option Value) (base : Heap) (CX : CXT) (k : Nat) (f : Addr) (kn : Str) (d : V) (sp : SpF) : Prop :=
  ∀ (A : Around) (outer : List Env) (s : Shared) (H : Hp) (x : V) (xu : Value) (us : List Value) (vs : List V) (ku : Option Value) (kv : V) (Q : VK) (E : XK), Room k A → Env0 P w K mg base A outer s H → RelV x xu → Vals vs us → vs.length ≤ sizeLine →
    (∀ u, ku = some u → RelV kv u) → (ku = none → kv = d) → sp x vs kv H Q E → codeAny (model P w) A (.call (.ref f) ⟨xu :: us, KwOf kn ku⟩) (CR CX outer P w H s Q E) s
section
variable {CX : CXT} {P : Program} {w : World} {K : PySem.W.Frag} {mg : Str → Option Value} {base : Heap} {k : Nat} {f D : Addr} {name qual : Str} {params : Arguments} {body : List Stmt} {scope : Scope} {doc pm cdv ct oc : Value} {an od : Option Addr}
  {osl : Array (Option Value)} {N : List Str}
theorem fn_F {p1 kn pv : Str} {d : V} {du : Value} {sp : SpF} (lk : K.lookup f = some ⟨oc, od, .func (PySem.W.fnOf name qual params body scope .none (.ref D) doc pm an cdv ct), osl⟩) (hcd : PySem.W.codeIn K cdv qual = true) (S : FnScope N [p1, kn, pv] scope) (hCX : StX.CXUp CX)
    (hd : PySem.W.nsIn K D kn = some (some du)) (rd : RelV d du)
    (hb1 : ∀ (x u : Value) (us : List Value), bindArgs (PySem.W.fnOf name qual params body scope .none (.ref D) doc pm an cdv ct) ⟨x :: us, [(kn, u)]⟩ = (newTuple us >>= fun t => pure [(p1, x), (kn, u), (pv, t)]))
    (hb0 : ∀ (x : Value) (us : List Value), ∃ (β γ : Type) (k1 : Option Value → Sem β) (k2 : β → Sem γ) (k3 : γ → Sem (List (Str × Value))) (a : β), bindArgs (PySem.W.fnOf name qual params body scope .none (.ref D) doc pm an cdv ct) ⟨x :: us, []⟩ = ((nsGet D kn >>= k1) >>= k2) >>= k3 ∧
      k1 (some du) = pure a ∧ (k2 a >>= k3) = (newTuple us >>= fun t => pure [(p1, x), (kn, du), (pv, t)]))
    (hbody : ∀ (A : Around) (outer : List Env) (s : Shared) (H : Hp) (x : V) (vs : List V) (kv : V) (p : Addr) (H0 : Hp) (Q : VK) (E : XK), Room k (A.deeper (envOfC qual scope s.heap.objs.size f cdv)) → H0 p = none → H = upd H0 p (.tup vs) → sp x vs kv H0 Q E →
      ∃ t, PSs (cxOf CX P w K mg base N qual scope f cdv A outer s H E) body t ∧ t { nx := fun _ H' => Q .non H', rt := Q } (start N [x, kv, .ref p]) H) :
    FnF P w K mg base CX (k + 1) f kn d sp := by
  intro A outer s H x xu us vs ku kv Q E hr e0 rx rv hz hk1 hk0 hsp
  have hn : H s.heap.objs.size = Option.none := e0.hok.fresh (Nat.le_refl _)
  have hl2 : us.length ≤ sizeLine := by rw [← rv.length]; exact hz
  have KX : K.In s.heap := e0.mod.kin.keeps fun b o e => (e0.bs b o e).1
  refine StX.run_bnd lk hcd S hr e0 (G := fun xs H2 => ∃ p, H p = Option.none ∧ xs = [x, kv, V.ref p] ∧ H2 = upd H p (.tup vs)) (fun A' Ex Q' h => ?_) fun s2 H2 xs ⟨p, hp, ex, eH⟩ hr' => ?_
  · have fin : ∀ ku', RelV kv ku' → wpAny (model P w) A' (newTuple us >>= fun t => pure [(p1, xu), (kn, ku'), (pv, t)]) Q' Ex s := fun ku' rk => by
      refine wpAny_bind (wpAny_newTuple (wpAny_pure ?_) hl2)
      have new : ObjOk P w (upd H s.heap.objs.size (.tup vs)) (s.heap.push ({ cls := .type "tuple", data := .seq us.toArray } : Obj)) s.heap.objs.size (.tup vs) := ⟨hz, us, rv, ⟨_, Heap.get?_push_size _ rfl, rfl, _, rfl⟩⟩
      have un := StX.un_laid (fs := frs outer) (s := s) (o := ({ cls := .type "tuple", data := .seq us.toArray } : Obj)) (u := .tup vs) hn
      exact h _ _ [x, kv, V.ref s.heap.objs.size] [xu, ku', Value.ref s.heap.objs.size] (StX.env0_laid e0 new) un rfl (fun e s' => hCX outer s H _ _ E e s' un (fun b o q => Heap.get?_push_of_some _ q) rfl) (.cons rx (.cons rk (.cons rfl .nil))) rfl ⟨_, hn, rfl, rfl⟩
    cases ku with
    | some u =>
      show wpAny _ _ (bindArgs _ ⟨xu :: us, [(kn, u)]⟩) _ _ _
      rw [hb1]
      exact fin u (hk1 u rfl)
    | none =>
      obtain ⟨β, γ, k1, k2, k3, a, e1, e2, e3⟩ := hb0 xu us
      show wpAny _ _ (bindArgs _ ⟨xu :: us, []⟩) _ _ _
      rw [e1, bind_assoc]
      refine wpAny_bind (((PySem.W.looks_nsIn KX hd).andThen (PySem.W.Looks.of_pure e2)).here ?_)
      rw [e3]
      exact fin du (by rw [hk0 rfl]; exact rd)
  · subst ex
    exact hbody A outer s2 H2 x vs kv p H Q E hr' hp eH hsp
end
/-- C(..): a new instance and its dict, then the promise of its __init__ -/
def mkF (C : Addr) (sp : SpF) (E : XK) (vs : List V) (kv : V) (H : Hp) (Q : VK) : Prop := ∀ x dx, H x = none → H dx = none → dx ≠ x → sp (.ref x) vs kv (upd (upd H dx (.own x)) x (.ins C dx [])) (fun v H2 => v = .non ∧ Q (.ref x) H2) E
section
variable {X : Cx} {CX : CXT} {k : Nat} {f C : Addr} {kn x : Str} {d : V} {sp : SpF} {E : XK} {e : Expr} {es : List Expr} {te tk : TE} {t : TA} {p pos kpos sp_ : Pos}
theorem run_makeF {pins : List (Addr × Obj)} {σ : St} {H : Hp} {s : Shared} {Q : VK} {us : List Value} {vs : List V} {ku : Option Value} {kv : V} (M : Mk X.K C f) (F : FnF X.prog X.w X.K X.mg X.base CX k f kn d sp) (hr : Room (k + 1) X.A) (hx : Passes CX X E)
    (I : Inv X pins σ H s) (r : Vals vs us) (hz : vs.length ≤ sizeLine) (hk1 : ∀ u, ku = some u → RelV kv u) (hk0 : ku = none → kv = d) (h : mkF C sp E vs kv H Q) :
    wpAny (model X.prog X.w) X.A (call (.ref C) us (KwOf kn ku)) (EP X pins σ Q) X.xe s := by
  have hq := h (s.heap.objs.size + 1) s.heap.objs.size (I.hok.fresh (Nat.le_succ _)) (I.hok.fresh (Nat.le_refl _)) (Nat.ne_of_lt (Nat.lt_succ_self _))
  have I2 := Inv.made (C := C) I
  refine wpAny_call (make_map (f := f) I.kIn M.makes M.init (beq_iff_eq.mp M.fn) (codeAny_mono (F _ X.stack _ _ (.ref (s.heap.objs.size + 1)) (.ref (s.heap.objs.size + 1)) us vs ku kv _ E (hr.make C us (KwOf kn ku)) (I2.env0.make C us (KwOf kn ku)) rfl r hz hk1 hk0 hq) fun r s' hq' => ?_))
  cases r with
  | error e => exact hx pins σ _ _ e s' I2 hq'
  | ok fl =>
    cases fl with
    | ret u =>
      obtain ⟨v, H', I3, rv, ev, q3⟩ := I2.after hq'
      subst ev
      exact ⟨rv, ⟨V.ref (s.heap.objs.size + 1), H', I3, rfl, q3⟩⟩
    | next => exact False.elim hq'
    | brk => exact False.elim hq'
    | cont => exact False.elim hq'
/-- C() -/
theorem pe_F0 (M : Mk X.K C f) (F : FnF X.prog X.w X.K X.mg X.base CX k f kn d sp) (hr : Room (k + 1) X.A) (hg : Gl X x) (hm : X.mg x = some (.ref C)) (hx : Passes CX X E) (hdb : (x == ("__debug__" : Str)) = false := by decide) :
    PE X (.Call (.Name x p) [] [] pos) (fun _ H Q => mkF C sp E [] d H Q) := by
  refine ⟨fun pins s σ H Q I h => ?_⟩
  refine wpAny_Call_Name_kw (ld_glob I hg hm ?_ hdb)
  refine PySem.W.callWith_KW0 (h₀ := X.base) (kws := []) I.ok.mod.kin M.kp rfl ?_ rfl
  refine wpAny_evalAll_nil ⟨I.kIn, ?_⟩
  exact run_makeF (us := []) (ku := none) M F hr hx I .nil (Nat.zero_le _) (fun u z => nomatch z) (fun _ => rfl) h
/-- C(kn = e) -/
theorem pe_Fk (M : Mk X.K C f) (F : FnF X.prog X.w X.K X.mg X.base CX k f kn d sp) (hr : Room (k + 1) X.A) (hg : Gl X x) (hm : X.mg x = some (.ref C)) (hx : Passes CX X E) (hk : PE X e tk) (hdb : (x == ("__debug__" : Str)) = false := by decide) :
    PE X (.Call (.Name x p) [] [⟨some kn, e, kpos⟩] pos) (fun σ H Q => tk σ H fun kv H1 => mkF C sp E [] kv H1 Q) := by
  refine ⟨fun pins s σ H Q I h => ?_⟩
  refine wpAny_Call_Name_kw (ld_glob I hg hm ?_ hdb)
  refine PySem.W.callWith_KW0 (h₀ := X.base) I.ok.mod.kin M.kp rfl ?_ rfl
  refine kwAll_cons (thn (hk.run pins s σ H _ I h) fun u s1 ⟨kv, H1, I1, rk, q1⟩ => ?_)
  refine wpAny_evalAll_nil ⟨I1.kIn, ?_⟩
  exact run_makeF (us := []) (ku := some u) M F hr hx I1 .nil (Nat.zero_le _) (fun u' z => by cases z; exact rk) (fun z => nomatch z) q1
/-- C(e, .., kn = e) -/
theorem pe_Fpk (M : Mk X.K C f) (F : FnF X.prog X.w X.K X.mg X.base CX k f kn d sp) (hr : Room (k + 1) X.A) (hg : Gl X x) (hm : X.mg x = some (.ref C)) (hx : Passes CX X E) {a : Expr} {as : List Expr} (ha : PA X (a :: as) t) (hk : PE X e tk) (hdb : (x == ("__debug__" : Str)) = false := by decide)
    (he : starEach (a :: as) X.env = (false, eval a X.env) :: starEach as X.env := by rfl) (hpl : ((backTo pos (starEach (a :: as) X.env)).any (·.1) || (backToKw pos (keywordEach [⟨some kn, e, kpos⟩] X.env)).any (·.1.isNone)) = false := by rfl) :
    PE X (.Call (.Name x p) (a :: as) [⟨some kn, e, kpos⟩] pos) (fun σ H Q => t σ H fun vs H1 => tk σ H1 fun kv H2 => vs.length ≤ sizeLine ∧ mkF C sp E vs kv H2 Q) := by
  refine ⟨fun pins s σ H Q I h => ?_⟩
  refine wpAny_Call_Name_kw (ld_glob I hg hm ?_ hdb)
  refine PySem.W.callWith_KW (h₀ := X.base) I.ok.mod.kin M.kp rfl (thn (ha.run pos pins s σ H _ I h) fun us s1 ⟨vs, H1, I1, r, q⟩ => ?_) hpl he
  refine kwAll_cons (thn (hk.run pins s1 σ H1 _ I1 q) fun u s2 ⟨kv, H2, I2, rk, hz, q2⟩ => ?_)
  refine wpAny_evalAll_nil ⟨I2.kIn, ?_⟩
  exact run_makeF (ku := some u) M F hr hx I2 r hz (fun u' z => by cases z; exact rk) (fun z => nomatch z) q2
/-- C(*e, kn = e) -/
theorem pe_Fsk (M : Mk X.K C f) (F : FnF X.prog X.w X.K X.mg X.base CX k f kn d sp) (hr : Room (k + 1) X.A) (hg : Gl X x) (hm : X.mg x = some (.ref C)) (hx : Passes CX X E) {a : Expr} (ha : PE X a te) (hk : PE X e tk) (hdb : (x == ("__debug__" : Str)) = false := by decide)
    (he : starEach [.Starred a sp_] X.env = [(true, eval a X.env)] := by rfl) :
    PE X (.Call (.Name x p) [.Starred a sp_] [⟨some kn, e, kpos⟩] pos) (fun σ H Q => te σ H fun y H1 => tk σ H1 fun kv H2 => ∃ q xs, y = .ref q ∧ (SqT X.K H2 q xs ∨ SqL X.K H2 q xs) ∧ xs.length ≤ sizeLine ∧ mkF C sp E xs kv H2 Q) := by
  refine ⟨fun pins s σ H Q I h => ?_⟩
  refine wpAny_Call_Name_kw (ld_glob I hg hm ?_ hdb)
  rw [he]
  refine PySem.W.call_star_kw rfl (PySem.W.keeps_K M.kp) ?_
  refine PySem.W.lone_kw rfl (thn (ha.run pins s σ H _ I h) fun yv s1 ⟨y, H1, I1, ry, q⟩ => ?_)
  refine kwAll_cons (thn (hk.run pins s1 σ H1 _ I1 q) fun u s2 ⟨kv, H2, I2, rk, q0, xs, ey, hs, hz, q2⟩ => ?_)
  subst ey
  obtain rfl : yv = Value.ref q0 := ry
  refine wpAny_evalAll_nil (StX.star_any I2 hs fun us s3 I3 rv => ⟨I3.kIn, ?_⟩)
  exact run_makeF (ku := some u) M F hr hx I3 rv hz (fun u' z => by cases z; exact rk) (fun z => nomatch z) q2
end
end L2
/-! tuples that are known to have no dict: their methods -/
namespace TzR
open PySem PySem.Spec PyProof.Rows L2
/-- the tuple at p, its object known -/
def TzAt (H : Hp) (p : Addr) (xs : List V) : Prop := ∃ o : Obj, H p = some (.frz o (.tup xs)) ∧ o.cls = .type "tuple" ∧ o.dict = none
theorem TzAt.seq {K : PySem.W.Frag} {H : Hp} {p : Addr} {xs : List V} : TzAt H p xs → SqT K H p xs
  | ⟨o, h, _⟩ => .inl (.inr ⟨o, h⟩)
theorem TzAt.of {H : Hp} {p : Addr} {o : Obj} {xs : List V} (h : H p = some (.frz o (.tup xs))) (hc : o.cls = .type "tuple") (hd : o.dict = none) : TzAt H p xs := ⟨o, h, hc, hd⟩
section
variable {X : Cx} {pins : List (Addr × Obj)} {σ : L2.St} {H : Hp} {s : Shared} {p : Addr} {xs : List V}
theorem TzAt.obj (I : L2.Inv X pins σ H s) : TzAt H p xs → ∃ (o : Obj) (its : List Value) (n : Nat), s.heap.get? p = some o ∧ o.cls = .type "tuple" ∧ o.dict = none ∧ o.data = .seq its.toArray n ∧ Vals xs its
  | ⟨o, h1, h2, h3⟩ => by
    obtain ⟨e, _, its, r, ⟨o', e', _, n, hd⟩⟩ := I.hok p _ h1
    rw [e] at e'
    cases e'
    exact ⟨o, its, n, e, h2, h3, hd, r⟩
theorem ty_tz : TyOk X "tuple" (fun x H => ∃ (p : Addr) (xs : List V), x = .ref p ∧ TzAt H p xs) := by
  intro pins σ H s x v I r ty
  obtain ⟨p, xs, rfl, t⟩ := ty
  cases r
  obtain ⟨o, its, n, e, hc, hd, _, _⟩ := t.obj I
  refine ⟨⟨o, e, hc⟩, fun b z => ?_⟩
  cases z
  exact ⟨o, e, hd⟩
/-- tuple(l), the new tuple's object known -/
theorem call_tuple_frz : CallR X (.type "tuple") (fun xs H Q => ∃ (p : Addr) (ys : List V), xs = [.ref p] ∧ SqL X.K H p ys ∧ ∀ (l : Addr) (o : Obj), H l = none → o.cls = .type "tuple" → o.dict = none → Q (.ref l) (upd H l (.frz o (.tup ys)))) := by
  intro pins s σ H xs us Q I r h
  obtain ⟨p, ys, rfl, hq, q⟩ := h
  obtain ⟨u, rfl, rx⟩ := vals1 r
  cases rx
  obtain ⟨its, r', pl, hz⟩ := I.list hq
  have hlen := r'.length
  refine call_tuple_list pl.isList (fun h' kp => ?_) (by simp only [List.size_toArray] <;> omega)
  have I1 : L2.Inv X pins σ H { s with heap := h' } := I.kept (t' := s.toks) kp
  have e : (h'.push { cls := .type "tuple", data := .seq its.toArray }).get? h'.objs.size = some { cls := .type "tuple", data := .seq its.toArray } := Heap.get?_push_size _ rfl
  have I2 : L2.Inv X pins σ (upd H h'.objs.size (.frz { cls := .type "tuple", data := .seq its.toArray } (.tup ys))) { s with heap := h'.push { cls := .type "tuple", data := .seq its.toArray } } :=
    I1.laid (t' := s.toks) (fun b o e => Heap.get?_push_of_some _ e) (Nat.le_refl _) (show ObjOk X.prog X.w _ _ _ (.frz _ (.tup ys)) from ⟨e, hz, its, r', IsTup.new _ _⟩)
  exact ⟨.ref h'.objs.size, _, I2, rfl, q _ _ (I1.hok.fresh (Nat.le_refl _)) rfl rfl⟩
/-- t.index(x) of texts -/
def tIxZ (K : PySem.W.Frag) (to : TE) (t : TA) : TE := tMG (fun x H => ∃ (p : Addr) (xs : List V), x = .ref p ∧ TzAt H p xs) (fun x xs H Q => ∃ p, ∃ ys : List Str, ∃ z j, x = .ref p ∧ xs = [.str z] ∧ SqT K H p (ys.map V.str) ∧ ys[j]? = some z ∧ (∀ m, m < j → ys[m]? ≠ some z) ∧ Q (.int (j : Nat)) H) to t
theorem pe_ixZ {o e : Expr} {to : TE} {t : TA} {apos cpos : Pos} (ho : PE X o to) (ha : PA X [e] t)
    (hbase : attributeBase o "index" X.env (eval o X.env) = eval o X.env := by rfl)
    (hfew : ((backTo cpos (starEach [e] X.env)).all (fun x => !x.1) && (backToKw cpos (keywordEach [] X.env)).all (fun x => x.1.isSome)
      && decide (([e] : List Expr).length + ([] : List Keyword).length + (if ([] : List Keyword).isEmpty then 0 else 1) < 30)) = true := by rfl)
    (hline : (apos.endLine == cpos.line) = true := by rfl) (hs : starEach [e] X.env = (false, eval e X.env) :: starEach [] X.env := by rfl) :
    PE X (.Call (.Attribute o "index" apos) [e] [] cpos) (tIxZ X.K to t) :=
  pe_mG ty_tz PySem.F.plainAttrs_tuple PySem.F.slot_tuple_index PySem.F.type_tuple_index mt_tup_index ho ha hbase hfew hline hs
end
/-- the first place of a text -/
theorem idx_at {ys : List Str} {z : Str} (h : z ∈ ys) : ys[ys.idxOf z]? = some z ∧ ∀ m, m < ys.idxOf z → ys[m]? ≠ some z := by
  have lt := List.idxOf_lt_length_iff.mpr h
  refine ⟨by rw [List.getElem?_eq_getElem lt, List.getElem_idxOf lt], fun m hm e => ?_⟩
  obtain ⟨h1, h2⟩ := List.getElem?_eq_some_iff.mp e
  have := List.not_of_lt_findIdx (p := (· == z)) (xs := ys) (i := m) hm
  simp [h2] at this
end TzR
namespace Lw
open PySem L2 TzR
theorem tzS {H H' : Hp} {p : Addr} {xs : List V} (g : Same H H') : TzAt H p xs → TzAt H' p xs
  | ⟨o, h, z⟩ => ⟨o, g _ _ h, z⟩
abbrev sWhole : Stmt := topS 2
abbrev sFrozen : Stmt := topS 3
abbrev sAxes : Stmt := topS 15
/-! the mathematics of forms -/
def axesOk (is : List Int) (n : Nat) : Bool := decide (is.length = n) && (List.range n).all fun j => decide ((j : Int) ∈ is)
theorem inV_int (k : Int) : ∀ is : List Int, inV (.int k) (is.map V.int) = decide (k ∈ is)
  | [] => by simp [inV]
  | i :: r => by
    have q := inV_int k r
    unfold inV at q ⊢
    rw [List.map_cons, List.any_cons, q]
    show ((i == k) || decide (k ∈ r)) = decide (k ∈ i :: r)
    by_cases h : i = k
    · subst h
      simp
    · have h2 : ¬ k = i := fun e => h e.symm
      simp [h, h2]
theorem flat_ints (is : List Int) : (is.map V.int).all flatV = true := by
  rw [List.all_eq_true]
  intro x hx
  obtain ⟨i, _, rfl⟩ := List.mem_map.mp hx
  rfl
theorem flat_strs (ss : List Str) : (ss.map V.str).all flatV = true := by
  rw [List.all_eq_true]
  intro x hx
  obtain ⟨i, _, rfl⟩ := List.mem_map.mp hx
  rfl
theorem inV_str (k : Str) : ∀ ss : List Str, inV (.str k) (ss.map V.str) = decide (k ∈ ss)
  | [] => by simp [inV]
  | i :: r => by
    have q := inV_str k r
    unfold inV at q ⊢
    rw [List.map_cons, List.any_cons, q]
    show ((i == k) || decide (k ∈ r)) = decide (k ∈ i :: r)
    by_cases h : i = k
    · subst h
      simp
    · have h2 : ¬ k = i := fun e => h e.symm
      simp [h, h2]
/-- the list of answers so far -/
def InvB (H0 : Hp) (D : Addr) (f : Nat → Bool) (i : Nat) (H : Hp) : Prop := H D = some (.lst (((List.range i).map f).map V.bl)) ∧ Same H0 H
theorem InvB.next {H0 H : Hp} {D : Addr} {f : Nat → Bool} {i : Nat} (hd0 : H0 D = none) (h : InvB H0 D f i H) : InvB H0 D f (i + 1) (upd H D (.lst (((List.range i).map f).map V.bl ++ [.bl (f i)]))) :=
  ⟨by rw [upd_same, List.range_succ, List.map_append, List.map_append] <;> rfl, same_over h.2 hd0 _⟩
theorem len_b {f : Nat → Bool} {i : Nat} (h : i ≤ 1000) : (((List.range i).map f).map V.bl).length < sizeLine := by
  rw [List.length_map, List.length_map, List.length_range]
  exact small1000 h
section
variable {P : Program} {w : World} {K : PySem.W.Frag} {mg : Str → Option Value} {base : Heap} {f : Addr} {fd : FuncData}
def spWhole : Sp := fun vs H Q _ => ∃ i : Int, vs = [.int i] ∧ Q (.bl true) H
theorem scW : FnScope ["n"] ["n"] (defScope sWhole) := ⟨rfl, rfl, rfl, by decide +kernel, rfl, by decide +kernel, by decide +kernel⟩
theorem ok_whole (F : Fun K "is_whole" "is_whole" sWhole f fd) (B : Bt mg) : FnOk P w K mg base CX0 1 f fd ["n"] spWhole := by
  refine F.ok scW (fun vs H Q E h => ?_) (fun cdv A outer s H vs Q E hr h => ?_)
  · obtain ⟨i, rfl, _⟩ := h
    rfl
  obtain ⟨i, rfl, q⟩ := h
  refine ⟨_, pss_one (ps_ret (pe_and (pe_callB call_isi (by rfl) B.isi (by decide +kernel) (pa_cons (pv 0) (pa_cons (pe_bltn (v := .ty "int") (by rfl) B.int (by decide +kernel) rfl) pa_nil)))
    (pe_one (pe_not (pe_callB call_isi (by rfl) B.isi (by decide +kernel) (pa_cons (pv 0) (pa_cons (pe_bltn (v := .ty "bool") (by rfl) B.bool (by decide +kernel) rfl) pa_nil))))))), ?_⟩
  refine ⟨_, rfl, _, _, .type "int", .type "int", true, rfl, .ty _, .base (.int i), kit_ty (by decide +kernel), _, rfl, ?_⟩
  refine iteT ?_
  exact ⟨_, rfl, _, _, .type "int", .type "bool", false, rfl, .ty _, .base (.int i), kit_ty (by decide +kernel), _, rfl, q⟩
def spFrI : Sp := fun vs H Q _ => ∃ i : Int, vs = [.int i] ∧ ∀ H' : Hp, Same H H' → Q (.int i) H'
def spFrz (K : PySem.W.Frag) : Sp := fun vs H Q _ => ∃ (a : Addr) (is : List Int), vs = [.ref a] ∧ (SqL K H a (is.map V.int) ∨ SqT K H a (is.map V.int)) ∧ is.length ≤ 1000 ∧
  ∀ (p : Addr) (H' : Hp), Same H H' → H p = none → TzAt H' p (is.map V.int) → Q (.ref p) H'
theorem scF : FnScope ["worth", "part"] ["worth"] (defScope sFrozen) := ⟨rfl, rfl, rfl, by decide +kernel, rfl, by decide +kernel, by decide +kernel⟩
theorem ok_frI (F : Fun K "frozen" "frozen" sFrozen f fd) (B : Bt mg) : FnOk P w K mg base CX0 1 f fd ["worth"] spFrI := by
  refine F.ok scF (fun vs H Q E h => ?_) (fun cdv A outer s H vs Q E hr h => ?_)
  · obtain ⟨i, rfl, _⟩ := h
    rfl
  obtain ⟨i, rfl, q⟩ := h
  refine ⟨_, pss_cons (ps_if (pt_val (pe_callB call_isiT (by rfl) B.isi (by decide +kernel) (pa_cons (pv 0) (pa_cons (pe_tup (pa_cons (pe_bltn (v := .ty "list") (by rfl) B.lst (by decide +kernel) rfl) (pa_cons (pe_bltn (v := .ty "tuple") (by rfl) B.tup (by decide +kernel) rfl) pa_nil))) pa_nil)))) (pss_one ps_never) pss_nil)
    (pss_one (ps_ret (pv 0))), ?_⟩
  refine ⟨_, rfl, (by show 2 ≤ sizeLine; decide), fun t ht => ?_⟩
  refine ⟨_, t, _, .type "int", [.type "list", .type "tuple"], false, rfl, upd_same, .cons (.ty _) (.cons (.ty _) .nil), .base (.int i), is_seq (by decide +kernel) (by decide +kernel), _, rfl, ?_⟩
  exact iteF ⟨_, rfl, q _ (same_new ht _)⟩
/-- the ints so far -/
def InvI (H0 : Hp) (D : Addr) (is : List Int) (i : Nat) (H : Hp) : Prop := H D = some (.lst ((is.take i).map V.int)) ∧ Same H0 H
theorem take_map_succ {is : List Int} {i : Nat} {x : V} (h : (is.map V.int)[i]? = some x) : ∃ n, x = .int n ∧ (is.take (i + 1)).map V.int = (is.take i).map V.int ++ [.int n] := by
  rw [List.getElem?_map] at h
  cases e : is[i]? with
  | none => rw [e] at h; cases h
  | some n =>
    rw [e] at h
    refine ⟨n, (Option.some.inj h).symm, ?_⟩
    rw [List.take_succ, e, List.map_append] <;> rfl
theorem ok_frz (F : Fun K "frozen" "frozen" sFrozen f fd) (bF : Binds K fd ["worth"] []) (mF : mg "frozen" = some (.ref f)) (B : Bt mg) : FnOk P w K mg base CX0 2 f fd ["worth"] (spFrz K) := by
  have G : FnOk P w K mg base CX0 1 f fd ["worth"] spFrI := ok_frI F B
  refine F.ok scF (fun vs H Q E h => ?_) (fun cdv A outer s H vs Q E hr h => ?_)
  · obtain ⟨a, is, rfl, _⟩ := h
    rfl
  obtain ⟨a, is, rfl, hS, hl, q⟩ := h
  have turn : ∀ {te : TE} {D : Addr}, H D = none → ∀ i x H', (is.map V.int)[i]? = some x → InvI H D is i H' → tCall spFrI [] E0 (tCons (tVar 1) tNil) [some (.ref a), some x] H' fun y H4 => ∃ acc, H4 D = some (.lst acc) ∧ acc.length < sizeLine ∧ InvI H D is (i + 1) (upd H4 D (.lst (acc ++ [y]))) := by
    rintro te D hD i x H' hx ⟨hd, g⟩
    obtain ⟨n, rfl, en⟩ := take_map_succ hx
    refine ⟨_, rfl, n, rfl, fun H2 g2 => ⟨_, g2 _ _ hd, ?_, by rw [upd_same, en], same_over (g.trans g2) hD _⟩⟩
    rw [List.length_map]
    exact small1000 (by rw [List.length_take]; omega)
  rcases hS with hS | hS
  · refine ⟨_, pss_cons (ps_if (pt_val (pe_callB call_isiT (by rfl) B.isi (by decide +kernel) (pa_cons (pv 0) (pa_cons (pe_tup (pa_cons (pe_bltn (v := .ty "list") (by rfl) B.lst (by decide +kernel) rfl) (pa_cons (pe_bltn (v := .ty "tuple") (by rfl) B.tup (by decide +kernel) rfl) pa_nil))) pa_nil))))
        (pss_one (ps_ret (pe_callTy call_tuple_frz (by rfl) B.tup (by decide +kernel) (pa_cons (pe_lc (own := [("part", 1)]) (g := gName 1) (tt := tYes) rfl scF.nd (pi_list (pv 0)) (blkOk_by (N := ["worth", "part"]) (sc := defScope sFrozen) (by decide +kernel))
          (fun _ _ _ _ _ => pg_name (i := 1) scF.nd rfl (Or.inl rfl)) (fun _ _ _ _ _ => pts_nil) (fun _ _ _ _ _ => pe_call G hr rfl mF F.kp bF .nil pass0 (pa_cons (pv 1) pa_nil))) pa_nil)))) pss_nil)
      (pss_one (ps_ret (pv 0))), ?_⟩
    refine ⟨_, rfl, (by show 2 ≤ sizeLine; decide), fun t ht => ?_⟩
    have g1 : Same H (upd H t (.tup [.ty "list", .ty "tuple"])) := same_new ht _
    refine ⟨_, t, _, .type "list", [.type "list", .type "tuple"], true, rfl, upd_same, .cons (.ty _) (.cons (.ty _) .nil), tyL (g1.seq hS), is_seqL, _, rfl, ?_⟩
    refine iteT ?_
    refine ⟨_, rfl, a, rfl, ⟨_, g1.seq hS⟩, fun D hD => ?_⟩
    have hD0 : H D = none := g1.free hD
    refine lc_list (K := K) (a := a) (xs := is.map V.int) (InvI H D is) ⟨upd_same, same_over g1 hD0 _⟩ (fun i H' _ ⟨_, g⟩ => g.seq hS) (fun i x H' hx hi => ⟨rfl, kept (turn (te := fun _ _ _ => True) hD0 i x H' hx hi)⟩) ?_
    rintro H' ⟨hd, g⟩
    rw [List.length_map, List.take_length] at hd
    refine ⟨D, _, rfl, SqL.of hd, fun l o hl0 hc hdn => ?_⟩
    exact q l _ (g.trans (same_new hl0 _)) (g.free hl0) (TzAt.of upd_same hc hdn)
  · refine ⟨_, pss_cons (ps_if (pt_val (pe_callB call_isiT (by rfl) B.isi (by decide +kernel) (pa_cons (pv 0) (pa_cons (pe_tup (pa_cons (pe_bltn (v := .ty "list") (by rfl) B.lst (by decide +kernel) rfl) (pa_cons (pe_bltn (v := .ty "tuple") (by rfl) B.tup (by decide +kernel) rfl) pa_nil))) pa_nil))))
        (pss_one (ps_ret (pe_callTy call_tuple_frz (by rfl) B.tup (by decide +kernel) (pa_cons (pe_lc (own := [("part", 1)]) (g := gName 1) (tt := tYes) rfl scF.nd (pi_tup (pv 0)) (blkOk_by (N := ["worth", "part"]) (sc := defScope sFrozen) (by decide +kernel))
          (fun _ _ _ _ _ => pg_name (i := 1) scF.nd rfl (Or.inl rfl)) (fun _ _ _ _ _ => pts_nil) (fun _ _ _ _ _ => pe_call G hr rfl mF F.kp bF .nil pass0 (pa_cons (pv 1) pa_nil))) pa_nil)))) pss_nil)
      (pss_one (ps_ret (pv 0))), ?_⟩
    refine ⟨_, rfl, (by show 2 ≤ sizeLine; decide), fun t ht => ?_⟩
    have g1 : Same H (upd H t (.tup [.ty "list", .ty "tuple"])) := same_new ht _
    refine ⟨_, t, _, .type "tuple", [.type "list", .type "tuple"], true, rfl, upd_same, .cons (.ty _) (.cons (.ty _) .nil), tyT (seqT g1 hS), is_seq (by decide +kernel) (by decide +kernel), _, rfl, ?_⟩
    refine iteT ?_
    refine ⟨_, rfl, a, rfl, ⟨_, seqT g1 hS⟩, fun D hD => ?_⟩
    have hD0 : H D = none := g1.free hD
    refine lc_tup (K := K) (a := a) (xs := is.map V.int) (InvI H D is) ⟨upd_same, same_over g1 hD0 _⟩ (fun i H' _ ⟨_, g⟩ => seqT g hS) (fun i x H' hx hi => ⟨rfl, kept (turn (te := fun _ _ _ => True) hD0 i x H' hx hi)⟩) ?_
    rintro H' ⟨hd, g⟩
    rw [List.length_map, List.take_length] at hd
    refine ⟨D, _, rfl, SqL.of hd, fun l o hl0 hc hdn => ?_⟩
    exact q l _ (g.trans (same_new hl0 _)) (g.free hl0) (TzAt.of upd_same hc hdn)
def spAxes (K : PySem.W.Frag) : Sp := fun vs H Q _ => ∃ (a : Addr) (is : List Int) (n : Nat), vs = [.ref a, .int n] ∧ SqT K H a (is.map V.int) ∧ is.length ≤ 1000 ∧ n ≤ 1000 ∧ ∀ H' : Hp, Same H H' → Q (.bl (axesOk is n)) H'
theorem scA : FnScope ["axes", "many", "axis"] ["axes", "many"] (defScope sAxes) := ⟨rfl, rfl, rfl, by decide +kernel, rfl, by decide +kernel, by decide +kernel⟩
theorem ok_axes {g : Addr} {gd : FuncData} (F : Fun K "are_axes" "are_axes" sAxes f fd) (G : FnOk P w K mg base CX0 1 g gd ["n"] spWhole) (bG : Binds K gd ["n"] []) (kG : PySem.W.keepIn K (.ref g) = true) (mG : mg "is_whole" = some (.ref g)) (B : Bt mg) :
    FnOk P w K mg base CX0 2 f fd ["axes", "many"] (spAxes K) := by
  refine F.ok scA (fun vs H Q E h => ?_) (fun cdv A outer s H vs Q E hr h => ?_)
  · obtain ⟨a, is, n, rfl, _⟩ := h
    rfl
  obtain ⟨a, is, n, rfl, hS, hl, hn, q⟩ := h
  refine ⟨_, pss_cons (ps_if (PW.pt (pw_or (pt_not (pt_val (pe_callB call_isi (by rfl) B.isi (by decide +kernel) (pa_cons (pv 0) (pa_cons (pe_bltn (v := .ty "tuple") (by rfl) B.tup (by decide +kernel) rfl) pa_nil)))))
        (pw_or1 (pt_cmpR op_ne (pe_callB call_len_seq (by rfl) B.len PySem.boot_len (pa_cons (pv 0) pa_nil)) (pv 1) (nomark _))))) (pss_one (ps_ret pe_bl)) pss_nil)
    (pss_cons (ps_if (pt_not (pt_val (pe_callB (cr_all rfl) (by rfl) B.all (by decide +kernel) (pa_cons (pe_lc (own := [("axis", 2)]) (g := gName 2) (tt := tYes) rfl scA.nd (pi_tup (pv 0)) (blkOk_by (N := ["axes", "many", "axis"]) (sc := defScope sAxes) (by decide +kernel))
        (fun _ _ _ _ _ => pg_name (i := 2) scA.nd rfl (Or.inl rfl)) (fun _ _ _ _ _ => pts_nil) (fun _ _ _ _ _ => pe_call G hr rfl mG kG bG .nil pass0 (pa_cons (pv 2) pa_nil))) pa_nil)))) (pss_one (ps_ret pe_bl)) pss_nil)
    (pss_one (ps_ret (pe_callB (cr_all rfl) (by rfl) B.all (by decide +kernel) (pa_cons (pe_lc (own := [("axis", 2)]) (g := gName 2) (tt := tYes) rfl scA.nd (pi_range1 (by rfl) B.range (pa_cons (pv 1) pa_nil)) (blkOk_by (N := ["axes", "many", "axis"]) (sc := defScope sAxes) (by decide +kernel))
        (fun _ _ _ _ _ => pg_name (i := 2) scA.nd rfl (Or.inl rfl)) (fun _ _ _ _ _ => pts_nil) (fun _ _ _ _ _ => pe_cmpR (r := rIn K false) op_in_seq (pv 2) (pv 0) (by rfl))) pa_nil))))), ?_⟩
  refine ⟨_, rfl, _, _, .type "tuple", .type "tuple", true, rfl, .ty _, tyT hS, kit_ty (by decide +kernel), _, rfl, ?_⟩
  refine iteF ?_
  refine ⟨_, rfl, a, _, rfl, .inr hS, _, rfl, rfl, _, rfl, ?_⟩
  refine ite2 (fun c => ?_) (fun c => ?_)
  · have e : axesOk is n = false := by
      rw [List.length_map] at c
      have c2 : ¬ is.length = n := fun e => by
        rw [e, decide_eq_true rfl] at c
        cases c
      unfold axesOk
      rw [decide_eq_false c2]
      rfl
    have z := q H (Same.refl H)
    rw [e] at z
    exact z
  · have e : is.length = n := by
      rw [List.length_map] at c
      by_cases z : is.length = n
      · exact z
      · exact absurd (by rw [decide_eq_false (fun y => z (by cases y; rfl))]; rfl) c
    refine ⟨_, rfl, a, rfl, ⟨_, hS⟩, fun D hD => ?_⟩
    refine lc_tup (K := K) (a := a) (xs := is.map V.int) (InvB H D fun _ => true) ⟨upd_same, same_new hD _⟩ (fun i H' _ ⟨_, g⟩ => seqT g hS) (fun i x H' hx hi => ⟨rfl, kept ?_⟩) ?_
    · obtain ⟨m, rfl, _⟩ := take_map_succ hx
      have hi2 : i < is.length := by
        have z := (List.getElem?_eq_some_iff.mp hx).1
        rwa [List.length_map] at z
      exact ⟨_, rfl, m, rfl, _, hi.1, len_b (by omega), hi.next hD⟩
    rintro H' ⟨hd, g⟩
    refine ⟨D, _, rfl, SqL.of hd, _, rfl, ?_⟩
    have ea : (((List.range (is.map V.int).length).map fun _ => true)).all id = true := by simp
    rw [ea]
    refine iteF ?_
    refine ⟨_, rfl, n, rfl, by omega, by omega, fun D2 hD2 => ?_⟩
    have hD20 : H D2 = none := g.free hD2
    refine lc_range (lo := 0) (n := n) (InvB H D2 fun j => decide ((j : Int) ∈ is)) ⟨upd_same, same_over g hD20 _⟩ (fun i H2 hi hv => ⟨rfl, kept ?_⟩) ?_
    · refine ⟨_, rfl, _, rfl, a, _, rfl, .inr (seqT hv.2 hS), rfl, flat_ints is, _, hv.1, len_b (by omega), ?_⟩
      have z := hv.next hD20
      rw [show inV (.int (0 + (i : Int))) (is.map V.int) = decide ((i : Int) ∈ is) by rw [Int.zero_add, inV_int]]
      exact z
    rintro H2 ⟨hd2, g2⟩
    refine ⟨D2, _, rfl, SqL.of hd2, ?_⟩
    have ez : axesOk is n = ((List.range n).map fun j : Nat => decide ((j : Int) ∈ is)).all id := by
      unfold axesOk
      rw [decide_eq_true e, Bool.true_and, List.all_map] <;> rfl
    rw [← ez]
    exact q _ g2
end
end Lw
namespace Lw
open PySem L2 TzR
abbrev sInit : Stmt := inClass (topS 16) 1
abbrev sText : Stmt := inClass (topS 16) 2
abbrev sRead : Stmt := inClass (topS 16) 3
def KINDS : List Str := ["dense", "packed", "bits", "hashed"]
def AWORDS : List Str := ["0", "1", "2"]
def valid (ks : List Str) (is : List Int) : Bool := decide (ks.length ≤ 3) && (ks.all (fun k => decide (k ∈ KINDS)) && axesOk is ks.length)
def iota (n : Nat) : List Int := (List.range n).map fun i : Nat => (i : Int)
theorem rg_iota (n : Nat) : rgV 0 (n : Int) = (iota n).map V.int := by
  unfold rgV iota
  rw [List.map_map, show ((n : Int) - 0).toNat = n by omega]
  refine List.map_congr_left fun i _ => ?_
  show V.int (0 + (i : Int)) = V.int (i : Int)
  rw [Int.zero_add]
theorem iota_len (n : Nat) : (iota n).length = n := by unfold iota; rw [List.length_map, List.length_range]
/-- the chain of a class over ValueError, behind its own ones -/
abbrev veB : List Value := [.type "ValueError", .type "Exception", .type "BaseException", .type "object"]
structure Fm (K : PySem.W.Frag) (mg : Str → Option Value) (C fI BF AW KD : Addr) (MC : Value) : Prop where
  cl : Cls K C
  nK : NoAttr K C "kinds"
  nA : NoAttr K C "axes"
  mkC : Mk K C fI
  mC : mg "Form" = some (.ref C)
  mB : mg "BadForm" = some (.ref BF)
  xB : PySem.W.excIn K BF veB "ValueError.__new__" = true
  kB : PySem.W.keepIn K (.ref BF) = true
  rB : PySem.W.subIn K (.ref BF) (.type "BaseException") = some true
  tB : PySem.W.typeIn K (.ref BF) = some (.type "type")
  most : ∃ t, mg "MOST_LEVELS" = some (.int 3 t)
  cr : ClX.CRead K C MC
  kd : ClX.CVal K C MC "KINDS" (.ref KD) (.ref KD)
  kdT : ∀ H : Hp, SqT K H KD (KINDS.map V.str)
  mAW : mg "AXIS_WORDS" = some (.ref AW)
  awT : ∀ H : Hp, SqT K H AW (AWORDS.map V.str)
theorem ka_ : ¬ (("kinds" : Str) = "axes") := by decide +kernel
theorem ak_ : ¬ (("axes" : Str) = "kinds") := by decide +kernel
def flds (tk ta : Addr) : List (Str × V) := putF "axes" (.ref ta) (putF "kinds" (.ref tk) [])
theorem flds_k (tk ta : Addr) : (flds tk ta).lookup ("kinds" : Str) = some (.ref tk) := by
  unfold flds
  rw [lookup_putF, if_neg ka_, lookup_putF, if_pos rfl]
theorem flds_a (tk ta : Addr) : (flds tk ta).lookup ("axes" : Str) = some (.ref ta) := by
  unfold flds
  rw [lookup_putF, if_pos rfl]
theorem fld1_k (tk : Addr) : (putF "kinds" (V.ref tk) []).lookup ("kinds" : Str) = some (.ref tk) := by
  rw [lookup_putF, if_pos rfl]
/-- what a comprehension without a test has made so far -/
def InvM {α : Type} (H0 : Hp) (D : Addr) (f : α → V) (l : List α) (i : Nat) (H : Hp) : Prop := H D = some (.lst ((l.take i).map f)) ∧ Same H0 H
theorem InvM.next {α : Type} {H0 H : Hp} {D : Addr} {f : α → V} {l : List α} {i : Nat} {a : α} (hd0 : H0 D = none) (hH : Same H0 H) (e : l[i]? = some a) (acc : List V) (ea : acc = (l.take i).map f) : InvM H0 D f l (i + 1) (upd H D (.lst (acc ++ [f a]))) :=
  ⟨by rw [upd_same, ea, List.take_succ, e, List.map_append] <;> rfl, same_over hH hd0 _⟩
theorem at_map {α : Type} {g : α → V} {l : List α} {i : Nat} {x : V} (h : (l.map g)[i]? = some x) : ∃ a, l[i]? = some a ∧ x = g a := by
  rw [List.getElem?_map] at h
  cases e : l[i]? with
  | none => rw [e] at h; cases h
  | some a =>
    rw [e] at h
    exact ⟨a, rfl, (Option.some.inj h).symm⟩
theorem len_m {α : Type} {f : α → V} {l : List α} {i : Nat} (h : l.length ≤ 1000) : ((l.take i).map f).length < sizeLine := by
  rw [List.length_map, List.length_take]
  exact small1000 (by omega)
def Kp (p : Addr) (H H' : Hp) : Prop := ∀ b o, b ≠ p → H b = some o → H' b = some o
theorem Kp.same {p : Addr} {H H1 H2 : Hp} (k : Kp p H H1) (g : Same H1 H2) : Kp p H H2 := fun b o n e => g _ _ (k b o n e)
theorem Kp.seq {K : PySem.W.Frag} {p a : Addr} {H H' : Hp} {xs : List V} {C dx : Addr} {fs : List (Str × V)} (k : Kp p H H') (hp : H p = some (.ins C dx fs)) (h : SqT K H a xs) : SqT K H' a xs := by
  rcases h with (h | ⟨o, h⟩) | h
  · exact .inl (.inl (k _ _ (fun e => by rw [e, hp] at h; cases h) h))
  · exact .inl (.inr ⟨o, k _ _ (fun e => by rw [e, hp] at h; cases h) h⟩)
  · exact .inr h
theorem Kp.tz {p a : Addr} {H H' : Hp} {xs : List V} {C dx : Addr} {fs : List (Str × V)} (k : Kp p H H') (hp : H p = some (.ins C dx fs)) : TzAt H a xs → TzAt H' a xs
  | ⟨o, h, z⟩ => ⟨o, k _ _ (fun e => by rw [e, hp] at h; cases h) h, z⟩
theorem Kp.seqL {K : PySem.W.Frag} {p a : Addr} {H H' : Hp} {xs : List V} {C dx : Addr} {fs : List (Str × V)} (k : Kp p H H') (hp : H p = some (.ins C dx fs)) (h : SqL K H a xs) : SqL K H' a xs := by
  rcases h with (h | ⟨o, h⟩) | h
  · exact .inl (.inl (k _ _ (fun e => by rw [e, hp] at h; cases h) h))
  · exact .inl (.inr ⟨o, k _ _ (fun e => by rw [e, hp] at h; cases h) h⟩)
  · exact .inr h
/-- the promise of Form.__init__ -/
def spInit (K : PySem.W.Frag) (C BF : Addr) : SpF := fun x vs kv H Q E => ∃ (p dx : Addr) (ks : List Str) (is : List Int), x = .ref p ∧ vs = ks.map V.str ∧ H p = some (.ins C dx []) ∧ ks.length ≤ 1000 ∧ is.length ≤ 1000 ∧
  ((kv = .non ∧ is = iota ks.length) ∨ ∃ a, kv = .ref a ∧ (SqL K H a (is.map V.int) ∨ SqT K H a (is.map V.int))) ∧
  (∀ (H' : Hp) (tk ta : Addr), valid ks is = true → Kp p H H' → H' p = some (.ins C dx (flds tk ta)) → SqT K H' tk (ks.map V.str) → TzAt H' ta (is.map V.int) → Q .non H') ∧
  (∀ H' : Hp, valid ks is = false → Kp p H H' → E (.ref BF) none H')
section
variable {P : Program} {w : World} {K : PySem.W.Frag} {mg : Str → Option Value} {base : Heap} {C fI BF AW KD gF gA : Addr} {MC : Value} {dF dA : FuncData}
theorem pe_kinds {X : Cx} {p pos : PySem.Pos} (hg : Gl X "Form") (hm : X.mg "Form" = some (.ref C)) : PE X (.Attribute (.Name "Form" p) "KINDS" pos) (ClX.tCVal X.K (tC (.ref C)) "KINDS") := ClX.pe_cval (pe_glob hg hm rfl)
abbrev namesI : List Str := ["self", "axes", "kinds", "kind"]
theorem scI : FnScope namesI ["self", "axes", "kinds"] (defScope sInit) := ⟨rfl, rfl, rfl, by decide +kernel, rfl, by decide +kernel, by decide +kernel⟩
theorem ok_init {oc cdv ct dc pm du : Value} {od an : Option Addr} {osl : Array (Option Value)} {D : Addr} (lk : K.lookup fI = some ⟨oc, od, .func (PySem.W.fnOf "__init__" "Form.__init__" (defArgs sInit) (defBody sInit) (defScope sInit) .none (.ref D) dc pm an cdv ct), osl⟩) (hcd : PySem.W.codeIn K cdv "Form.__init__" = true)
    (hD : PySem.W.nsIn K D "axes" = some (some .none)) (T : Fm K mg C fI BF AW KD MC) (B : Bt mg)
    (GF : FnOk P w K mg base CX0 2 gF dF ["worth"] (spFrz K)) (bF : Binds K dF ["worth"] []) (kF : PySem.W.keepIn K (.ref gF) = true) (mF : mg "frozen" = some (.ref gF))
    (GA : FnOk P w K mg base CX0 2 gA dA ["axes", "many"] (spAxes K)) (bA : Binds K dA ["axes", "many"] []) (kA : PySem.W.keepIn K (.ref gA) = true) (mA : mg "are_axes" = some (.ref gA)) :
    FnF P w K mg base (L2.CX P w) 3 fI "axes" .non (spInit K C BF) := by
  obtain ⟨tm, hmost⟩ := T.most
  refine fn_F (N := namesI) (p1 := "self") (kn := "axes") (pv := "kinds") lk hcd scI StX.cxUp hD rfl (fun x u us => ?_) (fun x us => ?_) (fun A outer s H x vs kv tk H0 Q E hr htk eH h => ?_)
  · cases us <;> rfl
  · cases us <;> exact ⟨_, _, _, _, _, _, rfl, rfl, rfl⟩
  obtain ⟨p, dx, ks, is, rfl, rfl, hp, hk, hi, hkv, q, qe⟩ := h
  subst eH
  refine ⟨_, C8.pss_cut (ps_if (pt_cmpR op_isN (pv 1) pe_non (nomark _)) (pss_one (ps_set (i := 1) scI.nd rfl (Or.inl rfl) (pe_listRg rfl (by rfl) B.lst (prg_1 (by rfl) B.range (pe_callB call_len_seq (by rfl) B.len PySem.boot_len (pa_cons (pv 2) pa_nil)))))) pss_nil)
    (pss_cons (ps_fld (pv 0) (pe_callTy call_tuple_of (by rfl) B.tup (by decide +kernel) (pa_cons (pv 2) pa_nil)) rfl)
    (pss_cons (ps_fld (pv 0) (pe_call GF hr rfl mF kF bF .nil pass0 (pa_cons (pv 1) pa_nil)) rfl)
    (pss_cons (ps_if (pt_cmpR op_gt (pe_callB call_len_seq (by rfl) B.len PySem.boot_len (pa_cons (pe_fld (pv 0) rfl) pa_nil)) (pe_glob (v := .int 3) (by rfl) hmost ⟨_, rfl⟩) (nomark _))
      (pss_one (ps_raise rfl (takes_of rfl rfl rfl rfl) (pmk_own0 PySem.F.excBase_ValueError T.xB T.mB T.kB (raises_own T.rB T.tB) (by rfl)))) pss_nil)
    (pss_cons (ps_if (pt_not (pt_val (pe_callB (cr_all rfl) (by rfl) B.all (by decide +kernel) (pa_cons (pe_lc (own := [("kind", 3)]) (g := gName 3) (tt := tYes) rfl scI.nd (pi_tup (pe_fld (pv 0) rfl)) (blkOk_by (N := namesI) (sc := defScope sInit) (by decide +kernel))
        (fun _ _ _ _ _ => pg_name (i := 3) scI.nd rfl (Or.inl rfl)) (fun _ _ _ _ _ => pts_nil) (fun _ _ _ _ _ => pe_cmpR (r := rIn K false) (tb := ClX.tCVal K (tC (.ref C)) "KINDS") op_in_seq (pv 3) (pe_kinds (by rfl) T.mC) (by rfl))) pa_nil))))
      (pss_one (ps_raise rfl (takes_of rfl rfl rfl rfl) (pmk_own0 PySem.F.excBase_ValueError T.xB T.mB T.kB (raises_own T.rB T.tB) (by rfl)))) pss_nil)
    (pss_one (ps_if (pt_not (pt_val (pe_call GA hr rfl mA kA bA .nil pass0 (pa_cons (pe_fld (pv 0) rfl) (pa_cons (pe_callB call_len_seq (by rfl) B.len PySem.boot_len (pa_cons (pe_fld (pv 0) rfl) pa_nil)) pa_nil)))))
      (pss_one (ps_raise rfl (takes_of rfl rfl rfl rfl) (pmk_own0 PySem.F.excBase_ValueError T.xB T.mB T.kB (raises_own T.rB T.tB) (by rfl)))) pss_nil)))))), ?_⟩
  have h0 : (upd H0 tk (.tup (ks.map V.str))) p = some (.ins C dx []) := by rw [upd_ne (ne_of_none hp htk)]; exact hp
  have ht : SqT K (upd H0 tk (.tup (ks.map V.str))) tk (ks.map V.str) := SqT.of upd_same
  have g0 : Same H0 (upd H0 tk (.tup (ks.map V.str))) := same_new htk _
  revert h0 ht g0
  generalize upd H0 tk (.tup (ks.map V.str)) = H1
  intro h0 ht g0
  refine ⟨fun σ' H' => ∃ a, σ' = [some (.ref p), some (.ref a), some (.ref tk), none] ∧ (SqL K H' a (is.map V.int) ∨ SqT K H' a (is.map V.int)) ∧ Same H1 H', ?_, ?_⟩
  · rcases hkv with ⟨rfl, rfl⟩ | ⟨a, rfl, hS⟩
    · refine ⟨_, rfl, rfl, _, rfl, iteC (decide_eq_true rfl) ?_⟩
      refine ⟨_, rfl, tk, _, rfl, .inr ht, _, rfl, RgOk.of_le (by decide) (by rw [List.length_map]; omega) (by decide) (by omega), fun q' hq' => ?_⟩
      refine ⟨q', rfl, .inl (SqL.of ?_), same_new hq' _⟩
      rw [upd_same, List.length_map, rg_iota]
    · refine ⟨_, rfl, rfl, _, rfl, iteN (decide_eq_false (by intro z; cases z)) ?_⟩
      exact ⟨a, rfl, hS.imp (fun z => g0.seq z) (fun z => seqT g0 z), Same.refl _⟩
  · rintro σ' H' ⟨a, rfl, hS, g1⟩
    have kp0 : Kp p H0 H' := fun b o _ e => g1 _ _ (g0 _ _ e)
    have hp1 := g1 _ _ h0
    have ht1 := seqT g1 ht
    refine ⟨_, rfl, tk, _, rfl, .inr ⟨ht1, _, rfl, p, C, dx, _, rfl, hp1, T.cl, T.nK, (by show 0 < 1000; decide), ?_⟩⟩
    have k1 : Kp p H' (upd H' p (.ins C dx (putF "kinds" (.ref tk) []))) := fun b o n e => by rw [upd_ne n]; exact e
    have hS1 := hS.imp (fun z => k1.seqL hp1 z) (fun z => k1.seq hp1 z)
    have ht2 := k1.seq hp1 ht1
    refine ⟨_, rfl, a, is, rfl, hS1, hi, fun ta H3 g3 n3 h3 => ?_⟩
    have hp3 := g3 _ _ (upd_same (H := H') (a := p) (o := .ins C dx (putF "kinds" (.ref tk) [])))
    have ht3 := seqT g3 ht2
    refine ⟨_, rfl, p, C, dx, _, rfl, hp3, T.cl, T.nA, (by show 1 < 1000; decide), ?_⟩
    have k3 : Kp p H3 (upd H3 p (.ins C dx (flds tk ta))) := fun b o n e => by rw [upd_ne n]; exact e
    have ht4 := k3.seq hp3 ht3
    have ha4 := k3.tz hp3 h3
    have hp4 : upd H3 p (.ins C dx (flds tk ta)) p = some (.ins C dx (flds tk ta)) := upd_same
    have kp4 : Kp p H0 (upd H3 p (.ins C dx (flds tk ta))) := fun b o n e => k3 b o n (g3 _ _ (k1 b o n (kp0 b o n e)))
    revert ht4 ha4 hp4 kp4
    show SqT K (upd H3 p (.ins C dx (flds tk ta))) tk (ks.map V.str) → TzAt (upd H3 p (.ins C dx (flds tk ta))) ta (is.map V.int) → upd H3 p (.ins C dx (flds tk ta)) p = some (.ins C dx (flds tk ta)) → Kp p H0 (upd H3 p (.ins C dx (flds tk ta))) → _
    intro ht4 ha4 hp4 kp4
    refine ⟨_, rfl, p, C, dx, _, _, rfl, hp4, T.cl, T.nK, flds_k _ _, tk, _, rfl, .inr ht4, _, _, rfl, rfl, _, rfl, ?_⟩
    refine ite2 (fun c => ?_) (fun c => ?_)
    · refine qe _ ?_ kp4
      have c2 : (3 : Int) < (((ks.map V.str).length : Nat) : Int) := of_decide_eq_true c
      rw [List.length_map] at c2
      unfold valid
      rw [decide_eq_false (by omega), Bool.false_and]
    have c2 : ¬ (3 : Int) < (((ks.map V.str).length : Nat) : Int) := of_decide_eq_false (Bool.eq_false_iff.mpr c)
    rw [List.length_map] at c2
    have e3 : decide (ks.length ≤ 3) = true := decide_eq_true (by omega)
    refine ⟨_, rfl, p, C, dx, _, _, rfl, hp4, T.cl, T.nK, flds_k _ _, tk, rfl, ⟨_, ht4⟩, fun D hD => ?_⟩
    refine lc_tup (K := K) (a := tk) (xs := ks.map V.str) (InvM _ D (fun k : Str => V.bl (decide (k ∈ KINDS))) ks) ⟨upd_same, same_new hD _⟩ (fun i H5 _ ⟨_, g⟩ => seqT g ht4) (fun i x H5 hx hv => ?_) ?_
    · obtain ⟨k, ek, rfl⟩ := at_map hx
      refine ⟨rfl, kept ?_⟩
      refine ⟨_, rfl, C, MC, _, _, rfl, T.cr, T.kd, KD, _, rfl, .inr (T.kdT _), rfl, flat_strs _, _, hv.1, len_m (by omega), ?_⟩
      have z := InvM.next (f := fun k : Str => V.bl (decide (k ∈ KINDS))) hD hv.2 ek _ rfl
      rw [show inV (.str k) (KINDS.map V.str) = decide (k ∈ KINDS) from inV_str k KINDS]
      exact z
    rintro H5 ⟨hd5, g5⟩
    rw [List.length_map, List.take_length] at hd5
    have kp5 := kp4.same g5
    have hp5 := g5 _ _ hp4
    refine ⟨D, ks.map (fun k : Str => decide (k ∈ KINDS)), rfl, SqL.of (by rw [hd5, List.map_map] <;> rfl), _, rfl, ?_⟩
    have eall : (ks.map (fun k : Str => decide (k ∈ KINDS))).all id = ks.all fun k => decide (k ∈ KINDS) := by rw [List.all_map] <;> rfl
    rw [eall]
    refine ite2 (fun c5 => ?_) (fun c5 => ?_)
    · refine qe _ ?_ kp5
      unfold valid
      rw [show (ks.all fun k => decide (k ∈ KINDS)) = false by simpa using c5, Bool.false_and, Bool.and_false]
    have e5 : (ks.all fun k => decide (k ∈ KINDS)) = true := by
      cases z : (ks.all fun k => decide (k ∈ KINDS)) with
      | true => rfl
      | false => exact absurd (by rw [z]; rfl) c5
    refine ⟨_, rfl, p, C, dx, _, _, rfl, hp5, T.cl, T.nA, flds_a _ _, _, rfl, p, C, dx, _, _, rfl, hp5, T.cl, T.nK, flds_k _ _, tk, _, rfl, .inr (seqT g5 ht4), ta, is, (ks.map V.str).length, rfl, (tzS g5 ha4).seq, hi, by rw [List.length_map]; exact hk, fun H6 g6 => ⟨_, rfl, ?_⟩⟩
    have kp6 := kp5.same g6
    have hp6 := g6 _ _ hp5
    rw [List.length_map]
    refine ite2 (fun c6 => ?_) (fun c6 => ?_)
    · refine qe _ ?_ kp6
      unfold valid
      rw [show axesOk is ks.length = false by simpa using c6, Bool.and_false, Bool.and_false]
    have e6 : axesOk is ks.length = true := by
      cases z : axesOk is ks.length with
      | true => rfl
      | false => exact absurd (by rw [z]; rfl) c6
    exact q _ tk ta (by unfold valid; rw [e3, e5, e6]; rfl) kp6 hp6 (seqT g6 (seqT g5 ht4)) (tzS g6 (tzS g5 ha4))
end
end Lw
namespace Lw
open PySem L2 TL
/-! cutting a text at a separator, and joining the parts -/
theorem spl_lens (S : List Nat) : ∀ (l : List Nat) (k : Nat) (acc : List Nat), (∀ p ∈ spl S k acc l, p.length ≤ acc.length + l.length) ∧ (spl S k acc l).length ≤ l.length + 1
  | [], k, acc => by
    rw [spl_nil]
    exact ⟨fun p hp => by rw [List.mem_singleton.mp hp]; exact Nat.le_add_right _ _, Nat.le_refl _⟩
  | c :: r, 0, acc => by
    cases h : pre S (c :: r) with
    | true =>
      rw [spl_hit h]
      obtain ⟨i1, i2⟩ := spl_lens S r (S.length - 1) []
      refine ⟨fun p hp => ?_, by rw [List.length_cons, List.length_cons]; omega⟩
      rcases List.mem_cons.mp hp with e | hp
      · rw [e]; exact Nat.le_add_right _ _
      · have z := i1 p hp
        rw [List.length_nil] at z
        rw [List.length_cons]
        omega
    | false =>
      rw [spl_miss h]
      obtain ⟨i1, i2⟩ := spl_lens S r 0 (acc ++ [c])
      refine ⟨fun p hp => ?_, by rw [List.length_cons]; omega⟩
      have z := i1 p hp
      rw [List.length_append, List.length_singleton] at z
      rw [List.length_cons]
      omega
  | c :: r, k + 1, acc => by
    obtain ⟨i1, i2⟩ := spl_lens S r k acc
    refine ⟨fun p hp => ?_, by rw [List.length_cons]; show (spl S k acc r).length ≤ _; omega⟩
    have z := i1 p hp
    rw [List.length_cons]
    omega
theorem spl_ne (S : List Nat) : ∀ (l : List Nat) (k : Nat) (acc : List Nat), spl S k acc l ≠ []
  | [], k, acc => by rw [spl_nil]; simp
  | c :: r, 0, acc => by
    cases h : pre S (c :: r) with
    | true => rw [spl_hit h]; simp
    | false => rw [spl_miss h]; exact spl_ne S r 0 _
  | c :: r, k + 1, acc => spl_ne S r k acc
theorem joinL_cons {S p : List Nat} : ∀ {l : List (List Nat)}, l ≠ [] → joinL S (p :: l) = p ++ (S ++ joinL S l)
  | [], h => absurd rfl h
  | q :: r, _ => rfl
theorem spl_back {S : List Nat} (hS : S ≠ []) : ∀ (n : Nat) (l : List Nat), l.length ≤ n → ∀ acc, joinL S (spl S 0 acc l) = acc ++ l
  | _, [], _, acc => by
    rw [spl_nil, List.append_nil] <;> rfl
  | 0, c :: r, h, acc => by simp at h
  | n + 1, c :: r, h, acc => by
    rw [List.length_cons] at h
    cases hp : pre S (c :: r) with
    | true =>
      rw [spl_hit hp, joinL_cons (spl_ne S r _ _), spl_pass, spl_back hS n _ (by rw [List.length_drop]; omega) [], List.nil_append]
      have e1 : (c :: r).take S.length = S := by
        unfold pre at hp
        exact eq_of_beq hp
      have e2 : (c :: r).drop S.length = r.drop (S.length - 1) := by
        cases S with
        | nil => exact absurd rfl hS
        | cons a S' => rfl
      rw [← e2]
      have e3 := List.take_append_drop S.length (c :: r)
      rw [e1] at e3
      rw [e3]
    | false =>
      rw [spl_miss hp, spl_back hS n r (by omega), List.append_assoc] <;> rfl
theorem split_back (z y : Str) (hy : tl y ≠ []) (hk : y.cps.all (· < 256) = true) : Txt.join y (Txt.split z y) = z := by
  refine ext_tl ?_
  rw [join_eq, tl_join, split_spl z y hy (kind_ok hk), spl_back hy _ _ (Nat.le_refl _), List.nil_append]
theorem split_lens (z y : Str) (hy : tl y ≠ []) (hk : y.cps.all (· < 256) = true) : (∀ p ∈ Txt.split z y, p.length ≤ z.length) ∧ (Txt.split z y).length ≤ z.length + 1 := by
  have e := split_spl z y hy (kind_ok hk)
  obtain ⟨i1, i2⟩ := spl_lens (tl y) (tl z) 0 []
  rw [← e] at i1 i2
  refine ⟨fun p hp => ?_, ?_⟩
  · have q := i1 (tl p) (List.mem_map_of_mem hp)
    rw [List.length_nil, Nat.zero_add] at q
    rw [len_tl, len_tl]
    exact q
  · rw [List.length_map] at i2
    rw [len_tl]
    exact i2
/-! forms as texts -/
def aval (a : Str) : Int := if a = "0" then 0 else if a = "1" then 1 else 2
/-- one level of a text -/
def lvl (p : Str) : Option (Str × Int) := match Txt.split p " " with
  | [k, a] => if a ∈ AWORDS then some (k, aval a) else none
  | _ => none
def lks (ps : List Str) : List Str := (ps.filterMap lvl).map (·.1)
def lis (ps : List Str) : List Int := (ps.filterMap lvl).map (·.2)
/-- what Form.read makes of a text -/
def rd (z : Str) : Option (List Str × List Int) :=
  if z = "-" then some ([], []) else if ((Txt.split z ", ").all fun p => (lvl p).isSome) = true ∧ valid (lks (Txt.split z ", ")) (lis (Txt.split z ", ")) = true then some (lks (Txt.split z ", "), lis (Txt.split z ", ")) else none
def itm (k : Str) (i : Int) : Str := Str.empty ++ k ++ " " ++ ((toString i : String) : Str)
def ftext (ks : List Str) (is : List Int) : Str := if ks.length = 0 then "-" else Txt.join ", " ((ks.zip is).map fun p => itm p.1 p.2)
theorem small_itm : ∀ k ∈ KINDS, ∀ i ∈ ([0, 1, 2] : List Int), (Str.empty ++ k).length ≤ 20 ∧ (Str.empty ++ k ++ " ").length ≤ 20 ∧ (itm k i).length ≤ 20 ∧ k.length ≤ 20 ∧ i.natAbs.log2 < 1920 := by decide +kernel
theorem axes_small {is : List Int} {n : Nat} (h : axesOk is n = true) (hn : n ≤ 3) : is.length = n ∧ ∀ i ∈ is, i ∈ ([0, 1, 2] : List Int) := by
  unfold axesOk at h
  rw [Bool.and_eq_true] at h
  obtain ⟨h1, h2⟩ := h
  have e1 : is.length = n := of_decide_eq_true h1
  refine ⟨e1, ?_⟩
  rw [List.all_eq_true] at h2
  have m : ∀ j, j < n → ((j : Nat) : Int) ∈ is := fun j hj => of_decide_eq_true (h2 j (List.mem_range.mpr hj))
  match n, is, e1, hn, m with
  | 0, [], _, _, _ => intro i hi; cases hi
  | 1, [a], _, _, m =>
    have m0 := m 0 (by omega)
    simp at m0
    intro i hi
    simp at hi
    simp [hi, ← m0]
  | 2, [a, b], _, _, m =>
    have m0 := m 0 (by omega)
    have m1 := m 1 (by omega)
    simp at m0 m1
    intro i hi
    simp at hi ⊢
    omega
  | 3, [a, b, c], _, _, m =>
    have m0 := m 0 (by omega)
    have m1 := m 1 (by omega)
    have m2 := m 2 (by omega)
    simp at m0 m1 m2
    intro i hi
    simp at hi ⊢
    omega
  | n + 4, _, _, hn, _ => omega
theorem valid_parts {ks : List Str} {is : List Int} (h : valid ks is = true) : ks.length ≤ 3 ∧ (∀ k ∈ ks, k ∈ KINDS) ∧ is.length = ks.length ∧ ∀ i ∈ is, i ∈ ([0, 1, 2] : List Int) := by
  unfold valid at h
  rw [Bool.and_eq_true, Bool.and_eq_true] at h
  obtain ⟨h1, h2, h3⟩ := h
  have e1 : ks.length ≤ 3 := of_decide_eq_true h1
  rw [List.all_eq_true] at h2
  obtain ⟨h4, h5⟩ := axes_small h3 e1
  exact ⟨e1, fun k hk => of_decide_eq_true (h2 k hk), h4, h5⟩
theorem sum_le : ∀ {ys : List Str}, (∀ y ∈ ys, y.length ≤ 20) → (ys.map (·.length)).sum ≤ 20 * ys.length
  | [], _ => by simp
  | y :: r, h => by
    have q := sum_le (ys := r) fun y hy => h y (List.mem_cons_of_mem _ hy)
    have z := h y (List.mem_cons_self ..)
    rw [List.map_cons, List.sum_cons, List.length_cons]
    omega
end Lw
namespace Lw
open PySem L2 TzR
/-- a form stands at p -/
def FormAt (K : PySem.W.Frag) (C p : Addr) (ks : List Str) (is : List Int) (H : Hp) : Prop := ∃ dx tk ta : Addr, H p = some (.ins C dx (flds tk ta)) ∧ SqT K H tk (ks.map V.str) ∧ TzAt H ta (is.map V.int)
theorem FormAt.same {K : PySem.W.Frag} {C p : Addr} {ks : List Str} {is : List Int} {H H' : Hp} (g : Same H H') : FormAt K C p ks is H → FormAt K C p ks is H'
  | ⟨dx, tk, ta, h1, h2, h3⟩ => ⟨dx, tk, ta, g _ _ h1, seqT g h2, tzS g h3⟩
def spText (K : PySem.W.Frag) (C : Addr) : Sp := fun vs H Q _ => ∃ (p : Addr) (ks : List Str) (is : List Int), vs = [.ref p] ∧ FormAt K C p ks is H ∧ valid ks is = true ∧ ∀ H' : Hp, Same H H' → Q (.str (ftext ks is)) H'
def spRead (K : PySem.W.Frag) (C BF : Addr) : Sp := fun vs H Q E => ∃ z : Str, vs = [.ref C, .str z] ∧ z.length ≤ 900 ∧ (∀ (ks : List Str) (is : List Int), rd z = some (ks, is) → ∀ (p : Addr) (H' : Hp), Same H H' → FormAt K C p ks is H' → Q (.ref p) H') ∧ (rd z = none → ∀ H' : Hp, Same H H' → E (.ref BF) none H')
section
variable {P : Program} {w : World} {K : PySem.W.Frag} {mg : Str → Option Value} {base : Heap} {C fI BF AW KD f : Addr} {MC : Value} {fd : FuncData}
theorem scX : FnScope ["self", "kind", "axis"] ["self"] (defScope sText) := ⟨rfl, rfl, rfl, by decide +kernel, rfl, by decide +kernel, by decide +kernel⟩
theorem ok_text (F : Fun K "text" "Form.text" sText f fd) (T : Fm K mg C fI BF AW KD MC) (B : Bt mg) : FnOk P w K mg base CX0 1 f fd ["self"] (spText K C) := by
  refine F.ok scX (fun vs H Q E h => ?_) (fun cdv A outer s H vs Q E hr h => ?_)
  · obtain ⟨p, ks, is, rfl, _⟩ := h
    rfl
  obtain ⟨p, ks, is, rfl, ⟨dx, tk, ta, hp, ht, ha⟩, hv, q⟩ := h
  obtain ⟨v1, v2, v3, v4⟩ := valid_parts hv
  replace ha : SqT K H ta (is.map V.int) := ha.seq
  refine ⟨_, pss_cons (ps_if (pt_cmpR op_eq (pe_callB call_len_seq (by rfl) B.len PySem.boot_len (pa_cons (pe_fld (pv 0) rfl) pa_nil)) pe_int (nomark _)) (pss_one (ps_ret pe_str)) pss_nil)
    (pss_one (ps_ret (pe_join pe_str (pe_lc (own := [("kind", 1), ("axis", 2)]) (g := gTup K 2 (gCons (gName 1) (gCons (gName 2) gNil))) (tt := tYes) rfl scX.nd (RZ.pi_zipA (by rfl) B.zip (pa_cons (pe_fld (pv 0) rfl) (pa_cons (pe_fld (pv 0) rfl) pa_nil))) (blkOk_by (N := ["self", "kind", "axis"]) (sc := defScope sText) (by decide +kernel))
      (fun _ _ _ _ _ => pg_tup rfl (pgs_cons (pg_name (i := 1) scX.nd rfl (Or.inl rfl)) (pgs_cons (pg_name (i := 2) scX.nd rfl (Or.inl rfl)) pgs_nil))) (fun _ _ _ _ _ => pts_nil)
      (fun _ _ _ _ _ => pe_joined (.cons (pe_fmt (pv 1)) (.cons pe_str (.cons (pe_fmt (pv 2)) .nil)))))))), ?_⟩
  refine ⟨_, rfl, p, C, dx, _, _, rfl, hp, T.cl, T.nK, flds_k _ _, tk, _, rfl, .inr ht, rfl, _, rfl, ?_⟩
  refine ite2 (fun c => ?_) (fun c => ?_)
  · have e : ks.length = 0 := by
      have z := of_decide_eq_true c
      rw [List.length_map] at z
      simpa using z
    have z := q H (Same.refl H)
    unfold ftext at z
    rw [if_pos e] at z
    exact z
  · have e : ¬ ks.length = 0 := fun e => c (by rw [List.length_map, e]; rfl)
    refine ⟨⟨_, rfl⟩, _, rfl, p, C, dx, _, _, rfl, hp, T.cl, T.nK, flds_k _ _, _, rfl, p, C, dx, _, _, rfl, hp, T.cl, T.nA, flds_a _ _, tk, ta, _, _, rfl, .inr ⟨ht, ha, fun D hD => ?_⟩⟩
    have elen : (ks.map V.str).length = (is.map V.int).length := by rw [List.length_map, List.length_map, v3]
    refine lc_it (te := fun σ H Q => tJs [tFmt (tVar 1), tC (.str " "), tFmt (tVar 2)] Str.empty σ H fun out H1 => Q (.str out) H1) (walk_zipT (K := K) (a := tk) (b := ta) elen) (InvM H D (fun p : Str × Int => V.str (itm p.1 p.2)) (ks.zip is)) ⟨upd_same, same_new hD _⟩ (fun i H' _ ⟨_, g⟩ => ⟨seqT g ht, seqT g ha⟩) ?_ ?_
    · rintro i v H' H'' hi ⟨hd, g⟩ ⟨U, x, y, rfl, hU, rfl, ex, ey⟩
      obtain ⟨k, ek, rfl⟩ := at_map ex
      obtain ⟨j, ej, rfl⟩ := at_map ey
      obtain ⟨l1, l2, l3, l4, l5⟩ := small_itm k (v2 k (List.mem_of_getElem? ek)) j (v4 j (List.mem_of_getElem? ej))
      have gU : Same H' (upd H' U (.tup [.str k, .int j])) := same_new hU _
      have sz : ∀ {n : Nat}, n ≤ 20 → n ≤ sizeLine := fun h => Nat.le_of_lt (small1000 (by omega))
      refine ⟨U, [.str k, .int j], rfl, SqT.of upd_same, rfl, _, _, rfl, _, _, rfl, rfl, ?_⟩
      refine ⟨rfl, kept ?_⟩
      refine ⟨_, rfl, .inl ⟨k, rfl, sz l4, k, rfl, sz l1, " ", rfl, sz l2, _, rfl, .inr ⟨j, rfl, l5, _, rfl, sz l3, ?_⟩⟩⟩
      have ez : (ks.zip is)[i]? = some (k, j) := List.getElem?_zip_eq_some.mpr ⟨ek, ej⟩
      exact ⟨_, gU _ _ hd, len_m (by rw [List.length_zip]; omega), InvM.next (f := fun p : Str × Int => V.str (itm p.1 p.2)) hD (g.trans gU) ez _ rfl⟩
    · rintro H' ⟨hd, g⟩
      have el : ((ks.zip is).take (ks.map V.str).length) = ks.zip is := List.take_of_length_le (by rw [List.length_zip, List.length_map]; omega)
      rw [el] at hd
      refine ⟨_, D, (ks.zip is).map (fun p => itm p.1 p.2), rfl, rfl, .inl (SqL.of (by rw [hd, List.map_map] <;> rfl)), ?_, ?_⟩
      · have z := sum_le (ys := (ks.zip is).map (fun p => itm p.1 p.2)) fun y hy => by
          obtain ⟨⟨k, j⟩, hm, rfl⟩ := List.mem_map.mp hy
          obtain ⟨m1, m2⟩ := List.of_mem_zip hm
          exact (small_itm k (v2 k m1) j (v4 j m2)).2.2.1
        have z2 : ((ks.zip is).map (fun p => itm p.1 p.2)).length ≤ 3 := by rw [List.length_map, List.length_zip]; omega
        have z3 : ((ks.zip is).map (fun p => itm p.1 p.2)).length * Str.length ", " ≤ 3 * 2 := Nat.mul_le_mul z2 (by decide)
        omega
      · have z := q H' g
        unfold ftext at z
        rw [if_neg e] at z
        exact z
end
end Lw
namespace Lw
open PySem L2
theorem fnR_of {P : Program} {w : World} {K : PySem.W.Frag} {mg : Str → Option Value} {base : Heap} {CX : CXT} {k : Nat} {f : Addr} {fd : FuncData} {ps : List Str} {sp : Sp} (F : FnOk P w K mg base CX k f fd ps sp) (hb : Binds K fd ps []) : FnR P w K mg base CX k f sp := by
  intro A outer s H us vs Q E hr e0 r hsp
  have KX : K.In s.heap := e0.mod.kin.keeps fun b o e => (e0.bs b o e).1
  have hl : us.length = ps.length := by rw [← r.length]; exact F.len _ _ _ _ hsp
  have hb2 := hb s us KX (by rw [List.append_nil]; exact hl)
  rw [List.append_nil] at hb2
  exact F.run A outer s H ⟨us, []⟩ us vs Q E hr e0 hb2 r hsp
theorem lvl_two {p k a : Str} (h : Txt.split p " " = [k, a]) : lvl p = if a ∈ AWORDS then some (k, aval a) else none := by
  unfold lvl
  rw [h]
theorem lvl_not {p : Str} (h : (Txt.split p " ").length ≠ 2) : lvl p = none := by
  unfold lvl
  split
  · rename_i k a e
    rw [e] at h
    exact absurd rfl h
  · rfl
theorem int_word {a : Str} (h : a ∈ AWORDS) : PySem.intText? a = some (aval a) ∧ a.length ≤ 640 := by
  have z : ∀ a ∈ AWORDS, PySem.intText? a = some (aval a) ∧ a.length ≤ 640 := by decide +kernel
  exact z a h
theorem rd_none {z p : Str} (hz : z ≠ "-") (hp : p ∈ Txt.split z ", ") (h : lvl p = none) : rd z = none := by
  unfold rd
  rw [if_neg hz, if_neg]
  rintro ⟨h1, _⟩
  rw [List.all_eq_true] at h1
  have q := h1 p hp
  rw [h] at q
  cases q
section
variable {P : Program} {w : World} {K : PySem.W.Frag} {mg : Str → Option Value} {base : Heap} {C fI BF AW KD f : Addr} {MC : Value} {fd : FuncData}
abbrev namesR : List Str := ["cls", "text", "kinds", "axes", "level", "words"]
theorem scR : FnScope namesR ["cls", "text"] (defScope sRead) := ⟨rfl, rfl, rfl, by decide +kernel, rfl, by decide +kernel, by decide +kernel⟩
/-- between the turns -/
def InvR (K : PySem.W.Frag) (H0 : Hp) (C L k a : Addr) (z : Str) (i : Nat) (σ : St) (H : Hp) : Prop := ∃ u4 u5 : Option V, σ = [some (.ref C), some (.str z), some (.ref k), some (.ref a), u4, u5] ∧ Same H0 H ∧ H L = some (.lst ((Txt.split z ", ").map V.str)) ∧
  H k = some (.lst ((lks ((Txt.split z ", ").take i)).map V.str)) ∧ H a = some (.lst ((lis ((Txt.split z ", ").take i)).map V.int)) ∧ (∀ p ∈ (Txt.split z ", ").take i, (lvl p).isSome = true) ∧ (lks ((Txt.split z ", ").take i)).length ≤ i ∧ (lis ((Txt.split z ", ").take i)).length ≤ i
/-- Form(..): from the promise of its __init__ to the new form -/
theorem mk_form {H : Hp} {Q : VK} {E : XK} {ks : List Str} {is : List Int} {kv : V} (hk : ks.length ≤ 1000) (hi : is.length ≤ 1000) (hkv : (kv = .non ∧ is = iota ks.length) ∨ ∃ a, kv = .ref a ∧ (SqL K H a (is.map V.int) ∨ SqT K H a (is.map V.int)))
    (h1 : valid ks is = true → ∀ (p : Addr) (H' : Hp), Same H H' → FormAt K C p ks is H' → Q (.ref p) H') (h2 : valid ks is = false → ∀ H' : Hp, Same H H' → E (.ref BF) none H') : mkF C (spInit K C BF) E (ks.map V.str) kv H Q := by
  intro x dx nx ndx ne
  have g : Same H (upd (upd H dx (.own x)) x (.ins C dx [])) := fun b o e => by rw [upd_ne (ne_of_none e nx), upd_ne (ne_of_none e ndx)]; exact e
  have sm : ∀ {H' : Hp}, Kp x (upd (upd H dx (.own x)) x (.ins C dx [])) H' → Same H H' := fun kp b o e => kp b o (ne_of_none e nx) (g _ _ e)
  refine ⟨x, dx, ks, is, rfl, rfl, upd_same, hk, hi, ?_, fun H' tk ta hv kp hp ht ha => ⟨rfl, h1 hv x H' (sm kp) ⟨dx, tk, ta, hp, ht, ha⟩⟩, fun H' hv kp => h2 hv H' (sm kp)⟩
  rcases hkv with z | ⟨a, e, z⟩
  · exact .inl z
  · exact .inr ⟨a, e, z.imp (fun q => g.seq q) (fun q => seqT g q)⟩
theorem ok_read (F : Fun K "read" "Form.read" sRead f fd) (T : Fm K mg C fI BF AW KD MC) (B : Bt mg) (FI : FnF P w K mg base (L2.CX P w) 3 fI "axes" .non (spInit K C BF)) : FnOk P w K mg base (L2.CX P w) 5 f fd ["cls", "text"] (spRead K C BF) := by
  refine F.okX scR (fun vs H Q E h => ?_) (fun cdv A outer s H vs Q E hr h => ?_)
  · obtain ⟨z, rfl, _⟩ := h
    rfl
  obtain ⟨z, rfl, hz, q, qe⟩ := h
  obtain ⟨pl, pn⟩ := split_lens z ", " (by decide +kernel) (by decide +kernel)
  refine ⟨_, pss_cons (ps_if (pt_cmpR op_eq (pv 1) pe_str (nomark _)) (pss_one (ps_ret (pe_F0 T.mkC FI hr (by rfl) T.mC (passes_call (takes_of rfl rfl rfl rfl) (fun _ _ _ _ h => h))))) pss_nil)
    (pss_cons (ps_set (i := 2) scR.nd rfl (Or.inl rfl) (pe_lst pa_nil))
    (pss_cons (ps_set (i := 3) scR.nd rfl (Or.inl rfl) (pe_lst pa_nil))
    (pss_cons (ps_for (passes_of rfl) rfl (pi_list (pe_split (pv 1) pe_str)) (pg_name (i := 4) scR.nd rfl (Or.inl rfl))
      (pss_cons (ps_set (i := 5) scR.nd rfl (Or.inl rfl) (pe_split (pv 4) pe_str))
      (pss_cons (ps_if (PW.pt (pw_or (pt_cmpR op_ne (pe_callB call_len_seq (by rfl) B.len PySem.boot_len (pa_cons (pv 5) pa_nil)) pe_int (nomark _)) (pw_or1 (pt_cmpR op_notIn_seq (pe_ix ix_list (pv 5) pe_int (fun _ _ => rfl)) (pe_glob (v := .ref AW) (by rfl) T.mAW rfl) (by rfl)))))
        (pss_one (ps_raise rfl (takes_of rfl rfl rfl rfl) (pmk_own0 PySem.F.excBase_ValueError T.xB T.mB T.kB (raises_own T.rB T.tB) (by rfl)))) pss_nil)
      (pss_cons (ps_expr (pe_bm PySem.F.plainAttrs_list PySem.F.slot_list_append PySem.F.type_list_append mt_append (pv 2) (pa_cons (pe_ix ix_list (pv 5) pe_int (fun _ _ => rfl)) pa_nil)))
      (pss_one (ps_expr (pe_bm PySem.F.plainAttrs_list PySem.F.slot_list_append PySem.F.type_list_append mt_append (pv 3) (pa_cons (pe_callTy call_int_str (by rfl) B.int (by decide +kernel) (pa_cons (pe_ix ix_list (pv 5) pe_int (fun _ _ => rfl)) pa_nil)) pa_nil))))))))
    (pss_one (ps_ret (pe_Fsk T.mkC FI hr (by rfl) T.mC (passes_call (takes_of rfl rfl rfl rfl) (fun _ _ _ _ h => h)) (pv 2) (pv 3))))))), ?_⟩
  refine ⟨_, rfl, rfl, _, rfl, ?_⟩
  refine ite2 (fun c => ?_) (fun c => ?_)
  · have ez : z = "-" := by
      have y := of_decide_eq_true c
      cases y
      rfl
    have er : rd z = some ([], []) := by
      unfold rd
      rw [if_pos ez]
    exact mk_form (ks := []) (is := []) (Nat.zero_le _) (Nat.zero_le _) (.inl ⟨rfl, rfl⟩) (fun _ p H' g h => q _ _ er p H' g h) (fun hv => by cases hv)
  · have nz : z ≠ "-" := fun e => c (by rw [e]; exact decide_eq_true rfl)
    refine ⟨Nat.zero_le _, fun k hk0 => ⟨Nat.zero_le _, fun a ha0 => ?_⟩⟩
    have gk := same_new hk0 (.lst [])
    have ga := same_new ha0 (.lst [])
    have hkH : H k = none := hk0
    have haH : H a = none := gk.free ha0
    have sz : ∀ {n : Nat}, n ≤ 1010 → n ≤ sizeLine := fun h => Nat.le_trans h (by decide)
    refine ⟨_, rfl, ⟨_, rfl⟩, _, _, rfl, rfl, rfl, sz (by omega), fun L hL => ?_⟩
    have gL := same_new hL (.lst ((Txt.split z ", ").map V.str))
    have hLH : H L = none := gk.free (ga.free hL)
    have k0 := gL _ _ (ga _ _ (upd_same (H := H) (a := k) (o := .lst [])))
    have a0 := gL _ _ (upd_same (H := upd H k (.lst [])) (a := a) (o := .lst []))
    have nak : a ≠ k := (ne_of_none (upd_same (H := H) (a := k) (o := .lst [])) ha0).symm
    have nLk : L ≠ k := (ne_of_none (ga _ _ (upd_same (H := H) (a := k) (o := .lst []))) hL).symm
    have nLa : L ≠ a := (ne_of_none (upd_same (H := upd H k (.lst [])) (a := a) (o := .lst [])) hL).symm
    refine ⟨L, rfl, ⟨_, SqL.of upd_same⟩, for_list (K := K) (a := L) (xs := (Txt.split z ", ").map V.str) (InvR K H C L k a z)
      ⟨none, none, rfl, gk.trans (ga.trans gL), upd_same, k0, a0, fun p hp => by simp at hp, Nat.le_refl _, Nat.le_refl _⟩ (fun i σ H' _ ⟨_, _, _, _, hl, _⟩ => SqL.of hl) ?_ ?_⟩
    · rintro i y σ H' hi ⟨u4, u5, rfl, g, hl, hk, ha, hp, n1, n2⟩
      obtain ⟨p, ep, rfl⟩ := at_map hi
      have hi2 : i < (Txt.split z ", ").length := (List.getElem?_eq_some_iff.mp ep).1
      have hpm : p ∈ Txt.split z ", " := List.mem_of_getElem? ep
      have plen := pl p hpm
      have gW : ∀ {W : Addr}, H' W = none → Same H' (upd H' W (.lst ((Txt.split p " ").map V.str))) := fun h => same_new h _
      refine ⟨_, rfl, ⟨_, rfl⟩, _, _, rfl, rfl, rfl, sz (by omega), fun W hW => ?_⟩
      refine ⟨_, rfl, W, _, rfl, .inl (SqL.of upd_same), rfl, _, rfl, ?_⟩
      by_cases hl2 : (Txt.split p " ").length = 2
      · refine iteN (by rw [List.length_map, hl2]; rfl) ?_
        obtain ⟨kw, aw, ew⟩ : ∃ kw aw, Txt.split p " " = [kw, aw] := by
          match hh : Txt.split p " ", hl2 with
          | [x, y], _ => exact ⟨x, y, rfl⟩
        have eW : upd H' W (.lst ((Txt.split p " ").map V.str)) W = some (.lst [.str kw, .str aw]) := by rw [upd_same, ew] <;> rfl
        refine ⟨_, rfl, W, _, _, _, rfl, rfl, SqL.of eW, rfl, AW, _, rfl, .inr (T.awT _), rfl, flat_strs _, _, rfl, ?_⟩
        rw [show inV (.str aw) (AWORDS.map V.str) = decide (aw ∈ AWORDS) from inV_str aw AWORDS]
        by_cases haw : aw ∈ AWORDS
        · have ev : lvl p = some (kw, aval aw) := by rw [lvl_two ew, if_pos haw]
          obtain ⟨w1, w2⟩ := int_word haw
          refine iteN (by rw [decide_eq_true haw]; rfl) ?_
          have et : (Txt.split z ", ").take (i + 1) = (Txt.split z ", ").take i ++ [p] := by rw [List.take_succ, ep]; rfl
          have ek : lks ((Txt.split z ", ").take (i + 1)) = lks ((Txt.split z ", ").take i) ++ [kw] := by
            unfold lks
            rw [et, List.filterMap_append, List.map_append]
            show _ ++ (List.filterMap lvl [p]).map _ = _
            rw [List.filterMap_cons_some ev] <;> rfl
          have ei : lis ((Txt.split z ", ").take (i + 1)) = lis ((Txt.split z ", ").take i) ++ [aval aw] := by
            unfold lis
            rw [et, List.filterMap_append, List.map_append]
            show _ ++ (List.filterMap lvl [p]).map _ = _
            rw [List.filterMap_cons_some ev] <;> rfl
          have nWk : W ≠ k := (ne_of_none hk hW).symm
          have nWa : W ≠ a := (ne_of_none ha hW).symm
          have hk2 := gW hW _ _ hk
          have ha2 := gW hW _ _ ha
          refine ⟨_, rfl, .inl ⟨rfl, _, SqL.of hk2⟩, _, rfl, W, _, _, _, rfl, rfl, SqL.of eW, rfl, k, _, _, rfl, rfl, hk2, by rw [List.length_map]; exact small1000 (by omega), ?_⟩
          have ha3 := (upd_ne (o := .lst ((lks ((Txt.split z ", ").take i)).map V.str ++ [.str kw])) nak).trans ha2
          have eW3 := (upd_ne (o := .lst ((lks ((Txt.split z ", ").take i)).map V.str ++ [.str kw])) nWk).trans eW
          refine ⟨_, rfl, .inl ⟨rfl, _, SqL.of ha3⟩, _, rfl, W, _, _, _, rfl, rfl, SqL.of eW3, rfl, aw, _, rfl, w1, w2, a, _, _, rfl, rfl, ha3, by rw [List.length_map]; exact small1000 (by omega), ?_⟩
          refine ⟨_, _, rfl, same_over (same_over (g.trans (gW hW)) hkH _) haH _, ?_, ?_, ?_, fun q' hq' => ?_, by rw [ek, List.length_append, List.length_singleton]; omega, by rw [ei, List.length_append, List.length_singleton]; omega⟩
          · rw [upd_ne nLa, upd_ne nLk]
            exact gW hW _ _ hl
          · rw [upd_ne nak.symm, upd_same, ek, List.map_append] <;> rfl
          · rw [upd_same, ei, List.map_append] <;> rfl
          · rw [et] at hq'
            rcases List.mem_append.mp hq' with h | h
            · exact hp q' h
            · rw [List.mem_singleton.mp h, ev] <;> rfl
        · refine iteC (by rw [decide_eq_false haw]; rfl) ?_
          exact qe (rd_none nz hpm (by rw [lvl_two ew, if_neg haw])) _ (g.trans (gW hW))
      · refine iteC (by rw [List.length_map]; exact by rw [decide_eq_false (fun e => hl2 (by injection e with e; omega))]; rfl) ?_
        refine iteC rfl ?_
        exact qe (rd_none nz hpm (lvl_not hl2)) _ (g.trans (gW hW))
    · rintro σ H' ⟨u4, u5, rfl, g, hl, hk, ha, hp, n1, n2⟩
      rw [List.length_map] at hk ha hp n1 n2
      rw [List.take_length] at hk ha hp n1 n2
      have hall : ((Txt.split z ", ").all fun p => (lvl p).isSome) = true := by
        rw [List.all_eq_true]
        exact hp
      refine ⟨_, rfl, _, rfl, k, _, rfl, .inr (SqL.of hk), sz (by rw [List.length_map]; omega), ?_⟩
      refine mk_form (ks := lks (Txt.split z ", ")) (is := lis (Txt.split z ", ")) ?_ ?_ (.inr ⟨a, rfl, .inl (SqL.of ha)⟩) (fun hv p H2 g2 h2 => q _ _ ?_ p H2 (g.trans g2) h2) (fun hv H2 g2 => qe ?_ H2 (g.trans g2))
      · omega
      · omega
      · unfold rd
        rw [if_neg nz, if_pos ⟨hall, hv⟩]
      · unfold rd
        rw [if_neg nz, if_neg (fun z => by rw [z.2] at hv; cases hv)]
end
end Lw
namespace Lw
open PySem L2
abbrev sMixed : Stmt := topS 64
abbrev sForm : Stmt := topS 71
abbrev sFtext : Stmt := topS 72
theorem SX.upd_out {st q D : Addr} {H H' : Hp} {o : HO} (g : SX st q H H') (n : H D = none) : SX st q H (upd H' D o) := fun b u h1 h2 e => by rw [upd_ne (ne_of_none e n)]; exact g b u h1 h2 e
theorem Spr.upd {st q D : Addr} {H : Hp} {b : Int} {o : HO} (s : Spr H st q b) (n1 : D ≠ st) (n2 : D ≠ q) : Spr (upd H D o) st q b := by
  obtain ⟨ns, a, c, h1, h2, r⟩ := s
  exact ⟨ns, a, c, by rw [upd_ne n1.symm]; exact h1, by rw [upd_ne n2.symm]; exact h2, r⟩
theorem Spr.out {st q D : Addr} {H : Hp} {b : Int} (s : Spr H st q b) (n : H D = none) : D ≠ st ∧ D ≠ q := by
  obtain ⟨ns, a, c, h1, h2, _⟩ := s
  exact ⟨(ne_of_none h1 n).symm, (ne_of_none h2 n).symm⟩
section
variable {P : Program} {w : World} {K : PySem.W.Frag} {mg : Str → Option Value} {base : Heap} {f g : Addr} {fd gd : FuncData}
def spMixed : Sp := fun vs H Q _ => ∃ (st q p : Addr) (b : Int) (is : List Int), vs = [.ref st, .ref p] ∧ Spr H st q b ∧ 0 ≤ b ∧ b ≤ 900 ∧ H p = some (.lst (is.map V.int)) ∧ is.length ≤ 10 ∧
  ∀ (r : Addr) (os : List Int) (H' : Hp), os.Perm is → Spr H' st q (b + is.length) → SX st q H H' → H' r = some (.lst (os.map V.int)) → H r = none → Q (.ref r) H'
abbrev namesM : List Str := ["_law_stream", "_law_some", "_law_left", "_law_k"]
theorem scM : FnScope namesM ["_law_stream", "_law_some"] (defScope sMixed) := ⟨rfl, rfl, rfl, by decide +kernel, rfl, by decide +kernel, by decide +kernel⟩
def InvMx (H0 : Hp) (st q L D : Addr) (b : Int) (is : List Int) (i : Nat) (H : Hp) : Prop := ∃ acc ls : List Int, H D = some (.lst (acc.map V.int)) ∧ H L = some (.lst (ls.map V.int)) ∧ acc.length = i ∧ ls.length + i = is.length ∧ (acc ++ ls).Perm is ∧ Spr H st q (b + i) ∧ SX st q H0 H
theorem er_perm {α : Type} : ∀ (l : List α) (k : Nat) (h : k < l.length), (l[k] :: l.eraseIdx k).Perm l
  | a :: r, 0, _ => List.Perm.refl _
  | a :: r, k + 1, h => (List.Perm.swap _ _ _).trans (List.Perm.cons a (er_perm r k (Nat.lt_of_succ_lt_succ h)))
theorem er_map {α β : Type} (f : α → β) : ∀ (l : List α) (k : Nat), (l.map f).eraseIdx k = (l.eraseIdx k).map f
  | [], _ => rfl
  | a :: r, 0 => rfl
  | a :: r, k + 1 => congrArg (f a :: ·) (er_map f r k)
theorem pop_at {ls : List Int} {r : Int} (h0 : 0 ≤ r) (h1 : r < (ls.length : Int)) : ∃ (k : Nat) (n : Int), seqIndex? r (ls.map V.int).length = some k ∧ (ls.map V.int)[k]? = some (.int n) ∧ (ls.map V.int).eraseIdx k = (ls.eraseIdx k).map V.int ∧ (n :: ls.eraseIdx k).Perm ls ∧ (ls.eraseIdx k).length + 1 = ls.length := by
  have hk : r.toNat < ls.length := by omega
  refine ⟨r.toNat, ls[r.toNat], ?_, by rw [List.getElem?_map, List.getElem?_eq_getElem hk] <;> rfl, ?_, er_perm ls _ hk, by rw [List.length_eraseIdx_of_lt hk]; omega⟩
  · refine (ixN_seq (n := (ls.map V.int).length) (i := r) (j := r.toNat) ?_).1
    unfold ixN
    rw [if_pos h0, if_pos (by rw [List.length_map]; exact h1)]
  · rw [er_map]
theorem ok_mixed (F : Fun K "_law_mixed" "_law_mixed" sMixed f fd) (G : FnOk P w K mg base CX0 1 g gd ["_law_stream", "_law_many"] spDraw) (bG : Binds K gd ["_law_stream", "_law_many"] []) (kG : PySem.W.keepIn K (.ref g) = true) (mG : mg "_law_draw" = some (.ref g)) (B : Bt mg) :
    FnOk P w K mg base CX0 2 f fd ["_law_stream", "_law_some"] spMixed := by
  refine F.ok scM (fun vs H Q E h => ?_) (fun cdv A outer s H vs Q E hr h => ?_)
  · obtain ⟨st, q, p, b, is, rfl, _⟩ := h
    rfl
  obtain ⟨st, q, p, b, is, rfl, hs, hb0, hb1, hp, hl, k⟩ := h
  refine ⟨_, pss_cons (ps_set (i := 2) scM.nd rfl (Or.inr rfl) (pe_callTy call_list_of (by rfl) B.lst (by decide +kernel) (pa_cons (pv 1) pa_nil)))
    (pss_one (ps_ret (pe_lc (own := [("_law_k", 3)]) (g := gName 3) (tt := tYes) (te := tBM K "list" rPopAt (tVar 2) (tCons (tCall spDraw [] E0 (tCons (tVar 0) (tCons (tCB (fun xs H Q => ∃ p ys, xs = [.ref p] ∧ (SqL K H p ys ∨ SqT K H p ys) ∧ Q (.int ys.length) H) (tCons (tVar 2) tNil)) tNil))) tNil)) rfl scM.nd (pi_range1 (by rfl) B.range (pa_cons (pe_callB call_len_seq (by rfl) B.len PySem.boot_len (pa_cons (pv 2) pa_nil)) pa_nil)) (blkOk_by (N := namesM) (sc := defScope sMixed) (by decide +kernel))
      (fun _ _ _ _ _ => pg_name (i := 3) scM.nd rfl (Or.inl rfl)) (fun _ _ _ _ _ => pts_nil)
      (fun _ _ _ _ _ => pe_bm PySem.F.plainAttrs_list PySem.F.slot_list_pop PySem.F.type_list_pop mt_popAt (pv 2) (pa_cons (pe_call G hr rfl mG kG bG .nil pass0 (pa_cons (pv 0) (pa_cons (pe_callB call_len_seq (by rfl) B.len PySem.boot_len (pa_cons (pv 2) pa_nil)) pa_nil))) pa_nil))))), ?_⟩
  refine ⟨_, rfl, p, _, rfl, .inl (SqL.of hp), fun L hL => ?_⟩
  have gL := same_new hL (.lst (is.map V.int))
  obtain ⟨nL1, nL2⟩ := hs.out hL
  have hsL := hs.same gL
  refine ⟨_, rfl, L, _, rfl, .inl (SqL.of upd_same), _, rfl, by rw [List.length_map]; omega, by rw [List.length_map]; omega, fun D hD => ?_⟩
  obtain ⟨nD1, nD2⟩ := hsL.out hD
  have nDL : D ≠ L := (ne_of_none (upd_same (H := H) (a := L) (o := .lst (is.map V.int))) hD).symm
  have hD0 : H D = none := gL.free hD
  have gD := same_new hD (.lst [])
  have elm : (is.map V.int).length = is.length := List.length_map _
  refine lc_range (lo := 0) (n := (is.map V.int).length) (InvMx H st q L D b is) ⟨[], is, upd_same, gD _ _ upd_same, rfl, rfl, List.Perm.refl _, ?_, .of (gL.trans gD)⟩ ?_ ?_
  · rw [show b + ((0 : Nat) : Int) = b from Int.add_zero b]
    exact hsL.same gD
  · rintro i H2 hi ⟨acc, ls, hd, hl2, ha, hn, hp2, hs2, gx⟩
    have hlen : (((ls.map V.int).length : Nat) : Int) = (ls.length : Int) := by rw [List.length_map]
    refine ⟨rfl, kept ?_⟩
    refine ⟨_, rfl, .inl ⟨rfl, _, SqL.of hl2⟩, _, rfl, _, rfl, L, _, rfl, .inl (SqL.of hl2), st, q, b + i, _, rfl, hs2, by omega, by omega, by rw [hlen]; omega, by rw [hlen]; omega, fun r H3 r0 r1 hs3 g3 => ?_⟩
    have hd3 := g3 _ _ nD1 nD2 hd
    have hl3 := g3 _ _ nL1 nL2 hl2
    obtain ⟨j, n, e1, e2, e3, e4, e5⟩ := pop_at r0 (by rw [hlen] at r1; exact r1)
    refine ⟨L, _, r, j, _, rfl, rfl, hl3, by omega, by rw [hlen] at r1; omega, e1, e2, ?_⟩
    have hd4 := (upd_ne (o := .lst ((ls.map V.int).eraseIdx j)) nDL).trans hd3
    refine ⟨_, hd4, by rw [List.length_map]; exact small1000 (by omega), acc ++ [n], ls.eraseIdx j, by rw [upd_same, List.map_append] <;> rfl, by rw [upd_ne nDL.symm, upd_same, e3], by rw [List.length_append, ha] <;> rfl, by omega, ?_, ?_, ?_⟩
    · rw [List.append_assoc]
      exact (List.Perm.append_left acc e4).trans hp2
    · have e6 : b + (i : Int) + 1 = b + ((i + 1 : Nat) : Int) := by omega
      rw [← e6]
      exact (hs3.upd nL1 nL2).upd nD1 nD2
    · exact ((gx.trans g3).upd_out hL).upd_out hD0
  · rintro H2 ⟨acc, ls, hd, hl2, ha, hn, hp2, hs2, gx⟩
    rw [elm] at hs2
    have els : ls = [] := List.length_eq_zero_iff.mp (by omega)
    subst els
    rw [List.append_nil] at hp2
    exact k D acc H2 hp2 hs2 gx hd hD0
end
end Lw
namespace Lw
open PySem L2 TL
/-- a form's levels as pairs -/
def Tups (K : PySem.W.Frag) (H : Hp) (vs : List V) (l : List (Str × Int)) : Prop := vs.length = l.length ∧ ∀ (i : Nat) (v : V) (p : Str × Int), vs[i]? = some v → l[i]? = some p → ∃ a, v = .ref a ∧ SqT K H a [.str p.1, .int p.2]
theorem Tups.mono {K : PySem.W.Frag} {H H' : Hp} {vs : List V} {l : List (Str × Int)} (g : TK K H H') (h : Tups K H vs l) : Tups K H' vs l :=
  ⟨h.1, fun i v p e1 e2 => by obtain ⟨a, r, z⟩ := h.2 i v p e1 e2; exact ⟨a, r, g _ _ z⟩⟩
def Good (l : List (Str × Int)) (n : Nat) : Prop := l.length = n ∧ (∀ p ∈ l, p.1 ∈ KINDS) ∧ (l.map (·.2)).Perm (iota n)
def K5 : List Str := ["dense", "packed", "bits", "hashed", "packed"]
theorem k5_kinds : ∀ k ∈ K5, k ∈ KINDS := by decide +kernel
section
variable {P : Program} {w : World} {K : PySem.W.Frag} {mg : Str → Option Value} {base : Heap} {f g g2 : Addr} {fd gd gd2 : FuncData}
def spForm (K : PySem.W.Frag) : Sp := fun vs H Q _ => ∃ (st q : Addr) (b : Int) (n : Nat), vs = [.ref st, .int (n : Int)] ∧ Spr H st q b ∧ 0 ≤ b ∧ b ≤ 800 ∧ n ≤ 3 ∧
  ∀ (t : Addr) (us : List V) (l : List (Str × Int)) (b' : Int) (H' : Hp), Good l n → SqT K H' t us → Tups K H' us l → b ≤ b' → b' ≤ b + 6 → Spr H' st q b' → SX st q H H' → Q (.ref t) H'
abbrev namesFo : List Str := ["_law_stream", "_law_rank", "_law_sides", "_law_axis"]
theorem scFo : FnScope namesFo ["_law_stream", "_law_rank"] (defScope sForm) := ⟨rfl, rfl, rfl, by decide +kernel, rfl, by decide +kernel, by decide +kernel⟩
def InvFo (K : PySem.W.Frag) (H0 : Hp) (st q r D : Addr) (b : Int) (os : List Int) (i : Nat) (H : Hp) : Prop := ∃ (acc : List V) (l : List (Str × Int)), H D = some (.lst acc) ∧ H r = some (.lst (os.map V.int)) ∧ acc.length = i ∧ l.map (·.2) = os.take i ∧ (∀ p ∈ l, p.1 ∈ KINDS) ∧ Tups K H acc l ∧ Spr H st q (b + i) ∧ SX st q H0 H
theorem ok_form (F : Fun K "_law_form" "_law_form" sForm f fd) (GM : FnOk P w K mg base CX0 2 g gd ["_law_stream", "_law_some"] spMixed) (bM : Binds K gd ["_law_stream", "_law_some"] []) (kM : PySem.W.keepIn K (.ref g) = true) (mM : mg "_law_mixed" = some (.ref g))
    (GP : FnOk P w K mg base CX0 2 g2 gd2 ["_law_stream", "_law_some"] (spPick K)) (bP : Binds K gd2 ["_law_stream", "_law_some"] []) (kP : PySem.W.keepIn K (.ref g2) = true) (mP : mg "_law_pick" = some (.ref g2)) (B : Bt mg) :
    FnOk P w K mg base CX0 3 f fd ["_law_stream", "_law_rank"] (spForm K) := by
  refine F.ok scFo (fun vs H Q E h => ?_) (fun cdv A outer s H vs Q E hr h => ?_)
  · obtain ⟨st, q, b, n, rfl, _⟩ := h
    rfl
  obtain ⟨st, q, b, n, rfl, hs, hb0, hb1, hn, k⟩ := h
  refine ⟨_, pss_cons (ps_set (i := 2) scFo.nd rfl (Or.inl rfl) (pe_call GM hr rfl mM kM bM .nil pass0 (pa_cons (pv 0) (pa_cons (pe_listRg rfl (by rfl) B.lst (prg_1 (by rfl) B.range (pv 1))) pa_nil))))
    (pss_one (ps_ret (pe_callTy call_tuple_of (by rfl) B.tup (by decide +kernel) (pa_cons (pe_lc (own := [("_law_axis", 3)]) (g := gName 3) (tt := tYes) rfl scFo.nd (pi_list (pv 2)) (blkOk_by (N := namesFo) (sc := defScope sForm) (by decide +kernel))
      (fun _ _ _ _ _ => pg_name (i := 3) scFo.nd rfl (Or.inl rfl)) (fun _ _ _ _ _ => pts_nil)
      (fun _ _ _ _ _ => pe_tup (pa_cons (pe_call GP hr rfl mP kP bP .nil pass0 (pa_cons (pv 0) (pa_cons (pe_lst (pa_cons pe_str (pa_cons pe_str (pa_cons pe_str (pa_cons pe_str (pa_cons pe_str pa_nil)))))) pa_nil))) (pa_cons (pv 3) pa_nil)))) pa_nil)))), ?_⟩
  refine ⟨_, rfl, _, rfl, n, rfl, RgOk.of_le (by decide) (by omega) (by decide) (by omega), fun p hp => ?_⟩
  rw [rg_iota]
  have gp := same_new hp (.lst ((iota n).map V.int))
  obtain ⟨np1, np2⟩ := hs.out hp
  refine ⟨st, q, p, b, iota n, rfl, hs.same gp, hb0, by omega, upd_same, by rw [iota_len]; omega, fun r os H1 hperm hs1 gx1 hr1 hr0 => ?_⟩
  have hs1' : Spr H1 st q (b + n) := by rw [iota_len] at hs1; exact hs1
  have hrH : H r = none := gp.free hr0
  have elen : os.length = n := by rw [hperm.length_eq, iota_len]
  obtain ⟨nr1, nr2⟩ := hs.out hrH
  refine ⟨_, rfl, r, rfl, ⟨_, SqL.of hr1⟩, fun D hD => ?_⟩
  obtain ⟨nD1, nD2⟩ := hs1'.out hD
  have nDr : D ≠ r := (ne_of_none hr1 hD).symm
  have gD := same_new hD (.lst [])
  have elm : (os.map V.int).length = n := by rw [List.length_map, elen]
  refine lc_list (K := K) (a := r) (xs := os.map V.int) (InvFo K H1 st q r D (b + n) os) ⟨[], [], upd_same, gD _ _ hr1, rfl, (by simp), (fun p hp => by cases hp), ⟨rfl, fun i v p e => (by simp at e)⟩, ?_, .of gD⟩ (fun i H2 _ ⟨_, _, _, h2, _⟩ => SqL.of h2) ?_ ?_
  · rw [show b + (n : Int) + ((0 : Nat) : Int) = b + n from Int.add_zero _]
    exact hs1'.same gD
  · rintro i x H2 hx ⟨acc, l, hd, hr2, ha, hm, hk, ht, hs2, gx⟩
    obtain ⟨o, eo, rfl⟩ := at_map hx
    have hi : i < n := by rw [← elen]; exact (List.getElem?_eq_some_iff.mp eo).1
    have ell : l.length = i := by rw [← ha]; exact ht.1.symm
    refine ⟨rfl, kept ?_⟩
    refine ⟨_, rfl, (by show 5 ≤ sizeLine; decide), fun m hm' => ?_⟩
    have gm := same_new hm' (.lst [.str "dense", .str "packed", .str "bits", .str "hashed", .str "packed"])
    obtain ⟨nm1, nm2⟩ := hs2.out hm'
    refine ⟨st, q, m, b + n + i, _, rfl, hs2.same gm, by omega, by omega, upd_same, nm1, nm2, (by show 0 < 5; decide), (by show 5 ≤ 1000; decide), fun v H3 hv hs3 g3 => ?_⟩
    obtain ⟨kd, hkd, rfl⟩ : ∃ kd, kd ∈ KINDS ∧ v = V.str kd := by
      have hv' : v ∈ K5.map V.str := hv
      obtain ⟨kd, hm, rfl⟩ := List.mem_map.mp hv'
      exact ⟨kd, k5_kinds kd hm, rfl⟩
    refine ⟨_, rfl, (by show 2 ≤ sizeLine; decide), fun t ht' => ?_⟩
    have gt := same_new ht' (.tup [.str kd, .int o])
    have tk3 : TK K H2 H3 := (TK.of gm).trans (TK.sx (hs2.same gm) g3)
    have hd3 := g3 _ _ nD1 nD2 (gm _ _ hd)
    have hd4 := gt _ _ hd3
    have tk4 : TK K H3 (upd (upd H3 t (.tup [.str kd, .int o])) D (.lst (acc ++ [.ref t]))) := (TK.of gt).trans (TK.lst hd4)
    refine ⟨acc, hd4, small1000 (by omega), acc ++ [.ref t], l ++ [(kd, o)], upd_same, ?_, by rw [List.length_append, ha] <;> rfl, ?_, fun p hp => ?_, ⟨by rw [List.length_append, List.length_append, ht.1] <;> rfl, fun j v p ev ep => ?_⟩, ?_, ?_⟩
    · rw [upd_ne nDr.symm]
      exact gt _ _ (g3 _ _ nr1 nr2 (gm _ _ hr2))
    · rw [List.map_append, hm, List.take_succ, eo] <;> rfl
    · rcases List.mem_append.mp hp with hp | hp
      · exact hk p hp
      · rw [List.mem_singleton.mp hp]
        exact hkd
    · by_cases hj : j < acc.length
      · rw [List.getElem?_append_left hj] at ev
        rw [List.getElem?_append_left (by omega)] at ep
        obtain ⟨a, r1, z⟩ := ht.2 j v p ev ep
        exact ⟨a, r1, tk4 _ _ (tk3 _ _ z)⟩
      · have hj2 : j = acc.length := by
          have q1 := (List.getElem?_eq_some_iff.mp ev).1
          rw [List.length_append, List.length_singleton] at q1
          omega
        subst hj2
        rw [List.getElem?_append_right (Nat.le_refl _), Nat.sub_self] at ev
        rw [List.getElem?_append_right (by omega), show acc.length - l.length = 0 by omega] at ep
        cases ev
        cases ep
        exact ⟨t, rfl, TK.lst hd4 _ _ (SqT.of upd_same)⟩
    · have e6 : b + (n : Int) + (i : Int) + 1 = b + n + ((i + 1 : Nat) : Int) := by omega
      rw [← e6]
      exact (hs3.same gt).upd nD1 nD2
    · exact ((gx.trans (.of gm)).trans (g3.trans (.of gt))).upd_out hD
  · rintro H2 ⟨acc, l, hd, hr2, ha, hm, hk, ht, hs2, gx⟩
    rw [elm] at ha hm hs2
    rw [List.take_of_length_le (by omega)] at hm
    refine ⟨D, acc, rfl, .inl ⟨SqL.of hd, fun t ht' => ?_⟩⟩
    have gt := same_new ht' (.tup acc)
    refine k t acc l (b + n + n) _ ⟨by rw [← ht.1, ha], hk, by rw [hm]; exact hperm⟩ (SqT.of upd_same) (ht.mono (.of gt)) (by omega) (by omega) (hs2.same gt) ?_
    exact (((SX.of gp).trans gx1).trans gx).trans (.of gt)
/-! the law's own text of a form -/
theorem zip_maps : ∀ l : List (Str × Int), (l.map (·.1)).zip (l.map (·.2)) = l
  | [] => rfl
  | (a, b) :: r => by
    show (a, b) :: (r.map (·.1)).zip (r.map (·.2)) = _
    rw [zip_maps r]
theorem iota_valid {l : List (Str × Int)} {n : Nat} (h : Good l n) (hn : n ≤ 3) : valid (l.map (·.1)) (l.map (·.2)) = true := by
  obtain ⟨h1, h2, h3⟩ := h
  unfold valid axesOk
  rw [List.length_map, List.length_map, h1]
  have e1 : decide (n ≤ 3) = true := decide_eq_true hn
  have e2 : ((l.map (·.1)).all fun k => decide (k ∈ KINDS)) = true := by
    rw [List.all_eq_true]
    intro k hk
    obtain ⟨p, hp, rfl⟩ := List.mem_map.mp hk
    exact decide_eq_true (h2 p hp)
  have e3 : ((List.range n).all fun j => decide ((j : Int) ∈ l.map (·.2))) = true := by
    rw [List.all_eq_true]
    intro j hj
    refine decide_eq_true (h3.symm.mem_iff.mp ?_)
    unfold iota
    exact List.mem_map.mpr ⟨j, hj, rfl⟩
  rw [e1, e2, e3, decide_eq_true rfl] <;> rfl
def litm (p : Str × Int) : Str := p.1 ++ " " ++ ((toString p.2 : String) : Str)
theorem litm_itm (p : Str × Int) : litm p = itm p.1 p.2 := by
  refine ext_tl ?_
  unfold litm itm
  rw [tl_append, tl_append, tl_append, tl_append, tl_append] <;> rfl
def spFtext (K : PySem.W.Frag) : Sp := fun vs H Q _ => ∃ (t : Addr) (us : List V) (l : List (Str × Int)) (n : Nat), vs = [.ref t] ∧ SqT K H t us ∧ Tups K H us l ∧ Good l n ∧ n ≤ 3 ∧ ∀ H' : Hp, Same H H' → Q (.str (ftext (l.map (·.1)) (l.map (·.2)))) H'
theorem dp_tups {H : Hp} : ∀ {us : List V} {l : List (Str × Int)}, Tups K H us l → DpAll K H us (l.map fun p => PyData.tuple [.str p.1, .int p.2])
  | [], [], _ => .nil
  | [], _ :: _, h => by cases h.1
  | _ :: _, [], h => by cases h.1
  | u :: us, p :: l, h => by
    obtain ⟨a, rfl, z⟩ := h.2 0 u p rfl rfl
    exact .cons (.tup z (.cons (.str _) (.cons (.int _) .nil))) (dp_tups ⟨Nat.succ.inj h.1, fun i v p e1 e2 => h.2 (i + 1) v p e1 e2⟩)
end
end Lw
namespace Lw
open PySem L2 TL
/-- more built-in names -/
structure Bs (mg : Str → Option Value) : Prop where
  str : mg "str" = none
  any : mg "any" = none
  sorted : mg "sorted" = none
  ve : mg "ValueError" = none
section
variable {P : Program} {w : World} {K : PySem.W.Frag} {mg : Str → Option Value} {base : Heap} {C fI BF AW KD f g g2 : Addr} {MC : Value} {fd gd gd2 : FuncData}
theorem sz20 {n : Nat} (h : n ≤ 1000) : n ≤ sizeLine := Nat.le_of_lt (small1000 h)
theorem kinds_ok : ∀ k ∈ KINDS, PyData.strOk k = true := by decide +kernel
theorem shaped_form : ∀ {l : List (Str × Int)}, l.length ≤ 3 → (∀ p ∈ l, p.1 ∈ KINDS) → SeqAt.shaped (.tuple (l.map fun p => PyData.tuple [.str p.1, .int p.2])) = true
  | [], _, _ => by decide +kernel
  | [a], _, h => by
    have h1 := kinds_ok _ (h a (by simp))
    simp [SeqAt.shaped, PyData.canLay0, PyData.canLayAll0, PyData.depth, PyData.depthAll, h1]
  | [a, b], _, h => by
    have h1 := kinds_ok _ (h a (by simp))
    have h2 := kinds_ok _ (h b (by simp))
    simp [SeqAt.shaped, PyData.canLay0, PyData.canLayAll0, PyData.depth, PyData.depthAll, h1, h2]
  | [a, b, c], _, h => by
    have h1 := kinds_ok _ (h a (by simp))
    have h2 := kinds_ok _ (h b (by simp))
    have h3 := kinds_ok _ (h c (by simp))
    simp [SeqAt.shaped, PyData.canLay0, PyData.canLayAll0, PyData.depth, PyData.depthAll, h1, h2, h3]
  | _ :: _ :: _ :: _ :: _, h, _ => by simp at h
abbrev namesFt : List Str := ["_law_form_here", "_law_kind", "_law_axis"]
theorem scFt : FnScope namesFt ["_law_form_here"] (defScope sFtext) := ⟨rfl, rfl, rfl, by decide +kernel, rfl, by decide +kernel, by decide +kernel⟩
theorem ok_ftext (F : Fun K "_law_form_text" "_law_form_text" sFtext f fd) (B : Bt mg) (S : Bs mg) : FnOk P w K mg base CX0 1 f fd ["_law_form_here"] (spFtext K) := by
  refine F.ok scFt (fun vs H Q E h => ?_) (fun cdv A outer s H vs Q E hr h => ?_)
  · obtain ⟨t, us, l, n, rfl, _⟩ := h
    rfl
  obtain ⟨t, us, l, n, rfl, hT, htu, hg, hn, q⟩ := h
  have hll : l.length ≤ 3 := by rw [hg.1]; exact hn
  have hax : ∀ p ∈ l, p.1 ∈ KINDS ∧ p.2 ∈ ([0, 1, 2] : List Int) := fun p hp => by
    obtain ⟨_, _, _, z⟩ := valid_parts (iota_valid hg hn)
    exact ⟨hg.2.1 p hp, z _ (List.mem_map_of_mem hp)⟩
  refine ⟨_, pss_one (ps_ret (pe_ifExp (pt_cmpR (op_neD hr.units) (pv 0) (pe_tup pa_nil) (nomark _)) (pe_join pe_str (pe_lc (own := [("_law_kind", 1), ("_law_axis", 2)]) (g := gTup K 2 (gCons (gName 1) (gCons (gName 2) gNil))) (tt := tYes) rfl scFt.nd (pi_tup (pv 0)) (blkOk_by (N := namesFt) (sc := defScope sFtext) (by decide +kernel))
      (fun _ _ _ _ _ => pg_tup rfl (pgs_cons (pg_name (i := 1) scFt.nd rfl (Or.inl rfl)) (pgs_cons (pg_name (i := 2) scFt.nd rfl (Or.inl rfl)) pgs_nil))) (fun _ _ _ _ _ => pts_nil)
      (fun _ _ _ _ _ => pe_op op_add_str (pe_op op_add_str (pv 1) pe_str) (pe_callTy call_str_int (by rfl) S.str (by decide +kernel) (pa_cons (pv 2) pa_nil))))) pe_str)), ?_⟩
  refine ⟨_, rfl, (by show 0 ≤ sizeLine; decide), fun e he => ?_⟩
  have ge := same_new he (.tup [])
  refine ⟨_, .tuple [], .tup (seqT ge hT) (dp_tups (htu.mono (.of ge))), .tup (SqT.of upd_same) .nil, shaped_form hll hg.2.1, by decide +kernel, _, rfl, ?_⟩
  cases l with
  | nil =>
    refine iteN (by decide +kernel) ?_
    have z := q _ ge
    exact z
  | cons p r =>
    refine iteC rfl ?_
    refine ⟨⟨_, rfl⟩, _, rfl, t, rfl, ⟨_, seqT ge hT⟩, fun D hD => ?_⟩
    have hD0 : H D = none := ge.free hD
    refine lc_tup (K := K) (a := t) (xs := us) (InvM H D (fun p : Str × Int => V.str (litm p)) (p :: r)) ⟨upd_same, same_over ge hD0 _⟩ (fun i H' _ ⟨_, g⟩ => seqT g hT) (fun i x H' hx hv => ?_) ?_
    · have hi : i < (p :: r).length := by rw [← htu.1]; exact (List.getElem?_eq_some_iff.mp hx).1
      obtain ⟨a, rfl, za⟩ := htu.2 i x _ hx (List.getElem?_eq_getElem hi)
      have hm := hax _ (List.getElem_mem hi)
      obtain ⟨l1, l2, l3, l4, l5⟩ := small_itm _ hm.1 _ hm.2
      refine ⟨a, _, rfl, seqT hv.2 za, rfl, _, _, rfl, _, _, rfl, rfl, rfl, kept ?_⟩
      refine ⟨_, rfl, _, _, rfl, rfl, sz20 (by show _ + 1 ≤ 1000; omega), _, rfl, _, rfl, l5, _, _, rfl, rfl, sz20 ?_, ?_⟩
      · rw [← litm_itm] at l3
        have e1 : (litm ((p :: r)[i])).length = ((p :: r)[i].1 ++ (" " : Str)).length + ((toString (p :: r)[i].2 : String) : Str).length := Str.length_append _ _
        rw [e1] at l3
        omega
      · exact ⟨_, hv.1, len_m (by omega), InvM.next (f := fun p : Str × Int => V.str (litm p)) hD0 hv.2 (List.getElem?_eq_getElem hi) _ rfl⟩
    · rintro H' ⟨hd, g⟩
      rw [List.take_of_length_le (by rw [htu.1]; exact Nat.le_refl _)] at hd
      have el : ((p :: r).map litm) = ((((p :: r).map (·.1)).zip ((p :: r).map (·.2))).map fun p => itm p.1 p.2) := by
        rw [zip_maps]
        exact List.map_congr_left fun p _ => litm_itm p
      refine ⟨_, D, (p :: r).map litm, rfl, rfl, .inl (SqL.of (by rw [hd, List.map_map] <;> rfl)), ?_, ?_⟩
      · have z := sum_le (ys := (p :: r).map litm) fun y hy => by
          obtain ⟨p', hp', rfl⟩ := List.mem_map.mp hy
          rw [litm_itm]
          exact (small_itm _ (hax p' hp').1 _ (hax p' hp').2).2.2.1
        have z2 : ((p :: r).map litm).length ≤ 3 := by rw [List.length_map]; exact hll
        have z3 : ((p :: r).map litm).length * Str.length ", " ≤ 3 * 2 := Nat.mul_le_mul z2 (by decide)
        omega
      · have z := q H' g
        unfold ftext at z
        rw [if_neg (by simp), ← el] at z
        exact z
/-! a form made from parts -/
end
end Lw
namespace Lw
open PySem L2 TL
abbrev sWorth : Stmt := topS 66
abbrev sSizes : Stmt := topS 68
abbrev sAt : Stmt := topS 69
section
variable {P : Program} {w : World} {K : PySem.W.Frag} {mg : Str → Option Value} {base : Heap} {f g : Addr} {fd gd : FuncData}
/-- a value that is drawn: not 0, of at most sixty digits -/
def spWorth : Sp := fun vs H Q _ => ∃ (st q : Addr) (b : Int), vs = [.ref st] ∧ Spr H st q b ∧ 0 ≤ b ∧ b ≤ 900 ∧
  ∀ (n b' : Int) (H' : Hp), n ≠ 0 → n < 10 ^ 60 → - 10 ^ 60 < n → b ≤ b' → b' ≤ b + 3 → Spr H' st q b' → SX st q H H' → Q (.int n) H'
abbrev namesWo : List Str := ["_law_stream", "_law_way"]
theorem scWo : FnScope namesWo ["_law_stream"] (defScope sWorth) := ⟨rfl, rfl, rfl, by decide +kernel, rfl, by decide +kernel, by decide +kernel⟩
theorem ok_worth (F : Fun K "_law_worth" "_law_worth" sWorth f fd) (G : FnOk P w K mg base CX0 1 g gd ["_law_stream", "_law_many"] spDraw) (bG : Binds K gd ["_law_stream", "_law_many"] []) (kG : PySem.W.keepIn K (.ref g) = true) (mG : mg "_law_draw" = some (.ref g)) :
    FnOk P w K mg base CX0 2 f fd ["_law_stream"] spWorth := by
  refine F.ok scWo (fun vs H Q E h => ?_) (fun cdv A outer s H vs Q E hr h => ?_)
  · obtain ⟨st, q, b, rfl, _⟩ := h
    rfl
  obtain ⟨st, q, b, rfl, hs, hb0, hb1, k⟩ := h
  refine ⟨_, pss_cons (ps_set (i := 1) scWo.nd rfl (Or.inl rfl) (pe_call G hr rfl mG kG bG .nil pass0 (pa_cons (pv 0) (pa_cons pe_int pa_nil))))
    (pss_cons (ps_if (pt_cmpR op_eq (pv 1) pe_int (nomark _)) (pss_one (ps_ret (pe_op op_mul (pe_op op_sub (pe_op op_sub (pe_op op_pow pe_int pe_int) pe_int) (pe_call G hr rfl mG kG bG .nil pass0 (pa_cons (pv 0) (pa_cons pe_int pa_nil)))) (pe_ix ix_list (pe_lst (pa_cons pe_int (pa_cons (pe_un un_neg pe_int) pa_nil))) (pe_call G hr rfl mG kG bG .nil pass0 (pa_cons (pv 0) (pa_cons pe_int pa_nil))) (fun _ _ => rfl))))) pss_nil)
    (pss_cons (ps_if (pt_cmpR op_lt (pv 1) pe_int (nomark _)) (pss_one (ps_ret (pe_op op_sub (pe_un un_neg pe_int) (pe_call G hr rfl mG kG bG .nil pass0 (pa_cons (pv 0) (pa_cons pe_int pa_nil)))))) pss_nil)
    (pss_one (ps_ret (pe_op op_add pe_int (pe_call G hr rfl mG kG bG .nil pass0 (pa_cons (pv 0) (pa_cons pe_int pa_nil)))))))), ?_⟩
  refine ⟨_, rfl, st, q, b, 8, rfl, hs, hb0, by omega, by decide, by decide, fun way H1 w0 w1 hs1 gx1 => ?_⟩
  refine ⟨_, rfl, rfl, _, rfl, ite2 (fun c => ?_) (fun c => ?_)⟩
  · refine ⟨_, _, rfl, rfl, ⟨by decide, by decide, by decide⟩, _, _, rfl, rfl, _, rfl, st, q, b + 1, 1000, rfl, hs1, by omega, by omega, by decide, by decide, fun r H2 r0 r1 hs2 gx2 => ?_⟩
    refine ⟨_, _, rfl, rfl, _, rfl, (by show 2 ≤ sizeLine; decide), fun l hl => ?_⟩
    have gl := same_new hl (.lst [.int 1, .int (-1)])
    obtain ⟨nl1, nl2⟩ := hs2.out hl
    refine ⟨_, rfl, st, q, b + 1 + 1, 2, rfl, hs2.same gl, by omega, by omega, by decide, by decide, fun t H3 t0 t1 hs3 gx3 => ?_⟩
    have gx := (gx1.trans gx2).trans ((SX.of gl).trans gx3)
    have e60 : (10 : Int) ^ (60 : Int).toNat = 10 ^ 60 := by decide +kernel
    have ht : t = 0 ∨ t = 1 := by omega
    rcases ht with rfl | rfl
    · refine ⟨l, _, 0, .int 1, rfl, rfl, SqL.of (gx3 _ _ nl1 nl2 upd_same), rfl, _, _, rfl, rfl, .inr (by decide), ?_⟩
      refine k _ _ _ ?_ ?_ ?_ ?_ ?_ hs3 gx <;> first | omega | (rw [e60]; omega)
    · refine ⟨l, _, 1, .int (-1), rfl, rfl, SqL.of (gx3 _ _ nl1 nl2 upd_same), rfl, _, _, rfl, rfl, .inr (by decide), ?_⟩
      refine k _ _ _ ?_ ?_ ?_ ?_ ?_ hs3 gx <;> first | omega | (rw [e60]; omega)
  refine ⟨_, rfl, _, _, rfl, rfl, _, rfl, ite2 (fun c2 => ?_) (fun c2 => ?_)⟩
  · refine ⟨_, rfl, _, rfl, st, q, b + 1, 40, rfl, hs1, by omega, by omega, by decide, by decide, fun r H2 r0 r1 hs2 gx2 => ⟨_, _, rfl, rfl, ?_⟩⟩
    refine k _ _ _ ?_ ?_ ?_ ?_ ?_ hs2 (gx1.trans gx2) <;> omega
  · refine ⟨_, rfl, st, q, b + 1, 40, rfl, hs1, by omega, by omega, by decide, by decide, fun r H2 r0 r1 hs2 gx2 => ⟨_, _, rfl, rfl, ?_⟩⟩
    refine k _ _ _ ?_ ?_ ?_ ?_ ?_ hs2 (gx1.trans gx2) <;> omega
/-- numbers of axes' sizes: from 1 to so many, drawn -/
def spSizes (K : PySem.W.Frag) : Sp := fun vs H Q _ => ∃ (st q : Addr) (b : Int) (n : Nat) (m : Int), vs = [.ref st, .int (n : Int), .int m] ∧ Spr H st q b ∧ 0 ≤ b ∧ b ≤ 800 ∧ n ≤ 10 ∧ 0 < m ∧ m ≤ 1000 ∧
  ∀ (t : Addr) (is : List Int) (b' : Int) (H' : Hp), is.length = n → (∀ i ∈ is, 1 ≤ i ∧ i ≤ m) → H' t = some (.tup (is.map V.int)) → b ≤ b' → b' ≤ b + n → Spr H' st q b' → SX st q H H' → Q (.ref t) H'
abbrev namesSz : List Str := ["_law_stream", "_law_rank", "_law_most", "_law_axis"]
theorem scSz : FnScope namesSz ["_law_stream", "_law_rank", "_law_most"] (defScope sSizes) := ⟨rfl, rfl, rfl, by decide +kernel, rfl, by decide +kernel, by decide +kernel⟩
def InvSz (H0 : Hp) (st q D : Addr) (b m : Int) (i : Nat) (H : Hp) : Prop := ∃ is : List Int, H D = some (.lst (is.map V.int)) ∧ is.length = i ∧ (∀ x ∈ is, 1 ≤ x ∧ x ≤ m) ∧ Spr H st q (b + i) ∧ SX st q H0 H
theorem ok_sizes (F : Fun K "_law_sizes" "_law_sizes" sSizes f fd) (G : FnOk P w K mg base CX0 1 g gd ["_law_stream", "_law_many"] spDraw) (bG : Binds K gd ["_law_stream", "_law_many"] []) (kG : PySem.W.keepIn K (.ref g) = true) (mG : mg "_law_draw" = some (.ref g)) (B : Bt mg) :
    FnOk P w K mg base CX0 2 f fd ["_law_stream", "_law_rank", "_law_most"] (spSizes K) := by
  refine F.ok scSz (fun vs H Q E h => ?_) (fun cdv A outer s H vs Q E hr h => ?_)
  · obtain ⟨st, q, b, n, m, rfl, _⟩ := h
    rfl
  obtain ⟨st, q, b, n, m, rfl, hs, hb0, hb1, hn, hm0, hm1, k⟩ := h
  refine ⟨_, pss_one (ps_ret (pe_callTy call_tuple_of (by rfl) B.tup (by decide +kernel) (pa_cons (pe_lc (own := [("_law_axis", 3)]) (g := gName 3) (tt := tYes) rfl scSz.nd (pi_range1 (by rfl) B.range (pa_cons (pv 1) pa_nil)) (blkOk_by (N := namesSz) (sc := defScope sSizes) (by decide +kernel)) (fun _ _ _ _ _ => pg_name (i := 3) scSz.nd rfl (Or.inl rfl)) (fun _ _ _ _ _ => pts_nil)
      (fun _ _ _ _ _ => pe_op op_add pe_int (pe_call G hr rfl mG kG bG .nil pass0 (pa_cons (pv 0) (pa_cons (pv 2) pa_nil))))) pa_nil))), ?_⟩
  refine ⟨_, rfl, n, rfl, by omega, by omega, fun D hD => ?_⟩
  obtain ⟨nd1, nd2⟩ := hs.out hD
  refine lc_range (lo := 0) (n := n) (InvSz H st q D b m) ⟨[], upd_same, rfl, fun x hx => (by cases hx), ?_, ?_⟩ (fun j H2 hj hv => ?_) ?_
  · rw [show b + ((0 : Nat) : Int) = b from Int.add_zero b]
    exact hs.upd nd1 nd2
  · exact (SX.refl).upd_out hD
  · obtain ⟨is, hd, hl, hx, hs2, gx⟩ := hv
    refine ⟨rfl, kept ?_⟩
    refine ⟨_, rfl, _, rfl, st, q, b + j, m, rfl, hs2, by omega, by omega, by omega, by omega, fun r H3 r0 r1 hs3 gx3 => ⟨_, _, rfl, rfl, ?_⟩⟩
    refine ⟨_, gx3 _ _ nd1 nd2 hd, small1000 (by rw [List.length_map]; omega), is ++ [1 + r], ?_, by rw [List.length_append, hl] <;> rfl, fun x hx' => ?_, ?_, (gx.trans gx3).upd_out hD⟩
    · rw [upd_same, List.map_append] <;> rfl
    · rcases List.mem_append.mp hx' with hx' | hx'
      · exact hx x hx'
      · rw [List.mem_singleton.mp hx']
        omega
    · rw [show b + ((j + 1 : Nat) : Int) = b + (j : Int) + 1 by omega]
      exact hs3.upd nd1 nd2
  · rintro H2 ⟨is, hd, hl, hx, hs2, gx⟩
    refine ⟨D, _, rfl, .inl ⟨SqL.of hd, fun t ht => ?_⟩⟩
    have gt := same_new ht (.tup (is.map V.int))
    exact k t is (b + n) _ hl hx upd_same (by omega) (by omega) (hs2.same gt) (gx.trans (.of gt))
/-- coordinates, drawn -/
def spAt (K : PySem.W.Frag) : Sp := fun vs H Q _ => ∃ (st q z : Addr) (b : Int) (zs : List Int), vs = [.ref st, .ref z] ∧ Spr H st q b ∧ 0 ≤ b ∧ b ≤ 800 ∧ zs.length ≤ 10 ∧ (∀ x ∈ zs, 1 ≤ x ∧ x ≤ 1000) ∧ SqT K H z (zs.map V.int) ∧
  ∀ (t : Addr) (is : List Int) (b' : Int) (H' : Hp), is.length = zs.length → (∀ (i : Nat) (x y : Int), is[i]? = some x → zs[i]? = some y → 0 ≤ x ∧ x < y) → H' t = some (.tup (is.map V.int)) → b ≤ b' → b' ≤ b + zs.length → Spr H' st q b' → SX st q H H' → Q (.ref t) H'
abbrev namesAt : List Str := ["_law_stream", "_law_sizes_here", "_law_size"]
theorem scAt : FnScope namesAt ["_law_stream", "_law_sizes_here"] (defScope sAt) := ⟨rfl, rfl, rfl, by decide +kernel, rfl, by decide +kernel, by decide +kernel⟩
def InvAt (H0 : Hp) (st q D : Addr) (b : Int) (zs : List Int) (i : Nat) (H : Hp) : Prop := ∃ is : List Int, H D = some (.lst (is.map V.int)) ∧ is.length = i ∧ (∀ (j : Nat) (x y : Int), is[j]? = some x → zs[j]? = some y → 0 ≤ x ∧ x < y) ∧ Spr H st q (b + i) ∧ SX st q H0 H
theorem ok_at (F : Fun K "_law_at" "_law_at" sAt f fd) (G : FnOk P w K mg base CX0 1 g gd ["_law_stream", "_law_many"] spDraw) (bG : Binds K gd ["_law_stream", "_law_many"] []) (kG : PySem.W.keepIn K (.ref g) = true) (mG : mg "_law_draw" = some (.ref g)) (B : Bt mg) :
    FnOk P w K mg base CX0 2 f fd ["_law_stream", "_law_sizes_here"] (spAt K) := by
  refine F.ok scAt (fun vs H Q E h => ?_) (fun cdv A outer s H vs Q E hr h => ?_)
  · obtain ⟨st, q, z, b, zs, rfl, _⟩ := h
    rfl
  obtain ⟨st, q, z, b, zs, rfl, hs, hb0, hb1, hn, hz, hzt, k⟩ := h
  refine ⟨_, pss_one (ps_ret (pe_callTy call_tuple_of (by rfl) B.tup (by decide +kernel) (pa_cons (pe_lc (own := [("_law_size", 2)]) (g := gName 2) (tt := tYes) rfl scAt.nd (pi_tup (pv 1)) (blkOk_by (N := namesAt) (sc := defScope sAt) (by decide +kernel)) (fun _ _ _ _ _ => pg_name (i := 2) scAt.nd rfl (Or.inl rfl)) (fun _ _ _ _ _ => pts_nil)
      (fun _ _ _ _ _ => pe_call G hr rfl mG kG bG .nil pass0 (pa_cons (pv 0) (pa_cons (pv 2) pa_nil)))) pa_nil))), ?_⟩
  refine ⟨_, rfl, z, rfl, ⟨_, hzt⟩, fun D hD => ?_⟩
  obtain ⟨nd1, nd2⟩ := hs.out hD
  have lz : (zs.map V.int).length = zs.length := List.length_map _
  refine lc_tup (K := K) (a := z) (xs := zs.map V.int) (InvAt H st q D b zs) ⟨[], upd_same, rfl, fun j x y e _ => (by cases e), ?_, (SX.refl).upd_out hD⟩ (fun i H2 _ ⟨_, _, _, _, _, gx⟩ => TK.sx hs gx _ _ hzt) (fun j x H2 hx hv => ?_) ?_
  · rw [show b + ((0 : Nat) : Int) = b from Int.add_zero b]
    exact hs.upd nd1 nd2
  · obtain ⟨y, ey, rfl⟩ := at_map hx
    have hj : j < zs.length := (List.getElem?_eq_some_iff.mp ey).1
    have hy := hz y (List.mem_of_getElem? ey)
    obtain ⟨is, hd, hl, hx, hs2, gx⟩ := hv
    refine ⟨rfl, kept ?_⟩
    refine ⟨_, rfl, _, rfl, st, q, b + j, y, rfl, hs2, by omega, by omega, by omega, by omega, fun r H3 r0 r1 hs3 gx3 => ?_⟩
    refine ⟨_, gx3 _ _ nd1 nd2 hd, small1000 (by rw [List.length_map]; omega), is ++ [r], ?_, by rw [List.length_append, hl] <;> rfl, fun m x' y' e1 e2 => ?_, ?_, (gx.trans gx3).upd_out hD⟩
    · rw [upd_same, List.map_append] <;> rfl
    · by_cases hm : m < is.length
      · rw [List.getElem?_append_left hm] at e1
        exact hx m x' y' e1 e2
      · have hm2 : m = j := by
          have q1 := (List.getElem?_eq_some_iff.mp e1).1
          rw [List.length_append, List.length_singleton] at q1
          omega
        rw [hm2, ← hl, List.getElem?_append_right (Nat.le_refl _), Nat.sub_self] at e1
        rw [hm2, ey] at e2
        cases e1
        cases e2
        exact ⟨r0, r1⟩
    · rw [show b + ((j + 1 : Nat) : Int) = b + (j : Int) + 1 by omega]
      exact hs3.upd nd1 nd2
  · rintro H2 ⟨is, hd, hl, hx, hs2, gx⟩
    rw [lz] at hl hs2
    refine ⟨D, _, rfl, .inl ⟨SqL.of hd, fun t ht => ?_⟩⟩
    have gt := same_new ht (.tup (is.map V.int))
    exact k t is (b + zs.length) _ hl hx upd_same (by omega) (by omega) (hs2.same gt) (gx.trans (.of gt))
end
end Lw
namespace Lw
open PySem L2 TL
abbrev sSmall : Stmt := topS 67
abbrev sCells : Stmt := topS 70
/-- one entry of a table's cells, as a dict's -/
def cell (p : List Int × Int) : List Key × V := (p.1.map Sum.inl, .int p.2)
def putC (cs : List (List Int × Int)) (k : List Int) (v : Int) : List (List Int × Int) := if (cs.any fun p => decide (p.1 = k)) = true then cs.map (fun p => if p.1 = k then (p.1, v) else p) else cs ++ [(k, v)]
theorem inl_inj : ∀ {a b : List Int}, a.map (Sum.inl : Int → Key) = b.map Sum.inl → a = b
  | [], [], _ => rfl
  | [], _ :: _, h => by cases h
  | _ :: _, [], h => by cases h
  | x :: a, y :: b, h => by
    rw [List.map_cons, List.map_cons] at h
    injection h with h1 h2
    injection h1 with h1
    rw [h1, inl_inj h2]
theorem any_cell (k : List Int) : ∀ cs : List (List Int × Int), ((cs.map cell).any fun kv => decide (kv.1 = k.map Sum.inl)) = cs.any fun p => decide (p.1 = k)
  | [] => rfl
  | p :: r => by
    rw [List.map_cons, List.any_cons, List.any_cons, any_cell k r]
    congr 1
    by_cases e : p.1 = k
    · rw [decide_eq_true e, decide_eq_true (by show p.1.map Sum.inl = _; rw [e])]
    · rw [decide_eq_false e]
      exact decide_eq_false (fun z : p.1.map (Sum.inl : Int → Key) = k.map Sum.inl => e (inl_inj z))
theorem putK_cells (cs : List (List Int × Int)) (k : List Int) (v : Int) : putK (cs.map cell) (k.map Sum.inl) (.int v) = (putC cs k v).map cell := by
  unfold putK putC
  rw [any_cell]
  by_cases c : (cs.any fun p => decide (p.1 = k)) = true
  · rw [if_pos c, if_pos c, List.map_map, List.map_map]
    refine List.map_congr_left fun p _ => ?_
    show (if (cell p).1 = k.map Sum.inl then ((cell p).1, V.int v) else cell p) = cell (if p.1 = k then (p.1, v) else p)
    by_cases e : p.1 = k
    · rw [if_pos e, if_pos (by show p.1.map Sum.inl = _; rw [e])] <;> rfl
    · rw [if_neg e]
      exact if_neg (fun z : p.1.map (Sum.inl : Int → Key) = k.map Sum.inl => e (inl_inj z))
  · rw [if_neg c, if_neg c, List.map_append] <;> rfl
theorem putC_keys (cs : List (List Int × Int)) (k : List Int) (v : Int) : (putC cs k v).map (·.1) = if k ∈ cs.map (·.1) then cs.map (·.1) else cs.map (·.1) ++ [k] := by
  have e : (cs.any fun p => decide (p.1 = k)) = decide (k ∈ cs.map (·.1)) := by
    cases h : cs.any fun p => decide (p.1 = k) with
    | true =>
      rw [List.any_eq_true] at h
      obtain ⟨p, hp, hk⟩ := h
      exact (decide_eq_true (by rw [← of_decide_eq_true hk]; exact List.mem_map_of_mem hp)).symm
    | false =>
      refine (decide_eq_false fun z => ?_).symm
      obtain ⟨p, hp, hk⟩ := List.mem_map.mp z
      rw [Bool.eq_false_iff] at h
      exact h (List.any_eq_true.mpr ⟨p, hp, decide_eq_true hk⟩)
  unfold putC
  by_cases c : k ∈ cs.map (·.1)
  · rw [e, if_pos (decide_eq_true c), if_pos c, List.map_map]
    refine List.map_congr_left fun p _ => ?_
    show (if p.1 = k then (p.1, v) else p).1 = p.1
    by_cases q : p.1 = k
    · rw [if_pos q]
    · rw [if_neg q]
  · rw [e, if_neg (by rw [decide_eq_false c]; exact Bool.false_ne_true), if_neg c, List.map_append] <;> rfl
theorem putC_mem {cs : List (List Int × Int)} {k : List Int} {v : Int} {p : List Int × Int} (h : p ∈ putC cs k v) : p ∈ cs ∨ p = (k, v) := by
  unfold putC at h
  split at h
  · obtain ⟨r, hr, e⟩ := List.mem_map.mp h
    by_cases q : r.1 = k
    · rw [if_pos q] at e
      right
      rw [← e, q]
    · rw [if_neg q] at e
      rw [← e]
      exact .inl hr
  · rcases List.mem_append.mp h with h | h
    · exact .inl h
    · exact .inr (List.mem_singleton.mp h)
/-- coordinates in a table of these sizes -/
def InAt (zs is : List Int) : Prop := is.length = zs.length ∧ ∀ (i : Nat) (x y : Int), is[i]? = some x → zs[i]? = some y → 0 ≤ x ∧ x < y
/-- cells of a table: each key once, in the table; no value is large -/
def GoodC (zs : List Int) (cs : List (List Int × Int)) : Prop := (cs.map (·.1)).Nodup ∧ ∀ p ∈ cs, InAt zs p.1 ∧ p.2 < 10 ^ 60 ∧ - 10 ^ 60 < p.2
theorem GoodC.put {zs : List Int} {cs : List (List Int × Int)} {k : List Int} {v : Int} (h : GoodC zs cs) (hk : InAt zs k) (h1 : v < 10 ^ 60) (h2 : - 10 ^ 60 < v) : GoodC zs (putC cs k v) := by
  refine ⟨?_, fun p hp => ?_⟩
  · rw [putC_keys]
    by_cases c : k ∈ cs.map (·.1)
    · rw [if_pos c]
      exact h.1
    · rw [if_neg c]
      exact List.nodup_append.mpr ⟨h.1, by simp, fun a ha b hb => by rw [List.mem_singleton.mp hb]; exact fun e => c (e ▸ ha)⟩
  · rcases putC_mem hp with hp | rfl
    · exact h.2 p hp
    · exact ⟨hk, h1, h2⟩
theorem putC_len (cs : List (List Int × Int)) (k : List Int) (v : Int) : (putC cs k v).length ≤ cs.length + 1 := by
  unfold putC
  split
  · rw [List.length_map]
    exact Nat.le_succ _
  · rw [List.length_append]
    exact Nat.le_refl _
section
variable {P : Program} {w : World} {K : PySem.W.Frag} {mg : Str → Option Value} {base : Heap} {f g gA gW gS : Addr} {fd gd dA dW dS : FuncData}
def spSmall : Sp := fun vs H Q _ => ∃ (st q : Addr) (b : Int), vs = [.ref st] ∧ Spr H st q b ∧ 0 ≤ b ∧ b ≤ 900 ∧
  ∀ (n : Int) (H' : Hp), n ≠ 0 → n < 10 → - 10 < n → Spr H' st q (b + 1) → SX st q H H' → Q (.int n) H'
abbrev namesSm : List Str := ["_law_stream"]
theorem scSm : FnScope namesSm ["_law_stream"] (defScope sSmall) := ⟨rfl, rfl, rfl, by decide +kernel, rfl, by decide +kernel, by decide +kernel⟩
theorem ok_small (F : Fun K "_law_small" "_law_small" sSmall f fd) (G : FnOk P w K mg base CX0 1 g gd ["_law_stream", "_law_many"] spDraw) (bG : Binds K gd ["_law_stream", "_law_many"] []) (kG : PySem.W.keepIn K (.ref g) = true) (mG : mg "_law_draw" = some (.ref g)) :
    FnOk P w K mg base CX0 2 f fd ["_law_stream"] spSmall := by
  refine F.ok scSm (fun vs H Q E h => ?_) (fun cdv A outer s H vs Q E hr h => ?_)
  · obtain ⟨st, q, b, rfl, _⟩ := h
    rfl
  obtain ⟨st, q, b, rfl, hs, hb0, hb1, k⟩ := h
  refine ⟨_, pss_one (ps_ret (pe_ix ix_list (pe_lst (pa_cons pe_int (pa_cons pe_int (pa_cons pe_int (pa_cons pe_int (pa_cons pe_int (pa_cons (pe_un un_neg pe_int) (pa_cons (pe_un un_neg pe_int) (pa_cons (pe_un un_neg pe_int) pa_nil))))))))) (pe_call G hr rfl mG kG bG .nil pass0 (pa_cons (pv 0) (pa_cons pe_int pa_nil))) (fun _ _ => rfl))), ?_⟩
  refine ⟨_, rfl, _, rfl, _, rfl, (by show 8 ≤ sizeLine; decide), fun l hl => ?_⟩
  have gl := same_new hl (.lst [.int 1, .int 2, .int 3, .int 5, .int 7, .int (-1), .int (-2), .int (-4)])
  obtain ⟨nl1, nl2⟩ := hs.out hl
  refine ⟨_, rfl, st, q, b, 8, rfl, hs.same gl, by omega, by omega, by decide, by decide, fun t H3 t0 t1 hs3 gx3 => ?_⟩
  have all : ∀ t ∈ ([0, 1, 2, 3, 4, 5, 6, 7] : List Int), ∃ n : Int, atI [V.int 1, V.int 2, V.int 3, V.int 5, V.int 7, V.int (-1), V.int (-2), V.int (-4)] t = some (V.int n) ∧ n ≠ 0 ∧ n < 10 ∧ - 10 < n := by
    intro t ht
    simp only [List.mem_cons, List.not_mem_nil, or_false] at ht
    rcases ht with rfl | rfl | rfl | rfl | rfl | rfl | rfl | rfl <;> exact ⟨_, rfl, by decide, by decide, by decide⟩
  obtain ⟨n, e, n1, n2, n3⟩ := all t (by simp only [List.mem_cons, List.not_mem_nil, or_false]; omega)
  exact ⟨l, _, t, _, rfl, rfl, SqL.of (gx3 _ _ nl1 nl2 upd_same), e, k n _ n1 n2 n3 hs3 ((SX.of gl).trans gx3)⟩
/-- cells, drawn: up to so many entries -/
def spCells (K : PySem.W.Frag) : Sp := fun vs H Q _ => ∃ (st q z : Addr) (b : Int) (zs : List Int) (m : Nat) (sm : Bool), vs = [.ref st, .ref z, .int (m : Int), .bl sm] ∧ Spr H st q b ∧ 0 ≤ b ∧ b ≤ 600 ∧ zs.length ≤ 3 ∧ (∀ x ∈ zs, 1 ≤ x ∧ x ≤ 1000) ∧ SqT K H z (zs.map V.int) ∧ m ≤ 12 ∧
  ∀ (d : Addr) (cs : List (List Int × Int)) (b' : Int) (H' : Hp), GoodC zs cs → cs.length ≤ m → H' d = some (.dT (cs.map cell)) → b ≤ b' → b' ≤ b + 1 + 7 * m → Spr H' st q b' → SX st q H H' → Q (.ref d) H'
abbrev namesCe : List Str := ["_law_stream", "_law_sizes_here", "_law_most", "_law_is_small", "_law_cells_here", "_law_k", "_law_at_here", "_law_value"]
theorem scCe : FnScope namesCe ["_law_stream", "_law_sizes_here", "_law_most", "_law_is_small"] (defScope sCells) := ⟨rfl, rfl, rfl, by decide +kernel, rfl, by decide +kernel, by decide +kernel⟩
theorem ok_cells (F : Fun K "_law_cells" "_law_cells" sCells f fd) (G : FnOk P w K mg base CX0 1 g gd ["_law_stream", "_law_many"] spDraw) (bG : Binds K gd ["_law_stream", "_law_many"] []) (kG : PySem.W.keepIn K (.ref g) = true) (mG : mg "_law_draw" = some (.ref g))
    (GA : FnOk P w K mg base CX0 2 gA dA ["_law_stream", "_law_sizes_here"] (spAt K)) (bA : Binds K dA ["_law_stream", "_law_sizes_here"] []) (kA : PySem.W.keepIn K (.ref gA) = true) (mA : mg "_law_at" = some (.ref gA))
    (GW : FnOk P w K mg base CX0 2 gW dW ["_law_stream"] spWorth) (bW : Binds K dW ["_law_stream"] []) (kW : PySem.W.keepIn K (.ref gW) = true) (mW : mg "_law_worth" = some (.ref gW))
    (GS : FnOk P w K mg base CX0 2 gS dS ["_law_stream"] spSmall) (bS : Binds K dS ["_law_stream"] []) (kS : PySem.W.keepIn K (.ref gS) = true) (mS : mg "_law_small" = some (.ref gS)) (B : Bt mg) :
    FnOk P w K mg base CX0 3 f fd ["_law_stream", "_law_sizes_here", "_law_most", "_law_is_small"] (spCells K) := by
  refine F.ok scCe (fun vs H Q E h => ?_) (fun cdv A outer s H vs Q E hr h => ?_)
  · obtain ⟨st, q, z, b, zs, m, sm, rfl, _⟩ := h
    rfl
  obtain ⟨st, q, z, b, zs, m, sm, rfl, hs, hb0, hb1, hn, hz, hzt, hm, k⟩ := h
  have hr1 := hr.mono (j := 1) (by decide)
  refine ⟨_, pss_cons (ps_set (i := 4) scCe.nd rfl (Or.inl rfl) pe_dnewT)
    (pss_cons (ps_for PassesOwn.never rfl (pi_range1 (by rfl) B.range (pa_cons (pe_call G hr1 rfl mG kG bG .nil pass0 (pa_cons (pv 0) (pa_cons (pe_op op_add (pv 2) pe_int) pa_nil))) pa_nil)) (pg_name (i := 5) scCe.nd rfl (Or.inl rfl))
      (pss_cons (ps_set (i := 6) scCe.nd rfl (Or.inl rfl) (pe_call GA hr rfl mA kA bA .nil pass0 (pa_cons (pv 0) (pa_cons (pv 1) pa_nil))))
      (C8.pss_cut (ps_set (i := 7) scCe.nd rfl (Or.inl rfl) (pe_ifExp (pt_val (pv 3)) (pe_call GS hr rfl mS kS bS .nil pass0 (pa_cons (pv 0) pa_nil)) (pe_call GW hr rfl mW kW bW .nil pass0 (pa_cons (pv 0) pa_nil))))
      (pss_one (ps_dput (hu_of hr) (pv 4) (pv 6) (pe_ifExp (pt_cmpR op_gt (pe_call G hr1 rfl mG kG bG .nil pass0 (pa_cons (pv 0) (pa_cons pe_int pa_nil))) pe_int (nomark _)) (pv 7) pe_int) rfl)))))
    (pss_one (ps_ret (pv 4)))), ?_⟩
  refine fun d hd => ?_
  obtain ⟨nd1, nd2⟩ := hs.out hd
  have gd := same_new hd (.dT [])
  refine ⟨_, rfl, _, rfl, _, _, rfl, rfl, st, q, b, (m : Int) + 1, rfl, hs.same gd, by omega, by omega, by omega, by omega, fun r H1 r0 r1 hs1 gx1 => ?_⟩
  obtain ⟨n, rfl⟩ : ∃ n : Nat, r = n := ⟨r.toNat, by omega⟩
  refine ⟨n, rfl, by omega, by omega, for_range (n := n) (fun i σ' H' => ∃ (u5 u6 u7 : Option V) (cs : List (List Int × Int)) (b' : Int), σ' = [some (.ref st), some (.ref z), some (.int (m : Int)), some (.bl sm), some (.ref d), u5, u6, u7] ∧ GoodC zs cs ∧ cs.length ≤ i ∧ H' d = some (.dT (cs.map cell)) ∧ b + 1 ≤ b' ∧ b' ≤ b + 1 + 7 * (i : Int) ∧ Spr H' st q b' ∧ SX st q H H') ⟨_, _, _, [], b + 1, rfl, ⟨List.nodup_nil, fun p hp => (by cases hp)⟩, Nat.le_refl _, gx1 _ _ nd1 nd2 upd_same, by omega, by omega, hs1, (SX.of gd).trans gx1⟩ ?_ ?_⟩
  · rintro i σ' H2 hi ⟨u5, u6, u7, cs, b', rfl, hg, hl, hdd, hb2, hb3, hs2, gx2⟩
    refine ⟨_, rfl, _, rfl, st, q, z, b', zs, rfl, hs2, by omega, by omega, by omega, hz, TK.sx hs gx2 _ _ hzt, fun t is b3 H3 hil hix ht hb4 hb5 hs3 gx3 => ?_⟩
    have hd3 := gx3 _ _ nd1 nd2 hdd
    obtain ⟨nt1, nt2⟩ : t ≠ st ∧ t ≠ q := by
      obtain ⟨_, _, _, z1, z2, _⟩ := hs3
      exact ⟨fun e => (by rw [e, z1] at ht; cases ht), fun e => (by rw [e, z2] at ht; cases ht)⟩
    refine ⟨fun σ' H' => ∃ (x b4 : Int), σ' = [some (.ref st), some (.ref z), some (.int (m : Int)), some (.bl sm), some (.ref d), some (.int (0 + (i : Int))), some (.ref t), some (.int x)] ∧ x < 10 ^ 60 ∧ - 10 ^ 60 < x ∧ b3 ≤ b4 ∧ b4 ≤ b3 + 3 ∧ Spr H' st q b4 ∧ SX st q H3 H', ?_, ?_⟩
    · refine ⟨_, rfl, _, rfl, ite2 (fun c => ?_) (fun c => ?_)⟩
      · refine ⟨_, rfl, st, q, b3, rfl, hs3, by omega, by omega, fun x H4 x0 x1 x2 hs4 gx4 => ⟨x, b3 + 1, rfl, ?_, ?_, by omega, by omega, hs4, gx4⟩⟩ <;> omega
      · exact ⟨_, rfl, st, q, b3, rfl, hs3, by omega, by omega, fun x b4 H4 x0 x1 x2 h4 h5 hs4 gx4 => ⟨x, b4, rfl, x1, x2, h4, h5, hs4, gx4⟩⟩
    · rintro σ' H4 ⟨x, b4, rfl, x1, x2, h4, h5, hs4, gx4⟩
      have hd4 := gx4 _ _ nd1 nd2 hd3
      have ht4 := gx4 _ _ nt1 nt2 ht
      refine ⟨_, rfl, st, q, b4, 12, rfl, hs4, by omega, by omega, by decide, by decide, fun r H5 r0 r1 hs5 gx5 => ?_⟩
      have hd5 := gx5 _ _ nd1 nd2 hd4
      have ht5 := gx5 _ _ nt1 nt2 ht4
      have ek : is.map V.int = (is.map (Sum.inl : Int → Key)).map kV := by rw [List.map_map] <;> rfl
      have put : ∀ v : Int, v < 10 ^ 60 → - 10 ^ 60 < v → ∃ H', DPut H5 d (.ref t) (.int v) H' ∧ ∃ (u5 u6 u7 : Option V) (cs' : List (List Int × Int)) (b' : Int), [some (V.ref st), some (.ref z), some (.int (m : Int)), some (.bl sm), some (.ref d), some (.int (0 + (i : Int))), some (.ref t), some (.int x)] = [some (.ref st), some (.ref z), some (.int (m : Int)), some (.bl sm), some (.ref d), u5, u6, u7] ∧ GoodC zs cs' ∧ cs'.length ≤ i + 1 ∧ H' d = some (.dT (cs'.map cell)) ∧ b + 1 ≤ b' ∧ b' ≤ b + 1 + 7 * ((i + 1 : Nat) : Int) ∧ Spr H' st q b' ∧ SX st q H H' := fun v v1 v2 => by
        refine ⟨upd H5 d (.dT (putK (cs.map cell) (is.map Sum.inl) (.int v))), .inr ⟨_, _, t, hd5, rfl, by rw [← ek]; exact ht5, small1000 (by rw [List.length_map]; omega), rfl⟩, _, _, _, putC cs is v, b4 + 1, rfl, hg.put ⟨hil, hix⟩ v1 v2, ?_, ?_, by omega, by omega, hs5.upd nd1 nd2, ((((gx2.trans gx3).trans gx4).trans gx5).upd_out hd)⟩
        · have := putC_len cs is v
          omega
        · rw [upd_same, putK_cells]
      refine ⟨_, _, rfl, rfl, _, rfl, ite2 (fun c => ?_) (fun c => ?_)⟩
      · obtain ⟨H', hp, q'⟩ := put x x1 x2
        exact ⟨_, rfl, _, rfl, _, rfl, d, H', rfl, hp, q'⟩
      · obtain ⟨H', hp, q'⟩ := put 0 (by decide) (by decide)
        exact ⟨_, rfl, _, rfl, d, H', rfl, hp, q'⟩
  · rintro σ' H2 ⟨u5, u6, u7, cs, b', rfl, hg, hl, hdd, hb2, hb3, hs2, gx2⟩
    exact ⟨_, rfl, k d cs b' H2 hg (by omega) hdd (by omega) (by omega) hs2 gx2⟩
end
end Lw
namespace Lw
open PySem L2 TL
abbrev sASizes : Stmt := topS 22
abbrev sACoord : Stmt := topS 23
abbrev sLarge : Stmt := topS 24
def sizesOk (zs : List Int) : Bool := decide (zs.length ≤ 3) && zs.all fun z => decide (1 ≤ z) && decide (z ≤ 6)
section
variable {P : Program} {w : World} {K : PySem.W.Frag} {mg : Str → Option Value} {base : Heap} {f g : Addr} {fd gd : FuncData}
def spASizes (K : PySem.W.Frag) : Sp := fun vs H Q _ => ∃ (z : Addr) (zs : List Int), vs = [.ref z] ∧ SqT K H z (zs.map V.int) ∧ zs.length ≤ 100 ∧ ∀ H' : Hp, Same H H' → Q (.bl (sizesOk zs)) H'
theorem scAS : FnScope ["sizes", "size"] ["sizes"] (defScope sASizes) := ⟨rfl, rfl, rfl, by decide +kernel, rfl, by decide +kernel, by decide +kernel⟩
theorem ok_asizes {t3 t6 : Tok} (F : Fun K "are_sizes" "are_sizes" sASizes f fd) (G : FnOk P w K mg base CX0 1 g gd ["n"] spWhole) (bG : Binds K gd ["n"] []) (kG : PySem.W.keepIn K (.ref g) = true) (mG : mg "is_whole" = some (.ref g)) (B : Bt mg) (m3 : mg "MOST_AXES" = some (.int 3 t3)) (m6 : mg "LARGEST_SIZE" = some (.int 6 t6)) :
    FnOk P w K mg base CX0 2 f fd ["sizes"] (spASizes K) := by
  refine F.ok scAS (fun vs H Q E h => ?_) (fun cdv A outer s H vs Q E hr h => ?_)
  · obtain ⟨z, zs, rfl, _⟩ := h
    rfl
  obtain ⟨z, zs, rfl, hz, hl, q⟩ := h
  refine ⟨_, pss_cons (ps_if (PW.pt (pw_or (pt_not (pt_val (pe_callB call_isi (by rfl) B.isi (by decide +kernel) (pa_cons (pv 0) (pa_cons (pe_bltn (v := .ty "tuple") (by rfl) B.tup (by decide +kernel) rfl) pa_nil)))))
        (pw_or1 (pt_cmpR op_gt (pe_callB call_len_seq (by rfl) B.len PySem.boot_len (pa_cons (pv 0) pa_nil)) (pe_glob (v := .int 3) (by rfl) m3 ⟨_, rfl⟩) (nomark _))))) (pss_one (ps_ret pe_bl)) pss_nil)
    (pss_one (ps_ret (pe_callB (cr_all rfl) (by rfl) B.all (by decide +kernel) (pa_cons (pe_lc (own := [("size", 1)]) (g := gName 1) (tt := tYes) rfl scAS.nd (pi_tup (pv 0)) (blkOk_by (N := ["sizes", "size"]) (sc := defScope sASizes) (by decide +kernel))
        (fun _ _ _ _ _ => pg_name (i := 1) scAS.nd rfl (Or.inl rfl)) (fun _ _ _ _ _ => pts_nil) (fun _ _ _ _ _ => pe_and (pe_call G hr rfl mG kG bG .nil pass0 (pa_cons (pv 1) pa_nil)) (pe_one (pe_chain op_le op_le pe_int (pv 1) (pe_glob (v := .int 6) (by rfl) m6 ⟨_, rfl⟩))))) pa_nil)))), ?_⟩
  refine ⟨_, rfl, _, _, .type "tuple", .type "tuple", true, rfl, .ty _, tyT hz, kit_ty (by decide +kernel), _, rfl, ?_⟩
  refine iteF ?_
  refine ⟨_, rfl, z, _, rfl, .inr hz, _, _, rfl, rfl, _, rfl, ?_⟩
  refine ite2 (fun c => ?_) (fun c => ?_)
  · have c2 : (3 : Int) < ((zs.map V.int).length : Nat) := of_decide_eq_true c
    rw [List.length_map] at c2
    have e : sizesOk zs = false := by
      unfold sizesOk
      rw [decide_eq_false (by omega)] <;> rfl
    have y := q H (Same.refl H)
    rw [e] at y
    exact y
  · have c2 : ¬ (3 : Int) < ((zs.map V.int).length : Nat) := of_decide_eq_false (Bool.eq_false_iff.mpr c)
    rw [List.length_map] at c2
    refine ⟨_, rfl, z, rfl, ⟨_, hz⟩, fun D hD => ?_⟩
    refine lc_tup (K := K) (a := z) (xs := zs.map V.int) (InvM H D (fun z : Int => V.bl (decide (1 ≤ z) && decide (z ≤ 6))) zs) ⟨upd_same, same_new hD _⟩ (fun i H' _ ⟨_, g⟩ => seqT g hz) (fun i x H' hx hi => ⟨rfl, kept ?_⟩) ?_
    · obtain ⟨y, ey, rfl⟩ := at_map hx
      refine ⟨_, rfl, y, rfl, true, rfl, ?_⟩
      have nx := InvM.next (f := fun z : Int => V.bl (decide (1 ≤ z) && decide (z ≤ 6))) hD hi.2 ey _ rfl
      refine ⟨_, rfl, _, _, rfl, rfl, _, rfl, ite2 (fun c3 => ?_) (fun c3 => ?_)⟩
      · refine ⟨_, _, rfl, rfl, ?_⟩
        rw [show (decide (1 ≤ y) && decide (y ≤ 6)) = decide (y ≤ 6) by rw [c3, Bool.true_and]] at nx
        exact ⟨_, hi.1, len_m (by omega), nx⟩
      · rw [show (decide (1 ≤ y) && decide (y ≤ 6)) = false by rw [Bool.eq_false_iff.mpr c3, Bool.false_and]] at nx
        exact ⟨_, hi.1, len_m (by omega), nx⟩
    rintro H' ⟨hd, gg⟩
    rw [List.length_map, List.take_length] at hd
    refine ⟨D, zs.map fun z => decide (1 ≤ z) && decide (z ≤ 6), rfl, SqL.of (by rw [hd, List.map_map] <;> rfl), ?_⟩
    have y := q H' gg
    have e : sizesOk zs = ((zs.map fun z => decide (1 ≤ z) && decide (z ≤ 6)).all id) := by
      unfold sizesOk
      rw [decide_eq_true (by omega), Bool.true_and, List.all_map] <;> rfl
    rw [e] at y
    exact y
end
end Lw
namespace Lw
open PySem L2 TL
def atOk (zs is : List Int) : Bool := decide (is.length = zs.length) && (is.zip zs).all fun p => decide (0 ≤ p.1) && decide (p.1 < p.2)
theorem atOk_iff {zs is : List Int} : atOk zs is = true ↔ InAt zs is := by
  unfold atOk InAt
  rw [Bool.and_eq_true, decide_eq_true_eq, List.all_eq_true]
  refine and_congr_right fun hl => ⟨fun h i x y e1 e2 => ?_, fun h p hp => ?_⟩
  · have z := h (x, y) (List.mem_of_getElem? (List.getElem?_zip_eq_some.mpr ⟨e1, e2⟩))
    rw [Bool.and_eq_true, decide_eq_true_eq, decide_eq_true_eq] at z
    exact z
  · obtain ⟨i, hi⟩ := List.getElem?_of_mem hp
    obtain ⟨e1, e2⟩ := List.getElem?_zip_eq_some.mp hi
    have z := h i _ _ e1 e2
    rw [Bool.and_eq_true, decide_eq_true_eq, decide_eq_true_eq]
    exact z
def largeI (v : Int) : Bool := decide (10 ^ 60 ≤ if v < 0 then -v else v)
section
variable {P : Program} {w : World} {K : PySem.W.Frag} {mg : Str → Option Value} {base : Heap} {f g : Addr} {fd gd : FuncData}
def spLarge : Sp := fun vs H Q _ => ∃ v : Int, vs = [.int v] ∧ Q (.bl (largeI v)) H
theorem scLa : FnScope ["value"] ["value"] (defScope sLarge) := ⟨rfl, rfl, rfl, by decide +kernel, rfl, by decide +kernel, by decide +kernel⟩
theorem ok_large {tL : Tok} (F : Fun K "is_large" "is_large" sLarge f fd) (mL : mg "LARGE" = some (.int (10 ^ 60) tL)) (zA : mg "abs" = none) : FnOk P w K mg base CX0 1 f fd ["value"] spLarge := by
  refine F.ok scLa (fun vs H Q E h => ?_) (fun cdv A outer s H vs Q E hr h => ?_)
  · obtain ⟨v, rfl, _⟩ := h
    rfl
  obtain ⟨v, rfl, q⟩ := h
  exact ⟨_, pss_one (ps_ret (pe_cmpR op_ge (pe_callB call_abs (by rfl) zA (by decide +kernel) (pa_cons (pv 0) pa_nil)) (pe_glob (v := .int (10 ^ 60)) (by rfl) mL ⟨_, rfl⟩) (by rfl))), _, rfl, _, rfl, _, _, rfl, rfl, q⟩
def spACoord (K : PySem.W.Frag) : Sp := fun vs H Q _ => ∃ (a z : Addr) (is zs : List Int), vs = [.ref a, .ref z] ∧ SqT K H a (is.map V.int) ∧ SqT K H z (zs.map V.int) ∧ is.length ≤ 100 ∧ zs.length ≤ 100 ∧ ∀ H' : Hp, Same H H' → Q (.bl (atOk zs is)) H'
abbrev namesAC : List Str := ["at", "sizes", "c", "size"]
theorem scAC : FnScope namesAC ["at", "sizes"] (defScope sACoord) := ⟨rfl, rfl, rfl, by decide +kernel, rfl, by decide +kernel, by decide +kernel⟩
abbrev teAC : TE := tAndV (tCall spWhole [] E0 (tCons (tVar 2) tNil)) (tChain (rI0 fun i j => .bl (decide (i ≤ j))) (rI0 fun i j => .bl (decide (i < j))) (tC (.int 0)) (tVar 2) (tVar 3))
theorem ok_acoord (F : Fun K "are_coordinates" "are_coordinates" sACoord f fd) (G : FnOk P w K mg base CX0 1 g gd ["n"] spWhole) (bG : Binds K gd ["n"] []) (kG : PySem.W.keepIn K (.ref g) = true) (mG : mg "is_whole" = some (.ref g)) (B : Bt mg) :
    FnOk P w K mg base CX0 2 f fd ["at", "sizes"] (spACoord K) := by
  refine F.ok scAC (fun vs H Q E h => ?_) (fun cdv A outer s H vs Q E hr h => ?_)
  · obtain ⟨a, z, is, zs, rfl, _⟩ := h
    rfl
  obtain ⟨a, z, is, zs, rfl, ha, hz, hla, hlz, q⟩ := h
  refine ⟨_, pss_cons (ps_if (PW.pt (pw_or (pt_not (pt_val (pe_callB call_isi (by rfl) B.isi (by decide +kernel) (pa_cons (pv 0) (pa_cons (pe_bltn (v := .ty "tuple") (by rfl) B.tup (by decide +kernel) rfl) pa_nil)))))
        (pw_or1 (pt_cmpR op_ne (pe_callB call_len_seq (by rfl) B.len PySem.boot_len (pa_cons (pv 0) pa_nil)) (pe_callB call_len_seq (by rfl) B.len PySem.boot_len (pa_cons (pv 1) pa_nil)) (nomark _))))) (pss_one (ps_ret pe_bl)) pss_nil)
    (pss_one (ps_ret (pe_callB (cr_all rfl) (by rfl) B.all (by decide +kernel) (pa_cons (pe_lc (own := [("c", 2), ("size", 3)]) (g := gTup K 2 (gCons (gName 2) (gCons (gName 3) gNil))) (tt := tYes) (te := teAC) rfl scAC.nd (RZ.pi_zipA (by rfl) B.zip (pa_cons (pv 0) (pa_cons (pv 1) pa_nil))) (blkOk_by (N := namesAC) (sc := defScope sACoord) (by decide +kernel))
        (fun _ _ _ _ _ => pg_tup rfl (pgs_cons (pg_name (i := 2) scAC.nd rfl (Or.inl rfl)) (pgs_cons (pg_name (i := 3) scAC.nd rfl (Or.inl rfl)) pgs_nil))) (fun _ _ _ _ _ => pts_nil) (fun _ _ _ _ _ => pe_and (pe_call G hr rfl mG kG bG .nil pass0 (pa_cons (pv 2) pa_nil)) (pe_one (pe_chain op_le op_lt pe_int (pv 2) (pv 3))))) pa_nil)))), ?_⟩
  refine ⟨_, rfl, _, _, .type "tuple", .type "tuple", true, rfl, .ty _, tyT ha, kit_ty (by decide +kernel), _, rfl, ?_⟩
  refine iteF ?_
  refine ⟨_, rfl, a, _, rfl, .inr ha, _, rfl, z, _, rfl, .inr hz, rfl, _, rfl, ?_⟩
  have la : (is.map V.int).length = is.length := List.length_map _
  have lz : (zs.map V.int).length = zs.length := List.length_map _
  refine ite2 (fun c => ?_) (fun c => ?_)
  · have c2 : ¬ is.length = zs.length := fun e => by
      rw [la, lz, e] at c
      simp at c
    have e : atOk zs is = false := by
      unfold atOk
      rw [decide_eq_false c2] <;> rfl
    have y := q H (Same.refl H)
    rw [e] at y
    exact y
  · have c2 : is.length = zs.length := by
      rw [la, lz] at c
      by_cases e : is.length = zs.length
      · exact e
      · exact absurd (by simp; omega) c
    refine ⟨_, rfl, _, rfl, a, z, _, _, rfl, .inr ⟨ha, hz, fun D hD => ?_⟩⟩
    have elen : (is.map V.int).length = (zs.map V.int).length := by rw [la, lz, c2]
    refine lc_it (te := teAC) (walk_zipT (K := K) (a := a) (b := z) elen) (InvM H D (fun p : Int × Int => V.bl (decide (0 ≤ p.1) && decide (p.1 < p.2))) (is.zip zs)) ⟨upd_same, same_new hD _⟩ (fun i H' _ ⟨_, g⟩ => ⟨seqT g ha, seqT g hz⟩) ?_ ?_
    · rintro i v H' H'' hi ⟨hd, g⟩ ⟨U, x, y, rfl, hU, rfl, ex, ey⟩
      obtain ⟨k, ek, rfl⟩ := at_map ex
      obtain ⟨j, ej, rfl⟩ := at_map ey
      have gU : Same H' (upd H' U (.tup [.int k, .int j])) := same_new hU _
      have ez : (is.zip zs)[i]? = some (k, j) := List.getElem?_zip_eq_some.mpr ⟨ek, ej⟩
      have nx := InvM.next (f := fun p : Int × Int => V.bl (decide (0 ≤ p.1) && decide (p.1 < p.2))) hD (g.trans gU) ez _ rfl
      refine ⟨U, [.int k, .int j], rfl, SqT.of upd_same, rfl, _, _, rfl, _, _, rfl, rfl, ?_⟩
      refine ⟨rfl, kept ?_⟩
      refine ⟨_, rfl, k, rfl, true, rfl, _, rfl, _, _, rfl, rfl, _, rfl, ite2 (fun c3 => ?_) (fun c3 => ?_)⟩
      · refine ⟨_, rfl, _, _, rfl, rfl, ?_⟩
        rw [show (decide (0 ≤ (k, j).1) && decide ((k, j).1 < (k, j).2)) = decide (k < j) by show (decide (0 ≤ k) && decide (k < j)) = _; rw [c3, Bool.true_and]] at nx
        exact ⟨_, gU _ _ hd, len_m (by rw [List.length_zip]; omega), nx⟩
      · rw [show (decide (0 ≤ (k, j).1) && decide ((k, j).1 < (k, j).2)) = false by show (decide (0 ≤ k) && decide (k < j)) = _; rw [Bool.eq_false_iff.mpr c3, Bool.false_and]] at nx
        exact ⟨_, gU _ _ hd, len_m (by rw [List.length_zip]; omega), nx⟩
    · rintro H' ⟨hd, gg⟩
      have el : ((is.zip zs).take (is.map V.int).length) = is.zip zs := List.take_of_length_le (by rw [List.length_zip, la]; omega)
      rw [el] at hd
      refine ⟨D, (is.zip zs).map fun p => decide (0 ≤ p.1) && decide (p.1 < p.2), rfl, SqL.of (by rw [hd, List.map_map] <;> rfl), ?_⟩
      have y := q H' gg
      have e : atOk zs is = (((is.zip zs).map fun p => decide (0 ≤ p.1) && decide (p.1 < p.2)).all id) := by
        unfold atOk
        rw [decide_eq_true c2, Bool.true_and, List.all_map] <;> rfl
      rw [e] at y
      exact y
end
end Lw
namespace Lw
open PySem L2 TL
abbrev sPath : Stmt := topS 25
/-- coordinates in the order of the levels -/
def pathI (fx is : List Int) : List Int := fx.map fun x => is.getD x.toNat 0
theorem at_getD {is : List Int} {x : Int} (h0 : 0 ≤ x) (h1 : x < (is.length : Int)) : atI (is.map V.int) x = some (.int (is.getD x.toNat 0)) := by
  obtain ⟨k, rfl⟩ : ∃ k : Nat, x = k := ⟨x.toNat, by omega⟩
  have hk : k < is.length := by omega
  have e : ixN (is.map V.int).length (k : Int) = some k := by
    unfold ixN
    rw [if_pos (by omega), if_pos (by rw [List.length_map]; omega)]
    rfl
  show ((ixN (is.map V.int).length (k : Int)).bind fun j => (is.map V.int)[j]?) = _
  rw [e]
  show (is.map V.int)[k]? = _
  rw [List.getElem?_map, List.getElem?_eq_getElem hk, Int.toNat_natCast, List.getD_eq_getElem?_getD, List.getElem?_eq_getElem hk] <;> rfl
section
variable {P : Program} {w : World} {K : PySem.W.Frag} {mg : Str → Option Value} {base : Heap} {C fI BF AW KD f : Addr} {MC : Value} {fd : FuncData}
def spPath (K : PySem.W.Frag) (C : Addr) : Sp := fun vs H Q _ => ∃ (p a : Addr) (ks : List Str) (fx is : List Int), vs = [.ref p, .ref a] ∧ FormAt K C p ks fx H ∧ SqT K H a (is.map V.int) ∧ fx.length ≤ 100 ∧ (∀ x ∈ fx, 0 ≤ x ∧ x < (is.length : Int)) ∧
  ∀ (t : Addr) (H' : Hp), Same H H' → H' t = some (.tup ((pathI fx is).map V.int)) → Q (.ref t) H'
abbrev namesPa : List Str := ["form", "at", "axis"]
theorem scPa : FnScope namesPa ["form", "at"] (defScope sPath) := ⟨rfl, rfl, rfl, by decide +kernel, rfl, by decide +kernel, by decide +kernel⟩
theorem ok_path (F : Fun K "path_of" "path_of" sPath f fd) (T : Fm K mg C fI BF AW KD MC) (B : Bt mg) : FnOk P w K mg base CX0 1 f fd ["form", "at"] (spPath K C) := by
  refine F.ok scPa (fun vs H Q E h => ?_) (fun cdv A outer s H vs Q E hr h => ?_)
  · obtain ⟨p, a, ks, fx, is, rfl, _⟩ := h
    rfl
  obtain ⟨p, a, ks, fx, is, rfl, ⟨dx, tk, ta, hp, hpk, hpa⟩, ha, hl, hx, q⟩ := h
  replace hpa : SqT K H ta (fx.map V.int) := hpa.seq
  refine ⟨_, pss_one (ps_ret (pe_callTy call_tuple_of (by rfl) B.tup (by decide +kernel) (pa_cons (pe_lc (own := [("axis", 2)]) (g := gName 2) (tt := tYes) (te := tOp (rIxT K) (tVar 1) (tVar 2)) rfl scPa.nd (pi_tup (pe_fld (pv 0) rfl)) (blkOk_by (N := namesPa) (sc := defScope sPath) (by decide +kernel)) (fun _ _ _ _ _ => pg_name (i := 2) scPa.nd rfl (Or.inl rfl)) (fun _ _ _ _ _ => pts_nil)
      (fun _ _ _ _ _ => pe_ix ix_tup (pv 1) (pv 2) (fun _ _ => rfl))) pa_nil))), ?_⟩
  refine ⟨_, rfl, p, C, dx, _, _, rfl, hp, T.cl, T.nA, flds_a _ _, ta, rfl, ⟨_, hpa⟩, fun D hD => ?_⟩
  refine lc_tup (K := K) (a := ta) (xs := fx.map V.int) (InvM H D (fun x : Int => V.int (is.getD x.toNat 0)) fx) ⟨upd_same, same_new hD _⟩ (fun i H' _ ⟨_, g⟩ => seqT g hpa) (fun i x H' hx' hi => ⟨rfl, kept ?_⟩) ?_
  · obtain ⟨y, ey, rfl⟩ := at_map hx'
    obtain ⟨y0, y1⟩ := hx y (List.mem_of_getElem? ey)
    exact ⟨_, rfl, _, rfl, a, _, y, _, rfl, rfl, seqT hi.2 ha, at_getD y0 y1, _, hi.1, len_m (by omega), InvM.next (f := fun x : Int => V.int (is.getD x.toNat 0)) hD hi.2 ey _ rfl⟩
  rintro H' ⟨hd, g⟩
  rw [List.length_map, List.take_length] at hd
  refine ⟨D, _, rfl, .inl ⟨SqL.of hd, fun t ht => ?_⟩⟩
  refine q t _ (g.trans (same_new ht _)) ?_
  rw [upd_same]
  unfold pathI
  rw [List.map_map] <;> rfl
end
end Lw
namespace L2
open PySem PySem.Spec PyProof.Rows
def adV : Value → Addr
  | .ref a => a
  | _ => 0
theorem paired_zip {H : Hp} : ∀ {kvs : List (List Key × V)} {bs : List Addr} {ns : List (List Int)}, IsKeys H kvs bs → kvs.map (·.1) = ns.map (fun k => k.map Sum.inl) → bs.length = ns.length ∧ ∀ p ∈ bs.zip ns, H p.1 = some (.tup (p.2.map V.int))
  | [], [], [], _, _ => ⟨rfl, fun p h => by cases h⟩
  | [], [], _ :: _, _, e => by cases e
  | [], _ :: _, _, h, _ => by cases h
  | _ :: _, [], _, h, _ => by cases h
  | _ :: _, _ :: _, [], _, e => by cases e
  | kv :: kvs, b :: bs, n :: ns, h, e => by
    rw [List.map_cons, List.map_cons] at e
    injection e with e1 e2
    cases h with
    | cons h1 h2 =>
      obtain ⟨i1, i2⟩ := paired_zip h2 e2
      refine ⟨congrArg (· + 1) i1, fun p hp => ?_⟩
      rcases List.mem_cons.mp hp with rfl | hp
      · show H b = some (.tup (n.map V.int))
        rw [h1, e1, List.map_map] <;> rfl
      · exact i2 p hp
section
variable {X : Cx}
/-- a list of at most one item, sorted: nothing is asked of the item -/
theorem sort_few {prog : Program} {w : World} {A : Around} {E : Value → Shared → Prop} {s : Shared} {a : Addr} {vs : List Value} {n : Nat} {P : PySem.Fin → Shared → Prop} (r : Value → Int) (ho : s.heap.get? a = some (seqObj "list" vs.toArray n)) (few : vs.length < 2)
    (h : ∀ out : Array Value, out.toList.Perm vs → out.toList.Pairwise (fun u v => r u ≤ r v) → P (.done (.ret .none)) { s with heap := sortedHeap s.heap a vs out }) :
    wpAny (model prog w) A (Builtin.«list.sort» ⟨[.ref a], []⟩) P E s :=
  SK.plain_sort (r := r) ho (by omega) (fun two => absurd two (by omega)) fun ps out h1 h2 h3 => (TS.out_rank h1 h2 h3).elim fun p o => h out p o
/-- sorted(d), d a dict whose keys are tuples of ints, all of one length (or one key at most) -/
def rSortD (d : Nat) (B : Int) : List V → Hp → VK → Prop := fun xs H Q => ∃ (a : Addr) (kvs : List (List Key × V)) (ns : List (List Int)), xs = [.ref a] ∧ Rd H a (.dT kvs) ∧ kvs.map (·.1) = ns.map (fun k => k.map Sum.inl) ∧ ns.length < 64 ∧ (1 ≤ d ∨ ns.length < 2) ∧ (∀ k ∈ ns, k.length = d ∧ TS.Bd B k) ∧
    ∀ (ys : List (Addr × List Int)) (p : Addr), (ys.map (·.2)).Perm ns → ys.Pairwise (fun u v => TS.code B u.2 ≤ TS.code B v.2) → (∀ y ∈ ys, H y.1 = some (.tup (y.2.map V.int))) → H p = none → Q (.ref p) (upd H p (.lst (ys.map fun y => V.ref y.1)))
theorem cr_sortedD {d : Nat} {B : Int} (calm : X.calm = true) : CallR X (.builtin "sorted") (rSortD d B) := by
  rintro pins s σ H _ us Q I rv ⟨a, kvs, ns, rfl, hd, hks, h64, hd1, hB, q⟩
  obtain ⟨_, rfl, ru⟩ := vals1 rv
  cases ru
  obtain ⟨_, low, ks, kt, o, es, _, here, exact', hdata, rows, fits⟩ := (show ObjOk X.prog X.w H s.heap a (.dT kvs) from hd.ok I.hok)
  have sizes : es.size = ks.length ∧ kvs.length = ks.length := ⟨size_of_entries rows, kt.length⟩
  obtain ⟨z1, z2⟩ := paired_zip (isKeys_of kt) hks
  have lst0 : ∀ {l : List Value}, (∀ v ∈ l, ∃ b, v = Value.ref b) → ∀ f : Value → List Int, Vals ((l.map fun v => (adV v, f v)).map fun y => V.ref y.1) l := fun {l} h f => by
    induction l with
    | nil => exact .nil
    | cons v r ih =>
      obtain ⟨b, rfl⟩ := h v (List.mem_cons_self ..)
      exact .cons rfl (ih fun x hx => h x (List.mem_cons_of_mem _ hx))
  refine Calls.call_function_entry kind_sorted plain_sorted entry_sorted (args_sorted1 _) (wpAny_bind (m := checkCount "sorted" 1 1 _) (wpAny_pure (wpAny_bind (PySem.W.kdu_collect (A := X.A.in1) (kdl_raw low exact' hdata) (I.ok.hd calm) here (by omega) fun hp tk got kept items => ?_))))
  have same : got.toList = (ks.map fun x => x.2.1).map Value.ref := by
    refine List.ext_getElem (by rw [Array.length_toList, items.1, List.length_map, List.length_map]; exact sizes.1) fun j h1 h2 => ?_
    obtain ⟨en, hen, ev⟩ := items.2 j got.toList[j] (by rw [← Array.getElem?_toList]; exact List.getElem?_eq_getElem h1)
    have hj : j < ks.length := by rw [List.length_map, List.length_map] at h2; exact h2
    have two := (entry_at rows j).symm.trans hen
    rw [List.getElem?_eq_getElem hj] at two
    cases two
    rw [ev, List.getElem_map, List.getElem_map] <;> rfl
  generalize (ks.map fun x => x.2.1) = bs at same z1 z2
  have J : Inv X pins σ H { s with heap := hp, toks := tk } := I.kept kept
  have count : got.toList.length = ns.length := by rw [same, List.length_map, z1]
  have num : ∀ {b : Addr}, b ∈ bs → ∃ k ∈ ns, TS.TupInts hp (.ref b) k ∧ H b = some (.tup (k.map V.int)) := fun {b} hb => by
    obtain ⟨i, hi⟩ := List.getElem?_of_mem hb
    have hi2 : i < ns.length := by rw [← z1]; exact (List.getElem?_eq_some_iff.mp hi).1
    have w := z2 (b, ns[i]) (List.mem_of_getElem? (List.getElem?_zip_eq_some.mpr ⟨hi, List.getElem?_eq_getElem hi2⟩))
    exact ⟨ns[i], List.getElem_mem hi2, tupI_raw J (SqT.of w), w⟩
  have there : (hp.push (seqObj "list" got.toList.toArray 0)).get? hp.objs.size = some (seqObj "list" got.toList.toArray 0) := Heap.get?_push_size _ rfl
  have stay : ∀ b ob, hp.get? b = some ob → ob.cls = .type "tuple" → (hp.push (seqObj "list" got.toList.toArray 0)).get? b = some ob := fun b ob e _ => Heap.get?_push_of_some _ e
  have all : TS.TupsOk hp d B got.toList := fun v hv => by
    rw [same] at hv
    obtain ⟨b, hb, rfl⟩ := List.mem_map.mp hv
    obtain ⟨k, hk, t, _⟩ := num hb
    exact ⟨k, t, hB k hk⟩
  have ends : ∀ out : Array Value, out.toList.Perm got.toList → out.toList.Pairwise (fun u v => TS.code B (TS.intsOf hp u) ≤ TS.code B (TS.intsOf hp v)) →
      EP X pins σ Q (.ref hp.objs.size) { s with heap := sortedHeap (hp.push (seqObj "list" got.toList.toArray 0)) hp.objs.size got.toList out, toks := tk } := fun out perm order => by
    obtain ⟨e', at'⟩ := sortedHeap_at (vs := got.toList) (out := out) there
    have refs : ∀ v ∈ out.toList, ∃ b ∈ bs, v = Value.ref b := fun v hv => by
      have y := perm.mem_iff.mp hv
      rw [same] at y
      obtain ⟨b, hb, rfl⟩ := List.mem_map.mp y
      exact ⟨b, hb, rfl⟩
    have back : bs.map (fun b => TS.intsOf hp (.ref b)) = ns := by
      refine List.ext_getElem (by rw [List.length_map, z1]) fun i h1 h2 => ?_
      have hi : i < bs.length := by rw [List.length_map] at h1; exact h1
      have w := z2 (bs[i], ns[i]) (List.mem_of_getElem? (List.getElem?_zip_eq_some.mpr ⟨List.getElem?_eq_getElem hi, List.getElem?_eq_getElem h2⟩))
      rw [List.getElem_map]
      exact (tupI_raw J (SqT.of w)).ints
    refine ⟨.ref hp.objs.size, upd H hp.objs.size (.lst ((out.toList.map fun v => (adV v, TS.intsOf hp v)).map fun y => V.ref y.1)), J.laid (t' := tk) (fun b u e => ?_) (Nat.le_refl _)
      (show ObjOk X.prog X.w _ _ _ (.lst ((out.toList.map fun v => (adV v, TS.intsOf hp v)).map fun y => V.ref y.1)) from ⟨?_, out.toList, e', lst0 (fun v hv => (refs v hv).elim fun b hb => ⟨b, hb.2⟩) _, by rw [Array.toArray_toList]; exact at'⟩), rfl, q (out.toList.map fun v => (adV v, TS.intsOf hp v)) _ ?_ (by rw [List.pairwise_map]; exact order) (fun y hy => ?_) (J.hok.fresh (Nat.le_refl _))⟩
    · have lt : b < hp.objs.size := Heap.lt_size e
      exact (sortedHeap_old (Nat.ne_of_lt lt) (by rw [size_push']; exact Nat.lt_succ_of_lt lt)).trans (Heap.get?_push_of_some _ e)
    · rw [List.length_map, List.length_map, perm.length_eq, count, sizeLine_eq]
      omega
    · have p1 := perm.map (TS.intsOf hp)
      rw [same, List.map_map] at p1
      rw [List.map_map]
      exact p1.trans (by rw [show (TS.intsOf hp ∘ Value.ref) = fun b => TS.intsOf hp (.ref b) from rfl, back])
    · obtain ⟨v, hv, rfl⟩ := List.mem_map.mp hy
      obtain ⟨b, hb, rfl⟩ := refs v hv
      obtain ⟨k, _, t, w⟩ := num hb
      show H b = some (.tup ((TS.intsOf hp (.ref b)).map V.int))
      rw [t.ints]
      exact w
  refine wpAny_bind (wpAny_newList (wpAny_bind (wpAny_holding (wpAny_call_entry slot_list_sort ⟨_, there, rfl⟩ entry_list_sort ?_ (args_list_sort _)))) (by rw [count, sizeLine_eq]; omega))
  rcases hd1 with hd1 | hd1
  · refine TS.sort_tups there (by rw [count]; exact h64) hd1 (all.keeps stay) (fun v => TS.code B (TS.intsOf hp v)) (fun v hv m t => ?_) fun out p o => ⟨_, rfl, wpAny_pure ⟨_, rfl, ends out p o⟩⟩
    obtain ⟨m0, t0, _⟩ := all v hv
    show TS.code B (TS.intsOf hp v) = _
    rw [t0.ints, show m = m0 from t.ints.symm.trans (t0.keeps stay).ints]
  · exact sort_few (fun v => TS.code B (TS.intsOf hp v)) there (by rw [count]; exact hd1) fun out p o => ⟨_, rfl, wpAny_pure ⟨_, rfl, ends out p o⟩⟩
end
end L2
/-! sorted(d), the keys tuples of whole numbers of any lengths -/
namespace PySem.W
open PySem PySem.SeqAt PyProof.Rows
theorem lt_irr : ∀ a : List Int, ¬ a < a
  | [], h => by cases h
  | x :: a, h => by
    rcases List.cons_lt_cons_iff.mp h with h | ⟨_, h⟩
    · omega
    · exact lt_irr a h
theorem lt_tot : ∀ a b : List Int, ¬ a < b → ¬ b < a → a = b
  | [], [], _, _ => rfl
  | [], y :: b, h, _ => absurd (List.nil_lt_cons y b) h
  | x :: a, [], _, h => absurd (List.nil_lt_cons x a) h
  | x :: a, y :: b, h1, h2 => by
    have e : x = y := by
      rcases Int.lt_trichotomy x y with z | z | z
      · exact absurd (List.cons_lt_cons_iff.mpr (.inl z)) h1
      · exact z
      · exact absurd (List.cons_lt_cons_iff.mpr (.inl z)) h2
    subst e
    rw [lt_tot a b (fun z => h1 (List.cons_lt_cons_iff.mpr (.inr ⟨rfl, z⟩))) (fun z => h2 (List.cons_lt_cons_iff.mpr (.inr ⟨rfl, z⟩)))]
theorem lt_trn : ∀ a b c : List Int, a < b → b < c → a < c
  | _, [], _, h, _ => by cases h
  | _, _ :: _, [], _, h => by cases h
  | [], _ :: _, z :: c, _, _ => List.nil_lt_cons z c
  | x :: a, y :: b, z :: c, h1, h2 => by
    refine List.cons_lt_cons_iff.mpr ?_
    rcases List.cons_lt_cons_iff.mp h1 with k1 | ⟨e1, k1⟩
    · rcases List.cons_lt_cons_iff.mp h2 with k2 | ⟨e2, k2⟩
      · exact .inl (by omega)
      · exact .inl (by omega)
    · rcases List.cons_lt_cons_iff.mp h2 with k2 | ⟨e2, k2⟩
      · exact .inl (by omega)
      · exact .inr ⟨e1.trans e2, lt_trn a b c k1 k2⟩
theorem lt_asy {a b : List Int} (h : a < b) : ¬ b < a := fun z => lt_irr a (lt_trn a b a h z)
theorem swoK (k : Value → List Int) : SrtO.Swo fun v u => decide (k v < k u) := by
  refine ⟨fun x y h => decide_eq_false (lt_asy (of_decide_eq_true h)), fun x y z h1 h2 => decide_eq_false fun h3 => ?_⟩
  have a1 := of_decide_eq_false h1
  have a2 := of_decide_eq_false h2
  by_cases e : k x < k y
  · exact a2 (lt_trn _ _ _ h3 e)
  · have := lt_tot _ _ e a1
    rw [this] at h3
    exact a2 h3
section
variable {prog : Program} {w : World} {A : Around} {E : Value → Shared → Prop} {s : Shared} {Q : Bool → Shared → Prop}
theorem lex_any {b fin : Bool} {xs ys : List Value} {ns ms : List Int} (i : Nat) (hx : IntsAre xs ns) (hy : IntsAre ys ms) (hf : fin = decide (xs.length < ys.length))
    (h : Q (decide (ns < ms)) s) : PySem.W.KatLex prog w A b fin Q (xs.zip ys) i s := by
  induction hx generalizing ys ms i with
  | nil =>
    cases hy with
    | nil =>
      have e : decide (([] : List Int) < []) = false := decide_eq_false (lt_irr [])
      have e2 : fin = false := hf.trans (decide_eq_false (Nat.lt_irrefl _))
      rw [e, ← e2] at h
      exact PySem.W.kat_nil h
    | @cons q u ys ms hy =>
      have e : decide (([] : List Int) < q :: ms) = true := decide_eq_true (List.nil_lt_cons q ms)
      have e2 : fin = true := hf.trans (decide_eq_true (Nat.succ_pos _))
      rw [e, ← e2] at h
      exact PySem.W.kat_nil h
  | @cons p t xs ns hx ih =>
    cases hy with
    | nil =>
      have e : decide (p :: ns < ([] : List Int)) = false := decide_eq_false fun z => by cases z
      have e2 : fin = false := hf.trans (decide_eq_false (Nat.not_lt_zero _))
      rw [e, ← e2] at h
      exact PySem.W.kat_nil h
    | @cons q u ys ms hy =>
      have hf' : fin = decide (xs.length < ys.length) := by
        rw [hf]
        simp only [List.length_cons, Nat.add_lt_add_iff_right]
      show PySem.W.KatLex prog w A b fin Q ((Value.int p t, Value.int q u) :: xs.zip ys) i s
      refine PySem.W.kat_cons (wpAny_eqBool_int ?_)
      by_cases e : p = q
      · subst e
        rw [beq_self_eq_true]
        have d : decide (p :: ns < p :: ms) = decide (ns < ms) := decide_eq_decide.mpr ⟨fun z => by
          rcases List.cons_lt_cons_iff.mp z with z | ⟨_, z⟩
          · omega
          · exact z, fun z => List.cons_lt_cons_iff.mpr (.inr ⟨rfl, z⟩)⟩
        rw [d] at h
        exact PySem.W.kat_yes (ih (i + 1) hy hf' h)
      · rw [show (p == q) = false from beq_eq_false_iff_ne.mpr e]
        refine PySem.W.kat_no (TS.oneLt_ints _ ?_)
        have d : decide (p :: ns < q :: ms) = decide (p < q) := decide_eq_decide.mpr ⟨fun z => by
          rcases List.cons_lt_cons_iff.mp z with z | ⟨z, _⟩
          · exact z
          · exact absurd z e, fun z => List.cons_lt_cons_iff.mpr (.inl z)⟩
        rw [d] at h
        exact h
/-- the call of tuple's own __lt__, as sorting makes it -/
theorem call_tuple_lt {Q : Value → Shared → Prop} {l b : Addr} {items items2 : Array Value} {e r : Nat → Bool} (hl : s.heap.IsTuple l items) (hb : s.heap.IsTuple b items2)
    (he : ∀ j (h1 : j < items.size) (h2 : j < items2.size), EqAt A.in1 s items[j] items2[j] (e j)) (hr : ∀ j (h1 : j < items.size) (h2 : j < items2.size), e j = false → RcLt A.in1 s items[j] items2[j] (r j))
    (h : Q (.bool (firstLt e r (decide (items.size < items2.size)) (List.range (min items.size items2.size)))) s) : wpAny (model prog w) A (call (.builtin "tuple.__lt__") [.ref l, .ref b]) Q E s := by
  obtain ⟨⟨cls, dd, data, sl⟩, ho, hc, n, hd⟩ := id hl
  obtain ⟨⟨cls2, dd2, data2, sl2⟩, ho2, hc2, n2, hd2⟩ := id hb
  simp only at hc hd hc2 hd2
  subst hc hd hc2 hd2
  exact call_meets F.slot_tuple_lt ⟨_, ho, rfl⟩ F.entry_tuple_lt (F.args_tuple_lt_2 _ _) (tuple_ltAt l b items items2 n n2 dd dd2 sl sl2 e r) ⟨ho, ho2, he, hr, h⟩
theorem oneLt_tups {f : Bool} {xs ys : List PyData} {a b : Value} {as bs : List Addr} (ra : Reads s.heap a (.tuple xs) as) (rb : Reads s.heap b (.tuple ys) bs) (hal : alikeAll xs ys = true)
    (hu : A.units + min (PyData.tuple xs).depth (PyData.tuple ys).depth < cLine) (hq : Q (dataLt (.tuple xs) (.tuple ys)) s) : wpAny (model prog w) A (oneLt' f a b) Q E s := by
  cases f with
  | false => exact oneLt_alike (fun z => by cases z) ra rb (by simpa [alike] using hal) (fun z => by cases z) hu hq
  | true =>
    cases ra with
    | @tuple l o vs n _ as₁ h1 h2 h3 h4 =>
      cases rb with
      | @tuple l' o' vs' n' _ bs₁ k1 k2 k3 k4 =>
        have n1 : vs.size = xs.length := by simpa using ReadsAll.length _ _ _ h4
        have n2 : vs'.size = ys.length := by simpa using ReadsAll.length _ _ _ k4
        rw [dataLt_tuple, ← firstLt_toks xs ys hal, ← n1, ← n2] at hq
        rw [oneLt'_eq]
        simp only [if_true]
        refine wpAny_bind (wpAny_cRoomFor (room_here hu) ?_)
        refine wpAny_bind (wpAny_callSpecialIfBound?_slot (T := "tuple") ⟨_, h1, h2⟩ F.slot_tuple_lt (call_tuple_lt (e := pairEq xs ys) (r := fun j => dataLt (xs.getD j .none) (ys.getD j .none)) ⟨_, h1, h2, _, h3⟩ ⟨_, k1, k2, _, k3⟩ (fun j j1 j2 => ?_) (fun j j1 j2 hj => ?_) ?_))
        · have := eqAt_alikeAll xs ys A.in1 s vs.toList vs'.toList _ _ h4 k4 hal (room_in hu) j (by simpa using j1) (by simpa using j2)
          simpa using this
        · have := rcLt_alikeAll xs ys A.in1 s vs.toList vs'.toList _ _ h4 k4 hal (room_in hu) j (by simpa using j1) (by simpa using j2) hj
          simpa using this
        · exact wpAny_truthy_bool hq
theorem reads_ints {h : Heap} : ∀ {xs : List Value} {ns : List Int}, IntsAre xs ns → ReadsAll h xs (ns.map .int) []
  | _, _, .nil => .nil
  | _, _, .cons p t hx => .cons (bs := []) (as := []) (.int _ _) (reads_ints hx)
theorem reads_tup {h : Heap} {v : Value} {ns : List Int} : TS.TupInts h v ns → Reads h v (.tuple (ns.map .int)) []
  | ⟨a, xs, e, ⟨o, ho, hc, n, hd⟩, i⟩ => by
    subst e
    exact .tuple ho hc hd (reads_ints i)
theorem dataLt_tups (a b : List Int) : dataLt (.tuple (a.map .int)) (.tuple (b.map .int)) = decide (a < b) := by
  rw [dataLt_tuple]
  exact dataLt_ints a b
theorem depth_tup (a : List Int) : (PyData.tuple (a.map .int)).depth = 1 := by
  show _ = _
  rw [PyData.depth, depth_ints]
/-- the first item of a tuple, where it has one -/
def fstO (h : Heap) : Value → Option Value
  | .ref a => match h.get? a with
    | some o => match o.data with
      | .seq xs _ => xs[0]?
      | _ => none
    | none => none
  | _ => none
theorem firsts_any {M : Model} : ∀ (vs : List Value) {Q : List (Option Value) → Shared → Prop}, (∀ v ∈ vs, ∃ ns, TS.TupInts s.heap v ns) → Q (vs.map (fstO s.heap)) s → wpAny M A (vs.mapM firstOfTuple') Q E s
  | [], _, _, h => by rw [List.mapM_nil]; exact wpAny_pure h
  | v :: vs, Q, t, h => by
    obtain ⟨ns, a, xs, rfl, ⟨o, ho, hc, n, hd⟩, _⟩ := t v (List.mem_cons_self ..)
    rw [List.mapM_cons]
    refine wpAny_bind ?_
    rw [kas_first_eq]
    refine wpAny_bind (Looks.here (show Looks M s.heap (typeOf (.ref a)) o.cls from (Looks.ld ho).andThen .now) ?_)
    rw [hc, if_neg (by first | decide | simp)]
    refine wpAny_bind (listItems_at ho hd (wpAny_pure ?_))
    have e : xs[0]? = fstO s.heap (.ref a) := by
      unfold fstO
      simp only [ho, hd]
    rw [e]
    exact wpAny_bind (firsts_any vs (Q := fun bs s' => wpAny M A (pure (fstO s.heap (.ref a) :: bs)) Q E s') (fun v hv => t v (List.mem_cons_of_mem _ hv)) (wpAny_pure h))
theorem kind_any {M : Model} {vs : List Value} (h2 : 2 ≤ vs.length) (t : ∀ v ∈ vs, ∃ ns, TS.TupInts s.heap v ns) (ne : ¬ ∀ v ∈ vs, ∃ x r, TS.TupInts s.heap v (x :: r)) :
    ∃ f : Bool, ∀ (Q : SortKind → Shared → Prop) (E : Value → Shared → Prop), Q (if f = true then oneType' else general') s → wpAny M A (keyKind' vs.toArray) Q E s := by
  obtain ⟨v₁, rest, rfl⟩ : ∃ v₁ rest, vs = v₁ :: rest := by
    match vs, h2 with
    | v₁ :: rest, _ => exact ⟨v₁, rest, rfl⟩
  have nall : (((v₁ :: rest).map (fstO s.heap)).toArray.all fun x => x.isSome) = false := by
    cases e : (((v₁ :: rest).map (fstO s.heap)).toArray.all fun x => x.isSome) with
    | false => rfl
    | true =>
      refine absurd (fun v hv => ?_) ne
      simp only [List.all_toArray, List.all_map, List.all_eq_true] at e
      have z := e v hv
      obtain ⟨ns, T⟩ := t v hv
      cases ns with
      | cons x r => exact ⟨x, r, T⟩
      | nil =>
        obtain ⟨a, xs, rfl, ⟨o, ho, hc, n, hd⟩, i⟩ := T
        have l := i.length
        have e0 : xs[0]? = none := Array.getElem?_eq_none (by rw [Array.length_toList] at l; rw [l]; exact Nat.le_refl _)
        have z' : (fstO s.heap (.ref a)).isSome = true := z
        unfold fstO at z'
        simp only [ho, hd, e0] at z'
        cases z'
  cases e0 : fstO s.heap v₁ with
  | some x =>
    refine ⟨false, fun Q E h => ?_⟩
    rw [kat_kind_eq, List.mapM_toArray, map_eq_pure_bind]
    refine wpAny_bind (wpAny_bind (firsts_any _ t (wpAny_pure ?_)))
    rw [if_neg (by rw [nall]; simp)]
    have z : (((v₁ :: rest).map (fstO s.heap)).toArray[0]?.bind id).isSome = true := by simp [e0]
    rw [if_pos z]
    exact wpAny_pure h
  | none =>
    refine ⟨true, fun Q E h => ?_⟩
    rw [kat_kind_eq, List.mapM_toArray, map_eq_pure_bind]
    refine wpAny_bind (wpAny_bind (firsts_any _ t (wpAny_pure ?_)))
    rw [if_neg (by rw [nall]; simp)]
    have z : (((v₁ :: rest).map (fstO s.heap)).toArray[0]?.bind id).isSome = false := by simp [e0]
    rw [if_neg (by rw [z]; simp)]
    rw [oneTypeOnly'_eq, List.mapM_toArray, map_eq_pure_bind]
    refine wpAny_bind (wpAny_bind (wpAny_bind (kas_mapM (r := Value.type "tuple") _ (fun v hv Q' hq => ?_) (wpAny_pure ?_))))
    · obtain ⟨ns, a, xs, rfl, ⟨o, ho, hc, n, hd⟩, _⟩ := t v hv
      refine Looks.here (show Looks M s.heap (typeOf (.ref a)) (.type "tuple") from ?_) hq
      exact hc ▸ (Looks.ld ho).andThen .now
    have hall : ((List.map (fun _ => Value.type "tuple") (v₁ :: rest)).toArray.all fun x => x == Value.type "tuple") = true := by
      simp only [List.all_toArray, List.all_map, List.all_eq_true]
      intro _ _
      exact beq_self_eq_true _
    have h0 : (List.map (fun _ => Value.type "tuple") (v₁ :: rest)).toArray[0]? = some (Value.type "tuple") := by simp
    rw [h0]
    simp only [hall, if_true]
    exact wpAny_pure (wpAny_pure h)
theorem tups_sortableO {a : Addr} {vs : List Value} (hu : A.units + 1 < cLine) (h2 : 2 ≤ vs.length) (t : ∀ v ∈ vs, ∃ ns, TS.TupInts s.heap v ns) (ha : ∀ o, s.heap.get? a = some o → o.cls ≠ .type "tuple") :
    SrtO.SortableO prog w A s a vs fun v u => decide (TS.intsOf s.heap v < TS.intsOf s.heap u) := by
  intro h' keep
  have t' : ∀ v ∈ vs, TS.TupInts h' v (TS.intsOf s.heap v) := fun v hv => by
    obtain ⟨ns, T⟩ := t v hv
    rw [T.ints]
    exact T.keeps fun b o e c => keep b o (fun z => by subst z; exact ha o e c) e
  have room : ∀ a b : List Int, A.units + min (PyData.tuple (a.map .int)).depth (PyData.tuple (b.map .int)).depth < cLine := fun a b => by
    rw [depth_tup, depth_tup]
    exact hu
  by_cases ne : ∀ v ∈ vs, ∃ x r, TS.TupInts h' v (x :: r)
  · have fs : ∀ l : List Value, (∀ v ∈ l, ∃ x r, TS.TupInts h' v (x :: r)) → ∃ fs, KatTups h' l fs ∧ fs.length = l.length ∧ ∀ f, f ∈ fs → ∃ n t, f = Value.int n t := fun l => by
      induction l with
      | nil => exact fun _ => ⟨[], KatTups.nil, rfl, fun f hf => by simp at hf⟩
      | cons v l ih =>
        intro hl
        obtain ⟨fs, k, e, i⟩ := ih fun u hu => hl u (List.mem_cons_of_mem _ hu)
        obtain ⟨x, r, a, xs, rfl, ⟨o, ho, hc, n, hd⟩, ii⟩ := hl v (List.mem_cons_self ..)
        obtain ⟨y, ys, ey⟩ : ∃ y ys, xs.toList = y :: ys := by
          cases q : xs.toList with
          | nil => rw [q] at ii; cases ii
          | cons y ys => exact ⟨y, ys, rfl⟩
        obtain ⟨m, tk, hy⟩ := ii.all y (by rw [ey]; exact List.mem_cons_self ..)
        refine ⟨y :: fs, KatTups.cons ho hc hd ?_ k, by simp [e], fun f hf => ?_⟩
        · have z := congrArg (fun l : List Value => l[0]?) ey
          simpa using z
        · rcases List.mem_cons.mp hf with rfl | hf
          · exact ⟨m, tk, hy⟩
          · exact i f hf
    obtain ⟨fs, k, hl, hi⟩ := fs vs ne
    refine ⟨tuples' true, fun Q E hq => ?_, fun p q hp hq => ?_⟩
    · refine kat_kind (T := .type "int") k (by omega) (fun f hf => ?_) rfl ?_
      · obtain ⟨n, t, rfl⟩ := hi f hf
        exact Looks.of_pure rfl
      · have e : (Value.type "int" != Value.type "tuple") = true := by first | decide +kernel | rfl | decide
        rw [e]
        exact hq
    · have T1 := t' _ hp
      have T2 := t' _ hq
      show wpAny (model prog w) A (keyLt' (tuples' true) p.1 q.1) (fun r s' => s' = _ ∧ r = decide (TS.intsOf s.heap p.1 < TS.intsOf s.heap q.1)) (fun _ _ => False) _
      generalize TS.intsOf s.heap p.1 = ns at T1 ⊢
      generalize TS.intsOf s.heap q.1 = ms at T2 ⊢
      obtain ⟨a, xs, e1, ⟨o, ho, hc, n, hdt⟩, i⟩ := T1
      obtain ⟨a', ys, e2, ⟨o', ho', hc', n', hdt'⟩, i'⟩ := T2
      rw [e1, e2]
      exact kat_lt ho hdt ho' hdt' (lex_any 0 i i' (by rw [Array.length_toList, Array.length_toList]) ⟨rfl, rfl⟩)
  · obtain ⟨f, hk⟩ := kind_any (M := model prog w) (A := A) (s := { s with heap := h' }) h2 (fun v hv => ⟨_, t' v hv⟩) ne
    refine ⟨if f = true then oneType' else general', fun Q E hq => hk Q E hq, fun p q hp hq => ?_⟩
    have T1 := t' _ hp
    have T2 := t' _ hq
    have e : keyLt' (if f = true then oneType' else general') p.1 q.1 = oneLt' f p.1 q.1 := by cases f <;> rfl
    show wpAny (model prog w) A (keyLt' (if f = true then oneType' else general') p.1 q.1) (fun r s' => s' = _ ∧ r = decide (TS.intsOf s.heap p.1 < TS.intsOf s.heap q.1)) (fun _ _ => False) _
    rw [e]
    refine oneLt_tups (s := { s with heap := h' }) (reads_tup T1) (reads_tup T2) (alike_ints _ _) (room _ _) ⟨rfl, ?_⟩
    exact dataLt_tups _ _
end
end PySem.W
namespace L2
open PySem PySem.Spec PyProof.Rows
section
variable {X : Cx}
/-- sorted(d), d a dict whose keys are tuples of ints, of any lengths -/
def rSortX : List V → Hp → VK → Prop := fun xs H Q => ∃ (a : Addr) (kvs : List (List Key × V)) (ns : List (List Int)), xs = [.ref a] ∧ Rd H a (.dT kvs) ∧ kvs.map (·.1) = ns.map (fun k => k.map Sum.inl) ∧ ns.length < 200 ∧
    ∀ (ys : List (Addr × List Int)) (p : Addr), (ys.map (·.2)).Perm ns → ys.Pairwise (fun u v => ¬ v.2 < u.2) → (∀ y ∈ ys, H y.1 = some (.tup (y.2.map V.int))) → H p = none → Q (.ref p) (upd H p (.lst (ys.map fun y => V.ref y.1)))
theorem cr_sortedX (calm : X.calm = true) (hu : X.A.units + 6 < cLine) : CallR X (.builtin "sorted") rSortX := by
  rintro pins s σ H _ us Q I rv ⟨a, kvs, ns, rfl, hd, hks, h64, q⟩
  obtain ⟨_, rfl, ru⟩ := vals1 rv
  cases ru
  obtain ⟨_, low, ks, kt, o, es, _, here, exact', hdata, rows, fits⟩ := (show ObjOk X.prog X.w H s.heap a (.dT kvs) from hd.ok I.hok)
  have sizes : es.size = ks.length ∧ kvs.length = ks.length := ⟨size_of_entries rows, kt.length⟩
  obtain ⟨z1, z2⟩ := paired_zip (isKeys_of kt) hks
  have lst0 : ∀ {l : List Value}, (∀ v ∈ l, ∃ b, v = Value.ref b) → ∀ f : Value → List Int, Vals ((l.map fun v => (adV v, f v)).map fun y => V.ref y.1) l := fun {l} h f => by
    induction l with
    | nil => exact .nil
    | cons v r ih =>
      obtain ⟨b, rfl⟩ := h v (List.mem_cons_self ..)
      exact .cons rfl (ih fun x hx => h x (List.mem_cons_of_mem _ hx))
  refine Calls.call_function_entry kind_sorted plain_sorted entry_sorted (args_sorted1 _) (wpAny_bind (m := checkCount "sorted" 1 1 _) (wpAny_pure (wpAny_bind (PySem.W.kdu_collect (A := X.A.in1) (kdl_raw low exact' hdata) (I.ok.hd calm) here (by omega) fun hp tk got kept items => ?_))))
  have same : got.toList = (ks.map fun x => x.2.1).map Value.ref := by
    refine List.ext_getElem (by rw [Array.length_toList, items.1, List.length_map, List.length_map]; exact sizes.1) fun j h1 h2 => ?_
    obtain ⟨en, hen, ev⟩ := items.2 j got.toList[j] (by rw [← Array.getElem?_toList]; exact List.getElem?_eq_getElem h1)
    have hj : j < ks.length := by rw [List.length_map, List.length_map] at h2; exact h2
    have two := (entry_at rows j).symm.trans hen
    rw [List.getElem?_eq_getElem hj] at two
    cases two
    rw [ev, List.getElem_map, List.getElem_map] <;> rfl
  generalize (ks.map fun x => x.2.1) = bs at same z1 z2
  have J : Inv X pins σ H { s with heap := hp, toks := tk } := I.kept kept
  have count : got.toList.length = ns.length := by rw [same, List.length_map, z1]
  have num : ∀ {b : Addr}, b ∈ bs → ∃ k ∈ ns, TS.TupInts hp (.ref b) k ∧ H b = some (.tup (k.map V.int)) := fun {b} hb => by
    obtain ⟨i, hi⟩ := List.getElem?_of_mem hb
    have hi2 : i < ns.length := by rw [← z1]; exact (List.getElem?_eq_some_iff.mp hi).1
    have w := z2 (b, ns[i]) (List.mem_of_getElem? (List.getElem?_zip_eq_some.mpr ⟨hi, List.getElem?_eq_getElem hi2⟩))
    exact ⟨ns[i], List.getElem_mem hi2, tupI_raw J (SqT.of w), w⟩
  have there : (hp.push (seqObj "list" got.toList.toArray 0)).get? hp.objs.size = some (seqObj "list" got.toList.toArray 0) := Heap.get?_push_size _ rfl
  have stay : ∀ b ob, hp.get? b = some ob → ob.cls = .type "tuple" → (hp.push (seqObj "list" got.toList.toArray 0)).get? b = some ob := fun b ob e _ => Heap.get?_push_of_some _ e
  have all : ∀ v ∈ got.toList, ∃ k, TS.TupInts hp v k := fun v hv => by
    rw [same] at hv
    obtain ⟨b, hb, rfl⟩ := List.mem_map.mp hv
    obtain ⟨k, hk, t, _⟩ := num hb
    exact ⟨k, t⟩
  have ends : ∀ out : Array Value, out.toList.Perm got.toList → out.toList.Pairwise (fun u v => ¬ TS.intsOf hp v < TS.intsOf hp u) →
      EP X pins σ Q (.ref hp.objs.size) { s with heap := sortedHeap (hp.push (seqObj "list" got.toList.toArray 0)) hp.objs.size got.toList out, toks := tk } := fun out perm order => by
    obtain ⟨e', at'⟩ := sortedHeap_at (vs := got.toList) (out := out) there
    have refs : ∀ v ∈ out.toList, ∃ b ∈ bs, v = Value.ref b := fun v hv => by
      have y := perm.mem_iff.mp hv
      rw [same] at y
      obtain ⟨b, hb, rfl⟩ := List.mem_map.mp y
      exact ⟨b, hb, rfl⟩
    have back : bs.map (fun b => TS.intsOf hp (.ref b)) = ns := by
      refine List.ext_getElem (by rw [List.length_map, z1]) fun i h1 h2 => ?_
      have hi : i < bs.length := by rw [List.length_map] at h1; exact h1
      have w := z2 (bs[i], ns[i]) (List.mem_of_getElem? (List.getElem?_zip_eq_some.mpr ⟨List.getElem?_eq_getElem hi, List.getElem?_eq_getElem h2⟩))
      rw [List.getElem_map]
      exact (tupI_raw J (SqT.of w)).ints
    refine ⟨.ref hp.objs.size, upd H hp.objs.size (.lst ((out.toList.map fun v => (adV v, TS.intsOf hp v)).map fun y => V.ref y.1)), J.laid (t' := tk) (fun b u e => ?_) (Nat.le_refl _)
      (show ObjOk X.prog X.w _ _ _ (.lst ((out.toList.map fun v => (adV v, TS.intsOf hp v)).map fun y => V.ref y.1)) from ⟨?_, out.toList, e', lst0 (fun v hv => (refs v hv).elim fun b hb => ⟨b, hb.2⟩) _, by rw [Array.toArray_toList]; exact at'⟩), rfl, q (out.toList.map fun v => (adV v, TS.intsOf hp v)) _ ?_ (by rw [List.pairwise_map]; exact order) (fun y hy => ?_) (J.hok.fresh (Nat.le_refl _))⟩
    · have lt : b < hp.objs.size := Heap.lt_size e
      exact (sortedHeap_old (Nat.ne_of_lt lt) (by rw [size_push']; exact Nat.lt_succ_of_lt lt)).trans (Heap.get?_push_of_some _ e)
    · rw [List.length_map, List.length_map, perm.length_eq, count, sizeLine_eq]
      omega
    · have p1 := perm.map (TS.intsOf hp)
      rw [same, List.map_map] at p1
      rw [List.map_map]
      exact p1.trans (by rw [show (TS.intsOf hp ∘ Value.ref) = fun b => TS.intsOf hp (.ref b) from rfl, back])
    · obtain ⟨v, hv, rfl⟩ := List.mem_map.mp hy
      obtain ⟨b, hb, rfl⟩ := refs v hv
      obtain ⟨k, _, t, w⟩ := num hb
      show H b = some (.tup ((TS.intsOf hp (.ref b)).map V.int))
      rw [t.ints]
      exact w
  have sm : ∀ v ∈ got.toList, TS.intsOf (hp.push (seqObj "list" got.toList.toArray 0)) v = TS.intsOf hp v := fun v hv => by
    obtain ⟨k, t⟩ := all v hv
    rw [t.ints, (t.keeps stay).ints]
  refine wpAny_bind (wpAny_newList (wpAny_bind (wpAny_holding (wpAny_call_entry slot_list_sort ⟨_, there, rfl⟩ entry_list_sort (SrtO.list_sort_ord (PySem.W.swoK (TS.intsOf (hp.push (seqObj "list" got.toList.toArray 0)))) there (by rw [count, sizeLine_eq]; omega)
    (fun h2 => PySem.W.tups_sortableO (by show X.A.units + 1 + 1 + 1 < cLine; omega) h2 (fun v hv => (all v hv).elim fun k t => ⟨k, t.keeps stay⟩) (fun o e => by rw [there] at e; cases e; show Value.type "list" ≠ Value.type "tuple"; decide)) fun out hs hb => ⟨_, rfl, wpAny_pure ⟨_, rfl, ?_⟩⟩) (args_list_sort _)))) (by rw [count, sizeLine_eq]; omega))
  have pm : out.Perm got.toList := hb.perm
  refine ends out.toArray (by simpa using pm) ?_
  rw [List.toList_toArray]
  refine hs.imp_of_mem fun {u v} hu hv h => ?_
  have e := of_decide_eq_false h
  rwa [sm v (pm.mem_iff.mp hv), sm u (pm.mem_iff.mp hu)] at e
end
end L2
namespace L2
open PySem PySem.Spec PyProof.Rows
theorem Bd.tl {B x : Int} {r : List Int} (h : TS.Bd B (x :: r)) : TS.Bd B r := fun m hm => h m (List.mem_cons_of_mem _ hm)
theorem code_of_lex {B : Int} : ∀ {a b : List Int}, a.length = b.length → TS.Bd B a → TS.Bd B b → ¬ b < a → TS.code B a ≤ TS.code B b
  | [], [], _, _, _, _ => Int.le_refl _
  | [], _ :: _, e, _, _, _ => by cases e
  | _ :: _, [], e, _, _, _ => by cases e
  | x :: a, y :: b, e, ha, hb, h => by
    have e' : a.length = b.length := Nat.succ.inj e
    rcases Int.lt_trichotomy x y with z | z | z
    · exact Int.le_of_lt (TS.code_lt e' (Bd.tl ha) (Bd.tl hb) z)
    · subst z
      have ih := code_of_lex e' (Bd.tl ha) (Bd.tl hb) (fun q => h (List.cons_lt_cons_iff.mpr (.inr ⟨rfl, q⟩)))
      show x * B ^ a.length + TS.code B a ≤ x * B ^ b.length + TS.code B b
      rw [e']
      omega
    · exact absurd (List.cons_lt_cons_iff.mpr (.inl z)) h
section
variable {X : Cx}
/-- sorted(d), d a dict whose keys are tuples of ints, all of one length, up to 1000 of them -/
def rSortL (d : Nat) (B : Int) : List V → Hp → VK → Prop := fun xs H Q => ∃ (a : Addr) (kvs : List (List Key × V)) (ns : List (List Int)), xs = [.ref a] ∧ Rd H a (.dT kvs) ∧ kvs.map (·.1) = ns.map (fun k => k.map Sum.inl) ∧ ns.length < 200 ∧ (1 ≤ d ∨ ns.length < 2) ∧ (∀ k ∈ ns, k.length = d ∧ TS.Bd B k) ∧
    ∀ (ys : List (Addr × List Int)) (p : Addr), (ys.map (·.2)).Perm ns → ys.Pairwise (fun u v => TS.code B u.2 ≤ TS.code B v.2) → (∀ y ∈ ys, H y.1 = some (.tup (y.2.map V.int))) → H p = none → Q (.ref p) (upd H p (.lst (ys.map fun y => V.ref y.1)))
theorem cr_sortedL {d : Nat} {B : Int} (calm : X.calm = true) (hu : X.A.units + 6 < cLine) : CallR X (.builtin "sorted") (rSortL d B) := by
  rintro pins s σ H xs us Q I rv ⟨a, kvs, ns, e, hd, hks, h64, hd1, hB, q⟩
  refine cr_sortedX calm hu pins s σ H xs us Q I rv ⟨a, kvs, ns, e, hd, hks, h64, fun ys p pm ord hy hp => q ys p pm ?_ hy hp⟩
  refine ord.imp_of_mem fun {u v} hu' hv' h => ?_
  have mu := hB u.2 (pm.mem_iff.mp (List.mem_map_of_mem hu'))
  have mv := hB v.2 (pm.mem_iff.mp (List.mem_map_of_mem hv'))
  exact code_of_lex (mu.1.trans mv.1.symm) mu.2 mv.2 h
theorem roomU6 {k : Nat} {A : Around} (r : Room k A) : A.units + 6 < cLine := by
  have := r.un
  omega
end
end L2
namespace Lw
open PySem L2 TL
abbrev sChk : Stmt := topS 26
/-- the value under a key, 0 where there is none -/
def vOf (cs : List (List Int × Int)) (k : List Int) : Int := ((cs.find? fun p => decide (p.1 = k)).map (·.2)).getD 0
/-- the cells under these keys, without zeros -/
def nz (cs : List (List Int × Int)) (ks : List (List Int)) : List (List Int × Int) := (ks.map fun k => (k, vOf cs k)).filter fun p => decide (p.2 ≠ 0)
theorem valV_cells (k : List Int) : ∀ cs : List (List Int × Int), valV (cs.map cell) (k.map Sum.inl) = (cs.find? fun p => decide (p.1 = k)).map fun p => V.int p.2
  | [] => rfl
  | p :: r => by
    rw [List.map_cons, List.find?_cons]
    by_cases e : p.1 = k
    · rw [valV_pos (p := cell p) (by show p.1.map Sum.inl = _; rw [e]), decide_eq_true e] <;> rfl
    · rw [valV_neg (p := cell p) (fun z : p.1.map (Sum.inl : Int → Key) = _ => e (inl_inj z)), decide_eq_false e]
      exact valV_cells k r
theorem valV_key {cs : List (List Int × Int)} {k : List Int} (h : k ∈ cs.map (·.1)) : valV (cs.map cell) (k.map Sum.inl) = some (.int (vOf cs k)) := by
  rw [valV_cells]
  unfold vOf
  cases e : cs.find? fun p => decide (p.1 = k) with
  | some p => rfl
  | none =>
    obtain ⟨p, hp, rfl⟩ := List.mem_map.mp h
    exact absurd (decide_eq_true rfl) (List.find?_eq_none.mp e p hp)
theorem vOf_mem {cs : List (List Int × Int)} {k : List Int} (h : k ∈ cs.map (·.1)) : (k, vOf cs k) ∈ cs := by
  unfold vOf
  cases e : cs.find? fun p => decide (p.1 = k) with
  | some p =>
    have h1 := List.find?_some e
    have h2 : p.1 = k := of_decide_eq_true h1
    show (k, p.2) ∈ cs
    rw [← h2]
    exact List.mem_of_find?_eq_some e
  | none =>
    obtain ⟨p, hp, rfl⟩ := List.mem_map.mp h
    exact absurd (decide_eq_true rfl) (List.find?_eq_none.mp e p hp)
theorem putC_new {cs : List (List Int × Int)} {k : List Int} (v : Int) (h : k ∉ cs.map (·.1)) : putC cs k v = cs ++ [(k, v)] := by
  unfold putC
  refine if_neg fun c => h ?_
  obtain ⟨p, hp, e⟩ := List.any_eq_true.mp c
  rw [← of_decide_eq_true e]
  exact List.mem_map_of_mem hp
theorem nz_keys (cs : List (List Int × Int)) (ks : List (List Int)) : ∀ p ∈ nz cs ks, p.1 ∈ ks := fun p hp => by
  obtain ⟨k, hk, rfl⟩ := List.mem_map.mp (List.mem_filter.mp hp).1
  exact hk
theorem InAt.bd {zs k : List Int} (h : InAt zs k) (hz : ∀ x ∈ zs, 1 ≤ x ∧ x ≤ 1000) : k.length = zs.length ∧ TS.Bd 1001 k := by
  refine ⟨h.1, fun m hm => ?_⟩
  obtain ⟨i, hi⟩ := List.getElem?_of_mem hm
  have hi2 : i < zs.length := by rw [← h.1]; exact (List.getElem?_eq_some_iff.mp hi).1
  have y := h.2 i m zs[i] hi (List.getElem?_eq_getElem hi2)
  have z := hz zs[i] (List.getElem_mem hi2)
  omega
theorem one_nil : ∀ {L : List (List Int)}, (∀ k ∈ L, k = []) → L.Nodup → L.length < 2
  | [], _, _ => by decide
  | [_], _, _ => by simp
  | x :: y :: r, h, nd => by
    have e1 := h x (List.mem_cons_self ..)
    have e2 := h y (List.mem_cons_of_mem _ (List.mem_cons_self ..))
    rw [e1, e2] at nd
    simp at nd
theorem nz_snoc (cs : List (List Int × Int)) (ks : List (List Int)) (k : List Int) : nz cs (ks ++ [k]) = nz cs ks ++ (if vOf cs k = 0 then [] else [(k, vOf cs k)]) := by
  unfold nz
  rw [List.map_append, List.filter_append]
  congr 1
  by_cases e : vOf cs k = 0
  · rw [if_pos e]
    simp [e]
  · rw [if_neg e]
    simp [e]
section
variable {P : Program} {w : World} {K : PySem.W.Frag} {mg : Str → Option Value} {base : Heap} {f g gL : Addr} {fd gd dL : FuncData}
/-- cells of a table, none wrong: in order, without zeros -/
def spChk (K : PySem.W.Frag) : Sp := fun vs H Q _ => ∃ (z d : Addr) (zs : List Int) (cs : List (List Int × Int)), vs = [.ref z, .ref d] ∧ SqT K H z (zs.map V.int) ∧ zs.length ≤ 100 ∧ (∀ x ∈ zs, 1 ≤ x ∧ x ≤ 1000) ∧ H d = some (.dT (cs.map cell)) ∧ GoodC zs cs ∧ cs.length < 200 ∧
  ∀ (t : Addr) (ks : List (List Int)) (H' : Hp), ks.Perm (cs.map (·.1)) → ks.Pairwise (fun u v => TS.code 1001 u ≤ TS.code 1001 v) → H' t = some (.dT ((nz cs ks).map cell)) → Same H H' → Q (.ref t) H'
abbrev namesCh : List Str := ["sizes", "cells", "worthy", "at"]
theorem scCh : FnScope namesCh ["sizes", "cells"] (defScope sChk) := ⟨rfl, rfl, rfl, by decide +kernel, rfl, by decide +kernel, by decide +kernel⟩
theorem ok_chk (F : Fun K "checked_cells" "checked_cells" sChk f fd) (G : FnOk P w K mg base CX0 2 g gd ["at", "sizes"] (spACoord K)) (bG : Binds K gd ["at", "sizes"] []) (kG : PySem.W.keepIn K (.ref g) = true) (mG : mg "are_coordinates" = some (.ref g))
    (GL : FnOk P w K mg base CX0 1 gL dL ["value"] spLarge) (bL : Binds K dL ["value"] []) (kL : PySem.W.keepIn K (.ref gL) = true) (mL : mg "is_large" = some (.ref gL)) (zS : mg "sorted" = none) :
    FnOk P w K mg base CX0 3 f fd ["sizes", "cells"] (spChk K) := by
  refine F.ok scCh (fun vs H Q E h => ?_) (fun cdv A outer s H vs Q E hr h => ?_)
  · obtain ⟨z, d, zs, cs, rfl, _⟩ := h
    rfl
  obtain ⟨z, d, zs, cs, rfl, hz, hzl, hzz, hd, hg, hcl, q⟩ := h
  have hr1 := hr.mono (j := 1) (by decide)
  refine ⟨_, pss_cons (ps_set (i := 2) scCh.nd rfl (Or.inl rfl) pe_dnewT)
    (pss_cons (ps_for PassesOwn.never rfl (pi_list (pe_callB (cr_sortedL (d := zs.length) (B := 1001) rfl (roomU6 hr)) (by rfl) zS (by decide +kernel) (pa_cons (pv 1) pa_nil))) (pg_name (i := 3) scCh.nd rfl (Or.inl rfl))
      (pss_cons (ps_if (pt_not (pt_val (pe_call G hr rfl mG kG bG .nil pass0 (pa_cons (pv 3) (pa_cons (pv 0) pa_nil))))) (pss_one ps_never) pss_nil)
      (pss_cons (ps_if (pt_val (pe_call GL hr1 rfl mL kL bL .nil pass0 (pa_cons (pe_dget (hu_of hr) (pv 1) (pv 3) (fun _ _ => rfl)) pa_nil))) (pss_one ps_never) pss_nil)
      (pss_one (ps_if (pt_cmpR op_ne (pe_dget (hu_of hr) (pv 1) (pv 3) (fun _ _ => rfl)) pe_int (nomark _)) (pss_one (ps_dput (hu_of hr) (pv 2) (pv 3) (pe_dget (hu_of hr) (pv 1) (pv 3) (fun _ _ => rfl)) rfl)) pss_nil)))))
    (pss_one (ps_ret (pv 2)))), ?_⟩
  refine fun w hw => ?_
  have gw := same_new hw (.dT [])
  have ekeys : (cs.map cell).map (·.1) = (cs.map (·.1)).map (fun k => k.map Sum.inl) := by rw [List.map_map, List.map_map] <;> rfl
  have inK : ∀ k ∈ cs.map (·.1), InAt zs k ∧ vOf cs k < 10 ^ 60 ∧ - 10 ^ 60 < vOf cs k := fun k hk => hg.2 (k, vOf cs k) (vOf_mem hk)
  have one : 1 ≤ zs.length ∨ (cs.map (·.1)).length < 2 := by
    by_cases c : 1 ≤ zs.length
    · exact .inl c
    · refine .inr ?_
      have nil : ∀ k ∈ cs.map (·.1), k = [] := fun k hk => List.length_eq_zero_iff.mp (by have := (inK k hk).1.1; omega)
      exact one_nil nil hg.1
  refine ⟨_, rfl, d, _, cs.map (·.1), rfl, .inl (gw _ _ hd), ekeys, by rw [List.length_map]; exact hcl, one, fun k hk => (inK k hk).1.bd hzz, fun ys p perm order keysH hp => ?_⟩
  have gp := same_new hp (.lst (ys.map fun y => V.ref y.1))
  have npw : w ≠ p := fun e => by
    rw [← e, upd_same] at hp
    cases hp
  have lys : ys.length = cs.length := by
    have := perm.length_eq
    rw [List.length_map, List.length_map] at this
    exact this
  have ndk : (ys.map (·.2)).Nodup := perm.nodup_iff.mpr hg.1
  have h0d : H d = some (.dT (cs.map cell)) := hd
  refine ⟨p, rfl, ⟨_, SqL.of upd_same⟩, for_list (K := K) (a := p) (xs := ys.map fun y => V.ref y.1) (fun i σ' H' => (∃ u3 : Option V, σ' = [some (.ref z), some (.ref d), some (.ref w), u3]) ∧ H' w = some (.dT ((nz cs ((ys.take i).map (·.2))).map cell)) ∧ H' p = some (.lst (ys.map fun y => V.ref y.1)) ∧ Same H H') ⟨⟨_, rfl⟩, gp _ _ upd_same, upd_same, gw.trans gp⟩ (fun _ _ _ _ h => SqL.of h.2.2.1) ?_ ?_⟩
  · rintro i x σ' H' hx ⟨⟨u3, rfl⟩, hw', hp', gg⟩
    obtain ⟨⟨b, k⟩, ey, rfl⟩ := at_map hx
    have hi : i < ys.length := (List.getElem?_eq_some_iff.mp ey).1
    have hym : (b, k) ∈ ys := List.mem_of_getElem? ey
    have hb0 : H b = some (.tup (k.map V.int)) := by
      have y := keysH _ hym
      by_cases e : b = w
      · rw [show (b, k).1 = w from e, upd_same] at y
        cases y
      · rwa [show (b, k).1 = b from rfl, upd_ne e] at y
    have hk : k ∈ cs.map (·.1) := perm.mem_iff.mp (List.mem_map_of_mem (f := (·.2)) hym)
    obtain ⟨k1, k2, k3⟩ := inK k hk
    have ek : k.map V.int = (k.map (Sum.inl : Int → Key)).map kV := by rw [List.map_map] <;> rfl
    have get : ∀ {H2 : Hp}, Same H H2 → DGet H2 d (.ref b) (some (.int (vOf cs k))) := fun {H2} g => by
      rw [← valV_key hk]
      exact DGet.t (g _ _ hd) (by rw [← ek]; exact g _ _ hb0)
    refine ⟨_, rfl, _, rfl, b, z, k, zs, rfl, SqT.of (gg _ _ hb0), seqT gg hz, by rw [k1.1]; exact hzl, hzl, fun H2 g2 => ⟨_, rfl, ?_⟩⟩
    rw [atOk_iff.mpr k1]
    refine iteF ⟨_, rfl, _, rfl, d, _, rfl, get (gg.trans g2), vOf cs k, rfl, _, rfl, ?_⟩
    have nl : largeI (vOf cs k) = false := by
      unfold largeI
      refine decide_eq_false fun y => ?_
      by_cases c : vOf cs k < 0
      · rw [if_pos c] at y
        omega
      · rw [if_neg c] at y
        omega
    rw [nl]
    have g3 := gg.trans g2
    have et : (ys.take (i + 1)).map (·.2) = (ys.take i).map (·.2) ++ [k] := by rw [List.take_succ, ey, List.map_append] <;> rfl
    refine iteF ⟨_, rfl, _, rfl, d, _, rfl, get g3, ?_⟩
    have hw2 := g2 _ _ hw'
    have hp2 := g2 _ _ hp'
    refine ⟨rfl, _, rfl, ite2 (fun c => ?_) (fun c => ?_)⟩
    · have ne0 : vOf cs k ≠ 0 := fun e => by
        rw [e] at c
        simp at c
      have fresh : k ∉ (nz cs ((ys.take i).map (·.2))).map (·.1) := fun hm => by
        obtain ⟨r, hr', er⟩ := List.mem_map.mp hm
        have m1 : k ∈ (ys.take i).map (·.2) := by rw [← er]; exact nz_keys _ _ r hr'
        have split : (ys.map (·.2)).take (i + 1) = (ys.map (·.2)).take i ++ [k] := by rw [← List.map_take, ← List.map_take, et]
        have nd2 : ((ys.map (·.2)).take (i + 1)).Nodup := ndk.sublist (List.take_sublist _ _)
        rw [split] at nd2
        rw [List.map_take] at m1
        exact (List.nodup_append.mp nd2).2.2 k m1 k (List.mem_singleton.mpr rfl) rfl
      have few : ((nz cs ((ys.take i).map (·.2))).map cell).length < sizeLine := small1000 (by
        have l1 := List.length_filter_le (fun p : List Int × Int => decide (p.2 ≠ 0)) (((ys.take i).map (·.2)).map fun k => (k, vOf cs k))
        rw [List.length_map, List.length_map, List.length_take] at l1
        rw [List.length_map]
        unfold nz
        omega)
      refine ⟨_, rfl, _, rfl, d, _, rfl, get g3, _, rfl, _, rfl, w, _, rfl, .inr ⟨_, k.map Sum.inl, b, hw2, rfl, by rw [← ek]; exact g3 _ _ hb0, few, rfl⟩, ⟨_, rfl⟩, ?_, by rw [upd_ne npw.symm]; exact hp2, same_over g3 hw _⟩
      rw [upd_same, putK_cells, putC_new _ fresh, et, nz_snoc, if_neg ne0]
    · have is0 : vOf cs k = 0 := by
        by_cases e : vOf cs k = 0
        · exact e
        · exact absurd (by simp [e]) c
      refine ⟨⟨_, rfl⟩, ?_, hp2, g3⟩
      rw [et, nz_snoc, if_pos is0, List.append_nil]
      exact hw2
  · rintro σ' H' ⟨⟨u3, rfl⟩, hw', hp', gg⟩
    rw [List.length_map, List.take_length] at hw'
    exact ⟨_, rfl, q w (ys.map (·.2)) H' perm (by rw [List.pairwise_map]; exact order) hw' gg⟩
end
end Lw
namespace Lw
open PySem L2 TL
abbrev sBuck : Stmt := topS 28
abbrev sStarts : Stmt := topS 30
/-- lists of coordinates, one below each place -/
def RowsAt (H : Hp) (us : List V) (rs : List (List Int)) : Prop := us.length = rs.length ∧ ∀ (i : Nat) (u : V) (r : List Int), us[i]? = some u → rs[i]? = some r → ∃ a, u = .ref a ∧ H a = some (.lst (r.map V.int))
theorem RowsAt.same {H H' : Hp} {us : List V} {rs : List (List Int)} (g : Same H H') (h : RowsAt H us rs) : RowsAt H' us rs :=
  ⟨h.1, fun i u r e1 e2 => (h.2 i u r e1 e2).elim fun a q => ⟨a, q.1, g _ _ q.2⟩⟩
/-- how many coordinates the first i rows have -/
def cnt (rs : List (List Int)) (i : Nat) : Int := (((rs.take i).map (·.length)).sum : Nat)
theorem cnt_next {rs : List (List Int)} {i : Nat} {r : List Int} (h : rs[i]? = some r) : cnt rs (i + 1) = cnt rs i + (r.length : Int) := by
  unfold cnt
  rw [List.take_succ, h, List.map_append, List.sum_append]
  simp
theorem at_last {xs : List V} {x : V} : atI (xs ++ [x]) (-1) = some x := by
  have e : ixN (xs ++ [x]).length (-1) = some xs.length := by
    unfold ixN
    rw [List.length_append, List.length_singleton]
    simp
    constructor <;> omega
  show ((ixN (xs ++ [x]).length (-1)).bind fun j => (xs ++ [x])[j]?) = _
  rw [e]
  show (xs ++ [x])[xs.length]? = _
  rw [List.getElem?_append_right (Nat.le_refl _), Nat.sub_self] <;> rfl
section
variable {P : Program} {w : World} {K : PySem.W.Frag} {mg : Str → Option Value} {base : Heap} {f : Addr} {fd : FuncData}
def spBuck : Sp := fun vs H Q _ => ∃ u c : Int, vs = [.int u, .int c] ∧ 0 ≤ u ∧ u < 1000000 ∧ 0 ≤ c ∧ c < 1000000 ∧ Q (.int ((u * 3 + c) % 8)) H
theorem scBu : FnScope ["upper", "coordinate"] ["upper", "coordinate"] (defScope sBuck) := ⟨rfl, rfl, rfl, by decide +kernel, rfl, by decide +kernel, by decide +kernel⟩
theorem ok_buck {t8 : Tok} (F : Fun K "bucket_number" "bucket_number" sBuck f fd) (m8 : mg "BUCKETS" = some (.int 8 t8)) : FnOk P w K mg base CX0 1 f fd ["upper", "coordinate"] spBuck := by
  refine F.ok scBu (fun vs H Q E h => ?_) (fun cdv A outer s H vs Q E hr h => ?_)
  · obtain ⟨u, c, rfl, _⟩ := h
    rfl
  obtain ⟨u, c, rfl, u0, u1, c0, c1, q⟩ := h
  exact ⟨_, pss_one (ps_ret (pe_op op_mod (pe_op op_add (pe_op op_mul (pv 0) pe_int) (pv 1)) (pe_glob (v := .int 8) (by rfl) m8 ⟨_, rfl⟩))), _, rfl, _, _, rfl, rfl, .inr (by decide), _, rfl, _, _, rfl, rfl, _, _, rfl, rfl, (by show (0 : Int) < 8; decide), q⟩
def spStarts (K : PySem.W.Frag) : Sp := fun vs H Q _ => ∃ (p : Addr) (us : List V) (rs : List (List Int)), vs = [.ref p] ∧ H p = some (.lst us) ∧ RowsAt H us rs ∧ rs.length ≤ 900 ∧
  ∀ (t : Addr) (H' : Hp), Same H H' → H' t = some (.tup ((List.range (rs.length + 1)).map fun i => V.int (cnt rs i))) → Q (.ref t) H'
abbrev namesSt : List Str := ["rows", "starts", "row"]
theorem scSt : FnScope namesSt ["rows"] (defScope sStarts) := ⟨rfl, rfl, rfl, by decide +kernel, rfl, by decide +kernel, by decide +kernel⟩
theorem ok_starts (F : Fun K "starts_of" "starts_of" sStarts f fd) (B : Bt mg) : FnOk P w K mg base CX0 1 f fd ["rows"] (spStarts K) := by
  refine F.ok scSt (fun vs H Q E h => ?_) (fun cdv A outer s H vs Q E hr h => ?_)
  · obtain ⟨p, us, rs, rfl, _⟩ := h
    rfl
  obtain ⟨p, us, rs, rfl, hp, hr', hl, q⟩ := h
  refine ⟨_, pss_cons (ps_set (i := 1) scSt.nd rfl (Or.inl rfl) (pe_lst (pa_cons pe_int pa_nil)))
    (pss_cons (ps_for PassesOwn.never rfl (pi_list (pv 0)) (pg_name (i := 2) scSt.nd rfl (Or.inl rfl))
      (pss_one (ps_expr (pe_bm PySem.F.plainAttrs_list PySem.F.slot_list_append PySem.F.type_list_append mt_append (pv 1) (pa_cons (pe_op op_add (pe_ix ix_list (pv 1) (pe_un un_neg pe_int) (fun _ _ => rfl)) (pe_callB call_len_seq (by rfl) B.len PySem.boot_len (pa_cons (pv 2) pa_nil))) pa_nil)))))
    (pss_one (ps_ret (pe_callTy call_tuple_of (by rfl) B.tup (by decide +kernel) (pa_cons (pv 1) pa_nil))))), ?_⟩
  refine ⟨(by show 1 ≤ sizeLine; decide), fun S hS => ?_⟩
  have gS := same_new hS (.lst [.int 0])
  have nS : p ≠ S := ne_of_none hp hS
  refine ⟨_, rfl, p, rfl, ⟨_, SqL.of (gS _ _ hp)⟩, for_list (K := K) (a := p) (xs := us) (fun i σ' H' => (∃ u2 : Option V, σ' = [some (.ref p), some (.ref S), u2]) ∧ H' S = some (.lst ((List.range (i + 1)).map fun j => V.int (cnt rs j))) ∧ Same H H') ⟨⟨_, rfl⟩, upd_same, gS⟩ (fun _ _ H' _ h => SqL.of (h.2.2 _ _ hp)) ?_ ?_⟩
  · rintro i u σ' H' hu ⟨⟨u2, rfl⟩, hd, g⟩
    have hi : i < rs.length := by rw [← hr'.1]; exact (List.getElem?_eq_some_iff.mp hu).1
    obtain ⟨a, rfl, ha⟩ := hr'.2 i u _ hu (List.getElem?_eq_getElem hi)
    have hd' := hd
    rw [List.range_succ, List.map_append] at hd'
    refine ⟨_, rfl, .inl ⟨rfl, _, SqL.of hd⟩, _, rfl, _, rfl, S, _, -1, _, rfl, rfl, SqL.of hd', at_last, _, rfl, a, _, rfl, .inl (SqL.of (g _ _ ha)), _, _, rfl, rfl, S, _, _, rfl, rfl, hd, small1000 (by rw [List.length_map, List.length_range]; omega), ⟨_, rfl⟩, ?_, same_over g hS _⟩
    rw [upd_same, List.range_succ (n := i + 1), List.map_append, List.length_map]
    show _ = some (HO.lst (_ ++ [V.int (cnt rs (i + 1))]))
    rw [cnt_next (List.getElem?_eq_getElem hi)]
  · rintro σ' H' ⟨⟨u2, rfl⟩, hd, g⟩
    rw [hr'.1] at hd
    refine ⟨_, rfl, S, _, rfl, .inl ⟨SqL.of hd, fun t ht => ?_⟩⟩
    exact q t _ (g.trans (same_new ht _)) upd_same
end
end Lw
/-! dict comprehensions whose keys are tuples, with one clause and with two -/
namespace DcT
open PySem PySem.Spec PyProof.Rows L2
section
variable {pr : Program} {wd : World} {A : Around} {R : Result → Shared → Prop} {s : Shared} {kx vx t0 i0 t1 i1 : Expr} {f0 f1 : List Expr} {sc : Scope} {ps : Pos} {it : Value} {D : Addr} {e : Env}
/-- one step of a clause: nothing is left, or the target is bound and the tests are asked -/
def stepD (pr : Program) (wd : World) (A : Around) (it : Value) (t : Expr) (fs : List Expr) (e : Env) (bad : Value → Shared → Prop) (stop yes no : Shared → Prop) (s : Shared) : Prop :=
  wpAny (model pr wd) A (pyNext it) (fun r a => match r with
    | none => stop a
    | some v => wpAny (model pr wd) A (letOwnedTupleGo t it v) (fun _ b => wpAny (model pr wd) A (assign t e v) (fun _ c =>
        wpAny (model pr wd) A (forIn fs true fun q k => if k = true then do let z ← isTrue q e (eval q e); pure (ForInStep.yield z) else pure (ForInStep.yield k)) (fun k d => if k = true then yes d else no d) bad c) bad b) bad a) bad s
abbrev bad (pr : Program) (wd : World) (A : Around) (e : Env) (R : Result → Shared → Prop) : Value → Shared → Prop := notedBy (model pr wd) A e fun x s' => R (.error x) s'
abbrev two (kx vx t0 i0 : Expr) (f0 : List Expr) (t1 i1 : Expr) (f1 : List Expr) (sc : Scope) (ps : Pos) : Expr := .DictComp kx vx [⟨t0, i0, f0, 0⟩, ⟨t1, i1, f1, 0⟩] sc ps
/-- a body of the second clause: key, value, put -/
def putD (pr : Program) (wd : World) (A : Around) (kx vx : Expr) (D : Addr) (e : Env) (bad : Value → Shared → Prop) (nx : Shared → Prop) (s : Shared) : Prop :=
  wpAny (model pr wd) A (eval kx e) (fun k a => wpAny (model pr wd) A (eval vx e) (fun v b => wpAny (model pr wd) A (dictSet D k v) (fun _ c => nx c) bad b) bad a) bad s
theorem turn_out : compTurn (two kx vx t0 i0 f0 t1 i1 f1 sc ps) 0 it (.ref D) e = (do
    standAt i0.pos
    match ← pyNext it with
    | none => pure (.done .next)
    | some v =>
      letOwnedTupleGo t0 it v
      assign t0 e v
      let mut k := true
      for q in f0 do
        if k then k ← isTrue q e (eval q e)
      if k then
        let x ← eval i1 e
        standAt i1.pos
        let x ← foldedSetIterable i1 e x
        let _ ← runOwn (.compStart (two kx vx t0 i0 f0 t1 i1 f1 sc ps) 1 (← holding [x] (pyIter x)) (.ref D) e) e
      again (.compLoop (two kx vx t0 i0 f0 t1 i1 f1 sc ps) 0 it (.ref D) e)) := by rfl
theorem turn_in : compTurn (two kx vx t0 i0 f0 t1 i1 f1 sc ps) 1 it (.ref D) e = (do
    standAt i1.pos
    match ← pyNext it with
    | none => pure (.done .next)
    | some v =>
      letOwnedTupleGo t1 it v
      assign t1 e v
      let mut k := true
      for q in f1 do
        if k then k ← isTrue q e (eval q e)
      if k then
        (do
          let y ← eval kx e
          let z ← holding [y] (eval vx e)
          standAt { kx.pos with endLine := vx.pos.endLine, endCol := vx.pos.endCol }
          holding [y, z] (dictSet D y z))
      again (.compLoop (two kx vx t0 i0 f0 t1 i1 f1 sc ps) 1 it (.ref D) e)) := by rfl
theorem loop_out (hs : ∀ x, foldedSetIterable i1 e x = pure x) (I : Nat → Shared → Prop)
    (turn : ∀ n s, I n s → stepD pr wd A it t0 f0 e (bad pr wd A e R) (R (.ok .next)) (fun d => wpAny (model pr wd) A (eval i1 e) (fun x a => wpAny (model pr wd) A (pyIter x) (fun j b =>
      codeAny (model pr wd) A (.compStart (two kx vx t0 i0 f0 t1 i1 f1 sc ps) 1 j (.ref D) e) (fun r c => match r with
        | .ok _ => ∃ m, m < n ∧ I m c
        | .error _ => False) b) (bad pr wd A e R) a) (bad pr wd A e R) d) (fun d => ∃ m, m < n ∧ I m d) s) (n : Nat) (h : I n s) :
    codeAny (model pr wd) A (.compLoop (two kx vx t0 i0 f0 t1 i1 f1 sc ps) 0 it (.ref D) e) R s := by
  refine codeAny_loop rfl I (fun n a ha => ?_) n h
  show wpAny _ A ((compTurn (two kx vx t0 i0 f0 t1 i1 f1 sc ps) 0 it (.ref D) e).onRaise (fun x => do noteFrame x e; theTreesLotGoes x)) _ _ a
  refine wpAny_noted ?_
  rw [turn_out]
  refine wpAny_bind (wpAny_standAt (wpAny_bind (wpAny_mono (turn n a ha) (fun r b hb => ?_) fun _ _ z => z)))
  cases r with
  | none => exact wpAny_pure hb
  | some v =>
    refine wpAny_bind (wpAny_mono hb (fun _ c hc => wpAny_bind (wpAny_mono hc (fun _ d hd => wpAny_bind (wpAny_mono hd (fun k g hg => ?_) fun _ _ z => z)) fun _ _ z => z)) fun _ _ z => z)
    cases k with
    | false => exact wpAny_pure ⟨rfl, hg⟩
    | true =>
      refine wpAny_bind (wpAny_mono hg (fun x g1 h1 => wpAny_bind (wpAny_standAt (wpAny_bind (wpAny_of_eq (hs x) (wpAny_bind (wpAny_holding (wpAny_mono h1 (fun j g2 h2 => ?_) fun _ _ z => z))))))) fun _ _ z => z)
      refine wpAny_bind (wpAny_runOwn ?_)
      rw [Around.mark_none]
      refine codeAny_mono h2 fun r c hr => ?_
      cases r with
      | ok fl => first | exact wpAny_pure ⟨rfl, hr⟩ | exact wpAny_bind (wpAny_pure (wpAny_pure ⟨rfl, hr⟩))
      | error x => exact hr.elim
theorem loop_in (I : Nat → Shared → Prop)
    (turn : ∀ n s, I n s → stepD pr wd A it t1 f1 e (bad pr wd A e R) (R (.ok .next)) (putD pr wd A kx vx D e (bad pr wd A e R) fun c => ∃ m, m < n ∧ I m c) (fun d => ∃ m, m < n ∧ I m d) s) (n : Nat) (h : I n s) :
    codeAny (model pr wd) A (.compLoop (two kx vx t0 i0 f0 t1 i1 f1 sc ps) 1 it (.ref D) e) R s := by
  refine codeAny_loop rfl I (fun n a ha => ?_) n h
  show wpAny _ A ((compTurn (two kx vx t0 i0 f0 t1 i1 f1 sc ps) 1 it (.ref D) e).onRaise (fun x => do noteFrame x e; theTreesLotGoes x)) _ _ a
  refine wpAny_noted ?_
  rw [turn_in]
  refine wpAny_bind (wpAny_standAt (wpAny_bind (wpAny_mono (turn n a ha) (fun r b hb => ?_) fun _ _ z => z)))
  cases r with
  | none => exact wpAny_pure hb
  | some v =>
    refine wpAny_bind (wpAny_mono hb (fun _ c hc => wpAny_bind (wpAny_mono hc (fun _ d hd => wpAny_bind (wpAny_mono hd (fun k g hg => ?_) fun _ _ z => z)) fun _ _ z => z)) fun _ _ z => z)
    cases k with
    | false => exact wpAny_pure ⟨rfl, hg⟩
    | true => exact wpAny_bind (wpAny_bind (wpAny_mono hg (fun y g1 h1 => wpAny_bind (wpAny_holding (wpAny_mono h1 (fun z g2 h2 => wpAny_bind (wpAny_standAt (wpAny_holding (wpAny_mono h2 (fun _ g3 h3 => wpAny_pure ⟨rfl, h3⟩) fun _ _ z => z)))) fun _ _ z => z))) fun _ _ z => z))
theorem start_in (h0 : codeAny (model pr wd) A (.compLoop (two kx vx t0 i0 f0 t1 i1 f1 sc ps) 1 it (.ref D) e) R s)
    (h : wpAny (model pr wd) A (pyIter it) (fun j b => codeAny (model pr wd) A (.compLoop (two kx vx t0 i0 f0 t1 i1 f1 sc ps) 1 j (.ref D) e) R b) (bad pr wd A e R) s) :
    codeAny (model pr wd) A (.compStart (two kx vx t0 i0 f0 t1 i1 f1 sc ps) 1 it (.ref D) e) R s := by
  refine codeAny_of_tree ?_
  show wpAny _ _ ((compStart (two kx vx t0 i0 f0 t1 i1 f1 sc ps) 1 it (.ref D) e).onRaise (fun x => do noteFrame x e; standAt theWindowsPlace)) _ _ s
  refine wpAny_notedAt ?_
  unfold compStart
  show wpAny _ _ (ask >>= _) _ _ s
  refine wpAny_bind (wpAny_askSetting (wpAny_ite ?_))
  split
  · first
      | exact wpAny_bind (wpAny_pure (wpAny_pure (And.intro rfl h0)))
      | exact wpAny_pure (And.intro rfl h0)
  · first
      | exact wpAny_bind (wpAny_rule (wpAny_bind (wpAny_standAt (wpAny_bind (wpAny_mono h (fun j b hb => wpAny_pure (And.intro rfl hb)) fun _ _ x => x)))))
      | (refine wpAny_bind (wpAny_rule ?_); show wpAny _ _ (standAt i1.pos >>= _) _ _ s; exact wpAny_bind (wpAny_standAt (wpAny_bind (wpAny_mono h (fun j b hb => wpAny_pure (And.intro rfl hb)) fun _ _ x => x))))
end
/-- the put of a comprehension -/
theorem put_ok {X : Cx} {pins : List (Addr × Obj)} {σ : L2.St} {H H' : Hp} {s : Shared} {E : Value → Shared → Prop} {D : Addr} {y v : V} {u r : Value} {Q : Unit → Shared → Prop} (hu : X.A.units < cLine) (I : Inv X pins σ H s) (g : DPut H D y v H')
    (ry : RelV y u) (rv : RelV v r) (h : ∀ s', Inv X pins σ H' s' → Q () s') : wpAny (model X.prog X.w) X.A (dictSet D u r) Q E s := by
  rcases g with ⟨kvs, k, e0, rfl, few, rfl⟩ | ⟨kvs, k, b, e0, rfl, eb, few, rfl⟩
  · exact d_dictSet I e0 few ry rv h
  · cases (show u = Value.ref b from ry)
    obtain ⟨z, hd, xs, rel, dd⟩ := dt_of I.hok e0
    have small : xs.length ≤ sizeLine := by rw [← Paired.length rel]; exact z
    have grown : (putK kvs k v).length ≤ sizeLine := by have := length_putK kvs k v; omega
    refine wpAny_dictSet_heap (hsz := small) ?_ (key_of I.hok eb) dd fun h2 dd2 sb => h _ ?_
    · exact hu
    obtain ⟨q, es, ep, hq, a2, a3, a4, _, a5⟩ := dd2
    refine d_write I (by rw [e0]; exact True.intro) sb ⟨q, hq⟩ ⟨grown, hd, _, (rel.put k eb rv).keeps fun c ys ec => ?_, q, es, ep, hq, a2, a3, a4, a5⟩
    rw [upd_ne (ne_of ec e0 (fun z => nomatch z))]
    exact ec
section
variable {X : Cx} {pins : List (Addr × Obj)} {s : Shared} {σ : L2.St} {H : Hp} {Q : VK} {kx vx tg iter : Expr} {ifs : List Expr} {rest : List Comprehension} {scope : Scope} {own : List (Str × Nat)} {pos pos' : Pos} {wi : TI} {use : Option (Value → Sem Unit)} {Qf : Value → Shared → Prop}
/-- what stands where the first clause's loop begins: D the new dict, ce the block's own env, s3 the state ahead of the block -/
structure At0 (X : Cx) (pins : List (Addr × Obj)) (σ : L2.St) (own : List (Str × Nat)) (tg : Expr) (scope : Scope) (D it : Addr) (fp : List Addr) (tn : Nat → Heap → Prop) (J : It) (H3 : Hp) (s3 s4 : Shared) (ce : Env) : Prop where
  def_ : Inv X pins σ H3 s3
  blk : Inv (X.blk s3 H3 scope ce fp) [] (wipe σ (own.map (·.2))) H3 s4
  loc : ce.locals = s3.heap.objs.size
  turn : Turn X.prog X.w X.K tg J fp it tn
  now : tn 0 s4.heap
  out : ∀ b ∈ fp, FpOk X pins H3 b ∧ b < s3.heap.objs.size
theorem At0.stat {D it : Addr} {fp : List Addr} {tn : Nat → Heap → Prop} {J : It} {H3 : Hp} {s3 s4 : Shared} {ce : Env} (_ : At0 X pins σ own tg scope D it fp tn J H3 s3 s4 ce) {σ' : L2.St} {H' : Hp} {s' : Shared} (I : Inv (X.blk s3 H3 scope ce fp) [] σ' H' s') (hn : ∀ b ∈ fp, H' b = none) : ∀ b ∈ fp, FpOk (X.blk s3 H3 scope ce fp) [] H' b := fun b hb =>
  ⟨hn b hb, (I.ok.exf b hb).1, I.ok.exfs b hb, .inl hb, fun x c e => (I.ok.exf b hb).2 x c e, fun p hp => absurd (show p ∈ ([] : List (Addr × Obj)) ++ [] from hp) (by simp)⟩
/-- behind the last turn: back in the def -/
theorem At0.back {D it : Addr} {fp : List Addr} {tn : Nat → Heap → Prop} {J : It} {H3 H5 : Hp} {s3 s4 s6 : Shared} {ce : Env} {σ' : L2.St} (a : At0 X pins σ own tg scope D it fp tn J H3 s3 s4 ce) (I6 : Inv (X.blk s3 H3 scope ce fp) [] σ' H5 s6) :
    ∃ m, Inv X pins σ H5 s6 ∧ s6.heap.Ns s3.heap.objs.size m ∧ FpOk X pins H5 s3.heap.objs.size := by
  have none_ : H5 s3.heap.objs.size = none := by
    have z : H5 ce.locals = none := I6.free
    rwa [a.loc] at z
  obtain ⟨m, hn, _⟩ := I6.loc
  have hn : s6.heap.Ns ce.locals m := hn
  rw [a.loc] at hn
  exact ⟨m, a.def_.call' (ch := fp) I6.os I6.base I6.hok I6.bare fun b hb => ⟨(a.out b hb).1.2.2.2.1, (a.out b hb).1.2.1, (a.out b hb).1.2.2.2.2.1, (a.out b hb).1.2.2.2.2.2⟩, hn, a.def_.fpOk (Nat.le_refl _) none_⟩
theorem begin_dc (hN : X.N.Nodup) (I : Inv X pins σ H s) (hi : PI X tg iter wi) (ok : BlkOk X.N X.env.scope scope own) (hs : ∀ x, foldedSetIterable iter X.env x = pure x) {Rd : It → Hp → Prop} (h : wi σ H Rd)
    (go : ∀ (D it C : Addr) (cl : List (Str × Addr)) (fp : List Addr) (tn : Nat → Heap → Prop) (J : It) (H2 : Hp) (s3 s4 : Shared), Rd J H2 → H2 D = none → (∀ b ∈ fp, (upd H2 D (.dT [])) b = none) → At0 X pins σ own tg scope D it fp tn J (upd H2 D (.dT [])) s3 s4 (compEnvC scope cl C X.env) →
      codeAny (model X.prog X.w) X.A (.compLoop (.DictComp kx vx (⟨tg, iter, ifs, 0⟩ :: rest) scope pos) 0 (.ref it) (.ref D) (compEnvC scope cl C X.env)) (compPost (model X.prog X.w) X.A X.xe use Qf (.ref D) s3.heap.objs.size) s4) :
    wpAny (model X.prog X.w) X.A (comprehension (.DictComp kx vx (⟨tg, iter, ifs, 0⟩ :: rest) scope pos) scope X.env pos' newDict false (eval iter X.env) use) Qf X.xe s := by
  have caught : ∀ y ∈ scope.names, y.2 = .free → ∃ c, X.env.cells.lookup y.1 = some c := fun y hy e => (ok.free y hy e).elim (fun z => I.ok.has _ (.inl z)) fun z => I.ok.has _ (.inr z)
  refine wpAny_comprehension_free (use := use) rfl hs (closure_ok caught) ok.kind (fun y hy e => by rw [ok.uniq y hy, e])
    (thn (hi.run pins s σ H _ I h) fun xv a ha => thn ha fun itv b hb => ?_)
  obtain ⟨it, fp, tn, J, H2, rfl, I2, T, now, out, rd⟩ := hb
  refine wpAny_newObj_type (newEnv_comp ?_)
  generalize hD : b.heap.objs.size = D
  have fresh : H2 D = none := I2.hok.fresh (Nat.le_of_eq hD)
  generalize hs3 : ({ b with heap := b.heap.push { cls := .type "dict", data := .dict #[] } } : Shared) = s3
  have grown : s3.heap = b.heap.push { cls := .type "dict", data := .dict #[] } := by rw [← hs3]
  have I3 : Inv X pins σ (upd H2 D (.dT [])) s3 := by
    rw [← hs3]
    refine I2.laid (t' := b.toks) (fun _ _ e => Heap.get?_push_of_some _ e) (Nat.le_of_eq hD) ?_
    rw [← hD]
    exact dt_empty b.heap I2.big
  have small : ∀ c ∈ fp, c < b.heap.objs.size := fun c hc => by
    obtain ⟨o, e, _⟩ := T.obj _ _ now c hc
    exact Heap.lt_size e
  have out3 : ∀ c ∈ fp, FpOk X pins (upd H2 D (.dT [])) c ∧ c < s3.heap.objs.size := fun c hc => by
    have lt := small c hc
    refine ⟨⟨?_, (out c hc).2⟩, by rw [grown, Heap.size_push]; exact Nat.lt_succ_of_lt lt⟩
    rw [upd_ne (by rw [← hD]; exact Nat.ne_of_lt lt)]
    exact (out c hc).1
  have now3 : tn 0 s3.heap := T.keep _ _ _ now fun c _ o e => by rw [grown]; exact Heap.get?_push_of_some _ e
  have I4 := block_start I3 ok hN out3
  show codeAny _ _ (.compStart (.DictComp kx vx (⟨tg, iter, ifs, 0⟩ :: rest) scope pos) 0 (.ref it) (.ref D) (compEnvC scope (cellsFrom (s3.heap.objs.size + 1) scope.names (cloFrom X.env.cells scope.names [])) s3.heap.objs.size X.env)) (compPost (model X.prog X.w) X.A X.xe use Qf (.ref D) s3.heap.objs.size) { s3 with heap := pushCells (s3.heap.push { cls := .type "dict", data := .dict #[] }) scope.names }
  generalize hs4 : ({ s3 with heap := pushCells (s3.heap.push { cls := .type "dict", data := .dict #[] }) scope.names } : Shared) = s4 at I4 ⊢
  have now4 : tn 0 s4.heap := T.keep _ _ _ now3 fun c _ o e => by rw [← hs4]; exact pushCells_keeps _ _ _ _ (Heap.get?_push_of_some _ e)
  have loop := go D it s3.heap.objs.size (cellsFrom (s3.heap.objs.size + 1) scope.names (cloFrom X.env.cells scope.names [])) fp tn J H2 s3 s4 rd fresh (fun c hc => (out3 c hc).1.1) ⟨I3, I4, rfl, T, now4, out3⟩
  exact codeAny_compStart_dict loop (T.self X.A 0 _ _ _ now4 loop)
/-- {k: v for target in iter if ..}, the keys tuples: D the new dict -/
def tDcT (wi : TI) (g : TG) (tt : TT) (tk tv : TE) (vs : List Nat) : TE := fun σ H Q => wi σ H fun J H1 => ∀ D, H1 D = none → ∃ W : Nat → Nat → Hp → Prop, (∃ m, W 0 m (upd H1 D (.dT []))) ∧ ∀ i m H, W i m H →
  (J.stop i H ∧ Q (.ref D) H) ∨ (J.go i H ∧ ∃ Nx : Hp → Prop, (∀ H', Nx H' → ∃ m', m' < m ∧ W (i + 1) m' H') ∧ ∀ x H', J.yld i H x H' → g x (wipe σ vs) H' fun σ2 H2 => wipe σ2 vs = wipe σ vs ∧ tt σ2 H2 fun b H3 =>
    if b = true then tk σ2 H3 fun y H4 => tv σ2 H4 fun z H5 => ∃ H6, DPut H5 D y z H6 ∧ Nx H6 else Nx H3)
/-- the turn of the first clause ends: its loop stands at the next place -/
theorem At0.next {D it : Addr} {fp : List Addr} {tn : Nat → Heap → Prop} {J : It} {H3 : Hp} {s3 s4 s7 : Shared} {ce : Env} (a : At0 X pins σ own tg scope D it fp tn J H3 s3 s4 ce) {W : Nat → Nat → Hp → Prop} {i n : Nat} {Nx : Hp → Prop} (hNx : ∀ H', Nx H' → ∃ m', m' < n ∧ W (i + 1) m' H')
    (now7 : tn (i + 1) s7.heap) {σ9 : L2.St} {s' : Shared} {H' : Hp} (I' : Inv (X.blk s3 H3 scope ce fp) ([] ++ pinsAt fp s7.heap) σ9 H' s') (hl : (wipe σ (own.map (·.2))).length = σ9.length) (hk : ∀ (j : Nat) v, (wipe σ (own.map (·.2)))[j]? = some (some v) → σ9[j]? = some (some v)) (nx : Nx H') :
    ∃ m, m < n ∧ ∃ i H', Inv (X.blk s3 H3 scope ce fp) [] (wipe σ (own.map (·.2))) H' s' ∧ tn i s'.heap ∧ (∀ b ∈ fp, H' b = none) ∧ W i m H' := by
  obtain ⟨m', hm, w'⟩ := hNx H' nx
  have still : ∀ b ∈ fp, ∀ o, s7.heap.get? b = some o → s'.heap.get? b = some o ∧ H' b = none := fun b hb o e =>
    let z := I'.pin (b, o) (List.mem_append_right _ (List.mem_append_right _ (mem_pinsAt hb e)))
    ⟨z.1, z.2.1⟩
  refine ⟨m', hm, i + 1, H', (I'.unpinned (pins := [])).weak hl hk, a.turn.keep _ _ _ now7 fun b hb o e => (still b hb o e).1, fun b hb => ?_, w'⟩
  obtain ⟨o, e, _⟩ := a.turn.obj _ _ now7 b hb
  exact (still b hb o e).2
/-- as a value -/
theorem pe_dcT {g : TG} {tt : TT} {tk tv : TE} (hu : X.A.units < cLine) (hc : X.calm = true) (hN : X.N.Nodup) (hi : PI X tg iter wi) (ok : BlkOk X.N X.env.scope scope own)
    (hg : ∀ (s : Shared) (H : Hp) (C : Addr) (cl : List (Str × Addr)) (fp : List Addr), PG (X.blk s H scope (compEnvC scope cl C X.env) fp) tg g) (ht : ∀ (s : Shared) (H : Hp) (C : Addr) (cl : List (Str × Addr)) (fp : List Addr), PTs (X.blk s H scope (compEnvC scope cl C X.env) fp) ifs tt)
    (hk : ∀ (s : Shared) (H : Hp) (C : Addr) (cl : List (Str × Addr)) (fp : List Addr), PE (X.blk s H scope (compEnvC scope cl C X.env) fp) kx tk)
    (hv : ∀ (s : Shared) (H : Hp) (C : Addr) (cl : List (Str × Addr)) (fp : List Addr), PE (X.blk s H scope (compEnvC scope cl C X.env) fp) vx tv) (hs : ∀ x, foldedSetIterable iter X.env x = pure x := by intro _; rfl) :
    PE X (.DictComp kx vx [⟨tg, iter, ifs, 0⟩] scope pos) (tDcT wi g tt tk tv (own.map (·.2))) := by
  refine ⟨fun pins s σ H Q I h => ?_⟩
  rw [arm_eval_DictComp]
  refine begin_dc hN I hi ok hs h fun D it C cl fp tn J H2 s3 s4 rd fresh nfp a => ?_
  obtain ⟨W, ⟨m0, w0⟩, turns⟩ := rd D fresh
  have pg := hg s3 (upd H2 D (.dT [])) C cl fp
  have pt := ht s3 (upd H2 D (.dT [])) C cl fp
  have pk := hk s3 (upd H2 D (.dT [])) C cl fp
  have pv := hv s3 (upd H2 D (.dT [])) C cl fp
  generalize hce : compEnvC scope cl C X.env = ce at a pg pt pk pv ⊢
  generalize hH3 : upd H2 D (.dT []) = H3 at a pg pt pk pv w0 nfp
  refine compLoop_anyD (fun n s' => ∃ i H', Inv (X.blk s3 H3 scope ce fp) [] (wipe σ (own.map (·.2))) H' s' ∧ tn i s'.heap ∧ (∀ b ∈ fp, H' b = none) ∧ W i n H') ?_ m0 ⟨0, H3, a.blk, a.now, nfp, w0⟩
  rintro n s5 ⟨i, H5, I5, now5, n5, w5⟩
  rcases turns i n H5 w5 with ⟨stop, done⟩ | ⟨more, Nx, hNx, step⟩
  · refine thnF (a.turn.done (X.blk s3 H3 scope ce fp) rfl rfl rfl hc i [] s5 _ H5 (fun _ _ => False) I5 (a.stat I5 n5) now5 stop) fun r s6 ⟨hr, I6⟩ => ?_
    subst hr
    obtain ⟨m, I7, hn, f0, f1, f2, f3, f4, f5⟩ := a.back I6
    exact ⟨m, hn, fun h2 sb => ⟨.ref D, H5, I7.turned (t' := s6.toks) (fun b o hb e => (sb.2 b hb).trans e) f0 f1 f3 f4 f5, rfl, done⟩⟩
  · refine thnF (a.turn.item (X.blk s3 H3 scope ce fp) rfl rfl rfl hc i [] s5 _ H5 (fun _ _ => False) I5 (a.stat I5 n5) now5 more) fun r s6 ⟨u, hr, h6⟩ => ?_
    subst hr
    refine thnF h6 fun _ s7 ⟨x, H7, I7, r7, y7, now7, n7⟩ => ?_
    refine thnF (pg.run _ s7 _ H7 x u _ (I7.pinned (a.stat I7 n7) (a.turn.obj _ _ now7)) r7 (step x H7 y7)) fun _ s8 ⟨σ8, H8, I8, w8, q8⟩ => ?_
    refine thnF (pt.run _ s8 σ8 H8 _ I8 q8) fun b s9 ⟨H9, I9, q9⟩ => ?_
    have len8 : (wipe σ (own.map (·.2))).length = σ8.length := by rw [← w8, wipe_length]
    have know8 : ∀ (j : Nat) v, (wipe σ (own.map (·.2)))[j]? = some (some v) → σ8[j]? = some (some v) := fun j v e => by
      rw [← w8] at e
      exact (wipe_some e).1
    cases b with
    | false =>
      simp only [Bool.false_eq_true, if_false] at q9 ⊢
      exact a.next hNx now7 I9 len8 know8 q9
    | true =>
      simp only [if_true] at q9 ⊢
      refine thnF (pk.run _ s9 σ8 H9 _ I9 q9) fun z s10 ⟨yk, H10, I10, r10, q10⟩ => ?_
      refine thnF (pv.run _ s10 σ8 H10 _ I10 q10) fun z2 s11 ⟨yv, H11, I11, r11, H12, put, nx⟩ => ?_
      exact put_ok (X := X.blk s3 H3 scope ce fp) hu I11 put r10 r11 fun s12 I12 => a.next hNx now7 I12 len8 know8 nx
end
end DcT
namespace DcT
open PySem PySem.Spec PyProof.Rows L2
section
variable {X : Cx} {kx vx tg iter tg1 iter1 : Expr} {ifs ifs1 : List Expr} {scope : Scope} {own : List (Str × Nat)} {vs1 : List Nat} {pos : Pos} {wi wi1 : TI} {g g1 : TG} {tt tt1 : TT} {tk tv : TE}
/-- {k: v for tg in iter if .. for tg1 in iter1 if ..}, the keys tuples -/
def tDcT2 (wi : TI) (g : TG) (tt : TT) (wi1 : TI) (g1 : TG) (tt1 : TT) (tk tv : TE) (vs vs1 : List Nat) : TE := fun σ H Q => wi σ H fun J H1 => ∀ D, H1 D = none → ∃ W : Nat → Nat → Hp → Prop, (∃ m, W 0 m (upd H1 D (.dT []))) ∧ ∀ i m H, W i m H →
  (J.stop i H ∧ Q (.ref D) H) ∨ (J.go i H ∧ ∃ Nx : Hp → Prop, (∀ H', Nx H' → ∃ m', m' < m ∧ W (i + 1) m' H') ∧ ∀ x H', J.yld i H x H' → g x (wipe σ vs) H' fun σ2 H2 => wipe σ2 vs = wipe σ vs ∧ tt σ2 H2 fun b H3 =>
    if b = true then wi1 σ2 H3 fun J1 H4 => ∃ W1 : Nat → Nat → Hp → Prop, (∃ m, W1 0 m H4) ∧ ∀ j k H, W1 j k H →
      (J1.stop j H ∧ Nx H) ∨ (J1.go j H ∧ ∃ Nx1 : Hp → Prop, (∀ H', Nx1 H' → ∃ k', k' < k ∧ W1 (j + 1) k' H') ∧ ∀ x H', J1.yld j H x H' → g1 x (wipe σ2 vs1) H' fun σ3 H5 => wipe σ3 vs1 = wipe σ2 vs1 ∧ tt1 σ3 H5 fun b H6 =>
        if b = true then tk σ3 H6 fun y H7 => tv σ3 H7 fun z H8 => ∃ H9, DPut H8 D y z H9 ∧ Nx1 H9 else Nx1 H6)
    else Nx H3)
theorem pe_dcT2 (hu : X.A.units < cLine) (hc : X.calm = true) (hN : X.N.Nodup) (hi : PI X tg iter wi) (ok : BlkOk X.N X.env.scope scope own) (hin : ∀ i ∈ vs1, i ∈ own.map (·.2))
    (hg : ∀ (s : Shared) (H : Hp) (C : Addr) (cl : List (Str × Addr)) (fp : List Addr), PG (X.blk s H scope (compEnvC scope cl C X.env) fp) tg g) (ht : ∀ (s : Shared) (H : Hp) (C : Addr) (cl : List (Str × Addr)) (fp : List Addr), PTs (X.blk s H scope (compEnvC scope cl C X.env) fp) ifs tt)
    (hi1 : ∀ (s : Shared) (H : Hp) (C : Addr) (cl : List (Str × Addr)) (fp : List Addr), PI (X.blk s H scope (compEnvC scope cl C X.env) fp) tg1 iter1 wi1) (hg1 : ∀ (s : Shared) (H : Hp) (C : Addr) (cl : List (Str × Addr)) (fp : List Addr), PG (X.blk s H scope (compEnvC scope cl C X.env) fp) tg1 g1)
    (ht1 : ∀ (s : Shared) (H : Hp) (C : Addr) (cl : List (Str × Addr)) (fp : List Addr), PTs (X.blk s H scope (compEnvC scope cl C X.env) fp) ifs1 tt1)
    (hk : ∀ (s : Shared) (H : Hp) (C : Addr) (cl : List (Str × Addr)) (fp : List Addr), PE (X.blk s H scope (compEnvC scope cl C X.env) fp) kx tk)
    (hv : ∀ (s : Shared) (H : Hp) (C : Addr) (cl : List (Str × Addr)) (fp : List Addr), PE (X.blk s H scope (compEnvC scope cl C X.env) fp) vx tv) (hs : ∀ x, foldedSetIterable iter X.env x = pure x := by intro _; rfl) (hs1 : ∀ env x, foldedSetIterable iter1 env x = pure x := by intro _ _; rfl) :
    PE X (.DictComp kx vx [⟨tg, iter, ifs, 0⟩, ⟨tg1, iter1, ifs1, 0⟩] scope pos) (tDcT2 wi g tt wi1 g1 tt1 tk tv (own.map (·.2)) vs1) := by
  refine ⟨fun pins s σ H Q I h => ?_⟩
  rw [arm_eval_DictComp]
  refine begin_dc hN I hi ok hs h fun D it C cl fp tn J H2 s3 s4 rd fresh nfp a => ?_
  obtain ⟨W, ⟨m0, w0⟩, turns⟩ := rd D fresh
  have pg := hg s3 (upd H2 D (.dT [])) C cl fp
  have pt := ht s3 (upd H2 D (.dT [])) C cl fp
  have pi1 := hi1 s3 (upd H2 D (.dT [])) C cl fp
  have pg1 := hg1 s3 (upd H2 D (.dT [])) C cl fp
  have pt1 := ht1 s3 (upd H2 D (.dT [])) C cl fp
  have pk := hk s3 (upd H2 D (.dT [])) C cl fp
  have pv := hv s3 (upd H2 D (.dT [])) C cl fp
  generalize hce : compEnvC scope cl C X.env = ce at a pg pt pi1 pg1 pt1 pk pv ⊢
  generalize hH3 : upd H2 D (.dT []) = H3 at a pg pt pi1 pg1 pt1 pk pv w0 nfp
  refine loop_out (hs1 ce) (fun n s' => ∃ i H', Inv (X.blk s3 H3 scope ce fp) [] (wipe σ (own.map (·.2))) H' s' ∧ tn i s'.heap ∧ (∀ b ∈ fp, H' b = none) ∧ W i n H') ?_ m0 ⟨0, H3, a.blk, a.now, nfp, w0⟩
  rintro n s5 ⟨i, H5, I5, now5, n5, w5⟩
  rcases turns i n H5 w5 with ⟨stop, done⟩ | ⟨more, Nx, hNx, step⟩
  · refine thnF (a.turn.done (X.blk s3 H3 scope ce fp) rfl rfl rfl hc i [] s5 _ H5 (fun _ _ => False) I5 (a.stat I5 n5) now5 stop) fun r s6 ⟨hr, I6⟩ => ?_
    subst hr
    obtain ⟨m, I7, hn, f0, f1, f2, f3, f4, f5⟩ := a.back I6
    exact ⟨m, hn, fun h2 sb => ⟨.ref D, H5, I7.turned (t' := s6.toks) (fun b o hb e => (sb.2 b hb).trans e) f0 f1 f3 f4 f5, rfl, done⟩⟩
  refine thnF (a.turn.item (X.blk s3 H3 scope ce fp) rfl rfl rfl hc i [] s5 _ H5 (fun _ _ => False) I5 (a.stat I5 n5) now5 more) fun r s6 ⟨u, hr, h6⟩ => ?_
  subst hr
  refine thnF h6 fun _ s7 ⟨x, H7, I7, r7, y7, now7, n7⟩ => ?_
  refine thnF (pg.run _ s7 _ H7 x u _ (I7.pinned (a.stat I7 n7) (a.turn.obj _ _ now7)) r7 (step x H7 y7)) fun _ s8 ⟨σ8, H8, I8, w8, q8⟩ => ?_
  refine thnF (pt.run _ s8 σ8 H8 _ I8 q8) fun b s9 ⟨H9, I9, q9⟩ => ?_
  have len8 : (wipe σ (own.map (·.2))).length = σ8.length := by rw [← w8, wipe_length]
  have know8 : ∀ (j : Nat) v, (wipe σ (own.map (·.2)))[j]? = some (some v) → σ8[j]? = some (some v) := fun j v e => by
    rw [← w8] at e
    exact (wipe_some e).1
  have know9 : ∀ (j : Nat) v, (wipe σ (own.map (·.2)))[j]? = some (some v) → (wipe σ8 vs1)[j]? = some (some v) := fun j v e => by
    rw [← w8] at e
    obtain ⟨z1, z2⟩ := wipe_some e
    rw [wipe_out fun z => z2 (hin j z)]
    exact z1
  cases b with
  | false =>
    simp only [Bool.false_eq_true, if_false] at q9 ⊢
    exact a.next hNx now7 I9 len8 know8 q9
  | true =>
    simp only [if_true] at q9 ⊢
    refine thnF (pi1.run _ s9 σ8 H9 _ I9 q9) fun xv s10 hx => thnF hx fun itv s11 h11 => ?_
    obtain ⟨it1, fp1, tn1, J1, H11, rfl, I11, T1, now11, out11, W1, ⟨m1, w1⟩, turns1⟩ := h11
    have stat1 : ∀ {H' : Hp}, (∀ c ∈ fp1, H' c = none) → ∀ c ∈ fp1, FpOk (X.blk s3 H3 scope ce fp) ([] ++ pinsAt fp s7.heap) H' c := fun hn c hc => ⟨hn c hc, (out11 c hc).2⟩
    have inner : codeAny (model X.prog X.w) X.A (.compLoop (two kx vx tg iter ifs tg1 iter1 ifs1 scope pos) 1 (.ref it1) (.ref D) ce)
        (fun r c => match r with
          | .ok _ => ∃ m, m < n ∧ ∃ i H', Inv (X.blk s3 H3 scope ce fp) [] (wipe σ (own.map (·.2))) H' c ∧ tn i c.heap ∧ (∀ b ∈ fp, H' b = none) ∧ W i m H'
          | .error _ => False) s11 := by
      refine loop_in (fun k c => ∃ j H', Inv (X.blk s3 H3 scope ce fp) ([] ++ pinsAt fp s7.heap) (wipe σ8 vs1) H' c ∧ tn1 j c.heap ∧ (∀ b ∈ fp1, H' b = none) ∧ W1 j k H') ?_ m1 ⟨0, H11, I11.weak (wipe_length _ _) (fun j v e => (wipe_some e).1), now11, fun c hc => (out11 c hc).1, w1⟩
      rintro k s12 ⟨j, H12, I12, now12, n12, w12⟩
      rcases turns1 j k H12 w12 with ⟨stop1, nx1⟩ | ⟨more1, Nx1, hNx1, step1⟩
      · refine thnF (T1.done (X.blk s3 H3 scope ce fp) rfl rfl rfl hc j _ s12 (wipe σ8 vs1) H12 (fun _ _ => False) I12 (stat1 n12) now12 stop1) fun r s13 ⟨hr, I13⟩ => ?_
        subst hr
        exact a.next hNx now7 I13 (len8.trans (wipe_length σ8 vs1).symm) know9 nx1
      refine thnF (T1.item (X.blk s3 H3 scope ce fp) rfl rfl rfl hc j _ s12 (wipe σ8 vs1) H12 (fun _ _ => False) I12 (stat1 n12) now12 more1) fun r s13 ⟨u1, hr, h13⟩ => ?_
      subst hr
      refine thnF h13 fun _ s14 ⟨x1, H14, I14, r14, y14, now14, n14⟩ => ?_
      refine thnF (pg1.run _ s14 (wipe σ8 vs1) H14 x1 u1 _ (I14.pinned (stat1 n14) (T1.obj _ _ now14)) r14 (step1 x1 H14 y14)) fun _ s15 ⟨σ15, H15, I15, w15, q15⟩ => ?_
      refine thnF (pt1.run _ s15 σ15 H15 _ I15 q15) fun b1 s16 ⟨H16, I16, q16⟩ => ?_
      have onward : ∀ {c : Shared} {H' : Hp}, Inv (X.blk s3 H3 scope ce fp) (([] ++ pinsAt fp s7.heap) ++ pinsAt fp1 s14.heap) σ15 H' c → Nx1 H' → ∃ m, m < k ∧ ∃ j H', Inv (X.blk s3 H3 scope ce fp) ([] ++ pinsAt fp s7.heap) (wipe σ8 vs1) H' c ∧ tn1 j c.heap ∧ (∀ b ∈ fp1, H' b = none) ∧ W1 j m H' := fun {c H'} I' nx => by
        obtain ⟨m', hm, w'⟩ := hNx1 H' nx
        have still : ∀ b ∈ fp1, ∀ o, s14.heap.get? b = some o → c.heap.get? b = some o ∧ H' b = none := fun b hb o e =>
          let z := I'.pin (b, o) (List.mem_append_right _ (List.mem_append_right _ (mem_pinsAt hb e)))
          ⟨z.1, z.2.1⟩
        refine ⟨m', hm, j + 1, H', I'.unpinned.weak (by rw [← w15, wipe_length]) (fun j v e => by rw [← w15] at e; exact (wipe_some e).1), T1.keep _ _ _ now14 fun b hb o e => (still b hb o e).1, fun b hb => ?_, w'⟩
        obtain ⟨o, e, _⟩ := T1.obj _ _ now14 b hb
        exact (still b hb o e).2
      cases b1 with
      | false =>
        simp only [Bool.false_eq_true, if_false] at q16 ⊢
        exact onward I16 q16
      | true =>
        simp only [if_true] at q16 ⊢
        refine thnF (pk.run _ s16 σ15 H16 _ I16 q16) fun z s17 ⟨yk, H17, I17, r17, q17⟩ => ?_
        refine thnF (pv.run _ s17 σ15 H17 _ I17 q17) fun z2 s18 ⟨yv, H18, I18, r18, H19, put, nx⟩ => ?_
        exact put_ok (X := X.blk s3 H3 scope ce fp) hu I18 put r17 r18 fun s19 I19 => onward I19 nx
    exact start_in inner (T1.self X.A 0 _ _ _ now11 inner)
end
end DcT
namespace DcT
open PySem L2
/-- over a walk -/
theorem dcT_it {J : It} {n : Nat} {G : Hp → Prop} {Y : Nat → Hp → V → Hp → Prop} (w : Walk J n G Y) {g : TG} {tt : TT} {tk tv : TE} {vs : List Nat} {σ : L2.St} {H1 : Hp} {D : Addr} {Qd : Hp → Prop} (Pv : Nat → Hp → Prop) (h0 : Pv 0 (upd H1 D (.dT []))) (hG : ∀ i H, i ≤ n → Pv i H → G H)
    (hs : ∀ i x H H', i < n → Pv i H → Y i H x H' → g x (wipe σ vs) H' fun σ2 H2 => wipe σ2 vs = wipe σ vs ∧ tt σ2 H2 fun b H3 =>
      if b = true then tk σ2 H3 fun y H4 => tv σ2 H4 fun z H5 => ∃ H6, DPut H5 D y z H6 ∧ Pv (i + 1) H6 else Pv (i + 1) H3) (hd : ∀ H, Pv n H → Qd H) :
    ∃ W : Nat → Nat → Hp → Prop, (∃ m, W 0 m (upd H1 D (.dT []))) ∧ ∀ i m H, W i m H →
      (J.stop i H ∧ Qd H) ∨ (J.go i H ∧ ∃ Nx : Hp → Prop, (∀ H', Nx H' → ∃ m', m' < m ∧ W (i + 1) m' H') ∧ ∀ x H', J.yld i H x H' → g x (wipe σ vs) H' fun σ2 H2 => wipe σ2 vs = wipe σ vs ∧ tt σ2 H2 fun b H3 =>
        if b = true then tk σ2 H3 fun y H4 => tv σ2 H4 fun z H5 => ∃ H6, DPut H5 D y z H6 ∧ Nx H6 else Nx H3) := by
  refine ⟨fun i m H => m = n - i ∧ i ≤ n ∧ Pv i H, ⟨n, by simp, Nat.zero_le _, h0⟩, ?_⟩
  rintro i m H ⟨rfl, hi, p⟩
  have q := hG i H hi p
  by_cases hlt : i < n
  · exact .inr ⟨w.goes i H hlt q, Pv (i + 1), fun H' p' => ⟨n - (i + 1), by omega, rfl, hlt, p'⟩, fun x H' y => hs i x H H' hlt p (w.yields i H x H' hlt q y)⟩
  · have e : i = n := by omega
    subst e
    exact .inl ⟨w.stops H q, hd H p⟩
end DcT
namespace DcT
open PySem L2
section
variable {J : It} {n : Nat} {G : Hp → Prop} {Y : Nat → Hp → V → Hp → Prop}
/-- the inner loop's due -/
abbrev In2T (J1 : It) (g1 : TG) (tt1 : TT) (tk tv : TE) (vs1 : List Nat) (σ2 : L2.St) (D : Addr) (Nx : Hp → Prop) (H4 : Hp) : Prop := ∃ W1 : Nat → Nat → Hp → Prop, (∃ m, W1 0 m H4) ∧ ∀ j k H, W1 j k H →
  (J1.stop j H ∧ Nx H) ∨ (J1.go j H ∧ ∃ Nx1 : Hp → Prop, (∀ H', Nx1 H' → ∃ k', k' < k ∧ W1 (j + 1) k' H') ∧ ∀ x H', J1.yld j H x H' → g1 x (wipe σ2 vs1) H' fun σ3 H5 => wipe σ3 vs1 = wipe σ2 vs1 ∧ tt1 σ3 H5 fun b H6 =>
    if b = true then tk σ3 H6 fun y H7 => tv σ3 H7 fun z H8 => ∃ H9, DPut H8 D y z H9 ∧ Nx1 H9 else Nx1 H6)
theorem in2T_it (w : Walk J n G Y) {g1 : TG} {tt1 : TT} {tk tv : TE} {vs1 : List Nat} {σ2 : L2.St} {H4 : Hp} {D : Addr} {Nx : Hp → Prop} (Pv : Nat → Hp → Prop) (h0 : Pv 0 H4) (hG : ∀ i H, i ≤ n → Pv i H → G H)
    (hs : ∀ i x H H', i < n → Pv i H → Y i H x H' → g1 x (wipe σ2 vs1) H' fun σ3 H5 => wipe σ3 vs1 = wipe σ2 vs1 ∧ tt1 σ3 H5 fun b H6 =>
      if b = true then tk σ3 H6 fun y H7 => tv σ3 H7 fun z H8 => ∃ H9, DPut H8 D y z H9 ∧ Pv (i + 1) H9 else Pv (i + 1) H6) (hd : ∀ H, Pv n H → Nx H) : In2T J g1 tt1 tk tv vs1 σ2 D Nx H4 := by
  refine ⟨fun i m H => m = n - i ∧ i ≤ n ∧ Pv i H, ⟨n, by simp, Nat.zero_le _, h0⟩, ?_⟩
  rintro i m H ⟨rfl, hi, p⟩
  have q := hG i H hi p
  by_cases hlt : i < n
  · exact .inr ⟨w.goes i H hlt q, Pv (i + 1), fun H' p' => ⟨n - (i + 1), by omega, rfl, hlt, p'⟩, fun x H' y => hs i x H H' hlt p (w.yields i H x H' hlt q y)⟩
  · have e : i = n := by omega
    subst e
    exact .inl ⟨w.stops H q, hd H p⟩
theorem dcT2_it (w : Walk J n G Y) {g : TG} {tt : TT} {wi1 : TI} {g1 : TG} {tt1 : TT} {tk tv : TE} {vs vs1 : List Nat} {σ : L2.St} {H1 : Hp} {D : Addr} {Qd : Hp → Prop} (Pv : Nat → Hp → Prop) (h0 : Pv 0 (upd H1 D (.dT []))) (hG : ∀ i H, i ≤ n → Pv i H → G H)
    (hs : ∀ i x H H', i < n → Pv i H → Y i H x H' → g x (wipe σ vs) H' fun σ2 H2 => wipe σ2 vs = wipe σ vs ∧ tt σ2 H2 fun b H3 =>
      if b = true then wi1 σ2 H3 fun J1 H4 => In2T J1 g1 tt1 tk tv vs1 σ2 D (Pv (i + 1)) H4 else Pv (i + 1) H3) (hd : ∀ H, Pv n H → Qd H) :
    ∃ W : Nat → Nat → Hp → Prop, (∃ m, W 0 m (upd H1 D (.dT []))) ∧ ∀ i m H, W i m H →
      (J.stop i H ∧ Qd H) ∨ (J.go i H ∧ ∃ Nx : Hp → Prop, (∀ H', Nx H' → ∃ m', m' < m ∧ W (i + 1) m' H') ∧ ∀ x H', J.yld i H x H' → g x (wipe σ vs) H' fun σ2 H2 => wipe σ2 vs = wipe σ vs ∧ tt σ2 H2 fun b H3 =>
        if b = true then wi1 σ2 H3 fun J1 H4 => In2T J1 g1 tt1 tk tv vs1 σ2 D Nx H4 else Nx H3) := by
  refine ⟨fun i m H => m = n - i ∧ i ≤ n ∧ Pv i H, ⟨n, by simp, Nat.zero_le _, h0⟩, ?_⟩
  rintro i m H ⟨rfl, hi, p⟩
  have q := hG i H hi p
  by_cases hlt : i < n
  · exact .inr ⟨w.goes i H hlt q, Pv (i + 1), fun H' p' => ⟨n - (i + 1), by omega, rfl, hlt, p'⟩, fun x H' y => hs i x H H' hlt p (w.yields i H x H' hlt q y)⟩
  · have e : i = n := by omega
    subst e
    exact .inl ⟨w.stops H q, hd H p⟩
end
end DcT
namespace Lw
open PySem L2 TL DcT
/-- a def of the text, by its promise -/
structure Ca (P : Program) (w : World) (K : PySem.W.Frag) (mg : Str → Option Value) (base : Heap) (n : Nat) (x : Str) (ps : List Str) (sp : Sp) : Prop where
  ex : ∃ (g : Addr) (gd : FuncData), FnOk P w K mg base CX0 n g gd ps sp ∧ Binds K gd ps [] ∧ PySem.W.keepIn K (.ref g) = true ∧ mg x = some (.ref g)
section
variable {X : Cx} {k j : Nat} {x m : Str} {ps : List Str} {sp : Sp} {p pos : Pos} {e : Expr} {es : List Expr} {t : TA}
theorem pca (c : Ca X.prog X.w X.K X.mg X.base k x ps sp) (hr : Room j X.A) (hk : k ≤ j) (hg : Gl X x) (ha : PA X (e :: es) t)
    (hdb : (x == ("__debug__" : Str)) = false := by decide) (he : starEach (e :: es) X.env = (false, eval e X.env) :: starEach es X.env := by rfl) (hpl : (backTo pos (starEach es X.env)).any (·.1) = false := by rfl) :
    PE X (.Call (.Name x p) (e :: es) [] pos) (tCall sp [] E0 t) := by
  obtain ⟨f, fd, F, b, kp, hm⟩ := c.ex
  exact pe_call F (hr.mono hk) hg hm kp b .nil pass0 ha hdb he hpl
end
theorem room0 {A : Around} {k : Nat} (hr : Room k A) : A.units < cLine := Nat.lt_of_le_of_lt (Nat.le_add_right _ _) hr.units
/-! what stays under a lock -/
/-- the heaps are alike but for a dict at d, which is locked in the second -/
theorem lock_keep {H : Hp} {d : Addr} {u : HO} {od : Obj} (hd : H d = some u) {b : Addr} {o : HO} (e : H b = some o) (n : o ≠ u) : upd H d (.frz od u) b = some o := by
  rw [upd_ne (fun z => by rw [z, hd] at e; exact n (Option.some.inj e).symm)]
  exact e
theorem lock_sq {K : PySem.W.Frag} {H : Hp} {d : Addr} {kvs : List (List Key × V)} {od : Obj} (hd : H d = some (.dT kvs)) {a : Addr} {xs : List V} (h : SqT K H a xs) : SqT K (upd H d (.frz od (.dT kvs))) a xs := by
  rcases h with (h | ⟨o, h⟩) | h
  · exact .inl (.inl (lock_keep hd h (fun e => by cases e)))
  · exact .inl (.inr ⟨o, lock_keep hd h (fun e => by cases e)⟩)
  · exact .inr h
theorem lock_tz {H : Hp} {d : Addr} {kvs : List (List Key × V)} {od : Obj} (hd : H d = some (.dT kvs)) {a : Addr} {xs : List V} : TzR.TzAt H a xs → TzR.TzAt (upd H d (.frz od (.dT kvs))) a xs
  | ⟨o, h, z⟩ => ⟨o, lock_keep hd h (fun e => by cases e), z⟩
theorem lock_form {K : PySem.W.Frag} {C p : Addr} {ks : List Str} {is : List Int} {H : Hp} {d : Addr} {kvs : List (List Key × V)} {od : Obj} (hd : H d = some (.dT kvs)) : FormAt K C p ks is H → FormAt K C p ks is (upd H d (.frz od (.dT kvs)))
  | ⟨dx, tk, ta, h1, h2, h3⟩ => ⟨dx, tk, ta, lock_keep hd h1 (fun e => by cases e), lock_sq hd h2, lock_tz hd h3⟩
/-- behind the lock all stands as before -/
theorem unlock_same {H H' : Hp} {d : Addr} {u : HO} {od : Obj} (hd : H d = some u) (g : Same (upd H d (.frz od u)) H') : Same H (upd H' d u) := fun b o e => by
  by_cases z : b = d
  · rw [z] at e ⊢
    rw [hd] at e
    cases e
    exact upd_same
  · rw [upd_ne z]
    exact g _ _ (by rw [upd_ne z]; exact e)
theorem unlock_ne {H' : Hp} {d b : Addr} {u o : HO} {f : HO} (hf : H' d = some f) (e : H' b = some o) (n : o ≠ f) : upd H' d u b = some o := by
  rw [upd_ne (fun z => by rw [z, hf] at e; exact n (Option.some.inj e).symm)]
  exact e
/-! paths -/
theorem put_new {κ : Type} [DecidableEq κ] {kvs : List (κ × V)} {k : κ} {v : V} (h : ∀ p ∈ kvs, p.1 ≠ k) : putK kvs k v = kvs ++ [(k, v)] := by
  unfold putK
  rw [if_neg]
  intro c
  obtain ⟨p, hp, e⟩ := List.any_eq_true.mp c
  exact h p hp (of_decide_eq_true e)
theorem iota_mem {n : Nat} {i : Int} : i ∈ iota n ↔ 0 ≤ i ∧ i < (n : Int) := by
  unfold iota
  rw [List.mem_map]
  constructor
  · rintro ⟨j, hj, rfl⟩
    rw [List.mem_range] at hj
    omega
  · rintro ⟨h1, h2⟩
    exact ⟨i.toNat, List.mem_range.mpr (by omega), by omega⟩
theorem path_inj {fx a b : List Int} {n : Nat} (hp : fx.Perm (iota n)) (ha : a.length = n) (hb : b.length = n) (e : pathI fx a = pathI fx b) : a = b := by
  unfold pathI at e
  have all : ∀ x ∈ fx, a.getD x.toNat 0 = b.getD x.toNat 0 := List.map_inj_left.mp e
  refine List.ext_getElem (by rw [ha, hb]) fun i h1 h2 => ?_
  have hm : (i : Int) ∈ fx := hp.mem_iff.mpr (iota_mem.mpr ⟨by omega, by omega⟩)
  have z := all _ hm
  rw [Int.toNat_natCast, List.getD_eq_getElem?_getD, List.getD_eq_getElem?_getD, List.getElem?_eq_getElem h1, List.getElem?_eq_getElem h2] at z
  exact z
theorem path_len (fx a : List Int) : (pathI fx a).length = fx.length := List.length_map _
theorem path_bd {fx a : List Int} {n : Nat} {B : Int} (hp : fx.Perm (iota n)) (ha : a.length = n) (h : TS.Bd B a) : TS.Bd B (pathI fx a) := fun m hm => by
  obtain ⟨x, hx, rfl⟩ := List.mem_map.mp hm
  obtain ⟨x0, x1⟩ := iota_mem.mp (hp.mem_iff.mp hx)
  have lt : x.toNat < a.length := by omega
  refine h _ ?_
  rw [List.getD_eq_getElem?_getD, List.getElem?_eq_getElem lt]
  exact List.getElem_mem lt
/-- ends of paths: entries with the tuples of their coordinates -/
abbrev En := (List Int × Int) × Addr
def endK (fx : List Int) (e : En) : List Key × V := ((pathI fx e.1.1).map Sum.inl, V.ref e.2)
def EndsAt (H : Hp) (E : List En) : Prop := ∀ e ∈ E, H e.2 = some (.tup (e.1.1.map V.int))
theorem EndsAt.same {H H' : Hp} {E : List En} (g : Same H H') (h : EndsAt H E) : EndsAt H' E := fun e he => g _ _ (h e he)
theorem keyI (k : List Int) : (k.map (Sum.inl : Int → Key)).map kV = k.map V.int := by rw [List.map_map] <;> rfl
theorem ends_val {fx : List Int} {n : Nat} (hp : fx.Perm (iota n)) : ∀ {E : List En} {e : En}, (∀ x ∈ E, x.1.1.length = n) → (E.map fun x => x.1.1).Nodup → e ∈ E → valV (E.map (endK fx)) ((pathI fx e.1.1).map Sum.inl) = some (V.ref e.2)
  | [], e, _, _, h => by cases h
  | x :: r, e, hl, nd, h => by
    rw [List.map_cons] at nd
    obtain ⟨n1, n2⟩ := List.nodup_cons.mp nd
    rw [List.map_cons]
    rcases List.mem_cons.mp h with rfl | h
    · exact valV_pos rfl
    · rw [valV_neg (p := endK fx x) (fun z : (pathI fx x.1.1).map (Sum.inl : Int → Key) = _ => ?_)]
      · exact ends_val hp (fun y hy => hl y (List.mem_cons_of_mem _ hy)) n2 h
      · have e2 := path_inj hp (hl x (List.mem_cons_self ..)) (hl e (List.mem_cons_of_mem _ h)) (inl_inj z)
        exact n1 (by rw [e2]; exact List.mem_map.mpr ⟨e, h, rfl⟩)
/-- the entry of a path -/
def bk (fx : List Int) (cs : List (List Int × Int)) (y : List Int) : List Int × Int := (cs.find? fun p => decide (pathI fx p.1 = y)).getD ([], 0)
theorem bk_of {fx : List Int} {n : Nat} (hp : fx.Perm (iota n)) {cs : List (List Int × Int)} (hl : ∀ p ∈ cs, p.1.length = n) (nd : (cs.map (·.1)).Nodup) {p : List Int × Int} (h : p ∈ cs) : bk fx cs (pathI fx p.1) = p := by
  unfold bk
  cases e : cs.find? fun q => decide (pathI fx q.1 = pathI fx p.1) with
  | none => exact absurd (decide_eq_true rfl) (List.find?_eq_none.mp e p h)
  | some q =>
    have h0 := List.find?_some e
    have h1 : pathI fx q.1 = pathI fx p.1 := of_decide_eq_true h0
    have hq := List.mem_of_find?_eq_some e
    have e1 := path_inj hp (hl q hq) (hl p h) h1
    show q = p
    obtain ⟨i, hi, ei⟩ := List.mem_iff_getElem.mp hq
    obtain ⟨j, hj, ej⟩ := List.mem_iff_getElem.mp h
    have z : i = j := (List.getElem_inj nd (h₀ := by rw [List.length_map]; exact hi) (h₁ := by rw [List.length_map]; exact hj)).mp (by rw [List.getElem_map, List.getElem_map, ei, ej]; exact e1)
    subst z
    rw [← ei, ← ej]
abbrev s_in_path_order : Stmt := topS 27
abbrev n_in_path_order : List Str := ["form", "cells", "ends", "at", "path"]
theorem sc_in_path_order : FnScope n_in_path_order ["form", "cells"] (defScope s_in_path_order) := ⟨rfl, rfl, rfl, by decide +kernel, rfl, by decide +kernel, by decide +kernel⟩
def spIpo (K : PySem.W.Frag) (C : Addr) : Sp := fun vs H Q _ => ∃ (p d : Addr) (ks : List Str) (fx : List Int) (n : Nat) (cs : List (List Int × Int)), vs = [.ref p, .ref d] ∧ FormAt K C p ks fx H ∧ fx.Perm (iota n) ∧ n ≤ 3 ∧ H d = some (.dT (cs.map cell)) ∧ (cs.map (·.1)).Nodup ∧ (∀ c ∈ cs, c.1.length = n ∧ TS.Bd 1001 c.1) ∧ cs.length < 200 ∧
  ∀ (t : Addr) (cs' : List (List Int × Int)) (H' : Hp), cs'.Perm cs → (cs'.map fun c => pathI fx c.1).Pairwise (fun u v => TS.code 1001 u ≤ TS.code 1001 v) → H' t = some (.dT (cs'.map cell)) → Same H H' → H t = none → Q (.ref t) H'
section
variable {P : Program} {w : World} {K : PySem.W.Frag} {mg : Str → Option Value} {base : Heap} {C f : Addr} {fd : FuncData}
theorem ok_in_path_order (F : Fun K "in_path_order" "in_path_order" s_in_path_order f fd) (cP : Ca P w K mg base 1 "path_of" ["form", "at"] (spPath K C)) (zS : mg "sorted" = none) : FnOk P w K mg base CX0 2 f fd ["form", "cells"] (spIpo K C) := by
  refine F.ok sc_in_path_order (fun vs H Q E h => ?_) (fun cdv A outer s H vs Q E hr h => ?_)
  · obtain ⟨p, d, ks, fx, n, cs, rfl, _⟩ := h
    rfl
  obtain ⟨p, d, ks, fx, n, cs, rfl, hF, hp, hn, hd, nd, hcs, h64, q⟩ := h
  have fl : fx.length = n := by rw [hp.length_eq]; exact iota_len n
  refine ⟨_, (pss_cons (ps_set (i := 2) sc_in_path_order.nd rfl (Or.inr rfl) (pe_lock (pe_dcT (own := [("at", 3)]) (g := gName 3) (tt := tYes) (tk := tCall (spPath K C) [] E0 (tCons (tVar 0) (tCons (tVar 3) tNil))) (tv := tVar 3) (room0 hr) rfl sc_in_path_order.nd (pi_keys (pv 1)) (blkOk_by (N := n_in_path_order) (sc := defScope s_in_path_order) (by decide +kernel)) (fun _ _ _ _ _ => pg_name (i := 3) sc_in_path_order.nd rfl (Or.inl rfl)) (fun _ _ _ _ _ => pts_nil) (fun _ _ _ _ _ => pca cP hr (by decide) rfl (pa_cons (pv 0) (pa_cons (pv 3) pa_nil))) (fun _ _ _ _ _ => pv 3))))
(pss_one (ps_ret (pe_dcT (own := [("path", 4)]) (g := gName 4) (tt := tYes) (tk := tDGet (tVar 2) (tVar 4)) (tv := tDGet (tVar 1) (tDGet (tVar 2) (tVar 4))) (room0 hr) rfl sc_in_path_order.nd (pi_list (pe_callB (cr_sortedL (d := n) (B := 1001) rfl (roomU6 hr)) (by rfl) zS (by decide +kernel) (pa_cons (pv 2) pa_nil))) (blkOk_by (N := n_in_path_order) (sc := defScope s_in_path_order) (by decide +kernel)) (fun _ _ _ _ _ => pg_name (i := 4) sc_in_path_order.nd rfl (Or.inl rfl)) (fun _ _ _ _ _ => pts_nil) (fun _ _ _ _ _ => pe_dget (hu_of hr) (pv 2) (pv 4) (fun _ _ => rfl)) (fun _ _ _ _ _ => pe_dget (hu_of hr) (pv 1) (pe_dget (hu_of hr) (pv 2) (pv 4) (fun _ _ => rfl)) (fun _ _ => rfl)))))), ?_⟩
  -- the ends
  refine ⟨d, .dT (cs.map cell), hd, trivial, fun od => ?_⟩
  have hFl := lock_form (od := od) hd hF
  have hdl : upd H d (.frz od (.dT (cs.map cell))) d = some (.frz od (.dT (cs.map cell))) := upd_same
  have hback : ∀ {H' : Hp}, Same (upd H d (.frz od (.dT (cs.map cell)))) H' → Same H (upd H' d (.dT (cs.map cell))) := fun {H'} g => unlock_same hd g
  generalize upd H d (.frz od (.dT (cs.map cell))) = Hl at hFl hdl hback ⊢
  refine ⟨_, rfl, d, od, rfl, .inr ⟨_, hdl, fun D hD => ?_⟩⟩
  have gD := same_new hD (.dT [])
  have lk : (cs.map cell).length = cs.length := List.length_map _
  refine DcT.dcT_it (walk_keysT (d := d) (o := od) (kvs := cs.map cell)) (fun i H' => ∃ E : List En, H' D = some (.dT (E.map (endK fx))) ∧ E.map (·.1) = cs.take i ∧ EndsAt H' E ∧ Same Hl H') ⟨[], upd_same, rfl, (fun _ h => by cases h), gD⟩ (fun i H' _ ⟨_, _, _, _, g⟩ => g _ _ hdl) (fun i x H1 H2 hi hv hy => ?_) ?_
  · obtain ⟨rfl, k, v, qa, ek, rfl, hq⟩ := hy
    obtain ⟨E, v1, v2, v3, v4⟩ := hv
    obtain ⟨c, ec, ek2⟩ : ∃ c, cs[i]? = some c ∧ (k, v) = cell c := by
      rw [List.getElem?_map] at ek
      cases e : cs[i]? with
      | none => rw [e] at ek; cases ek
      | some c => rw [e] at ek; exact ⟨c, rfl, (Option.some.inj ek).symm⟩
    cases ek2
    rw [keyI] at hq
    obtain ⟨cl, _⟩ := hcs c (List.mem_of_getElem? ec)
    have il : i < cs.length := by rw [← lk]; exact hi
    have El : E.length = i := by
      have e := congrArg List.length v2
      rw [List.length_map, List.length_take] at e
      omega
    refine ⟨rfl, kept ⟨_, rfl, _, rfl, p, qa, ks, fx, c.1, rfl, hFl.same v4, SqT.of hq, by omega, fun x hx => ?_, fun t H3 g3 ht => ⟨_, rfl, ?_⟩⟩⟩
    · obtain ⟨x0, x1⟩ := iota_mem.mp (hp.mem_iff.mp hx)
      exact ⟨x0, by omega⟩
    have hD3 := g3 _ _ v1
    refine ⟨_, DPut.t (k := (pathI fx c.1).map Sum.inl) hD3 (by rw [keyI]; exact ht) (by rw [List.length_map]; exact small1000 (by omega)), E ++ [(c, qa)], ?_, ?_, ?_, same_over (v4.trans g3) hD _⟩
    · rw [upd_same, put_new (fun x hx e => ?_), List.map_append] <;> try rfl
      obtain ⟨y, hy, rfl⟩ := List.mem_map.mp hx
      have ym : y.1 ∈ cs.take i := by rw [← v2]; exact List.mem_map.mpr ⟨y, hy, rfl⟩
      have yl := (hcs y.1 (List.mem_of_mem_take ym)).1
      have e2 := path_inj hp yl cl (inl_inj e)
      obtain ⟨j, hj, ej⟩ := List.mem_iff_getElem.mp ym
      rw [List.length_take] at hj
      rw [List.getElem_take] at ej
      obtain ⟨l1, l2⟩ := List.getElem?_eq_some_iff.mp ec
      have := (List.getElem_inj nd (h₀ := by rw [List.length_map]; omega) (h₁ := by rw [List.length_map]; exact l1)).mp (show (cs.map (·.1))[j]'(by rw [List.length_map]; omega) = (cs.map (·.1))[i]'(by rw [List.length_map]; exact l1) by rw [List.getElem_map, List.getElem_map, ej, l2]; exact e2)
      omega
    · rw [List.map_append, v2, List.take_succ, ec] <;> rfl
    · intro e he
      have ne : ∀ {b : Addr} {ys : List V}, H3 b = some (.tup ys) → b ≠ D := fun {b ys} h z => by
        rw [z, hD3] at h
        cases h
      rcases List.mem_append.mp he with he | he
      · have h := g3 _ _ (v3 e he)
        rw [upd_ne (ne h)]
        exact h
      · rw [List.mem_singleton.mp he]
        have h := g3 _ _ hq
        rw [upd_ne (ne h)]
        exact h
  rintro H1 ⟨E, v1, v2, v3, v4⟩
  rw [List.take_of_length_le (by rw [lk]; exact Nat.le_refl _)] at v2
  have hd1 := v4 _ _ hdl
  refine ⟨hd1, ?_⟩
  have gU := hback v4
  have hD2 : upd H1 d (.dT (cs.map cell)) D = some (.dT (E.map (endK fx))) := unlock_ne hd1 v1 (fun e => by cases e)
  have hE2 : EndsAt (upd H1 d (.dT (cs.map cell))) E := fun e he => unlock_ne hd1 (v3 e he) (fun e => by cases e)
  have hd2 : upd H1 d (.dT (cs.map cell)) d = some (.dT (cs.map cell)) := upd_same
  generalize upd H1 d (.dT (cs.map cell)) = H2 at gU hD2 hE2 hd2 ⊢
  have hEl : ∀ x ∈ E, x.1.1.length = n := fun x hx => (hcs x.1 (by rw [← v2]; exact List.mem_map.mpr ⟨x, hx, rfl⟩)).1
  have ndE : (E.map fun x => x.1.1).Nodup := by
    have e : (E.map fun x => x.1.1) = cs.map (·.1) := by rw [← v2, List.map_map] <;> rfl
    rw [e]
    exact nd
  have El : E.length = cs.length := by
    have e := congrArg List.length v2
    rw [List.length_map] at e
    exact e
  have ek : (E.map (endK fx)).map (·.1) = (cs.map fun c => pathI fx c.1).map (fun k => k.map Sum.inl) := by
    rw [List.map_map, List.map_map, ← v2, List.map_map] <;> rfl
  have one : 1 ≤ n ∨ (cs.map fun c => pathI fx c.1).length < 2 := by
    by_cases c : 1 ≤ n
    · exact .inl c
    · refine .inr ?_
      rw [List.length_map, ← List.length_map (f := (·.1))]
      exact one_nil (fun k hk => by
        obtain ⟨c, hc, rfl⟩ := List.mem_map.mp hk
        have := (hcs c hc).1
        exact List.length_eq_zero_iff.mp (by omega)) nd
  refine ⟨_, rfl, D, _, cs.map fun c => pathI fx c.1, rfl, .inl hD2, ek, by rw [List.length_map]; exact h64, one, fun k hk => ?_, fun ys pl perm order keysH hpl => ?_⟩
  · obtain ⟨c, hc, rfl⟩ := List.mem_map.mp hk
    obtain ⟨c1, c2⟩ := hcs c hc
    exact ⟨by rw [path_len, fl], path_bd hp c1 c2⟩
  have gp := same_new hpl (.lst (ys.map fun y => V.ref y.1))
  have yl : ys.length = cs.length := by
    have := perm.length_eq
    rw [List.length_map, List.length_map] at this
    exact this
  have hyp : ∀ y ∈ ys, upd H2 pl (.lst (ys.map fun y => V.ref y.1)) y.1 = some (.tup (y.2.map V.int)) := fun y hy => gp _ _ (keysH y hy)
  have hpl3 : upd H2 pl (.lst (ys.map fun y => V.ref y.1)) pl = some (.lst (ys.map fun y => V.ref y.1)) := upd_same
  have gU3 := gU.trans gp
  have hD3 := gp _ _ hD2
  have hE3 := hE2.same gp
  have hd3 := gp _ _ hd2
  generalize upd H2 pl (.lst (ys.map fun y => V.ref y.1)) = H3 at hyp hpl3 gU3 hD3 hE3 hd3 ⊢
  have ndy : (ys.map (·.2)).Nodup := perm.nodup_iff.mpr (by
    refine List.pairwise_map.mpr ((List.pairwise_map.mp nd).imp_of_mem fun {a b} ha hb ne e => ne (path_inj hp (hcs a ha).1 (hcs b hb).1 e)))
  have inY : ∀ y ∈ ys, ∃ e ∈ E, y.2 = pathI fx e.1.1 ∧ e.1 ∈ cs := fun y hy => by
    have z := perm.mem_iff.mp (List.mem_map_of_mem (f := (·.2)) hy)
    obtain ⟨c, hc, ec⟩ := List.mem_map.mp z
    rw [← v2] at hc
    obtain ⟨e, he, rfl⟩ := List.mem_map.mp hc
    exact ⟨e, he, ec.symm, by rw [← v2]; exact List.mem_map.mpr ⟨e, he, rfl⟩⟩
  refine ⟨pl, rfl, ⟨_, SqL.of hpl3⟩, fun D2 hDn => ?_⟩
  have gD2 := same_new hDn (.dT [])
  refine DcT.dcT_it (walk_list (K := K) (a := pl) (xs := ys.map fun y => V.ref y.1)) (fun i H' => H' D2 = some (.dT (((ys.take i).map fun y => bk fx cs y.2).map cell)) ∧ Same H3 H') ⟨upd_same, gD2⟩ (fun i H' _ ⟨_, g⟩ => SqL.of (g _ _ hpl3)) (fun i x H4 H5 hi hv hy => ?_) ?_
  · obtain ⟨rfl, hy⟩ := hy
    obtain ⟨v1', v4'⟩ := hv
    obtain ⟨y, ey, rfl⟩ := at_map hy
    have ym := List.mem_of_getElem? ey
    have il : i < ys.length := (List.getElem?_eq_some_iff.mp ey).1
    obtain ⟨e, he, e2, hec⟩ := inY y ym
    have hyt := v4' _ _ (hyp y ym)
    have getE : DGet H5 D (.ref y.1) (some (.ref e.2)) := by
      have z := DGet.t (k := y.2.map Sum.inl) (v4' _ _ hD3) (by rw [keyI]; exact hyt)
      rw [e2, ends_val hp hEl ndE he] at z
      exact z
    have hqe := v4' _ _ (hE3 e he)
    have getC : DGet H5 d (.ref e.2) (some (.int e.1.2)) := by
      have z := DGet.t (k := e.1.1.map Sum.inl) (v4' _ _ hd3) (by rw [keyI]; exact hqe)
      rw [valV_key (List.mem_map.mpr ⟨e.1, hec, rfl⟩)] at z
      have u := vOf_mem (List.mem_map.mpr ⟨e.1, hec, rfl⟩ : e.1.1 ∈ cs.map (·.1))
      have w2 : (e.1.1, vOf cs e.1.1) = e.1 := by
        obtain ⟨i1, h1, x1⟩ := List.mem_iff_getElem.mp u
        obtain ⟨i2, h2, x2⟩ := List.mem_iff_getElem.mp hec
        have z : i1 = i2 := (List.getElem_inj nd (h₀ := by rw [List.length_map]; exact h1) (h₁ := by rw [List.length_map]; exact h2)).mp (by rw [List.getElem_map, List.getElem_map, x1, x2])
        subst z
        rw [← x1, ← x2]
      rw [show vOf cs e.1.1 = e.1.2 from congrArg Prod.snd w2] at z
      exact z
    refine ⟨rfl, kept ⟨_, rfl, _, rfl, D, _, rfl, getE, _, rfl, _, rfl, _, rfl, D, _, rfl, getE, d, _, rfl, getC, ?_⟩⟩
    have ebk : bk fx cs y.2 = e.1 := by
      rw [e2]
      exact bk_of hp (fun c hc => (hcs c hc).1) nd hec
    refine ⟨_, DPut.t (k := e.1.1.map Sum.inl) v1' (by rw [keyI]; exact hqe) (by rw [List.length_map, List.length_map, List.length_take]; exact small1000 (by omega)), ?_, same_over v4' hDn _⟩
    rw [upd_same, put_new (fun x hx e3 => ?_), List.take_succ, ey, List.map_append, List.map_append]
    · show _ = some (HO.dT (_ ++ [cell (bk fx cs y.2)]))
      rw [ebk] <;> rfl
    · obtain ⟨z, hz, rfl⟩ := List.mem_map.mp hx
      obtain ⟨y', hy', rfl⟩ := List.mem_map.mp hz
      obtain ⟨e', he', e2', hec'⟩ := inY y' (List.mem_of_mem_take hy')
      have ebk' : bk fx cs y'.2 = e'.1 := by
        rw [e2']
        exact bk_of hp (fun c hc => (hcs c hc).1) nd hec'
      have e4 : e'.1.1 = e.1.1 := by
        rw [ebk'] at e3
        exact inl_inj e3
      have e5 : y'.2 = y.2 := by rw [e2, e2', e4]
      obtain ⟨j, hj, ej⟩ := List.mem_iff_getElem.mp hy'
      rw [List.length_take] at hj
      rw [List.getElem_take] at ej
      obtain ⟨l1, l2⟩ := List.getElem?_eq_some_iff.mp ey
      have := (List.getElem_inj ndy (h₀ := by rw [List.length_map]; omega) (h₁ := by rw [List.length_map]; exact l1)).mp (show (ys.map (·.2))[j]'(by rw [List.length_map]; omega) = (ys.map (·.2))[i]'(by rw [List.length_map]; exact l1) by rw [List.getElem_map, List.getElem_map, ej, l2]; exact e5)
      omega
  rintro H4 ⟨w1, w4⟩
  rw [List.length_map, List.take_length] at w1
  refine q D2 (ys.map fun y => bk fx cs y.2) H4 ?_ ?_ w1 (gU3.trans w4) (gU3.free hDn)
  · have e : ys.map (fun y => bk fx cs y.2) = (ys.map (·.2)).map (bk fx cs) := by rw [List.map_map] <;> rfl
    have e2 : (cs.map fun c => pathI fx c.1).map (bk fx cs) = cs := by
      rw [List.map_map]
      exact (List.map_congr_left fun c hc => bk_of hp (fun c hc => (hcs c hc).1) nd hc).trans (List.map_id _)
    have z := perm.map (bk fx cs)
    rw [e2] at z
    rw [e]
    exact z
  · have e : (ys.map fun y => bk fx cs y.2).map (fun c => pathI fx c.1) = ys.map (·.2) := by
      rw [List.map_map]
      refine List.map_congr_left fun y hy => ?_
      obtain ⟨e', he', e2', hec'⟩ := inY y hy
      show pathI fx (bk fx cs y.2).1 = y.2
      rw [e2', bk_of hp (fun c hc => (hcs c hc).1) nd hec']
    rw [e]
    exact List.pairwise_map.mpr order
end
end Lw
namespace Lw
open PySem L2 TL DcT
theorem keptP {σ : St} {H : Hp} {A S : Hp → Prop} (h : A H) : tYes σ H fun b H3 => if b = true then A H3 else S H3 := iteT (A := A H) (B := S H) h
/-! leading_paths -/
/-- a dict of paths, each with True -/
def ledK (k : List Int) : List Key × V := (k.map Sum.inl, V.bl true)
def addP (ds : List (List Int)) (k : List Int) : List (List Int) := if k ∈ ds then ds else ds ++ [k]
theorem addP_mem {ds : List (List Int)} {k z : List Int} : z ∈ addP ds k ↔ z ∈ ds ∨ z = k := by
  unfold addP
  split
  · rename_i h
    exact ⟨.inl, fun q => q.elim id fun e => e ▸ h⟩
  · rw [List.mem_append, List.mem_singleton]
theorem addP_len (ds : List (List Int)) (k : List Int) : (addP ds k).length ≤ ds.length + 1 := by
  unfold addP
  split
  · omega
  · rw [List.length_append] <;> exact Nat.le_refl _
theorem put_led (ds : List (List Int)) (k : List Int) : putK (ds.map ledK) (k.map Sum.inl) (.bl true) = (addP ds k).map ledK := by
  unfold addP
  by_cases h : k ∈ ds
  · rw [if_pos h]
    unfold putK
    rw [if_pos (List.any_eq_true.mpr ⟨ledK k, List.mem_map.mpr ⟨k, h, rfl⟩, decide_eq_true rfl⟩), List.map_map]
    refine List.map_congr_left fun z _ => ?_
    show (if (ledK z).1 = k.map Sum.inl then ((ledK z).1, V.bl true) else ledK z) = ledK z
    split <;> rfl
  · rw [if_neg h, put_new (fun p hp e => ?_), List.map_append]
    · rfl
    · obtain ⟨z, hz, rfl⟩ := List.mem_map.mp hp
      exact h (by rw [← inl_inj e]; exact hz)
theorem led_val (k : List Int) : ∀ ds : List (List Int), (valV (ds.map ledK) (k.map Sum.inl)).isSome = decide (k ∈ ds)
  | [] => rfl
  | d :: r => by
    rw [List.map_cons]
    by_cases e : d = k
    · rw [valV_pos (p := ledK d) (by show d.map Sum.inl = _; rw [e]), decide_eq_true (by rw [e]; exact List.mem_cons_self ..)]
      rfl
    · rw [valV_neg (p := ledK d) (fun z : d.map (Sum.inl : Int → Key) = _ => e (inl_inj z)), led_val k r]
      exact decide_eq_decide.mpr ⟨List.mem_cons_of_mem _, fun h => (List.mem_cons.mp h).resolve_left fun z => e z.symm⟩
def Lead (ps ds : List (List Int)) : Prop := ∀ k, k ∈ ds ↔ ∃ p ∈ ps, ∃ m, 1 ≤ m ∧ m ≤ p.length ∧ k = p.take m
theorem sIx_none (n d : Nat) : HT.sIx n d none = d := rfl
theorem sIx_nat (n d i : Nat) : HT.sIx n d (some (i : Int)) = min i n := by
  unfold HT.sIx
  simp only
  split
  · omega
  · omega
theorem cut_take (xs : List V) (i : Nat) (h : i ≤ xs.length) : cutV xs none (some (i : Int)) = xs.take i := by
  unfold cutV
  rw [sIx_nat, sIx_none, List.drop_zero, Nat.sub_zero, Nat.min_eq_left h]
abbrev s_leading_paths : Stmt := topS 33
abbrev n_leading_paths : List Str := ["paths", "path", "depth"]
theorem sc_leading_paths : FnScope n_leading_paths ["paths"] (defScope s_leading_paths) := ⟨rfl, rfl, rfl, by decide +kernel, rfl, by decide +kernel, by decide +kernel⟩
def spLead : Sp := fun vs H Q _ => ∃ (d : Addr) (kvs : List (List Key × V)) (ps : List (List Int)), vs = [.ref d] ∧ H d = some (.dT kvs) ∧ kvs.map (·.1) = ps.map (fun k => k.map Sum.inl) ∧ ps.length < 200 ∧ (∀ p ∈ ps, p.length ≤ 3) ∧
  ∀ (t : Addr) (ds : List (List Int)) (H' : Hp), Same H H' → H' t = some (.dT (ds.map ledK)) → Lead ps ds → Q (.ref t) H'
abbrev rLen (K : PySem.W.Frag) : List V → Hp → VK → Prop := fun xs H Q => ∃ p ys, xs = [.ref p] ∧ (SqL K H p ys ∨ SqT K H p ys) ∧ Q (.int ys.length) H
section
variable {P : Program} {w : World} {K : PySem.W.Frag} {mg : Str → Option Value} {base : Heap} {f : Addr} {fd : FuncData}
theorem ok_leading_paths (F : Fun K "leading_paths" "leading_paths" s_leading_paths f fd) (B : Bt mg) : FnOk P w K mg base CX0 1 f fd ["paths"] spLead := by
  refine F.ok sc_leading_paths (fun vs H Q E h => ?_) (fun cdv A outer s H vs Q E hr h => ?_)
  · obtain ⟨d, kvs, ps, rfl, _⟩ := h
    rfl
  obtain ⟨d, kvs, ps, rfl, hd, ek, h64, h3, q⟩ := h
  refine ⟨_, (pss_one (ps_ret (pe_lock (pe_dcT2 (own := [("path", 1), ("depth", 2)]) (vs1 := [2]) (g := gName 1) (g1 := gName 2) (tt := tYes) (tt1 := tYes) (wi1 := iRng2 (tCons (tC (.int 1)) (tCons (tOp (rI0 fun i j => .int (i + j)) (tCB (rLen K) (tCons (tVar 1) tNil)) (tC (.int 1))) tNil))) (tk := L2.tSl (rSlA K) (tVar 1) tNoPart (tPart (tVar 2))) (tv := tC (.bl true)) (room0 hr) rfl sc_leading_paths.nd (pi_keys (pv 0)) (blkOk_by (N := n_leading_paths) (sc := defScope s_leading_paths) (by decide +kernel)) (by decide)
    (fun _ _ _ _ _ => pg_name (i := 1) sc_leading_paths.nd rfl (Or.inl rfl)) (fun _ _ _ _ _ => pts_nil) (fun _ _ _ _ _ => pi_range2 (by rfl) B.range (pa_cons pe_int (pa_cons (pe_op op_add (pe_callB call_len_seq (by rfl) B.len PySem.boot_len (pa_cons (pv 1) pa_nil)) pe_int) pa_nil))) (fun _ _ _ _ _ => pg_name (i := 2) sc_leading_paths.nd rfl (Or.inl rfl)) (fun _ _ _ _ _ => pts_nil) (fun _ _ _ _ _ => pe_slice sl_tupA (pv 1) po_none (po_some (pv 2))) (fun _ _ _ _ _ => pe_bl))))), ?_⟩
  refine ⟨d, .dT kvs, hd, trivial, fun od => ?_⟩
  have hdl : upd H d (.frz od (.dT kvs)) d = some (.frz od (.dT kvs)) := upd_same
  have hback : ∀ {H' : Hp}, Same (upd H d (.frz od (.dT kvs))) H' → Same H (upd H' d (.dT kvs)) := fun {H'} g => unlock_same hd g
  generalize upd H d (.frz od (.dT kvs)) = Hl at hdl hback ⊢
  have kl : kvs.length = ps.length := by
    have e := congrArg List.length ek
    rw [List.length_map, List.length_map] at e
    exact e
  refine ⟨_, rfl, d, od, rfl, .inr ⟨_, hdl, fun D hD => ?_⟩⟩
  have gD := same_new hD (.dT [])
  refine DcT.dcT2_it (walk_keysT (d := d) (o := od) (kvs := kvs)) (fun i H' => ∃ ds : List (List Int), H' D = some (.dT (ds.map ledK)) ∧ Lead (ps.take i) ds ∧ ds.length ≤ 3 * i ∧ Same Hl H') ⟨[], upd_same, fun k => ⟨fun h => (by cases h), fun ⟨p, hp, _⟩ => (by simp at hp)⟩, Nat.zero_le _, gD⟩ (fun i H' _ ⟨_, _, _, _, g⟩ => g _ _ hdl) (fun i x H1 H2 hi hv hy => ?_) ?_
  · obtain ⟨rfl, k, v, qa, ekv, rfl, hq⟩ := hy
    obtain ⟨ds, v1, v2, v3, v4⟩ := hv
    have il : i < ps.length := by omega
    have ep := List.getElem?_eq_getElem il
    generalize ps[i] = p at ep
    have pm := List.mem_of_getElem? ep
    have p3 := h3 p pm
    have ekp : k = p.map Sum.inl := by
      have z : (kvs.map (·.1))[i]? = some k := by rw [List.getElem?_map, ekv] <;> rfl
      rw [ek, List.getElem?_map, ep] at z
      exact (Option.some.inj z).symm
    rw [ekp, keyI] at hq
    refine ⟨rfl, keptP ?_⟩
    have pl : (p.map V.int).length = p.length := List.length_map _
    refine ⟨_, rfl, qa, _, rfl, .inr (SqT.of hq), _, _, rfl, rfl, _, _, rfl, ⟨by omega, by omega, by omega, by omega⟩, ?_⟩
    have ej : (((p.map V.int).length : Nat) + 1 - 1 : Int).toNat = p.length := by omega
    rw [ej]
    refine DcT.in2T_it (walk_range (lo := 1) (n := p.length)) (fun j H' => ∃ ds' : List (List Int), H' D = some (.dT (ds'.map ledK)) ∧ (∀ k, k ∈ ds' ↔ k ∈ ds ∨ ∃ m, 1 ≤ m ∧ m ≤ j ∧ k = p.take m) ∧ ds'.length ≤ ds.length + j ∧ Same Hl H' ∧ H' qa = some (.tup (p.map V.int))) ⟨ds, v1, fun k => ⟨.inl, fun h => h.elim id fun ⟨m, h1, h2, _⟩ => absurd h1 (by omega)⟩, Nat.le_refl _, v4, hq⟩ (fun _ _ _ _ => trivial) (fun j y H3 H4 hj hv3 hy3 => ?_) ?_
    · obtain ⟨rfl, hy3⟩ := hy3
      have hy3 : y = .int (1 + (j : Int)) := hy3
      rw [show (1 + (j : Int)) = ((j + 1 : Nat) : Int) by omega] at hy3
      subst hy3
      obtain ⟨ds', u1, u2, u3, u4, hq4⟩ := hv3
      have lt : j + 1 ≤ (p.map V.int).length := by omega
      have step : ∀ (b : Addr) (H5 : Hp), Same H4 H5 → H5 b = some (.tup ((p.take (j + 1)).map V.int)) → ∃ H9, DPut H5 D (.ref b) (.bl true) H9 ∧ ∃ ds' : List (List Int), H9 D = some (.dT (ds'.map ledK)) ∧ (∀ k, k ∈ ds' ↔ k ∈ ds ∨ ∃ m, 1 ≤ m ∧ m ≤ j + 1 ∧ k = p.take m) ∧ ds'.length ≤ ds.length + (j + 1) ∧ Same Hl H9 ∧ H9 qa = some (.tup (p.map V.int)) := fun b H5 g5 hb => by
        refine ⟨_, DPut.t (k := (p.take (j + 1)).map Sum.inl) (g5 _ _ u1) (by rw [keyI]; exact hb) (by rw [List.length_map]; exact small1000 (by omega)), addP ds' (p.take (j + 1)), by rw [upd_same, put_led], fun k => ?_, ?_, same_over (u4.trans g5) hD _, by rw [upd_ne (fun z => by rw [z, u1] at hq4; cases hq4)]; exact g5 _ _ hq4⟩
        · rw [addP_mem, u2 k]
          constructor
          · rintro ((h | ⟨m, m1, m2, e⟩) | e)
            · exact .inl h
            · exact .inr ⟨m, m1, by omega, e⟩
            · exact .inr ⟨j + 1, by omega, Nat.le_refl _, e⟩
          · rintro (h | ⟨m, m1, m2, e⟩)
            · exact .inl (.inl h)
            · by_cases c : m = j + 1
              · exact .inr (by rw [e, c])
              · exact .inl (.inr ⟨m, m1, by omega, e⟩)
        · have := addP_len ds' (p.take (j + 1))
          omega
      refine ⟨rfl, kept ⟨_, rfl, _, rfl, _, rfl, qa, _, rfl, SqT.of hq4, fun whole => ?_, fun _ b hb => ?_⟩⟩
      · have z := whole.2
        rw [sIx_nat, Nat.min_eq_left lt] at z
        have e : p.take (j + 1) = p := List.take_of_length_le (by omega)
        exact step qa H4 (Same.refl _) (by rw [e]; exact hq4)
      · rw [cut_take _ _ lt, ← List.map_take]
        exact step b _ (same_new hb _) upd_same
    · rintro H3 ⟨ds', u1, u2, u3, u4, _⟩
      refine ⟨ds', u1, fun k => ?_, by omega, u4⟩
      rw [u2 k, v2 k, List.take_succ, ep]
      constructor
      · rintro (⟨p', hp', m, m1, m2, e⟩ | ⟨m, m1, m2, e⟩)
        · exact ⟨p', List.mem_append.mpr (.inl hp'), m, m1, m2, e⟩
        · exact ⟨p, List.mem_append.mpr (.inr (List.mem_singleton.mpr rfl)), m, m1, m2, e⟩
      · rintro ⟨p', hp', m, m1, m2, e⟩
        rcases List.mem_append.mp hp' with hp' | hp'
        · exact .inl ⟨p', hp', m, m1, m2, e⟩
        · rw [List.mem_singleton.mp hp'] at m2 e
          exact .inr ⟨m, m1, m2, e⟩
  rintro H1 ⟨ds, v1, v2, v3, v4⟩
  rw [kl, List.take_length] at v2
  have hd1 := v4 _ _ hdl
  exact ⟨hd1, q D ds _ (hback v4) (unlock_ne hd1 v1 (fun e => by cases e)) v2⟩
end
end Lw
namespace Lw
open PySem L2 TL
/-! a comprehension of two clauses over walks -/
section
variable {J : It} {n : Nat} {G : Hp → Prop} {Y : Nat → Hp → V → Hp → Prop}
/-- the inner loop's due -/
abbrev In2 (J1 : It) (g1 : TG) (tt1 : TT) (te : TE) (vs1 : List Nat) (σ2 : St) (D : Addr) (Nx : Hp → Prop) (H4 : Hp) : Prop := ∃ W1 : Nat → Nat → Hp → Prop, (∃ m, W1 0 m H4) ∧ ∀ j k H, W1 j k H →
  (J1.stop j H ∧ Nx H) ∨ (J1.go j H ∧ ∃ Nx1 : Hp → Prop, (∀ H', Nx1 H' → ∃ k', k' < k ∧ W1 (j + 1) k' H') ∧ ∀ x H', J1.yld j H x H' → g1 x (wipe σ2 vs1) H' fun σ3 H5 => wipe σ3 vs1 = wipe σ2 vs1 ∧ tt1 σ3 H5 fun b H6 =>
    if b = true then te σ3 H6 fun y H7 => ∃ acc, H7 D = some (.lst acc) ∧ acc.length < sizeLine ∧ Nx1 (upd H7 D (.lst (acc ++ [y]))) else Nx1 H6)
theorem in2_it (w : Walk J n G Y) {g1 : TG} {tt1 : TT} {te : TE} {vs1 : List Nat} {σ2 : St} {H4 : Hp} {D : Addr} {Nx : Hp → Prop} (Pv : Nat → Hp → Prop) (h0 : Pv 0 H4) (hG : ∀ i H, i ≤ n → Pv i H → G H)
    (hs : ∀ i x H H', i < n → Pv i H → Y i H x H' → g1 x (wipe σ2 vs1) H' fun σ3 H5 => wipe σ3 vs1 = wipe σ2 vs1 ∧ tt1 σ3 H5 fun b H6 =>
      if b = true then te σ3 H6 fun y H7 => ∃ acc, H7 D = some (.lst acc) ∧ acc.length < sizeLine ∧ Pv (i + 1) (upd H7 D (.lst (acc ++ [y]))) else Pv (i + 1) H6) (hd : ∀ H, Pv n H → Nx H) : In2 J g1 tt1 te vs1 σ2 D Nx H4 := by
  refine ⟨fun i m H => m = n - i ∧ i ≤ n ∧ Pv i H, ⟨n, by simp, Nat.zero_le _, h0⟩, ?_⟩
  rintro i m H ⟨rfl, hi, p⟩
  have q := hG i H hi p
  by_cases hlt : i < n
  · refine .inr ⟨w.goes i H hlt q, Pv (i + 1), fun H' p' => ⟨n - (i + 1), by omega, rfl, hlt, p'⟩, fun x H' y => hs i x H H' hlt p (w.yields i H x H' hlt q y)⟩
  · have e : i = n := by omega
    subst e
    exact .inl ⟨w.stops H q, hd H p⟩
theorem out2_it (w : Walk J n G Y) {g : TG} {tt : TT} {wi1 : TI} {g1 : TG} {tt1 : TT} {te : TE} {vs vs1 : List Nat} {σ : St} {H1 : Hp} {D : Addr} {Qd : Hp → Prop} (Pv : Nat → Hp → Prop) (h0 : Pv 0 (upd H1 D (.lst []))) (hG : ∀ i H, i ≤ n → Pv i H → G H)
    (hs : ∀ i x H H', i < n → Pv i H → Y i H x H' → g x (wipe σ vs) H' fun σ2 H2 => wipe σ2 vs = wipe σ vs ∧ tt σ2 H2 fun b H3 =>
      if b = true then wi1 σ2 H3 fun J1 H4 => In2 J1 g1 tt1 te vs1 σ2 D (Pv (i + 1)) H4 else Pv (i + 1) H3) (hd : ∀ H, Pv n H → Qd H) :
    ∃ W : Nat → Nat → Hp → Prop, (∃ m, W 0 m (upd H1 D (.lst []))) ∧ ∀ i m H, W i m H →
      (J.stop i H ∧ Qd H) ∨ (J.go i H ∧ ∃ Nx : Hp → Prop, (∀ H', Nx H' → ∃ m', m' < m ∧ W (i + 1) m' H') ∧ ∀ x H', J.yld i H x H' → g x (wipe σ vs) H' fun σ2 H2 => wipe σ2 vs = wipe σ vs ∧ tt σ2 H2 fun b H3 =>
        if b = true then wi1 σ2 H3 fun J1 H4 => In2 J1 g1 tt1 te vs1 σ2 D Nx H4 else Nx H3) := by
  refine ⟨fun i m H => m = n - i ∧ i ≤ n ∧ Pv i H, ⟨n, by simp, Nat.zero_le _, h0⟩, ?_⟩
  rintro i m H ⟨rfl, hi, p⟩
  have q := hG i H hi p
  by_cases hlt : i < n
  · refine .inr ⟨w.goes i H hlt q, Pv (i + 1), fun H' p' => ⟨n - (i + 1), by omega, rfl, hlt, p'⟩, fun x H' y => hs i x H H' hlt p (w.yields i H x H' hlt q y)⟩
  · have e : i = n := by omega
    subst e
    exact .inl ⟨w.stops H q, hd H p⟩
end
end Lw
namespace Lw
open PySem L2 TL DcT
theorem dstr (a b : Str) : decide (V.str a = V.str b) = decide (a = b) := decide_eq_decide.mpr ⟨fun e => by injection e, fun e => by rw [e]⟩
/-! row_below -/
/-- the coordinates below a path -/
def rowD (kind : Str) (n : Nat) (path : List Int) (ds : List (List Int)) : List Int := if kind = "dense" then iota n else (iota n).filter fun c => decide (path ++ [c] ∈ ds)
theorem rowD_len (kind : Str) (n : Nat) (path : List Int) (ds : List (List Int)) : (rowD kind n path ds).length ≤ n := by
  unfold rowD
  split
  · rw [iota_len] <;> exact Nat.le_refl _
  · have := List.length_filter_le (fun c => decide (path ++ [c] ∈ ds)) (iota n)
    rw [iota_len] at this
    exact this
/-- a comprehension with a test, over data -/
def InvF {α : Type} (H0 : Hp) (D : Addr) (f : α → V) (p : α → Bool) (zs : List α) (i : Nat) (H : Hp) : Prop := H D = some (.lst (((zs.take i).filter p).map f)) ∧ Same H0 H
theorem InvF.no {α : Type} {H0 H : Hp} {D : Addr} {f : α → V} {p : α → Bool} {zs : List α} {i : Nat} {z : α} (h : InvF H0 D f p zs i H) (e : zs[i]? = some z) (hp : p z = false) : InvF H0 D f p zs (i + 1) H := by
  refine ⟨?_, h.2⟩
  rw [h.1, List.take_succ, e, List.filter_append]
  show _ = some (HO.lst (List.map f (_ ++ List.filter p [z])))
  rw [List.filter_cons, hp]
  show _ = some (HO.lst (List.map f (_ ++ [])))
  rw [List.append_nil]
theorem InvF.yes {α : Type} {H0 H H' : Hp} {D : Addr} {f : α → V} {p : α → Bool} {zs : List α} {i : Nat} {z : α} (hd : H0 D = none) (g : Same H0 H') (e : zs[i]? = some z) (hp : p z = true) : InvF H0 D f p zs (i + 1) (upd H' D (.lst (((zs.take i).filter p).map f ++ [f z]))) := by
  refine ⟨?_, same_over g hd _⟩
  rw [upd_same, List.take_succ, e, List.filter_append]
  show _ = some (HO.lst (List.map f (_ ++ List.filter p [z])))
  rw [List.filter_cons, hp, List.map_append]
  rfl
theorem InvF.len {α : Type} {f : α → V} {p : α → Bool} {zs : List α} {i : Nat} (h : zs.length ≤ 1000) : (((zs.take i).filter p).map f).length < sizeLine := by
  rw [List.length_map]
  have := List.length_filter_le p (zs.take i)
  rw [List.length_take] at this
  exact small1000 (by omega)
theorem iota_at {n i : Nat} (h : i < n) : (iota n)[i]? = some (i : Int) := by
  unfold iota
  rw [List.getElem?_map, List.getElem?_range h] <;> rfl
abbrev s_row_below : Stmt := topS 32
abbrev n_row_below : List Str := ["kind", "size", "path", "leading", "c"]
theorem sc_row_below : FnScope n_row_below ["kind", "size", "path", "leading"] (defScope s_row_below) := ⟨rfl, rfl, rfl, by decide +kernel, rfl, by decide +kernel, by decide +kernel⟩
def spRow (K : PySem.W.Frag) : Sp := fun vs H Q _ => ∃ (kind : Str) (n : Nat) (p d : Addr) (path : List Int) (ds : List (List Int)), vs = [.str kind, .int (n : Nat), .ref p, .ref d] ∧ n ≤ 900 ∧ SqT K H p (path.map V.int) ∧ path.length ≤ 100 ∧ H d = some (.dT (ds.map ledK)) ∧
  ∀ (t : Addr) (H' : Hp), Same H H' → H t = none → H' t = some (.lst ((rowD kind n path ds).map V.int)) → Q (.ref t) H'
section
variable {P : Program} {w : World} {K : PySem.W.Frag} {mg : Str → Option Value} {base : Heap} {f : Addr} {fd : FuncData}
theorem ok_row_below (F : Fun K "row_below" "row_below" s_row_below f fd) (B : Bt mg) : FnOk P w K mg base CX0 1 f fd ["kind", "size", "path", "leading"] (spRow K) := by
  refine F.ok sc_row_below (fun vs H Q E h => ?_) (fun cdv A outer s H vs Q E hr h => ?_)
  · obtain ⟨kind, n, p, d, path, ds, rfl, _⟩ := h
    rfl
  obtain ⟨kind, n, p, d, path, ds, rfl, hn, hp, hpl, hd, q⟩ := h
  refine ⟨_, (pss_cons (ps_if (pt_cmpR op_eq (pv 0) pe_str (nomark _)) (pss_one (ps_ret (pe_listRg rfl (by rfl) B.lst (prg_1 (by rfl) B.range (pv 1))))) pss_nil)
(pss_one (ps_ret (pe_lc (own := [("c", 4)]) (g := gName 4) (tt := tB (tDIn (tTup (StX.tStar K (tVar 2) (tCons (tVar 4) tNil))) (tVar 3))) (te := tVar 4) rfl sc_row_below.nd (pi_range1 (by rfl) B.range (pa_cons (pv 1) pa_nil)) (blkOk_by (N := n_row_below) (sc := defScope s_row_below) (by decide +kernel)) (fun _ _ _ _ _ => pg_name (i := 4) sc_row_below.nd rfl (Or.inl rfl)) (fun _ _ _ _ _ => pts_one (pt_cmp (pc_din (hu_of hr) (pe_tup (StX.pa_star (pv 2) (pa_cons (pv 4) pa_nil))) (pv 3)))) (fun _ _ _ _ _ => pv 4))))), ?_⟩
  refine ⟨_, rfl, rfl, _, rfl, ite2 (fun c => ?_) (fun c => ?_)⟩
  · have e : kind = "dense" := by
      have z := of_decide_eq_true c
      injection z
    refine ⟨_, rfl, (n : Int), rfl, RgOk.of_le (by decide) (by omega) (by decide) (by omega), fun t ht => ?_⟩
    rw [rg_iota]
    refine q t _ (same_new ht _) ht ?_
    unfold rowD
    rw [if_pos e, upd_same]
  · have e : ¬ kind = "dense" := fun e => c (by rw [e]; exact decide_eq_true rfl)
    refine ⟨_, rfl, (n : Int), rfl, by omega, by omega, fun D hD => ?_⟩
    rw [Int.toNat_natCast]
    refine lc_it (walk_range (lo := 0) (n := n)) (InvF H D V.int (fun c => decide (path ++ [c] ∈ ds)) (iota n)) ⟨upd_same, same_new hD _⟩ (fun _ _ _ _ => trivial) (fun i y H1 H2 hi hv hy => ?_) ?_
    · obtain ⟨rfl, hy⟩ := hy
      have hy : y = .int (0 + (i : Int)) := hy
      rw [Int.zero_add] at hy
      subst hy
      have ei := iota_at hi
      refine ⟨rfl, _, rfl, p, _, rfl, .inl (seqT hv.2 hp), _, rfl, ?_, fun t ht => ?_⟩
      · rw [List.length_append, List.length_map]
        exact Nat.le_trans (show _ ≤ 1000 by show path.length + 1 ≤ 1000; omega) (by decide)
      have gt := same_new ht (.tup (path.map V.int ++ [.int (i : Nat)]))
      have hv3 : InvF H D V.int (fun c => decide (path ++ [c] ∈ ds)) (iota n) i (upd H2 t (.tup (path.map V.int ++ [.int (i : Nat)]))) := ⟨gt _ _ hv.1, hv.2.trans gt⟩
      have get := DGet.t (k := (path ++ [(i : Int)]).map Sum.inl) (hv3.2 _ _ hd) (b := t) (by rw [keyI, List.map_append]; exact upd_same)
      refine ⟨_, rfl, d, _, rfl, get, _, rfl, ?_⟩
      rw [led_val]
      by_cases hm : path ++ [(i : Int)] ∈ ds
      · rw [decide_eq_true hm]
        exact iteT ⟨_, rfl, _, hv3.1, InvF.len (by rw [iota_len]; omega), InvF.yes (f := V.int) (H := H) hD hv3.2 ei (decide_eq_true hm)⟩
      · rw [decide_eq_false hm]
        exact iteF (hv3.no ei (decide_eq_false hm))
    rintro H1 ⟨hD1, g1⟩
    rw [List.take_of_length_le (by rw [iota_len]; exact Nat.le_refl _)] at hD1
    refine q D H1 g1 hD ?_
    unfold rowD
    rw [if_neg e]
    exact hD1
end
theorem snoc2 {α β : Type} {us : List α} {rs : List β} {R : Nat → α → β → Prop} (hl : us.length = rs.length) (h : ∀ (i : Nat) (u : α) (r : β), us[i]? = some u → rs[i]? = some r → R i u r) {a : α} {b : β} (hab : R us.length a b) :
    ∀ (i : Nat) (u : α) (r : β), (us ++ [a])[i]? = some u → (rs ++ [b])[i]? = some r → R i u r := fun i u r e1 e2 => by
  by_cases c : i < us.length
  · rw [List.getElem?_append_left c] at e1
    rw [List.getElem?_append_left (by omega)] at e2
    exact h i u r e1 e2
  · have e : i = us.length := by
      have z := (List.getElem?_eq_some_iff.mp e1).1
      rw [List.length_append, List.length_singleton] at z
      omega
    subst e
    rw [List.getElem?_append_right (Nat.le_refl _), Nat.sub_self] at e1
    rw [hl, List.getElem?_append_right (Nat.le_refl _), Nat.sub_self] at e2
    cases e1
    cases e2
    exact hab
/-! buckets_of -/
def rTupOf (K : PySem.W.Frag) : List V → Hp → VK → Prop := fun xs H Q => ∃ p ys, xs = [V.ref p] ∧ ((SqL K H p ys ∧ ∀ l, H l = none → Q (V.ref l) (upd H l (HO.tup ys))) ∨ (SqT K H p ys ∧ Q (V.ref p) H))
def prsT (rs : List (List Int)) (i : Nat) : List (Nat × Int) := ((List.range i).map fun u => (rs.getD u []).map fun c => (u, c)).flatten
theorem prsT_next {rs : List (List Int)} {i : Nat} {r : List Int} (e : rs[i]? = some r) : prsT rs (i + 1) = prsT rs i ++ r.map fun c => (i, c) := by
  unfold prsT
  rw [List.range_succ, List.map_append, List.flatten_append]
  congr 1
  show List.flatten [(rs.getD i []).map fun c => (i, c)] = _
  rw [List.flatten_cons, List.flatten_nil, List.append_nil, List.getD_eq_getElem?_getD, e] <;> rfl
theorem prsT_len (rs : List (List Int)) : ∀ i, i ≤ rs.length → (prsT rs i).length = (rs.take i).flatten.length
  | 0, _ => by rw [List.take_zero] <;> rfl
  | i + 1, h => by
    have e := List.getElem?_eq_getElem (l := rs) (i := i) (by omega)
    rw [prsT_next e, List.length_append, prsT_len rs i (by omega), List.length_map, List.take_succ, e, List.flatten_append, List.length_append]
    congr 1
    show _ = (List.flatten [rs[i]]).length
    rw [List.flatten_cons, List.flatten_nil, List.append_nil]
theorem prsT_mem {rs : List (List Int)} {p : Nat × Int} : ∀ i, i ≤ rs.length → p ∈ prsT rs i → p.1 < i ∧ ∃ r ∈ rs, p.2 ∈ r
  | 0, _, h => by cases h
  | i + 1, hi, h => by
    have e := List.getElem?_eq_getElem (l := rs) (i := i) (by omega)
    rw [prsT_next e] at h
    rcases List.mem_append.mp h with h | h
    · obtain ⟨a, b⟩ := prsT_mem i (by omega) h
      exact ⟨by omega, b⟩
    · obtain ⟨c, hc, rfl⟩ := List.mem_map.mp h
      exact ⟨Nat.lt_succ_self _, rs[i], List.getElem_mem _, hc⟩
def inB (ps : List (Nat × Int)) (b p : Nat) : Bool := decide ((((ps.getD p (0, 0)).1 : Int) * 3 + (ps.getD p (0, 0)).2) % 8 = (b : Int))
def entP (ps : List (Nat × Int)) (p : Nat) : Nat × Int × Nat := ((ps.getD p (0, 0)).1, (ps.getD p (0, 0)).2, p)
/-- a bucket's entries among the first n pairs -/
def bktT (ps : List (Nat × Int)) (n b : Nat) : List (Nat × Int × Nat) := ((List.range n).filter (inB ps b)).map (entP ps)
theorem bktT_next {ps : List (Nat × Int)} {p b u : Nat} {c : Int} (e : ps[p]? = some (u, c)) : bktT ps (p + 1) b = bktT ps p b ++ if ((u : Int) * 3 + c) % 8 = (b : Int) then [(u, c, p)] else [] := by
  have eg : ps.getD p (0, 0) = (u, c) := by rw [List.getD_eq_getElem?_getD, e] <;> rfl
  unfold bktT
  rw [List.range_succ, List.filter_append, List.map_append]
  congr 1
  have ei : inB ps b p = decide (((u : Int) * 3 + c) % 8 = (b : Int)) := by
    unfold inB
    rw [eg]
  by_cases h : ((u : Int) * 3 + c) % 8 = (b : Int)
  · rw [if_pos h, List.filter_cons, ei, decide_eq_true h]
    show [entP ps p] = _
    unfold entP
    rw [eg]
  · rw [if_neg h, List.filter_cons, ei, decide_eq_false h] <;> rfl
theorem bktT_len (ps : List (Nat × Int)) (n b : Nat) : (bktT ps n b).length ≤ n := by
  unfold bktT
  rw [List.length_map]
  have := List.length_filter_le (inB ps b) (List.range n)
  rw [List.length_range] at this
  exact this
def trip (p : Nat × Int × Nat) : List V := [.int (p.1 : Nat), .int p.2.1, .int (p.2.2 : Nat)]
/-- tuples of such data -/
def TupT {α : Type} (f : α → List V) (K : PySem.W.Frag) (H : Hp) (us : List V) (ts : List α) : Prop := us.length = ts.length ∧ ∀ (i : Nat) (u : V) (t : α), us[i]? = some u → ts[i]? = some t → ∃ a, u = .ref a ∧ SqT K H a (f t)
theorem TupT.mono {α : Type} {f : α → List V} {K : PySem.W.Frag} {H H' : Hp} {us : List V} {ts : List α} (g : TK K H H') (h : TupT f K H us ts) : TupT f K H' us ts := ⟨h.1, fun i u t e1 e2 => (h.2 i u t e1 e2).elim fun a q => ⟨a, q.1, g _ _ q.2⟩⟩
theorem TupT.snoc {α : Type} {f : α → List V} {K : PySem.W.Frag} {H : Hp} {us : List V} {ts : List α} (h : TupT f K H us ts) {a : Addr} {t : α} (ha : SqT K H a (f t)) : TupT f K H (us ++ [.ref a]) (ts ++ [t]) :=
  ⟨by rw [List.length_append, List.length_append, h.1] <;> rfl, snoc2 (R := fun _ u t => ∃ a, u = V.ref a ∧ SqT K H a (f t)) h.1 h.2 ⟨a, rfl, ha⟩⟩
theorem TupT.nil {α : Type} {f : α → List V} {K : PySem.W.Frag} {H : Hp} : TupT f K H [] [] := ⟨rfl, fun i u t e _ => by cases e⟩
/-- eight buckets -/
def BksAt (K : PySem.W.Frag) (H : Hp) (bt : Addr) (rs : List (List Int)) : Prop := ∃ bs : List V, SqT K H bt bs ∧ bs.length = 8 ∧ ∀ (b : Nat) (v : V), bs[b]? = some v → ∃ (a : Addr) (es : List V), v = .ref a ∧ SqT K H a es ∧ TupT trip K H es (bktT (prsT rs rs.length) (prsT rs rs.length).length b)
theorem BksAt.mono {K : PySem.W.Frag} {H H' : Hp} (g : TK K H H') {bt : Addr} {rs : List (List Int)} : BksAt K H bt rs → BksAt K H' bt rs
  | ⟨bs, h1, h2, h3⟩ => ⟨bs, g _ _ h1, h2, fun b v e => (h3 b v e).elim fun a q => q.elim fun es q => ⟨a, es, q.1, g _ _ q.2.1, q.2.2.mono g⟩⟩
abbrev s_buckets_of : Stmt := topS 29
abbrev n_buckets_of : List Str := ["rows", "buckets", "number", "pairs", "upper", "row", "c", "place", "bucket"]
theorem sc_buckets_of : FnScope n_buckets_of ["rows"] (defScope s_buckets_of) := ⟨rfl, rfl, rfl, by decide +kernel, rfl, by decide +kernel, by decide +kernel⟩
def spBks (K : PySem.W.Frag) : Sp := fun vs H Q _ => ∃ (r : Addr) (us : List V) (rs : List (List Int)), vs = [.ref r] ∧ H r = some (.lst us) ∧ RowsAt H us rs ∧ rs.length ≤ 900 ∧ rs.flatten.length ≤ 900 ∧ (∀ r ∈ rs, ∀ c ∈ r, 0 ≤ c ∧ c ≤ 100) ∧
  ∀ (bt : Addr) (H' : Hp), Same H H' → BksAt K H' bt rs → Q (.ref bt) H'
def prV (p : Nat × Int) : List V := [.int (p.1 : Nat), .int p.2]
section
variable {P : Program} {w : World} {K : PySem.W.Frag} {mg : Str → Option Value} {base : Heap} {f : Addr} {fd : FuncData}
theorem ok_buckets_of {t8 : Tok} (F : Fun K "buckets_of" "buckets_of" s_buckets_of f fd) (B : Bt mg) (zE : mg "enumerate" = none) (m8 : mg "BUCKETS" = some (.int 8 t8)) (cB : Ca P w K mg base 1 "bucket_number" ["upper", "coordinate"] spBuck) : FnOk P w K mg base CX0 2 f fd ["rows"] (spBks K) := by
  refine F.ok sc_buckets_of (fun vs H Q E h => ?_) (fun cdv A outer s H vs Q E hr h => ?_)
  · obtain ⟨r, us, rs, rfl, _⟩ := h
    rfl
  obtain ⟨r, us, rs, rfl, hr1, hrs, hl, hfl, hc, q⟩ := h
  refine ⟨_, (pss_cons (ps_setLc (i := 1) (own := [("number", 2)]) (g := (gName 2)) (tt := tYes) (te := tLst tNil) rfl sc_buckets_of.nd rfl rfl (sw_true rfl rfl rfl (by decide +kernel)) (pi_range1 (by rfl) B.range (pa_cons (pe_glob (v := .int 8) (by rfl) m8 ⟨_, rfl⟩) pa_nil)) (blkOk_by (N := n_buckets_of) (sc := defScope s_buckets_of) (by decide +kernel)) (fun _ _ _ _ _ => (pg_name (i := 2) sc_buckets_of.nd rfl (Or.inl rfl))) (fun _ _ _ _ _ => pts_nil) (fun _ _ _ _ _ => (pe_lst pa_nil)))
(pss_cons (ps_setLc2 (i := 3) (own := [("upper", 4), ("row", 5), ("c", 6)]) (vs1 := [6]) (g := (gTup K 2 (gCons (gName 4) (gCons (gName 5) gNil)))) (g1 := (gName 6)) (tt := tYes) (tt1 := tYes) (wi1 := iList K (tVar 5)) (te := tTup (tCons (tVar 4) (tCons (tVar 6) tNil))) rfl sc_buckets_of.nd rfl rfl (sw_true rfl rfl rfl (by decide +kernel)) (pi_enum (by rfl) zE (pa_cons (pv 0) pa_nil)) (blkOk_by (N := n_buckets_of) (sc := defScope s_buckets_of) (by decide +kernel)) (by decide) (fun _ _ _ _ _ => (pg_tup rfl (pgs_cons (pg_name (i := 4) sc_buckets_of.nd rfl (Or.inl rfl)) (pgs_cons (pg_name (i := 5) sc_buckets_of.nd rfl (Or.inl rfl)) pgs_nil)))) (fun _ _ _ _ _ => pts_nil) (fun _ _ _ _ _ => (pi_list (pv 5))) (fun _ _ _ _ _ => (pg_name (i := 6) sc_buckets_of.nd rfl (Or.inl rfl))) (fun _ _ _ _ _ => pts_nil) (fun _ _ _ _ _ => (pe_tup (pa_cons (pv 4) (pa_cons (pv 6) pa_nil)))))
(pss_cons (ps_for PassesOwn.never rfl (pi_enum (by rfl) zE (pa_cons (pv 3) pa_nil)) (pg_tup rfl (pgs_cons (pg_name (i := 7) sc_buckets_of.nd rfl (Or.inl rfl)) (pgs_cons (pg_tup rfl (pgs_cons (pg_name (i := 4) sc_buckets_of.nd rfl (Or.inl rfl)) (pgs_cons (pg_name (i := 6) sc_buckets_of.nd rfl (Or.inl rfl)) pgs_nil))) pgs_nil)))
(pss_one (ps_expr (pe_bm PySem.F.plainAttrs_list PySem.F.slot_list_append PySem.F.type_list_append mt_append (pe_ix ix_list (pv 1) (pca cB hr (by decide) rfl (pa_cons (pv 4) (pa_cons (pv 6) pa_nil))) (fun _ _ => rfl)) (pa_cons (pe_tup (pa_cons (pv 4) (pa_cons (pv 6) (pa_cons (pv 7) pa_nil)))) pa_nil)))))
(pss_one (ps_ret (pe_callTy call_tuple_of (by rfl) B.tup (by decide +kernel) (pa_cons (pe_lc (own := [("bucket", 8)]) (g := (gName 8)) (tt := tYes) (te := tCB (rTupOf K) (tCons (tVar 8) tNil)) rfl sc_buckets_of.nd (pi_list (pv 1)) (blkOk_by (N := n_buckets_of) (sc := defScope s_buckets_of) (by decide +kernel)) (fun _ _ _ _ _ => (pg_name (i := 8) sc_buckets_of.nd rfl (Or.inl rfl))) (fun _ _ _ _ _ => pts_nil) (fun _ _ _ _ _ => (pe_callTy call_tuple_of (by rfl) B.tup (by decide +kernel) (pa_cons (pv 8) pa_nil)))) pa_nil))))))), ?_⟩
  -- eight lists
  refine ⟨8, rfl, by decide, by decide, fun D hD => ?_⟩
  refine lc_it (walk_range (lo := 0) (n := 8)) (fun i H' => ∃ as : List Addr, H' D = some (.lst (as.map V.ref)) ∧ as.length = i ∧ as.Nodup ∧ (∀ a ∈ as, H a = none ∧ a ≠ D ∧ H' a = some (.lst [])) ∧ Same H H') ⟨[], upd_same, rfl, List.nodup_nil, (fun a ha => by cases ha), same_new hD _⟩ (fun _ _ _ _ => trivial) (fun i y H1 H2 hi hv hy => ?_) ?_
  · obtain ⟨rfl, hy⟩ := hy
    obtain ⟨as, a1, a2, a3, a4, a5⟩ := hv
    refine ⟨rfl, kept ⟨(by show 0 ≤ sizeLine; decide), fun t ht => ?_⟩⟩
    have gt := same_new ht (.lst [])
    have a1t := gt _ _ a1
    have ntD : t ≠ D := (ne_of_none a1 ht).symm
    refine ⟨_, a1t, by rw [List.length_map]; exact small1000 (by omega), as ++ [t], by rw [upd_same, List.map_append] <;> rfl, by rw [List.length_append, a2] <;> rfl, ?_, fun a ha => ?_, same_over (a5.trans gt) hD _⟩
    · refine List.nodup_append.mpr ⟨a3, by simp, fun x hx y hy => ?_⟩
      rw [List.mem_singleton.mp hy]
      rintro rfl
      rw [(a4 _ hx).2.2] at ht
      cases ht
    · rcases List.mem_append.mp ha with ha | ha
      · obtain ⟨b1, b2, b3⟩ := a4 a ha
        exact ⟨b1, b2, by rw [upd_ne b2]; exact gt _ _ b3⟩
      · rw [List.mem_singleton.mp ha]
        exact ⟨a5.free ht, ntD, by rw [upd_ne ntD]; exact upd_same⟩
  rintro H1 ⟨as, a1, a2, a3, a4, a5⟩
  -- pairs
  refine ⟨_, rfl, r, us, rfl, SqL.of (a5 _ _ hr1), fun M hM => ?_⟩
  refine out2_it (walk_enum (K := K) (a := r) (xs := us)) (fun i H' => ∃ ms : List V, H' M = some (.lst ms) ∧ TupT prV K H' ms (prsT rs i) ∧ Same H1 H') ⟨[], upd_same, TupT.nil, same_new hM _⟩ (fun i H' _ ⟨_, _, _, g⟩ => SqL.of ((a5.trans g) _ _ hr1)) (fun i y H2 H3 hi hv hy => ?_) ?_
  · obtain ⟨ms, m1, m2, m3⟩ := hv
    obtain ⟨U, x1, y1, rfl, hU, rfl, ex, ey⟩ := hy
    cases ex
    have hir : i < rs.length := by rw [← hrs.1]; exact hi
    have er := List.getElem?_eq_getElem hir
    generalize rs[i] = row at er
    obtain ⟨ra, rfl, hra⟩ := hrs.2 i y1 row ey er
    have gU := same_new hU (.tup [.int (i : Nat), .ref ra])
    have plen := prsT_len rs (i + 1) (by omega)
    have few : (prsT rs (i + 1)).length ≤ 900 := by
      have e : rs.flatten = (rs.take (i + 1)).flatten ++ (rs.drop (i + 1)).flatten := by rw [← List.flatten_append, List.take_append_drop]
      rw [e, List.length_append] at hfl
      omega
    rw [prsT_next er, List.length_append, List.length_map] at few
    refine ⟨U, [.int (i : Nat), .ref ra], rfl, SqT.of upd_same, rfl, _, _, rfl, _, _, rfl, rfl, rfl, keptP ?_⟩
    have w1 := gU _ _ m1
    have w2 := m2.mono (.of gU)
    have w3 := m3.trans gU
    generalize upd H2 U (.tup [.int (i : Nat), .ref ra]) = H4 at w1 w2 w3 ⊢
    refine ⟨_, rfl, ra, rfl, ⟨_, SqL.of ((a5.trans w3) _ _ hra)⟩, in2_it (walk_list (K := K) (a := ra) (xs := row.map V.int)) (fun n H' => ∃ ms : List V, H' M = some (.lst ms) ∧ TupT prV K H' ms (prsT rs i ++ (row.take n).map fun c => (i, c)) ∧ Same H1 H') ⟨ms, w1, by rw [List.take_zero, List.map_nil, List.append_nil]; exact w2, w3⟩ (fun n H' _ ⟨_, _, _, g⟩ => SqL.of ((a5.trans g) _ _ hra)) (fun n c H5 H6 hn hv3 hy3 => ?_) ?_⟩
    · obtain ⟨rfl, hy3⟩ := hy3
      obtain ⟨c, ec, rfl⟩ := at_map hy3
      obtain ⟨ms2, u1, u2, u3⟩ := hv3
      rw [List.length_map] at hn
      refine ⟨rfl, kept ⟨_, rfl, _, rfl, (by show 2 ≤ sizeLine; decide), fun t ht => ?_⟩⟩
      have gt := same_new ht (.tup [.int (i : Nat), .int c])
      have u1t := gt _ _ u1
      refine ⟨ms2, u1t, ?_, ms2 ++ [.ref t], upd_same, ?_, same_over (u3.trans gt) hM _⟩
      · have z := u2.1
        rw [List.length_append, List.length_map, List.length_take] at z
        exact small1000 (by omega)
      · rw [List.take_succ, ec, List.map_append, ← List.append_assoc]
        exact ((u2.mono (.of gt)).snoc (t := (i, c)) (a := t) (SqT.of upd_same)).mono (TK.lst u1t)
    · rintro H5 ⟨ms2, u1, u2, u3⟩
      rw [List.length_map, List.take_length] at u2
      exact ⟨ms2, u1, by rw [prsT_next er]; exact u2, u3⟩
  rintro H2 ⟨ms, m1, m2, m3⟩
  rw [hrs.1] at m2
  have plen := prsT_len rs rs.length (Nat.le_refl _)
  rw [List.take_length] at plen
  have pmem : ∀ p ∈ prsT rs rs.length, p.1 < 900 ∧ 0 ≤ p.2 ∧ p.2 ≤ 100 := fun p hp => by
    obtain ⟨b1, rr, b2, b3⟩ := prsT_mem rs.length (Nat.le_refl _) hp
    have := hc rr b2 p.2 b3
    exact ⟨by omega, this.1, this.2⟩
  generalize eps : prsT rs rs.length = ps at m2 plen pmem
  have pl : ps.length ≤ 900 := by omega
  have ml : ms.length = ps.length := m2.1
  have hD2 := m3 _ _ a1
  -- the entries
  refine ⟨_, rfl, M, ms, rfl, SqL.of m1, ?_⟩
  have nMa : ∀ a ∈ as, a ≠ M := fun a ha e => by
    have := (a4 a ha).2.2
    rw [e, hM] at this
    cases this
  refine for_it (walk_enum (K := K) (a := M) (xs := ms)) (fun p σ' H' => (∃ u2 u4 u5 u6 u7 u8 : Option V, σ' = [some (.ref r), some (.ref D), u2, some (.ref M), u4, u5, u6, u7, u8]) ∧ (∀ (b : Nat) (a : Addr), as[b]? = some a → ∃ es : List V, H' a = some (.lst es) ∧ TupT trip K H' es (bktT ps p b)) ∧ TK K H2 H' ∧ ∀ x o, x ∉ as → H2 x = some o → H' x = some o)
    ⟨⟨_, _, _, _, _, _, rfl⟩, fun b a e => ⟨[], m3 _ _ (a4 a (List.mem_of_getElem? e)).2.2, TupT.nil⟩, (fun _ _ h => h), fun _ _ _ h => h⟩ (fun p σ' H' _ ⟨_, _, _, h⟩ => SqL.of (h _ _ (fun hm => nMa _ hm rfl) m1)) ?_ ?_
  · rintro p x σ' H3 H4 hp ⟨⟨u2, u4, u5, u6, u7, u8, rfl⟩, v1, v2, v3⟩ ⟨U, x1, y1, rfl, hU, rfl, ex, ey⟩
    cases ex
    have hps : p < ps.length := by omega
    have ep := List.getElem?_eq_getElem hps
    obtain ⟨u, c, euc⟩ : ∃ u c, ps[p] = (u, c) := ⟨_, _, rfl⟩
    rw [euc] at ep
    obtain ⟨pa, rfl, hpa⟩ := m2.2 p y1 _ ey ep
    obtain ⟨pu, pc0, pc1⟩ := pmem _ (List.mem_of_getElem? ep)
    have pu : u < 900 := pu
    have pc0 : 0 ≤ c := pc0
    have pc1 : c ≤ 100 := pc1
    have gU := same_new hU (.tup [.int (p : Nat), .ref pa])
    have hDU := gU _ _ (v3 _ _ (fun hm => (a4 _ hm).2.1 rfl) hD2)
    refine ⟨U, [.int (p : Nat), .ref pa], rfl, SqT.of upd_same, rfl, _, _, rfl, _, _, rfl, pa, _, rfl, seqT gU (v2 _ _ hpa), rfl, _, _, rfl, _, _, rfl, rfl, rfl, ?_⟩
    have v1U : ∀ (b : Nat) (a : Addr), as[b]? = some a → ∃ es : List V, (upd H3 U (.tup [.int (p : Nat), .ref pa])) a = some (.lst es) ∧ TupT trip K (upd H3 U (.tup [.int (p : Nat), .ref pa])) es (bktT ps p b) := fun b a e => (v1 b a e).elim fun es z => ⟨es, gU _ _ z.1, z.2.mono (.of gU)⟩
    have v2U : TK K H2 (upd H3 U (.tup [.int (p : Nat), .ref pa])) := v2.trans (.of gU)
    have v3U : ∀ x o, x ∉ as → H2 x = some o → (upd H3 U (.tup [.int (p : Nat), .ref pa])) x = some o := fun x o n e => gU _ _ (v3 x o n e)
    generalize upd H3 U (.tup [.int (p : Nat), .ref pa]) = H5 at hDU v1U v2U v3U ⊢
    obtain ⟨b, hb⟩ : ∃ b : Nat, ((u : Int) * 3 + c) % 8 = (b : Int) := ⟨(((u : Int) * 3 + c) % 8).toNat, by omega⟩
    have b8 : b < as.length := by omega
    have ea := List.getElem?_eq_getElem b8
    obtain ⟨es, e1, e2⟩ := v1U b _ ea
    have el : es.length ≤ 900 := by
      have := bktT_len ps p b
      rw [e2.1]
      omega
    refine ⟨_, rfl, _, rfl, _, rfl, (u : Int), c, rfl, by omega, by omega, pc0, by omega, D, _, _, .ref as[b], rfl, rfl, SqL.of hDU, ?_, ?_⟩
    · rw [hb]
      exact atI_nat (by rw [List.getElem?_map, ea] <;> rfl)
    refine ⟨.inl ⟨rfl, _, SqL.of e1⟩, _, rfl, _, rfl, _, rfl, (by show 3 ≤ sizeLine; decide), fun t ht => ?_⟩
    have gt := same_new ht (.tup [.int (u : Nat), .int c, .int (p : Nat)])
    have e1t := gt _ _ e1
    refine ⟨as[b], _, _, rfl, rfl, e1t, small1000 (by omega), ⟨_, _, _, _, _, _, rfl⟩, fun b' a' ea' => ?_, (v2U.trans (.of gt)).trans (TK.lst e1t), fun x o n e => ?_⟩
    · rw [bktT_next ep]
      by_cases eb : b' = b
      · subst eb
        rw [ea] at ea'
        cases ea'
        rw [if_pos hb]
        exact ⟨_, upd_same, ((e2.mono (.of gt)).snoc (t := (u, c, p)) (a := t) (SqT.of upd_same)).mono (TK.lst e1t)⟩
      · have ne : a' ≠ as[b] := fun e => by
          obtain ⟨h1, h2⟩ := List.getElem?_eq_some_iff.mp ea'
          exact eb ((List.getElem_inj a3).mp (h2.trans e))
        obtain ⟨es', f1, f2⟩ := v1U b' a' ea'
        rw [if_neg (by omega), List.append_nil]
        exact ⟨es', by rw [upd_ne ne]; exact gt _ _ f1, (f2.mono (.of gt)).mono (TK.lst e1t)⟩
    · rw [upd_ne (fun z => n (by rw [z]; exact List.getElem_mem _))]
      exact gt _ _ (v3U x o n e)
  · rintro σ' H3 ⟨⟨u2, u4, u5, u6, u7, u8, rfl⟩, v1, v2, v3⟩
    rw [ml] at v1
    have hD3 := v3 _ _ (fun hm => (a4 _ hm).2.1 rfl) hD2
    refine ⟨_, rfl, D, rfl, ⟨_, SqL.of hD3⟩, fun N hN => ?_⟩
    refine lc_it (walk_list (K := K) (a := D) (xs := as.map V.ref)) (fun i H' => ∃ bs : List V, H' N = some (.lst bs) ∧ bs.length = i ∧ (∀ (b : Nat) (v : V), bs[b]? = some v → ∃ (a : Addr) (es : List V), v = .ref a ∧ SqT K H' a es ∧ TupT trip K H' es (bktT ps ps.length b)) ∧ Same H3 H') ⟨[], upd_same, rfl, (fun b v e => by cases e), same_new hN _⟩ (fun i H' _ ⟨_, _, _, _, g⟩ => SqL.of (g _ _ hD3)) (fun i y H4 H5 hi hv hy => ?_) ?_
    · obtain ⟨rfl, hy⟩ := hy
      obtain ⟨bs, c1, c2, c3, c4⟩ := hv
      rw [List.length_map] at hi
      rw [List.getElem?_map] at hy
      obtain ⟨a, ea⟩ : ∃ a, as[i]? = some a := ⟨_, List.getElem?_eq_getElem hi⟩
      rw [ea] at hy
      cases hy
      obtain ⟨es, f1, f2⟩ := v1 i a ea
      refine ⟨rfl, kept ⟨_, rfl, a, es, rfl, .inl ⟨SqL.of (c4 _ _ f1), fun t ht => ?_⟩⟩⟩
      have gt := same_new ht (.tup es)
      have c1t := gt _ _ c1
      refine ⟨bs, c1t, small1000 (by omega), bs ++ [.ref t], upd_same, by rw [List.length_append, c2] <;> rfl, fun b v e => ?_, same_over (c4.trans gt) hN _⟩
      by_cases hb : b < bs.length
      · rw [List.getElem?_append_left hb] at e
        obtain ⟨a', es', z1, z2, z3⟩ := c3 b v e
        exact ⟨a', es', z1, TK.lst c1t _ _ (seqT gt z2), (z3.mono (.of gt)).mono (TK.lst c1t)⟩
      · have eb : b = bs.length := by
          have z := (List.getElem?_eq_some_iff.mp e).1
          rw [List.length_append, List.length_singleton] at z
          omega
        subst eb
        rw [List.getElem?_append_right (Nat.le_refl _), Nat.sub_self] at e
        cases e
        rw [c2]
        exact ⟨t, es, rfl, TK.lst c1t _ _ (SqT.of upd_same), (f2.mono (.of (c4.trans gt))).mono (TK.lst c1t)⟩
    rintro H4 ⟨bs, c1, c2, c3, c4⟩
    rw [List.length_map, a2] at c2
    refine ⟨N, _, rfl, .inl ⟨SqL.of c1, fun bt hbt => ?_⟩⟩
    have gb := same_new hbt (.tup bs)
    refine q bt _ (fun x o e => gb _ _ (c4 _ _ (v3 x o (fun hm => ?_) (m3 _ _ (a5 _ _ e))))) ⟨bs, SqT.of upd_same, c2, fun b v e => ?_⟩
    · rw [(a4 x hm).1] at e
      cases e
    · obtain ⟨a, es, z1, z2, z3⟩ := c3 b v e
      exact ⟨a, es, z1, seqT gb z2, by rw [eps]; exact z3.mono (.of gb)⟩
end
end Lw
namespace Lw
open PySem L2 TL DcT
/-! level_of -/
theorem flat_mem_len : ∀ {rs : List (List Int)} {r : List Int}, r ∈ rs → r.length ≤ rs.flatten.length
  | [], r, h => by cases h
  | x :: t, r, h => by
    rw [List.flatten_cons, List.length_append]
    rcases List.mem_cons.mp h with rfl | h
    · omega
    · have := flat_mem_len h
      omega
abbrev s_level_of : Stmt := topS 31
abbrev n_level_of : List Str := ["kind", "size", "rows", "row", "c"]
theorem sc_level_of : FnScope n_level_of ["kind", "size", "rows"] (defScope s_level_of) := ⟨rfl, rfl, rfl, by decide +kernel, rfl, by decide +kernel, by decide +kernel⟩
/-- a level's data -/
def startsV (rs : List (List Int)) : List V := (List.range (rs.length + 1)).map fun i => V.int (cnt rs i)
def maskI (r : List Int) : Int := (r.map fun c => 1 * 2 ^ c.toNat).sum
def masksV (rs : List (List Int)) : List V := rs.map fun r => V.int (maskI r)
def LevAt (K : PySem.W.Frag) (H : Hp) (v : V) (kind : Str) (n : Int) (rs : List (List Int)) : Prop :=
  (kind = "dense" ∧ ∃ t : Addr, v = .ref t ∧ SqT K H t [.str "dense", .int n]) ∨ (kind = "packed" ∧ ∃ t a b : Addr, v = .ref t ∧ SqT K H t [.str "packed", .ref a, .ref b] ∧ SqT K H a (startsV rs) ∧ SqT K H b (rs.flatten.map V.int)) ∨
  (kind = "bits" ∧ ∃ t a b : Addr, v = .ref t ∧ SqT K H t [.str "bits", .ref a, .ref b] ∧ SqT K H a (startsV rs) ∧ SqT K H b (masksV rs)) ∨ (kind = "hashed" ∧ ∃ t bt : Addr, v = .ref t ∧ SqT K H t [.str "hashed", .ref bt] ∧ BksAt K H bt rs)
theorem LevAt.mono {K : PySem.W.Frag} {H H' : Hp} (g : TK K H H') {v : V} {kind : Str} {n : Int} {rs : List (List Int)} : LevAt K H v kind n rs → LevAt K H' v kind n rs
  | .inl ⟨e, t, e2, h⟩ => .inl ⟨e, t, e2, g _ _ h⟩
  | .inr (.inl ⟨e, t, a, b, e2, h1, h2, h3⟩) => .inr (.inl ⟨e, t, a, b, e2, g _ _ h1, g _ _ h2, g _ _ h3⟩)
  | .inr (.inr (.inl ⟨e, t, a, b, e2, h1, h2, h3⟩)) => .inr (.inr (.inl ⟨e, t, a, b, e2, g _ _ h1, g _ _ h2, g _ _ h3⟩))
  | .inr (.inr (.inr ⟨e, t, a, e2, h1, h2⟩)) => .inr (.inr (.inr ⟨e, t, a, e2, g _ _ h1, h2.mono g⟩))
def spLv (K : PySem.W.Frag) : Sp := fun vs H Q _ => ∃ (kind : Str) (n : Int) (r : Addr) (us : List V) (rs : List (List Int)), vs = [.str kind, .int n, .ref r] ∧ kind ∈ KINDS ∧ H r = some (.lst us) ∧ RowsAt H us rs ∧ rs.length ≤ 900 ∧ rs.flatten.length ≤ 900 ∧ (∀ r ∈ rs, ∀ c ∈ r, 0 ≤ c ∧ c ≤ 100) ∧
  ∀ (v : V) (H' : Hp), Same H H' → LevAt K H' v kind n rs → Q v H'
/-- the scope of the comprehension that has the comprehension of a mask in it -/
def maskSc : Scope := { kind := .function, names := [(".0", .local), ("row", .local), ("sum", .globalImplicit)], isGenerator := false, isCoroutine := false, more := [] }
theorem kinds_four {k : Str} (h : k ∈ KINDS) : k = "dense" ∨ k = "packed" ∨ k = "bits" ∨ k = "hashed" := by
  simpa [KINDS] using h
section
variable {P : Program} {w : World} {K : PySem.W.Frag} {mg : Str → Option Value} {base : Heap} {f : Addr} {fd : FuncData}
theorem ok_level_of (F : Fun K "level_of" "level_of" s_level_of f fd) (B : Bt mg) (zSum : mg "sum" = none) (cS : Ca P w K mg base 1 "starts_of" ["rows"] (spStarts K)) (cBk : Ca P w K mg base 2 "buckets_of" ["rows"] (spBks K)) : FnOk P w K mg base CX0 3 f fd ["kind", "size", "rows"] (spLv K) := by
  refine F.ok sc_level_of (fun vs H Q E h => ?_) (fun cdv A outer s H vs Q E hr h => ?_)
  · obtain ⟨kind, n, r, us, rs, rfl, _⟩ := h
    rfl
  obtain ⟨kind, n, r, us, rs, rfl, hk, hr1, hrs, hl, hfl, hcs, q⟩ := h
  refine ⟨_, (pss_cons (ps_if (pt_cmpR op_eq (pv 0) pe_str (nomark _)) (pss_one (ps_ret (pe_tup (pa_cons pe_str (pa_cons (pv 1) pa_nil))))) pss_nil)
(pss_cons (ps_if (pt_cmpR op_eq (pv 0) pe_str (nomark _)) (pss_one (ps_ret (pe_tup (pa_cons pe_str (pa_cons (pca cBk hr (by decide) rfl (pa_cons (pv 2) pa_nil)) pa_nil))))) pss_nil)
(pss_cons (ps_if (pt_cmpR op_eq (pv 0) pe_str (nomark _)) (pss_one (ps_ret (pe_tup (pa_cons pe_str (pa_cons (pca cS hr (by decide) rfl (pa_cons (pv 2) pa_nil)) (pa_cons (pe_callTy call_tuple_of (by rfl) B.tup (by decide +kernel) (pa_cons (pe_lc2 (own := [("row", 3), ("c", 4)]) (vs1 := [4]) (g := gName 3) (g1 := gName 4) (tt := tYes) (tt1 := tYes) (te := tVar 4) (wi1 := iList K (tVar 3)) rfl sc_level_of.nd (pi_list (pv 2)) (blkOk_by (N := n_level_of) (sc := defScope s_level_of) (by decide +kernel)) (by decide) (fun _ _ _ _ _ => pg_name (i := 3) sc_level_of.nd rfl (Or.inl rfl)) (fun _ _ _ _ _ => pts_nil) (fun _ _ _ _ _ => pi_list (pv 3)) (fun _ _ _ _ _ => pg_name (i := 4) sc_level_of.nd rfl (Or.inl rfl)) (fun _ _ _ _ _ => pts_nil) (fun _ _ _ _ _ => pv 4)) pa_nil)) pa_nil)))))) pss_nil)
(pss_one (ps_ret (pe_tup (pa_cons pe_str (pa_cons (pca cS hr (by decide) rfl (pa_cons (pv 2) pa_nil)) (pa_cons (pe_callTy call_tuple_of (by rfl) B.tup (by decide +kernel) (pa_cons (pe_lc (own := [("row", 3)]) (g := (gName 3)) (tt := tYes) (te := tCB (rSum K) (tCons (tLc (iList K (tVar 3)) (gName 4) tYes (tOp (rI CPow fun i j => .int (i * 2 ^ j.toNat)) (tC (.int 1)) (tVar 4)) [4]) tNil)) rfl sc_level_of.nd (pi_list (pv 2)) (blkOk_by (N := n_level_of) (sc := defScope s_level_of) (by decide +kernel)) (fun _ _ _ _ _ => (pg_name (i := 3) sc_level_of.nd rfl (Or.inl rfl))) (fun _ _ _ _ _ => pts_nil) (fun _ _ _ _ _ => (pe_callB (cr_sum rfl) (by rfl) zSum (by decide +kernel) (pa_cons (pe_lc (own := [("c", 4)]) (g := (gName 4)) (tt := tYes) rfl sc_level_of.nd (pi_list (pv 3)) (blkOk_by (N := n_level_of) (sc := maskSc) (by decide +kernel)) (fun _ _ _ _ _ => (pg_name (i := 4) sc_level_of.nd rfl (Or.inl rfl))) (fun _ _ _ _ _ => pts_nil) (fun _ _ _ _ _ => (pe_op op_shl pe_int (pv 4)))) pa_nil)))) pa_nil)) pa_nil))))))))), ?_⟩
  rcases kinds_four hk with rfl | rfl | rfl | rfl
  · refine ⟨_, rfl, rfl, _, rfl, iteC (decide_eq_true rfl) ?_⟩
    refine ⟨_, rfl, (by show 2 ≤ sizeLine; decide), fun t ht => ?_⟩
    exact q _ _ (same_new ht _) (.inl ⟨rfl, t, rfl, SqT.of upd_same⟩)
  · refine ⟨_, rfl, rfl, _, rfl, iteN (by decide +kernel) ?_⟩
    refine ⟨_, rfl, rfl, _, rfl, iteN (by decide +kernel) ?_⟩
    refine ⟨_, rfl, rfl, _, rfl, iteC (by decide +kernel) ?_⟩
    refine ⟨_, rfl, r, us, rs, rfl, hr1, hrs, hl, fun a H1 g1 ha => ?_⟩
    refine ⟨_, rfl, r, rfl, ⟨_, SqL.of (g1 _ _ hr1)⟩, fun M hM => ?_⟩
    refine out2_it (walk_list (K := K) (a := r) (xs := us)) (fun i H' => H' M = some (.lst (((rs.take i).flatten).map V.int)) ∧ Same H1 H') ⟨upd_same, same_new hM _⟩ (fun i H' _ ⟨_, g⟩ => SqL.of ((g1.trans g) _ _ hr1)) (fun i y H2 H3 hi hv hy => ?_) ?_
    · obtain ⟨rfl, hy⟩ := hy
      have hir : i < rs.length := by rw [← hrs.1]; exact hi
      have er := List.getElem?_eq_getElem hir
      generalize rs[i] = rw_ at er
      obtain ⟨ra, rfl, hra⟩ := hrs.2 i y rw_ hy er
      have hra3 := (g1.trans hv.2) _ _ hra
      have fl2 : (rs.take (i + 1)).flatten = (rs.take i).flatten ++ rw_ := by rw [List.take_succ, er, List.flatten_append] <;> simp
      have few : ((rs.take (i + 1)).flatten).length ≤ 900 := by
        have e : rs.flatten = (rs.take (i + 1)).flatten ++ (rs.drop (i + 1)).flatten := by rw [← List.flatten_append, List.take_append_drop]
        rw [e, List.length_append] at hfl
        omega
      rw [fl2, List.length_append] at few
      refine ⟨rfl, keptP ?_⟩
      refine ⟨_, rfl, ra, rfl, ⟨_, SqL.of hra3⟩, in2_it (walk_list (K := K) (a := ra) (xs := rw_.map V.int)) (fun j H' => H' M = some (.lst (((rs.take i).flatten ++ rw_.take j).map V.int)) ∧ Same H1 H') ⟨by rw [List.take_zero, List.append_nil]; exact hv.1, hv.2⟩ (fun j H' _ ⟨_, g⟩ => SqL.of ((g1.trans g) _ _ hra)) (fun j z H4 H5 hj hv4 hy4 => ?_) ?_⟩
      · obtain ⟨rfl, hy4⟩ := hy4
        obtain ⟨c, ec, rfl⟩ := at_map hy4
        refine ⟨rfl, kept ⟨_, rfl, _, hv4.1, ?_, ?_, same_over hv4.2 hM _⟩⟩
        · rw [List.length_map, List.length_append, List.length_take]
          exact small1000 (by omega)
        · rw [upd_same, List.take_succ, ec, ← List.append_assoc, List.map_append (l₂ := Option.toList _)] <;> rfl
      · rintro H4 ⟨u1, u2⟩
        rw [List.length_map, List.take_length] at u1
        exact ⟨by rw [fl2]; exact u1, u2⟩
    rintro H2 ⟨u1, u2⟩
    rw [hrs.1, List.take_length] at u1
    refine ⟨M, _, rfl, .inl ⟨SqL.of u1, fun b hb => ?_⟩⟩
    have gb := same_new hb (.tup (rs.flatten.map V.int))
    refine ⟨(by show 3 ≤ sizeLine; decide), fun t ht => ?_⟩
    have gt := same_new ht (.tup [.str "packed", .ref a, .ref b])
    have g := u2.trans (gb.trans gt)
    exact q _ _ (g1.trans g) (.inr (.inl ⟨rfl, t, a, b, rfl, SqT.of upd_same, SqT.of (g _ _ ha), SqT.of (gt _ _ upd_same)⟩))
  · refine ⟨_, rfl, rfl, _, rfl, iteN (by decide +kernel) ?_⟩
    refine ⟨_, rfl, rfl, _, rfl, iteN (by decide +kernel) ?_⟩
    refine ⟨_, rfl, rfl, _, rfl, iteN (by decide +kernel) ?_⟩
    refine ⟨_, rfl, r, us, rs, rfl, hr1, hrs, hl, fun a H1 g1 ha => ?_⟩
    refine ⟨_, rfl, r, rfl, ⟨_, SqL.of (g1 _ _ hr1)⟩, fun M hM => ?_⟩
    refine lc_it (walk_list (K := K) (a := r) (xs := us)) (InvM H1 M (fun r => V.int (maskI r)) rs) ⟨upd_same, same_new hM _⟩ (fun i H' _ ⟨_, g⟩ => SqL.of ((g1.trans g) _ _ hr1)) (fun i y H2 H3 hi hv hy => ?_) ?_
    · obtain ⟨rfl, hy⟩ := hy
      have hir : i < rs.length := by rw [← hrs.1]; exact hi
      have er := List.getElem?_eq_getElem hir
      generalize rs[i] = row at er
      have hrow := hcs row (List.mem_of_getElem? er)
      obtain ⟨ra, rfl, hra⟩ := hrs.2 i y row hy er
      have rl : row.length ≤ 900 := by
        have := flat_mem_len (List.mem_of_getElem? er)
        omega
      refine ⟨rfl, kept ?_⟩
      refine ⟨_, rfl, ra, rfl, ⟨_, SqL.of ((g1.trans hv.2) _ _ hra)⟩, fun D hD => ?_⟩
      refine lc_it (walk_list (K := K) (a := ra) (xs := row.map V.int)) (InvM H3 D (fun c : Int => V.int (1 * 2 ^ c.toNat)) row) ⟨upd_same, same_new hD _⟩ (fun j H' _ ⟨_, g⟩ => SqL.of (((g1.trans hv.2).trans g) _ _ hra)) (fun j z H4 H5 hj hv4 hy4 => ?_) ?_
      · obtain ⟨rfl, hy4⟩ := hy4
        obtain ⟨c, ec, rfl⟩ := at_map hy4
        obtain ⟨c0, c1⟩ := hrow c (List.mem_of_getElem? ec)
        exact ⟨rfl, kept ⟨_, rfl, _, _, rfl, rfl, ⟨c0, by omega, by decide⟩, _, hv4.1, len_m (by omega), InvM.next (f := fun c : Int => V.int (1 * 2 ^ c.toNat)) hD hv4.2 ec _ rfl⟩⟩
      rintro H4 ⟨u1, u2⟩
      rw [List.length_map, List.take_length] at u1
      refine ⟨D, row.map (fun c : Int => 1 * 2 ^ c.toNat), rfl, SqL.of (by rw [u1, List.map_map] <;> rfl), ?_⟩
      exact ⟨_, u2 _ _ hv.1, len_m (by omega), InvM.next (f := fun r => V.int (maskI r)) hM (hv.2.trans u2) er _ rfl⟩
    rintro H2 ⟨u1, u2⟩
    rw [hrs.1, List.take_length] at u1
    refine ⟨M, _, rfl, .inl ⟨SqL.of u1, fun b hb => ?_⟩⟩
    have gb := same_new hb (.tup (rs.map fun r => V.int (maskI r)))
    refine ⟨(by show 3 ≤ sizeLine; decide), fun t ht => ?_⟩
    have gt := same_new ht (.tup [.str "bits", .ref a, .ref b])
    have g := u2.trans (gb.trans gt)
    exact q _ _ (g1.trans g) (.inr (.inr (.inl ⟨rfl, t, a, b, rfl, SqT.of upd_same, SqT.of (g _ _ ha), SqT.of (gt _ _ upd_same)⟩)))
  · refine ⟨_, rfl, rfl, _, rfl, iteN (by decide +kernel) ?_⟩
    refine ⟨_, rfl, rfl, _, rfl, iteC (by decide +kernel) ?_⟩
    refine ⟨_, rfl, r, us, rs, rfl, hr1, hrs, hl, hfl, hcs, fun bt H1 g1 hbt => ?_⟩
    refine ⟨(by show 2 ≤ sizeLine; decide), fun t ht => ?_⟩
    have gt := same_new ht (.tup [.str "hashed", .ref bt])
    exact q _ _ (g1.trans gt) (.inr (.inr (.inr ⟨rfl, t, bt, rfl, SqT.of upd_same, hbt.mono (.of gt)⟩)))
end
end Lw
namespace Lw
open PySem L2 TL DcT
/-! laid_out -/
/-- rows that were made since H0 -/
def RowsN (H0 H : Hp) (us : List V) (rs : List (List Int)) : Prop := us.length = rs.length ∧ ∀ (i : Nat) (u : V) (r : List Int), us[i]? = some u → rs[i]? = some r → ∃ a, u = .ref a ∧ H0 a = none ∧ H a = some (.lst (r.map V.int))
theorem RowsN.same {H0 H H' : Hp} {us : List V} {rs : List (List Int)} (g : Same H H') (h : RowsN H0 H us rs) : RowsN H0 H' us rs := ⟨h.1, fun i u r e1 e2 => (h.2 i u r e1 e2).elim fun a q => ⟨a, q.1, q.2.1, g _ _ q.2.2⟩⟩
theorem RowsN.upd {H0 H : Hp} {us : List V} {rs : List (List Int)} {D : Addr} {o u0 : HO} (h : RowsN H0 H us rs) (hD : H0 D = some u0) : RowsN H0 (upd H D o) us rs := ⟨h.1, fun i u r e1 e2 => (h.2 i u r e1 e2).elim fun a q => ⟨a, q.1, q.2.1, by rw [upd_ne (fun z => by rw [z, hD] at q; cases q.2.1)]; exact q.2.2⟩⟩
theorem RowsN.rows {H0 H : Hp} {us : List V} {rs : List (List Int)} (h : RowsN H0 H us rs) : RowsAt H us rs := ⟨h.1, fun i u r e1 e2 => (h.2 i u r e1 e2).elim fun a q => ⟨a, q.1, q.2.2⟩⟩
theorem RowsN.snoc {H0 H : Hp} {us : List V} {rs : List (List Int)} (h : RowsN H0 H us rs) {a : Addr} {r : List Int} (h0 : H0 a = none) (ha : H a = some (.lst (r.map V.int))) : RowsN H0 H (us ++ [.ref a]) (rs ++ [r]) :=
  ⟨by rw [List.length_append, List.length_append, h.1] <;> rfl, snoc2 (R := fun _ u r => ∃ a, u = V.ref a ∧ H0 a = none ∧ H a = some (.lst (r.map V.int))) h.1 h.2 ⟨a, rfl, h0, ha⟩⟩
/-- tuples of paths -/
def PathsAt (H : Hp) (us : List V) (ps : List (List Int)) : Prop := us.length = ps.length ∧ ∀ (i : Nat) (u : V) (p : List Int), us[i]? = some u → ps[i]? = some p → ∃ b, u = .ref b ∧ H b = some (.tup (p.map V.int))
theorem PathsAt.same {H H' : Hp} {us : List V} {ps : List (List Int)} (g : Same H H') (h : PathsAt H us ps) : PathsAt H' us ps := ⟨h.1, fun i u r e1 e2 => (h.2 i u r e1 e2).elim fun a q => ⟨a, q.1, g _ _ q.2⟩⟩
theorem PathsAt.lst {H : Hp} {us : List V} {ps : List (List Int)} {D : Addr} {xs : List V} {o : HO} (h : PathsAt H us ps) (hD : H D = some (.lst xs)) : PathsAt (upd H D o) us ps := ⟨h.1, fun i u r e1 e2 => (h.2 i u r e1 e2).elim fun a q => ⟨a, q.1, by rw [upd_ne (fun z => by rw [z, hD] at q; cases q.2)]; exact q.2⟩⟩
theorem PathsAt.snoc {H : Hp} {us : List V} {ps : List (List Int)} (h : PathsAt H us ps) {b : Addr} {p : List Int} (hb : H b = some (.tup (p.map V.int))) : PathsAt H (us ++ [.ref b]) (ps ++ [p]) :=
  ⟨by rw [List.length_append, List.length_append, h.1] <;> rfl, snoc2 (R := fun _ u p => ∃ b, u = V.ref b ∧ H b = some (.tup (p.map V.int))) h.1 h.2 ⟨b, rfl, hb⟩⟩
theorem PathsAt.nil {H : Hp} : PathsAt H [] [] := ⟨rfl, fun i u p e _ => by cases e⟩
/-- an axis' size -/
def szN (zs : List Int) (x : Int) : Nat := (zs.getD x.toNat 0).toNat
def rowsL (zs : List Int) (ds ps : List (List Int)) (q : Str × Int) : List (List Int) := ps.map fun p => rowD q.1 (szN zs q.2) p ds
def goOn (zs : List Int) (ds : List (List Int)) (q : Str × Int) (p : List Int) : List (List Int) := (rowD q.1 (szN zs q.2) p ds).map fun c => p ++ [c]
def stepP (zs : List Int) (ds ps : List (List Int)) (q : Str × Int) : List (List Int) := (ps.map (goOn zs ds q)).flatten
/-- the paths below these levels -/
def pathsL (zs : List Int) (ds : List (List Int)) (l : List (Str × Int)) : List (List Int) := l.foldl (stepP zs ds) [[]]
theorem pathsL_next {zs : List Int} {ds : List (List Int)} {l : List (Str × Int)} {i : Nat} {q : Str × Int} (e : l[i]? = some q) : pathsL zs ds (l.take (i + 1)) = stepP zs ds (pathsL zs ds (l.take i)) q := by
  unfold pathsL
  rw [List.take_succ, e, List.foldl_append] <;> rfl
theorem sum_six {ls : List Nat} (h : ∀ x ∈ ls, x ≤ 6) : ls.sum ≤ 6 * ls.length := by
  induction ls with
  | nil => exact Nat.le_refl _
  | cons x r ih =>
    have h1 := h x (List.mem_cons_self ..)
    have h2 := ih fun y hy => h y (List.mem_cons_of_mem _ hy)
    rw [List.sum_cons, List.length_cons]
    omega
theorem rows_few {zs : List Int} {ds ps : List (List Int)} {q : Str × Int} (h : szN zs q.2 ≤ 6) : (rowsL zs ds ps q).flatten.length ≤ 6 * ps.length := by
  rw [List.length_flatten]
  have z := sum_six (ls := (rowsL zs ds ps q).map List.length) fun x hx => by
    obtain ⟨r, hr, rfl⟩ := List.mem_map.mp hx
    obtain ⟨p, hp, rfl⟩ := List.mem_map.mp hr
    exact Nat.le_trans (rowD_len _ _ _ _) h
  rw [List.length_map] at z
  unfold rowsL at z ⊢
  rw [List.length_map] at z
  exact z
theorem step_few {zs : List Int} {ds ps : List (List Int)} {q : Str × Int} (h : szN zs q.2 ≤ 6) : (stepP zs ds ps q).length ≤ 6 * ps.length := by
  unfold stepP
  rw [List.length_flatten]
  have z := sum_six (ls := (ps.map (goOn zs ds q)).map List.length) fun x hx => by
    obtain ⟨r, hr, rfl⟩ := List.mem_map.mp hx
    obtain ⟨p, hp, rfl⟩ := List.mem_map.mp hr
    unfold goOn
    rw [List.length_map]
    exact Nat.le_trans (rowD_len _ _ _ _) h
  rw [List.length_map, List.length_map] at z
  exact z
theorem paths_few {zs : List Int} {ds : List (List Int)} {l : List (Str × Int)} (h : ∀ q ∈ l, szN zs q.2 ≤ 6) : ∀ i, i ≤ l.length → (pathsL zs ds (l.take i)).length ≤ 6 ^ i
  | 0, _ => by rw [List.take_zero]; exact Nat.le_refl _
  | i + 1, hi => by
    have e := List.getElem?_eq_getElem (l := l) (i := i) (by omega)
    rw [pathsL_next e]
    have a := paths_few (ds := ds) h i (by omega)
    have b := step_few (zs := zs) (ds := ds) (ps := pathsL zs ds (l.take i)) (h _ (List.mem_of_getElem? e))
    rw [Nat.pow_succ]
    omega
theorem paths_len {zs : List Int} {ds : List (List Int)} {l : List (Str × Int)} : ∀ i, i ≤ l.length → ∀ p ∈ pathsL zs ds (l.take i), p.length = i
  | 0, _, p, hp => by
    rw [List.take_zero] at hp
    rw [List.mem_singleton.mp hp] <;> rfl
  | i + 1, hi, p, hp => by
    have e := List.getElem?_eq_getElem (l := l) (i := i) (by omega)
    rw [pathsL_next e] at hp
    obtain ⟨g, hg, hp⟩ := List.mem_flatten.mp hp
    obtain ⟨p0, hp0, rfl⟩ := List.mem_map.mp hg
    obtain ⟨c, _, rfl⟩ := List.mem_map.mp hp
    rw [List.length_append, paths_len i (by omega) p0 hp0] <;> rfl
theorem rowsL_bd {zs : List Int} {ds ps : List (List Int)} {q : Str × Int} (h : szN zs q.2 ≤ 6) : ∀ r ∈ rowsL zs ds ps q, ∀ c ∈ r, 0 ≤ c ∧ c ≤ 100 := fun r hr c hc => by
  obtain ⟨p, _, rfl⟩ := List.mem_map.mp hr
  have m : c ∈ iota (szN zs q.2) := by
    unfold rowD at hc
    split at hc
    · exact hc
    · exact (List.mem_filter.mp hc).1
  obtain ⟨a, b⟩ := iota_mem.mp m
  omega
/-- the levels' tuples -/
def LevsAt (K : PySem.W.Frag) (H : Hp) (us : List V) (zs : List Int) (ds : List (List Int)) (l : List (Str × Int)) (n : Nat) : Prop := us.length = n ∧ ∀ (i : Nat) (u : V) (q : Str × Int), us[i]? = some u → l[i]? = some q → LevAt K H u q.1 (szN zs q.2 : Nat) (rowsL zs ds (pathsL zs ds (l.take i)) q)
theorem LevsAt.mono {K : PySem.W.Frag} {H H' : Hp} {us : List V} {zs : List Int} {ds : List (List Int)} {l : List (Str × Int)} {n : Nat} (g : TK K H H') (h : LevsAt K H us zs ds l n) : LevsAt K H' us zs ds l n := ⟨h.1, fun i u q e1 e2 => (h.2 i u q e1 e2).mono g⟩
theorem LevsAt.snoc {K : PySem.W.Frag} {H : Hp} {us : List V} {zs : List Int} {ds : List (List Int)} {l : List (Str × Int)} {n : Nat} {v : V} {q : Str × Int} (h : LevsAt K H us zs ds l n) (e : l[n]? = some q) (hv : LevAt K H v q.1 (szN zs q.2 : Nat) (rowsL zs ds (pathsL zs ds (l.take n)) q)) : LevsAt K H (us ++ [v]) zs ds l (n + 1) := by
  refine ⟨by rw [List.length_append, h.1] <;> rfl, fun i u q' e1 e2 => ?_⟩
  by_cases c : i < us.length
  · rw [List.getElem?_append_left c] at e1
    exact h.2 i u q' e1 e2
  · have ei : i = us.length := by
      have z := (List.getElem?_eq_some_iff.mp e1).1
      rw [List.length_append, List.length_singleton] at z
      omega
    subst ei
    rw [List.getElem?_append_right (Nat.le_refl _), Nat.sub_self] at e1
    cases e1
    rw [h.1] at e2 ⊢
    rw [e] at e2
    cases e2
    exact hv
abbrev s_laid_out : Stmt := topS 34
abbrev n_laid_out : List Str := ["sizes", "form", "worths", "leading", "levels", "paths", "kind", "axis", "rows", "path", "row", "c"]
theorem sc_laid_out : FnScope n_laid_out ["sizes", "form", "worths"] (defScope s_laid_out) := ⟨rfl, rfl, rfl, by decide +kernel, rfl, by decide +kernel, by decide +kernel⟩
def spLaid (K : PySem.W.Frag) (C : Addr) : Sp := fun vs H Q _ => ∃ (z p d : Addr) (zs : List Int) (l : List (Str × Int)) (ws : List (List Int × Int)), vs = [.ref z, .ref p, .ref d] ∧ SqT K H z (zs.map V.int) ∧ FormAt K C p (l.map (·.1)) (l.map (·.2)) H ∧ H d = some (.dT (ws.map cell)) ∧
  l.length ≤ 3 ∧ (∀ q ∈ l, q.1 ∈ KINDS) ∧ (∀ q ∈ l, 0 ≤ q.2 ∧ q.2 < (zs.length : Int)) ∧ (∀ x ∈ zs, 1 ≤ x ∧ x ≤ 6) ∧ ws.length < 200 ∧ (∀ w ∈ ws, w.1.length ≤ 3) ∧
  ∀ (t tl td : Addr) (us : List V) (ds : List (List Int)) (H' : Hp), Same H H' → SqT K H' t [.ref tl, .ref td] → SqT K H' tl us → LevsAt K H' us zs ds l l.length → SqT K H' td ((pathsL zs ds l).map fun p => V.int (vOf ws p)) → Lead (ws.map (·.1)) ds → Q (.ref t) H'
section
variable {P : Program} {w : World} {K : PySem.W.Frag} {mg : Str → Option Value} {base : Heap} {C fI BF AW KD f : Addr} {MC : Value} {fd : FuncData}
theorem ok_laid_out (F : Fun K "laid_out" "laid_out" s_laid_out f fd) (T : Fm K mg C fI BF AW KD MC) (B : Bt mg) (cL : Ca P w K mg base 1 "leading_paths" ["paths"] spLead) (cR : Ca P w K mg base 1 "row_below" ["kind", "size", "path", "leading"] (spRow K)) (cV : Ca P w K mg base 3 "level_of" ["kind", "size", "rows"] (spLv K)) :
    FnOk P w K mg base CX0 4 f fd ["sizes", "form", "worths"] (spLaid K C) := by
  refine F.ok sc_laid_out (fun vs H Q E h => ?_) (fun cdv A outer s H vs Q E hr h => ?_)
  · obtain ⟨z, p, d, zs, l, ws, rfl, _⟩ := h
    rfl
  obtain ⟨z, p, d, zs, l, ws, rfl, hz, ⟨dx, tk, ta, hp, htk, hta⟩, hd, hl3, hk, hx, hz6, h64, hw3, q⟩ := h
  replace hta : SqT K H ta ((l.map (·.2)).map V.int) := hta.seq
  refine ⟨_, (pss_cons (ps_set (i := 3) sc_laid_out.nd rfl (Or.inr rfl) (pca cL hr (by decide) rfl (pa_cons (pv 2) pa_nil)))
(pss_cons (ps_set (i := 4) sc_laid_out.nd rfl (Or.inl rfl) (pe_lst pa_nil))
(pss_cons (ps_set (i := 5) sc_laid_out.nd rfl (Or.inl rfl) (pe_lst (pa_cons (pe_tup pa_nil) pa_nil)))
(pss_cons (ps_for PassesOwn.never rfl (RZ.pi_zipA (by rfl) B.zip (pa_cons (pe_fld (pv 1) rfl) (pa_cons (pe_fld (pv 1) rfl) pa_nil))) (pg_tup rfl (pgs_cons (pg_name (i := 6) sc_laid_out.nd rfl (Or.inr rfl)) (pgs_cons (pg_name (i := 7) sc_laid_out.nd rfl (Or.inr rfl)) pgs_nil)))
(pss_cons (ps_setLc (i := 8) (own := [("path", 9)]) (g := (gName 9)) (tt := tYes) (te := tCall (spRow K) [] E0 (tCons (tVar 6) (tCons (tOp (rIxT K) (tVar 0) (tVar 7)) (tCons (tVar 9) (tCons (tVar 3) tNil))))) rfl sc_laid_out.nd rfl rfl (sw_true rfl rfl rfl (by decide +kernel)) (pi_list (pv 5)) (blkOk_by (N := n_laid_out) (sc := defScope s_laid_out) (by decide +kernel)) (fun _ _ _ _ _ => (pg_name (i := 9) sc_laid_out.nd rfl (Or.inl rfl))) (fun _ _ _ _ _ => pts_nil) (fun _ _ _ _ _ => (pca cR hr (by decide) rfl (pa_cons (pv 6) (pa_cons (pe_ix ix_tup (pv 0) (pv 7) (fun _ _ => rfl)) (pa_cons (pv 9) (pa_cons (pv 3) pa_nil)))))))
(pss_cons (ps_expr (pe_bm PySem.F.plainAttrs_list PySem.F.slot_list_append PySem.F.type_list_append mt_append (pv 4) (pa_cons (pca cV hr (by decide) rfl (pa_cons (pv 6) (pa_cons (pe_ix ix_tup (pv 0) (pv 7) (fun _ _ => rfl)) (pa_cons (pv 8) pa_nil)))) pa_nil)))
(pss_one (ps_setLc2 (i := 5) (own := [("path", 9), ("row", 10), ("c", 11)]) (vs1 := [11]) (g := (gTup K 2 (gCons (gName 9) (gCons (gName 10) gNil)))) (g1 := (gName 11)) (tt := tYes) (tt1 := tYes) (wi1 := iList K (tVar 10)) (te := tTup (StX.tStar K (tVar 9) (tCons (tVar 11) tNil))) rfl sc_laid_out.nd rfl rfl (sw_true rfl rfl rfl (by decide +kernel)) (pi_zip (by rfl) B.zip (pa_cons (pv 5) (pa_cons (pv 8) pa_nil))) (blkOk_by (N := n_laid_out) (sc := defScope s_laid_out) (by decide +kernel)) (by decide) (fun _ _ _ _ _ => (pg_tup rfl (pgs_cons (pg_name (i := 9) sc_laid_out.nd rfl (Or.inl rfl)) (pgs_cons (pg_name (i := 10) sc_laid_out.nd rfl (Or.inl rfl)) pgs_nil)))) (fun _ _ _ _ _ => pts_nil) (fun _ _ _ _ _ => (pi_list (pv 10))) (fun _ _ _ _ _ => (pg_name (i := 11) sc_laid_out.nd rfl (Or.inl rfl))) (fun _ _ _ _ _ => pts_nil) (fun _ _ _ _ _ => (pe_tup (StX.pa_star (pv 9) (pa_cons (pv 11) pa_nil)))))))))
(pss_one (ps_ret (pe_tup (pa_cons (pe_callTy call_tuple_of (by rfl) B.tup (by decide +kernel) (pa_cons (pv 4) pa_nil)) (pa_cons (pe_callTy call_tuple_of (by rfl) B.tup (by decide +kernel) (pa_cons (pe_lc (own := [("path", 9)]) (g := (gName 9)) (tt := tYes) (te := tDGet2 (tVar 2) (tVar 9) (tC (.int 0))) rfl sc_laid_out.nd (pi_list (pv 5)) (blkOk_by (N := n_laid_out) (sc := defScope s_laid_out) (by decide +kernel)) (fun _ _ _ _ _ => (pg_name (i := 9) sc_laid_out.nd rfl (Or.inl rfl))) (fun _ _ _ _ _ => pts_nil) (fun _ _ _ _ _ => (pe_dget2 (hu_of hr) (pv 2) (pv 9) pe_int ⟨rfl, rfl, rfl, rfl⟩))) pa_nil)) pa_nil))))))))), ?_⟩
  have ek : (ws.map cell).map (·.1) = (ws.map (·.1)).map (fun k => k.map Sum.inl) := by rw [List.map_map, List.map_map] <;> rfl
  refine ⟨_, rfl, d, _, ws.map (·.1), rfl, hd, ek, by rw [List.length_map]; exact h64, fun k hk => ?_, fun tL ds H1 g1 hL1 hLead => ?_⟩
  · obtain ⟨w0, hw0, rfl⟩ := List.mem_map.mp hk
    exact hw3 w0 hw0
  have szx : ∀ q ∈ l, szN zs q.2 ≤ 6 ∧ atI (zs.map V.int) q.2 = some (.int (szN zs q.2 : Nat)) := fun q0 hq => by
    obtain ⟨x0, x1⟩ := hx q0 hq
    have lt : q0.2.toNat < zs.length := by omega
    have e : zs.getD q0.2.toNat 0 = zs[q0.2.toNat] := by rw [List.getD_eq_getElem?_getD, List.getElem?_eq_getElem lt] <;> rfl
    have b := hz6 _ (List.getElem_mem lt)
    have e2 : ((szN zs q0.2 : Nat) : Int) = zs.getD q0.2.toNat 0 := by
      unfold szN
      rw [e]
      omega
    refine ⟨?_, by rw [e2]; exact at_getD x0 x1⟩
    unfold szN
    rw [e]
    omega
  refine ⟨(by show 0 ≤ sizeLine; decide), fun L hL => ?_⟩
  have gL := same_new hL (.lst [])
  refine ⟨(by show 0 ≤ sizeLine; decide), fun e0 he0 => ?_⟩
  have ge := same_new he0 (.tup [])
  refine ⟨(by show 1 ≤ sizeLine; decide), fun Pp hPp => ?_⟩
  have gP := same_new hPp (.lst [.ref e0])
  have hLp : upd (upd (upd H1 L (.lst [])) e0 (.tup [])) Pp (.lst [.ref e0]) L = some (.lst []) := gP _ _ (ge _ _ upd_same)
  have nPL : Pp ≠ L := fun e => by
    rw [e, ge _ _ upd_same] at hPp
    cases hPp
  have hPp0 : upd (upd (upd H1 L (.lst [])) e0 (.tup [])) Pp (.lst [.ref e0]) Pp = some (.lst [.ref e0]) := upd_same
  have hpe0 : PathsAt (upd (upd (upd H1 L (.lst [])) e0 (.tup [])) Pp (.lst [.ref e0])) [.ref e0] [[]] := PathsAt.nil.snoc (p := []) (gP _ _ upd_same)
  have g0 := gL.trans (ge.trans gP)
  generalize upd (upd (upd H1 L (.lst [])) e0 (.tup [])) Pp (.lst [.ref e0]) = H2 at hLp hPp0 hpe0 g0 ⊢
  have g2 := g1.trans g0
  have elen : ((l.map (·.1)).map V.str).length = ((l.map (·.2)).map V.int).length := by simp only [List.length_map]
  have ln : ((l.map (·.1)).map V.str).length = l.length := by simp only [List.length_map]
  refine ⟨_, rfl, p, C, dx, _, _, rfl, g2 _ _ hp, T.cl, T.nK, flds_k _ _, _, rfl, p, C, dx, _, _, rfl, g2 _ _ hp, T.cl, T.nA, flds_a _ _, tk, ta, _, _, rfl, .inr ⟨seqT g2 htk, seqT g2 hta, ?_⟩⟩
  refine for_it (walk_zipT (K := K) (a := tk) (b := ta) elen) (fun i σ' H' => ∃ (u6 u7 u8 u9 u10 u11 : Option V) (us vs : List V) (Pa : Addr), σ' = [some (.ref z), some (.ref p), some (.ref d), some (.ref tL), some (.ref L), some (.ref Pa), u6, u7, u8, u9, u10, u11] ∧
      H' L = some (.lst us) ∧ LevsAt K H' us zs ds l i ∧ Pa ≠ L ∧ H' Pa = some (.lst vs) ∧ PathsAt H' vs (pathsL zs ds (l.take i)) ∧ Same H1 H') ⟨_, _, _, _, _, _, [], [.ref e0], Pp, rfl, hLp, ⟨rfl, fun i u q e _ => by cases e⟩, nPL, hPp0, hpe0, g0⟩
    (fun i σ' H' _ ⟨_, _, _, _, _, _, _, _, _, _, _, _, _, _, _, g⟩ => ⟨seqT (g1.trans g) htk, seqT (g1.trans g) hta⟩) ?_ ?_
  · rintro i x σ' H3 H4 hi ⟨u6, u7, u8, u9, u10, u11, us, vs, Pa, rfl, v1, v2, v3, v4, v5, v6⟩ ⟨U, x1, y1, rfl, hU, rfl, ex, ey⟩
    obtain ⟨k, ek1, rfl⟩ := at_map ex
    obtain ⟨j, ej1, rfl⟩ := at_map ey
    rw [ln] at hi
    have eq := List.getElem?_eq_getElem hi
    obtain ⟨qk, qx, eqq⟩ : ∃ qk qx, l[i] = (qk, qx) := ⟨_, _, rfl⟩
    rw [eqq] at eq
    obtain rfl : k = qk := by
      rw [List.getElem?_map, eq] at ek1
      exact (Option.some.inj ek1).symm
    obtain rfl : j = qx := by
      rw [List.getElem?_map, eq] at ej1
      exact (Option.some.inj ej1).symm
    have hqm := List.mem_of_getElem? eq
    obtain ⟨s6, sat⟩ := szx _ hqm
    have s6 : szN zs j ≤ 6 := s6
    have gU := same_new hU (.tup [.str k, .int j])
    have pf : (pathsL zs ds (l.take i)).length ≤ 36 := by
      have a := paths_few (ds := ds) (fun q hq => (szx q hq).1) i (by omega)
      have b : 6 ^ i ≤ 6 ^ 2 := Nat.pow_le_pow_right (by decide) (by omega)
      omega
    have plen := paths_len (zs := zs) (ds := ds) (l := l) i (by omega)
    have enext := pathsL_next (zs := zs) (ds := ds) eq
    generalize eps : pathsL zs ds (l.take i) = ps at pf plen v5 enext
    refine ⟨U, [.str k, .int j], rfl, SqT.of upd_same, rfl, _, _, rfl, _, _, rfl, rfl, ?_⟩
    have w1 := gU _ _ v1
    have w2 := v2.mono (.of gU)
    have w4 := gU _ _ v4
    have w5 := v5.same gU
    have w6 := v6.trans gU
    generalize upd H3 U (.tup [.str k, .int j]) = H5 at w1 w2 w4 w5 w6 ⊢
    -- rows
    refine ⟨_, rfl, Pa, rfl, ⟨_, SqL.of w4⟩, fun R hR => ?_⟩
    have nRL : R ≠ L := (ne_of_none w1 hR).symm
    have nRP : R ≠ Pa := (ne_of_none w4 hR).symm
    have gR := same_new hR (.lst [])
    have hL6 := gR _ _ w1
    have hR6 : upd H5 R (.lst []) R = some (.lst []) := upd_same
    have g6 := w6.trans gR
    refine lc_it (walk_list (K := K) (a := Pa) (xs := vs)) (fun m H' => ∃ rs : List V, H' R = some (.lst rs) ∧ RowsN (upd H5 R (.lst [])) H' rs ((rowsL zs ds ps (k, j)).take m) ∧ Same H5 H') ⟨[], upd_same, ⟨rfl, fun i u q e _ => by cases e⟩, gR⟩ (fun m H' _ ⟨_, _, _, g⟩ => SqL.of (g _ _ w4)) (fun m y H6 H7 hm hv hy => ?_) ?_
    · obtain ⟨rfl, hy⟩ := hy
      obtain ⟨rs, r1, r2, r3⟩ := hv
      have hmp : m < ps.length := by rw [← w5.1]; exact hm
      have ep := List.getElem?_eq_getElem hmp
      generalize ps[m] = pm at ep
      have pml := plen pm (List.mem_of_getElem? ep)
      obtain ⟨b, rfl, hb⟩ := w5.2 m y pm hy ep
      have er : (rowsL zs ds ps (k, j))[m]? = some (rowD k (szN zs j) pm ds) := by
        unfold rowsL
        rw [List.getElem?_map, ep] <;> rfl
      have g7 := w6.trans r3
      refine ⟨rfl, kept ?_⟩
      refine ⟨_, rfl, _, rfl, _, rfl, z, _, j, _, rfl, rfl, seqT (g1.trans g7) hz, sat, _, rfl, _, rfl, k, szN zs j, b, tL, pm, ds, rfl, by omega, SqT.of (r3 _ _ hb), by omega, g7 _ _ hL1, fun t H8 g8 ht0 ht => ?_⟩
      have t0 : upd H5 R (.lst []) t = none := by
        by_cases e : t = R
        · rw [e, r1] at ht0
          cases ht0
        · rw [upd_ne e]
          exact r3.free ht0
      refine ⟨rs, g8 _ _ r1, ?_, rs ++ [.ref t], upd_same, ?_, same_over (r3.trans g8) hR _⟩
      · have := r2.1
        rw [List.length_take] at this
        exact small1000 (by omega)
      · rw [List.take_succ, er]
        exact ((r2.same g8).snoc t0 ht).upd hR6
    rintro H6 ⟨rs, r1, r2, r3⟩
    rw [w5.1, List.take_of_length_le (by unfold rowsL; rw [List.length_map]; exact Nat.le_refl _)] at r2
    have g7 := w6.trans r3
    have rfew := rows_few (zs := zs) (ds := ds) (ps := ps) (q := (k, j)) s6
    have rl : (rowsL zs ds ps (k, j)).length = ps.length := by
      unfold rowsL
      rw [List.length_map]
    -- levels.append
    refine ⟨_, rfl, .inl ⟨rfl, _, SqL.of (r3 _ _ w1)⟩, _, rfl, _, rfl, _, rfl, z, _, j, _, rfl, rfl, seqT (g1.trans g7) hz, sat, _, rfl, k, _, R, rs, rowsL zs ds ps (k, j), rfl, hk _ hqm, r1, r2.rows, by omega, by omega, (fun r hr c hc => rowsL_bd s6 r hr c hc), fun v H7 g8 hv => ?_⟩
    have hL7 := g8 _ _ (r3 _ _ w1)
    refine ⟨L, _, _, rfl, rfl, hL7, small1000 (by rw [w2.1]; omega), ?_⟩
    have r2' := (r2.same g8).upd (D := L) (o := .lst (us ++ [v])) hL6
    have hR8 : upd H7 L (.lst (us ++ [v])) R = some (.lst rs) := by rw [upd_ne nRL]; exact g8 _ _ r1
    have hP8 : upd H7 L (.lst (us ++ [v])) Pa = some (.lst vs) := by rw [upd_ne v3]; exact g8 _ _ (r3 _ _ w4)
    have w58 := ((w5.same r3).same g8).lst (o := .lst (us ++ [v])) hL7
    have gT : TK K H7 (upd H7 L (.lst (us ++ [v]))) := TK.lst hL7
    have lev8 : LevsAt K (upd H7 L (.lst (us ++ [v]))) (us ++ [v]) zs ds l (i + 1) := by
      refine ((w2.mono (.of (r3.trans g8))).mono gT).snoc eq ?_
      rw [eps]
      exact hv.mono gT
    have gS : Same H1 (upd H7 L (.lst (us ++ [v]))) := same_over (g7.trans g8) hL _
    have hL8 : upd H7 L (.lst (us ++ [v])) L = some (.lst (us ++ [v])) := upd_same
    generalize upd H7 L (.lst (us ++ [v])) = H8 at r2' hR8 hP8 w58 lev8 gS hL8 ⊢
    -- paths
    refine ⟨_, rfl, _, rfl, Pa, R, vs, rs, rfl, SqL.of hP8, SqL.of hR8, fun N hN => ?_⟩
    have gN := same_new hN (.lst [])
    have vl : vs.length = ps.length := w58.1
    have rsl : rs.length = ps.length := by rw [r2'.1, rl]
    refine out2_it (walk_zip (K := K) (a := Pa) (b := R) (xs := vs) (ys := rs) (n := ps.length) (by omega)) (fun m H' => ∃ ws : List V, H' N = some (.lst ws) ∧ PathsAt H' ws (((ps.take m).map (goOn zs ds (k, j))).flatten) ∧ Same H8 H') ⟨[], upd_same, PathsAt.nil, gN⟩ (fun m H' _ ⟨_, _, _, g⟩ => ⟨SqL.of (g _ _ hP8), SqL.of (g _ _ hR8)⟩) (fun m y H9 H10 hm hv hy => ?_) ?_
    · obtain ⟨ws', n1, n2, n3⟩ := hv
      obtain ⟨U2, x2, y2, rfl, hU2, rfl, ex2, ey2⟩ := hy
      have ep := List.getElem?_eq_getElem hm
      generalize ps[m] = pm at ep
      have pml := plen pm (List.mem_of_getElem? ep)
      have er : (rowsL zs ds ps (k, j))[m]? = some (rowD k (szN zs j) pm ds) := by
        unfold rowsL
        rw [List.getElem?_map, ep] <;> rfl
      obtain ⟨b, rfl, hb⟩ := w58.2 m x2 pm ex2 ep
      obtain ⟨ra, rfl, ra0, hra⟩ := r2'.2 m y2 _ ey2 er
      have gU2 := same_new hU2 (.tup [.ref b, .ref ra])
      have step : goOn zs ds (k, j) pm = (rowD k (szN zs j) pm ds).map fun c => pm ++ [c] := rfl
      have flm : ((ps.take (m + 1)).map (goOn zs ds (k, j))).flatten = ((ps.take m).map (goOn zs ds (k, j))).flatten ++ (rowD k (szN zs j) pm ds).map fun c => pm ++ [c] := by
        rw [List.take_succ, ep, List.map_append, List.flatten_append, ← step]
        show _ ++ List.flatten [goOn zs ds (k, j) pm] = _
        rw [List.flatten_cons, List.flatten_nil, List.append_nil]
      have few : (((ps.take m).map (goOn zs ds (k, j))).flatten).length ≤ 216 := by
        have a := step_few (zs := zs) (ds := ds) (ps := ps.take m) (q := (k, j)) s6
        have b : (ps.take m).length ≤ ps.length := by rw [List.length_take]; omega
        unfold stepP at a
        omega
      have rl6 := rowD_len k (szN zs j) pm ds
      generalize hrow : rowD k (szN zs j) pm ds = row at hra flm rl6
      generalize ((ps.take m).map (goOn zs ds (k, j))).flatten = fl at n2 flm few
      refine ⟨U2, [.ref b, .ref ra], rfl, SqT.of upd_same, rfl, _, _, rfl, _, _, rfl, rfl, rfl, keptP ?_⟩
      have m1 := gU2 _ _ n1
      have m2 := n2.same gU2
      have m3 := n3.trans gU2
      generalize upd H9 U2 (.tup [.ref b, .ref ra]) = H11 at m1 m2 m3 ⊢
      refine ⟨_, rfl, ra, rfl, ⟨_, SqL.of (m3 _ _ hra)⟩, in2_it (walk_list (K := K) (a := ra) (xs := row.map V.int)) (fun n H' => ∃ ws : List V, H' N = some (.lst ws) ∧ PathsAt H' ws (fl ++ (row.take n).map fun c => pm ++ [c]) ∧ Same H8 H') ⟨ws', m1, by rw [List.take_zero, List.map_nil, List.append_nil]; exact m2, m3⟩ (fun n H' _ ⟨_, _, _, g⟩ => SqL.of (g _ _ hra)) (fun n c H12 H13 hn hv3 hy3 => ?_) ?_⟩
      · obtain ⟨rfl, hy3⟩ := hy3
        obtain ⟨c, ec, rfl⟩ := at_map hy3
        obtain ⟨ws2, u1, u2, u3⟩ := hv3
        rw [List.length_map] at hn
        refine ⟨rfl, kept ⟨_, rfl, b, _, rfl, .inl (SqT.of (u3 _ _ hb)), _, rfl, ?_, fun t ht => ?_⟩⟩
        · rw [List.length_append, List.length_map]
          exact Nat.le_trans (show _ ≤ 1000 by show pm.length + 1 ≤ 1000; omega) (by decide)
        have gt := same_new ht (.tup (pm.map V.int ++ [.int c]))
        have u1t := gt _ _ u1
        refine ⟨ws2, u1t, ?_, ws2 ++ [.ref t], upd_same, ?_, same_over (u3.trans gt) hN _⟩
        · have z := u2.1
          rw [List.length_append, List.length_map, List.length_take] at z
          exact small1000 (by omega)
        · rw [List.take_succ, ec, List.map_append, ← List.append_assoc]
          refine (PathsAt.snoc (u2.same gt) (p := pm ++ [c]) (b := t) ?_).lst u1t
          rw [List.map_append]
          exact upd_same
      · rintro H12 ⟨ws2, u1, u2, u3⟩
        rw [List.length_map, List.take_length] at u2
        exact ⟨ws2, u1, by rw [flm]; exact u2, u3⟩
    · rintro H9 ⟨ws', n1, n2, n3⟩
      rw [List.take_length] at n2
      have n2 : PathsAt H9 ws' (stepP zs ds ps (k, j)) := n2
      rw [← enext] at n2
      exact ⟨_, _, _, _, _, _, us ++ [v], ws', N, rfl, n3 _ _ hL8, lev8.mono (.of n3), (ne_of_none hL8 hN).symm, n1, n2, gS.trans n3⟩
  · rintro σ' H3 ⟨u6, u7, u8, u9, u10, u11, us, vs, Pa, rfl, v1, v2, v3, v4, v5, v6⟩
    rw [ln] at v2 v5
    have pf := paths_few (ds := ds) (fun q hq => (szx q hq).1) l.length (Nat.le_refl _)
    rw [List.take_length] at v5 pf
    have pf3 : (pathsL zs ds l).length ≤ 216 := Nat.le_trans pf (Nat.le_trans (Nat.pow_le_pow_right (by decide) hl3) (by decide))
    refine ⟨_, rfl, L, us, rfl, .inl ⟨SqL.of v1, fun tl htl => ?_⟩⟩
    have gtl := same_new htl (.tup us)
    have etl : upd H3 tl (.tup us) tl = some (.tup us) := upd_same
    have w4 := gtl _ _ v4
    have w5 := v5.same gtl
    have w2 := v2.mono (.of gtl)
    have w6 := g1.trans (v6.trans gtl)
    generalize upd H3 tl (.tup us) = H4 at etl w4 w5 w2 w6 ⊢
    refine ⟨_, rfl, Pa, rfl, ⟨_, SqL.of w4⟩, fun D hD => ?_⟩
    refine lc_it (walk_list (K := K) (a := Pa) (xs := vs)) (InvM H4 D (fun p => V.int (vOf ws p)) (pathsL zs ds l)) ⟨upd_same, same_new hD _⟩ (fun i H' _ ⟨_, g⟩ => SqL.of (g _ _ w4)) (fun i y H5 H6 hi hv hy => ?_) ?_
    · obtain ⟨rfl, hy⟩ := hy
      have hi2 : i < (pathsL zs ds l).length := by rw [← w5.1]; exact hi
      have ep := List.getElem?_eq_getElem hi2
      generalize (pathsL zs ds l)[i] = pm at ep
      obtain ⟨b, rfl, hb⟩ := w5.2 i y pm hy ep
      have g6 := w6.trans hv.2
      have get := DGet.t (k := pm.map Sum.inl) (g6 _ _ hd) (b := b) (by rw [keyI]; exact hv.2 _ _ hb)
      have eo : (valV (ws.map cell) (pm.map Sum.inl)).getD (.int 0) = V.int (vOf ws pm) := by
        rw [valV_cells]
        unfold vOf
        cases ws.find? fun p => decide (p.1 = pm) <;> rfl
      generalize valV (ws.map cell) (pm.map Sum.inl) = o at get eo
      refine ⟨rfl, kept ⟨_, rfl, d, rfl, .inr ⟨_, .inl (g6 _ _ hd)⟩, _, rfl, o, get, ?_⟩⟩
      rw [eo]
      exact ⟨_, hv.1, len_m (by omega), InvM.next (f := fun p => V.int (vOf ws p)) hD hv.2 ep _ rfl⟩
    · rintro H5 ⟨hD5, g5⟩
      rw [w5.1, List.take_length] at hD5
      refine ⟨D, _, rfl, .inl ⟨SqL.of hD5, fun td htd => ⟨(by show 2 ≤ sizeLine; decide), fun t ht => ?_⟩⟩⟩
      have gd := same_new htd (.tup ((pathsL zs ds l).map fun p => V.int (vOf ws p)))
      have gt := same_new ht (.tup [.ref tl, .ref td])
      have g := g5.trans (gd.trans gt)
      exact q t tl td us ds _ (w6.trans g) (SqT.of upd_same) (SqT.of (g _ _ etl)) (w2.mono (.of g)) (SqT.of (gt _ _ upd_same)) hLead
end
end Lw
/-! name = {k: v for ..} on one line, the keys tuples, the name a local -/
namespace DcT
open PySem PySem.Spec PyProof.Rows L2
section
variable {X : Cx} {pins : List (Addr × Obj)} {s : Shared} {σ : L2.St} {H : Hp} {Q : VK} {kx vx tg iter : Expr} {ifs : List Expr} {scope : Scope} {own : List (Str × Nat)} {pos pos' : Pos} {wi : TI} {g : TG} {tt : TT} {tk tv : TE} {use : Option (Value → Sem Unit)} {Qf : Value → Shared → Prop}
theorem dcT_core (hu : X.A.units < cLine) (hc : X.calm = true) (hN : X.N.Nodup) (I : Inv X pins σ H s) (hi : PI X tg iter wi) (ok : BlkOk X.N X.env.scope scope own)
    (hg : ∀ (s : Shared) (H : Hp) (C : Addr) (cl : List (Str × Addr)) (fp : List Addr), PG (X.blk s H scope (compEnvC scope cl C X.env) fp) tg g) (ht : ∀ (s : Shared) (H : Hp) (C : Addr) (cl : List (Str × Addr)) (fp : List Addr), PTs (X.blk s H scope (compEnvC scope cl C X.env) fp) ifs tt)
    (hk : ∀ (s : Shared) (H : Hp) (C : Addr) (cl : List (Str × Addr)) (fp : List Addr), PE (X.blk s H scope (compEnvC scope cl C X.env) fp) kx tk)
    (hv : ∀ (s : Shared) (H : Hp) (C : Addr) (cl : List (Str × Addr)) (fp : List Addr), PE (X.blk s H scope (compEnvC scope cl C X.env) fp) vx tv) (hs : ∀ x, foldedSetIterable iter X.env x = pure x)
    (h : tDcT wi g tt tk tv (own.map (·.2)) σ H Q)
    (hRR : ∀ D C s' m H', Inv X pins σ H' s' → Q (.ref D) H' → s'.heap.Ns C m → FpOk X pins H' C → compPost (model X.prog X.w) X.A X.xe use Qf (.ref D) C (.ok .next) s') :
    wpAny (model X.prog X.w) X.A (comprehension (.DictComp kx vx [⟨tg, iter, ifs, 0⟩] scope pos) scope X.env pos' newDict false (eval iter X.env) use) Qf X.xe s := by
  refine begin_dc hN I hi ok hs h fun D it C cl fp tn J H2 s3 s4 rd fresh nfp a => ?_
  obtain ⟨W, ⟨m0, w0⟩, turns⟩ := rd D fresh
  have pg := hg s3 (upd H2 D (.dT [])) C cl fp
  have pt := ht s3 (upd H2 D (.dT [])) C cl fp
  have pk := hk s3 (upd H2 D (.dT [])) C cl fp
  have pv := hv s3 (upd H2 D (.dT [])) C cl fp
  generalize hce : compEnvC scope cl C X.env = ce at a pg pt pk pv ⊢
  generalize hH3 : upd H2 D (.dT []) = H3 at a pg pt pk pv w0 nfp
  refine compLoop_anyD (fun n s' => ∃ i H', Inv (X.blk s3 H3 scope ce fp) [] (wipe σ (own.map (·.2))) H' s' ∧ tn i s'.heap ∧ (∀ b ∈ fp, H' b = none) ∧ W i n H') ?_ m0 ⟨0, H3, a.blk, a.now, nfp, w0⟩
  rintro n s5 ⟨i, H5, I5, now5, n5, w5⟩
  rcases turns i n H5 w5 with ⟨stop, done⟩ | ⟨more, Nx, hNx, step⟩
  · refine thnF (a.turn.done (X.blk s3 H3 scope ce fp) rfl rfl rfl hc i [] s5 _ H5 (fun _ _ => False) I5 (a.stat I5 n5) now5 stop) fun r s6 ⟨hr, I6⟩ => ?_
    subst hr
    obtain ⟨m, I7, hn, f⟩ := a.back I6
    exact hRR D s3.heap.objs.size s6 m H5 I7 done hn f
  · refine thnF (a.turn.item (X.blk s3 H3 scope ce fp) rfl rfl rfl hc i [] s5 _ H5 (fun _ _ => False) I5 (a.stat I5 n5) now5 more) fun r s6 ⟨u, hr, h6⟩ => ?_
    subst hr
    refine thnF h6 fun _ s7 ⟨x, H7, I7, r7, y7, now7, n7⟩ => ?_
    refine thnF (pg.run _ s7 _ H7 x u _ (I7.pinned (a.stat I7 n7) (a.turn.obj _ _ now7)) r7 (step x H7 y7)) fun _ s8 ⟨σ8, H8, I8, w8, q8⟩ => ?_
    refine thnF (pt.run _ s8 σ8 H8 _ I8 q8) fun b s9 ⟨H9, I9, q9⟩ => ?_
    have len8 : (wipe σ (own.map (·.2))).length = σ8.length := by rw [← w8, wipe_length]
    have know8 : ∀ (j : Nat) v, (wipe σ (own.map (·.2)))[j]? = some (some v) → σ8[j]? = some (some v) := fun j v e => by
      rw [← w8] at e
      exact (wipe_some e).1
    cases b with
    | false =>
      simp only [Bool.false_eq_true, if_false] at q9 ⊢
      exact a.next hNx now7 I9 len8 know8 q9
    | true =>
      simp only [if_true] at q9 ⊢
      refine thnF (pk.run _ s9 σ8 H9 _ I9 q9) fun z s10 ⟨yk, H10, I10, r10, q10⟩ => ?_
      refine thnF (pv.run _ s10 σ8 H10 _ I10 q10) fun z2 s11 ⟨yv, H11, I11, r11, H12, put, nx⟩ => ?_
      exact put_ok (X := X.blk s3 H3 scope ce fp) hu I11 put r10 r11 fun s12 I12 => a.next hNx now7 I12 len8 know8 nx
theorem sw_trueD {gs : List Comprehension} {py : Pos} {y : Str} {l : Nat} {env : Env} (hk : env.scope.kind = .function) (hy : env.scope.names.lookup y = some .local) (hl : (py.line == pos.line) = true)
    (ha : (scope.names.any fun (n, k) => n == y && (k == .local || k == .cell)) = false) : swapsWith (.DictComp kx vx gs scope pos) (some (.Name y py)) l env = pure true := by
  have ky : env.kindOf y = some .local := hy
  have hb : env.blockKind = .function := by unfold Env.blockKind; rw [hk]; rfl
  unfold swapsWith
  simp only [hb, ky, ha, Expr.pos, hl]
  rfl
theorem ps_setDcT {i : Nat} {y : Str} {py spos : Pos} (hu : X.A.units < cLine) (hc : X.calm = true) (hN : X.N.Nodup) (hy : X.N[i]? = some y) (hyl : X.env.scope.names.lookup y = some .local)
    (hsw : swapsWith (.DictComp kx vx [⟨tg, iter, ifs, 0⟩] scope pos) (some (.Name y py)) spos.line X.env = pure true) (hi : PI X tg iter wi) (ok : BlkOk X.N X.env.scope scope own)
    (hg : ∀ (s : Shared) (H : Hp) (C : Addr) (cl : List (Str × Addr)) (fp : List Addr), PG (X.blk s H scope (compEnvC scope cl C X.env) fp) tg g) (ht : ∀ (s : Shared) (H : Hp) (C : Addr) (cl : List (Str × Addr)) (fp : List Addr), PTs (X.blk s H scope (compEnvC scope cl C X.env) fp) ifs tt)
    (hk : ∀ (s : Shared) (H : Hp) (C : Addr) (cl : List (Str × Addr)) (fp : List Addr), PE (X.blk s H scope (compEnvC scope cl C X.env) fp) kx tk)
    (hv : ∀ (s : Shared) (H : Hp) (C : Addr) (cl : List (Str × Addr)) (fp : List Addr), PE (X.blk s H scope (compEnvC scope cl C X.env) fp) vx tv) (hs : ∀ x, foldedSetIterable iter X.env x = pure x := by intro _; rfl) :
    PS X (.Assign [.Name y py] (.DictComp kx vx [⟨tg, iter, ifs, 0⟩] scope pos) spos) (tAsg (tDcT wi g tt tk tv (own.map (·.2))) (gName i)) := by
  refine ⟨fun pins s σ H D I h => ?_⟩
  rw [exec_Assign_Name_used _ _ _ _ hsw]
  refine wpAny_bind (wpAny_standAt (wpAny_bind ?_))
  show wpAny _ X.A (do let _ ← comprehension (.DictComp kx vx [⟨tg, iter, ifs, 0⟩] scope pos) scope X.env (firstIterPos [⟨tg, iter, ifs, 0⟩] pos) newDict false (eval iter X.env) (some (assign (.Name y py) X.env))) _ _ s
  have h : tDcT wi g tt tk tv (own.map (·.2)) σ H (fun x H1 => gName i x σ H1 D.nx) := h
  refine wpAny_bind (thn (dcT_core (Qf := fun _ s' => SP X pins D .next s') hu hc hN I hi ok hg ht hk hv hs h fun L C s' m H' I' q hn f => ?_) fun _ s' hq => wpAny_pure (wpAny_pure hq))
  show wpAny _ _ (assign (.Name y py) X.env (.ref L)) _ _ _
  refine wpAny_assign_Name (store_ok2 (v := V.ref L) I' hN hy (.inl hyl) rfl (fun s2 I2 ⟨a, sb, ha⟩ => ?_) (.inr hyl))
  obtain ⟨f0, f1, f2, f3, f4, f5⟩ := f
  have haC : C ≠ a := by
    rcases ha with z | z
    · rw [z]; exact f1
    · exact fun e => f4 y a z e.symm
  refine ⟨m, hn.sameBut sb haC, fun h3 sb3 => ?_⟩
  exact ⟨_, H', I2.turned (t' := s2.toks) (fun b o hb e => (sb3.2 b hb).trans e) f0 f1 f3 f4 f5, q⟩
end
end DcT
namespace Lw
open PySem L2 TL
theorem word_back {a : Str} (h : a ∈ AWORDS) : ((toString (aval a) : String) : Str) = a := by
  have z : ∀ a ∈ AWORDS, ((toString (aval a) : String) : Str) = a := by decide +kernel
  exact z a h
theorem lvl_itm {p : Str} {r : Str × Int} (h : lvl p = some r) : itm r.1 r.2 = p := by
  unfold lvl at h
  split at h
  · rename_i k a e
    by_cases m : a ∈ AWORDS
    · rw [if_pos m] at h
      cases h
      have b := split_back p " " (by decide +kernel) (by decide +kernel)
      rw [e] at b
      refine Eq.trans (ext_tl ?_) b
      show tl (itm k (aval a)) = _
      unfold itm
      rw [word_back m, join_eq, tl_join, tl_append, tl_append, tl_append]
      show tl Str.empty ++ tl k ++ tl " " ++ tl a = tl k ++ (tl " " ++ tl a)
      rw [show tl Str.empty = [] from rfl, List.nil_append, List.append_assoc]
    · rw [if_neg m] at h
      cases h
  · cases h
theorem lvl_all : ∀ {ps : List Str}, (ps.all fun p => (lvl p).isSome) = true → (ps.filterMap lvl).length = ps.length ∧ ((ps.filterMap lvl).map fun r => itm r.1 r.2) = ps
  | [], _ => ⟨rfl, rfl⟩
  | p :: r, h => by
    rw [List.all_cons, Bool.and_eq_true] at h
    obtain ⟨h1, h2⟩ := h
    obtain ⟨i1, i2⟩ := lvl_all h2
    obtain ⟨q, e⟩ := Option.isSome_iff_exists.mp h1
    rw [List.filterMap_cons_some e, List.map_cons, List.length_cons, List.length_cons, i1, i2, lvl_itm e]
    exact ⟨rfl, rfl⟩
theorem split_ne (z : Str) : Txt.split z ", " ≠ [] := fun e => by
  have q := split_spl z ", " (by decide +kernel) (kind_ok (by decide +kernel))
  rw [e] at q
  exact spl_ne _ _ _ _ q.symm
/-- what is read is the text of what was read -/
theorem rd_back {z : Str} {ks : List Str} {is : List Int} (h : rd z = some (ks, is)) : ftext ks is = z ∧ valid ks is = true := by
  unfold rd at h
  by_cases c : z = "-"
  · rw [if_pos c] at h
    cases h
    exact ⟨by rw [c]; rfl, by decide +kernel⟩
  rw [if_neg c] at h
  by_cases c2 : ((Txt.split z ", ").all fun p => (lvl p).isSome) = true ∧ valid (lks (Txt.split z ", ")) (lis (Txt.split z ", ")) = true
  · rw [if_pos c2] at h
    cases h
    obtain ⟨i1, i2⟩ := lvl_all c2.1
    refine ⟨?_, c2.2⟩
    unfold ftext
    rw [if_neg, show (lks (Txt.split z ", ")).zip (lis (Txt.split z ", ")) = (Txt.split z ", ").filterMap lvl from zip_maps _, i2]
    · exact split_back z ", " (by decide +kernel) (by decide +kernel)
    · unfold lks
      rw [List.length_map, i1]
      intro e
      exact split_ne z (List.length_eq_zero_iff.mp e)
  · rw [if_neg c2] at h
    cases h
theorem itm_facts : ∀ k ∈ KINDS, ∀ i ∈ ([0, 1, 2] : List Int), 44 ∉ tl (itm k i) ∧ 32 ∉ tl k ∧ 32 ∉ tl ((toString i : String) : Str) ∧ ((toString i : String) : Str) ∈ AWORDS ∧ aval ((toString i : String) : Str) = i ∧ PyData.strOk (itm k i) = true := by decide +kernel
theorem lvl_of {k : Str} {i : Int} (hk : k ∈ KINDS) (hi : i ∈ ([0, 1, 2] : List Int)) : lvl (itm k i) = some (k, i) := by
  obtain ⟨f1, f2, f3, f4, f5, _⟩ := itm_facts k hk i hi
  have e : Txt.split (itm k i) " " = [k, ((toString i : String) : Str)] := by
    have b := split_join (y := " ") (s := 32) (S := []) (by decide +kernel) (by decide +kernel) (parts := [k, ((toString i : String) : Str)]) (by simp) fun p hp => by
      rcases List.mem_cons.mp hp with rfl | hp
      · exact f2
      · rw [List.mem_singleton.mp hp]
        exact f3
    have e2 : itm k i = Txt.join " " [k, ((toString i : String) : Str)] := by
      refine ext_tl ?_
      unfold itm
      rw [join_eq, tl_join, tl_append, tl_append, tl_append]
      show tl Str.empty ++ tl k ++ tl " " ++ tl _ = tl k ++ (tl " " ++ tl _)
      rw [show tl Str.empty = [] from rfl, List.nil_append, List.append_assoc]
    rw [e2]
    exact b
  rw [lvl_two e, if_pos f4, f5]
theorem fm_itms : ∀ {l : List (Str × Int)}, (∀ p ∈ l, p.1 ∈ KINDS ∧ p.2 ∈ ([0, 1, 2] : List Int)) → ((l.map fun p => itm p.1 p.2).filterMap lvl) = l ∧ ((l.map fun p => itm p.1 p.2).all fun p => (lvl p).isSome) = true
  | [], _ => ⟨rfl, rfl⟩
  | p :: r, h => by
    obtain ⟨i1, i2⟩ := fm_itms (l := r) fun q hq => h q (List.mem_cons_of_mem _ hq)
    obtain ⟨a, b⟩ := h p (List.mem_cons_self ..)
    have e := lvl_of a b
    rw [List.map_cons, List.filterMap_cons_some e, i1, List.all_cons, i2, e]
    exact ⟨rfl, rfl⟩
theorem zip_all : ∀ {ks : List Str} {is : List Int}, is.length = ks.length → (∀ k ∈ ks, k ∈ KINDS) → (∀ i ∈ is, i ∈ ([0, 1, 2] : List Int)) →
    (ks.zip is).map (·.1) = ks ∧ (ks.zip is).map (·.2) = is ∧ ∀ p ∈ ks.zip is, p.1 ∈ KINDS ∧ p.2 ∈ ([0, 1, 2] : List Int)
  | [], [], _, _, _ => ⟨rfl, rfl, fun p h => by cases h⟩
  | [], _ :: _, h, _, _ => by cases h
  | _ :: _, [], h, _, _ => by cases h
  | k :: ks, i :: is, h, h1, h2 => by
    obtain ⟨a, b, c⟩ := zip_all (Nat.succ.inj h) (fun x hx => h1 x (List.mem_cons_of_mem _ hx)) fun x hx => h2 x (List.mem_cons_of_mem _ hx)
    rw [List.zip_cons_cons, List.map_cons, List.map_cons, a, b]
    refine ⟨rfl, rfl, fun p hp => ?_⟩
    rcases List.mem_cons.mp hp with rfl | hp
    · exact ⟨h1 _ (List.mem_cons_self ..), h2 _ (List.mem_cons_self ..)⟩
    · exact c p hp
theorem ok_list (z : Str) : PyData.strOk z = (tl z).all (· < 0x110000) := by
  unfold PyData.strOk
  rw [← Array.all_toList]
/-- the text of a form is read back -/
theorem rd_ftext {ks : List Str} {is : List Int} (h : valid ks is = true) : rd (ftext ks is) = some (ks, is) := by
  obtain ⟨h1, h2, h3, h4⟩ := valid_parts h
  by_cases c : ks.length = 0
  · have e1 : ks = [] := List.length_eq_zero_iff.mp c
    have e2 : is = [] := List.length_eq_zero_iff.mp (h3.trans c)
    subst e1
    subst e2
    rfl
  obtain ⟨z1, z2, z3⟩ := zip_all h3 h2 h4
  obtain ⟨f1, f2⟩ := fm_itms z3
  have ef : ftext ks is = Txt.join ", " ((ks.zip is).map fun p => itm p.1 p.2) := by
    unfold ftext
    rw [if_neg c]
  have ne : ((ks.zip is).map fun p => itm p.1 p.2) ≠ [] := fun e => by
    have e2 := congrArg List.length e
    rw [List.length_map, List.length_zip, h3, Nat.min_self] at e2
    exact c e2
  have es : Txt.split (ftext ks is) ", " = (ks.zip is).map fun p => itm p.1 p.2 := by
    rw [ef]
    refine split_join (s := 44) (S := [32]) (by decide +kernel) (by decide +kernel) ne fun p hp => ?_
    obtain ⟨q, hq, rfl⟩ := List.mem_map.mp hp
    obtain ⟨a, b⟩ := z3 q hq
    exact (itm_facts _ a _ b).1
  have nd : ftext ks is ≠ "-" := fun e => by
    rw [e] at es
    have e0 : Txt.split "-" ", " = [("-" : Str)] := by decide +kernel
    rw [e0] at es
    have m : lvl "-" = none := by decide +kernel
    rw [← es] at f2
    rw [List.all_cons, m] at f2
    cases f2
  unfold rd lks lis
  rw [if_neg nd, es, f1, z1, z2, if_pos ⟨f2, h⟩]
theorem join_len {S : List Nat} (hS : S.length ≤ 2) : ∀ {l : List (List Nat)}, (∀ p ∈ l, p.length ≤ 20) → (joinL S l).length ≤ 22 * l.length
  | [], _ => by simp [joinL]
  | [p], h => by
    have q := h p (List.mem_cons_self ..)
    show p.length ≤ 22 * 1
    omega
  | p :: q :: r, h => by
    have i := join_len hS (l := q :: r) fun x hx => h x (List.mem_cons_of_mem _ hx)
    have j := h p (List.mem_cons_self ..)
    rw [joinL_cons (by simp), List.length_append, List.length_append]
    simp only [List.length_cons] at i ⊢
    omega
theorem join_in {S : List Nat} : ∀ {l : List (List Nat)}, ∀ c ∈ joinL S l, c ∈ S ∨ ∃ p ∈ l, c ∈ p
  | [], c, h => by cases h
  | [p], c, h => .inr ⟨p, List.mem_cons_self .., h⟩
  | p :: q :: r, c, h => by
    rw [joinL_cons (by simp)] at h
    rcases List.mem_append.mp h with h | h
    · exact .inr ⟨p, List.mem_cons_self .., h⟩
    · rcases List.mem_append.mp h with h | h
      · exact .inl h
      · rcases join_in (l := q :: r) c h with z | ⟨x, a, b⟩
        · exact .inl z
        · exact .inr ⟨x, List.mem_cons_of_mem _ a, b⟩
theorem ftext_small {ks : List Str} {is : List Int} (h : valid ks is = true) : (ftext ks is).length ≤ 100 ∧ PyData.strOk (ftext ks is) = true := by
  obtain ⟨h1, h2, h3, h4⟩ := valid_parts h
  by_cases c : ks.length = 0
  · have e : ftext ks is = "-" := by
      unfold ftext
      rw [if_pos c]
    rw [e]
    exact ⟨by decide, by decide +kernel⟩
  obtain ⟨z1, z2, z3⟩ := zip_all h3 h2 h4
  have ef : ftext ks is = Txt.join ", " ((ks.zip is).map fun p => itm p.1 p.2) := by
    unfold ftext
    rw [if_neg c]
  have et : tl (ftext ks is) = joinL (tl ", ") (((ks.zip is).map fun p => itm p.1 p.2).map tl) := by rw [ef, join_eq, tl_join]
  constructor
  · rw [len_tl, et]
    have q := join_len (S := tl ", ") (by decide) (l := ((ks.zip is).map fun p => itm p.1 p.2).map tl) fun p hp => by
      obtain ⟨y, hy, rfl⟩ := List.mem_map.mp hp
      obtain ⟨q, hq, rfl⟩ := List.mem_map.mp hy
      obtain ⟨a, b⟩ := z3 q hq
      rw [← len_tl]
      exact (small_itm _ a _ b).2.2.1
    rw [List.length_map, List.length_map, List.length_zip, h3, Nat.min_self] at q
    omega
  · rw [ok_list, et, List.all_eq_true]
    intro x hx
    rcases join_in x hx with z | ⟨p, hp, hc⟩
    · have y : ∀ x ∈ tl ", ", decide (x < 0x110000) = true := by decide +kernel
      exact y x z
    · obtain ⟨y, hy, rfl⟩ := List.mem_map.mp hp
      obtain ⟨q, hq, rfl⟩ := List.mem_map.mp hy
      obtain ⟨a, b⟩ := z3 q hq
      have o := (itm_facts _ a _ b).2.2.2.2.2
      rw [ok_list, List.all_eq_true] at o
      exact o x hc
end Lw
/-! list(d.items()), the keys tuples -/
namespace DcT
open PySem PySem.Spec PyProof.Rows PySem.W L2 L2.DX
def rListIt : List V → Hp → VK → Prop := fun vs H Q => ∃ (p d : Addr) (kvs : List (List L2.Key × V)), vs = [.ref p] ∧ H p = some (itemsO p d) ∧ H d = some (.dT kvs) ∧ kvs.length < 1000 ∧
  ∀ (H' : Hp) (l : Addr) (as : List Addr), (∀ b o, H b = some o → H' b = some o) → as.length = kvs.length → H l = none → (∀ a ∈ as, H a = none) → H' l = some (.lst (as.map V.ref)) →
    (∀ (i : Nat) (a : Addr) (k : List L2.Key) (v : V), as[i]? = some a → kvs[i]? = some (k, v) → ∃ q, H' a = some (.tup [.ref q, v]) ∧ H' q = some (.tup (k.map kV))) → Q (.ref l) H'
theorem cr_listItems {X : Cx} (hc : X.calm = true) : CallR X (.type "list") rListIt := by
  intro pins s σ H xs us Q I r h
  obtain ⟨p, a, kvs, rfl, hp, ha, hl, q⟩ := h
  obtain rfl := Vals.ref1 r
  have view : s.heap.IsItemsView p a := (show ObjOk X.prog X.w H s.heap p (itemsO p a) from I.hok p _ hp).1
  obtain ⟨z, hd, xs', rel, o, es, ep, ho, hx, hdat, hes, his, hn⟩ := dt_of I.hok ha
  have l1 : kvs.length = xs'.length := Paired.length rel
  have l2 : es.size = xs'.length := size_of_entries hes
  have hh : X.A.handled = none := I.ok.hd hc
  refine dil_call (es := es) (ep := ep) hh view ⟨o, ho, hx, hdat⟩ (by rw [sizeLine_eq]; omega) fun h' tk acc c as hk hS hal hG hacc => ?_
  have lak : as.length = kvs.length := by omega
  have nd : as.Nodup := List.Pairwise.imp (fun h => Nat.ne_of_lt h) hG.rise
  have pr : ∀ (j : Nat) (b : Addr), as[j]? = some b → ∃ (k : List L2.Key) (v : V) (kq : Addr) (u : Value), kvs[j]? = some (k, v) ∧ H kq = some (.tup (k.map kV)) ∧ RelV v u ∧ h'.get? b = some { cls := .type "tuple", data := .seq #[Value.ref kq, u] } := by
    intro j b hj
    obtain ⟨hjs, hg⟩ := hG.pairs j b hj
    have hjx : j < xs'.length := by omega
    have hjk : j < kvs.length := by omega
    have en := entry_at hes j
    rw [Array.getElem?_eq_getElem hjs, List.getElem?_eq_getElem hjx] at en
    have en : es[j] = entryOfKey (tupleKind (mixKind X.prog X.w)) xs'[j] := Option.some.inj en
    obtain ⟨e0, he0, r1, r2, r3⟩ := pget rel (List.getElem?_eq_getElem hjx)
    rw [en] at hg
    exact ⟨e0.1, e0.2, xs'[j].2.1, xs'[j].2.2, he0, r2, r3, hg⟩
  have I1 : Inv X pins σ H { s with heap := h', toks := tk } := I.kept (t' := tk) hk
  have hn0 : H s.heap.objs.size = none := I.hok.fresh (Nat.le_refl _)
  have hlen : (as.map V.ref).length ≤ sizeLine := by rw [List.length_map, sizeLine_eq]; omega
  have rv : Vals (as.map V.ref) acc.toList := by
    rw [hacc]
    exact vals_maps (fun z : Addr => V.ref z) (fun z => Value.ref z) as fun _ _ => rfl
  have I2 : Inv X pins σ (upd H s.heap.objs.size (.lst (as.map V.ref))) { s with heap := h', toks := tk } :=
    I1.take (h' := h') (t' := tk) (fun b ob _ e => e) (I.fpOk (Nat.le_refl _) hn0) ⟨hlen, acc.toList, c, rv, by rw [Array.toArray_toList]; exact hS⟩
  obtain ⟨H2, I3, g, qt⟩ := takeT (P := fun b vs => ∃ (j : Nat) (k : List L2.Key) (v : V) (kq : Addr), as[j]? = some b ∧ kvs[j]? = some (k, v) ∧ vs = [.ref kq, v] ∧ H kq = some (.tup (k.map kV))) I as _ I2 nd fun b hb => by
    obtain ⟨j, hj⟩ := List.mem_iff_getElem?.mp hb
    obtain ⟨k, v, kq, u, he, hkq, ru, hg⟩ := pr j b hj
    have hbl : s.heap.objs.size ≤ b := Nat.le_of_lt (hG.above b hb)
    refine ⟨hbl, ?_, [.ref kq, v], ⟨j, k, v, kq, hj, he, rfl, hkq⟩, fun H3 => ⟨(by rw [sizeLine_eq]; show 2 ≤ 16777216; omega), [Value.ref kq, u], .cons rfl (.cons ru .nil), ⟨_, hg, rfl, 0, rfl⟩⟩⟩
    rw [upd_ne (Nat.ne_of_gt (hG.above b hb))]
    exact I.hok.fresh hbl
  have gr : ∀ b o, H b = some o → H2 b = some o := fun b o e => g b o (by rw [upd_ne (ne_of_none e hn0)]; exact e)
  refine ⟨.ref s.heap.objs.size, H2, I3, rfl, q H2 s.heap.objs.size as gr lak hn0 (fun b hb => I.hok.fresh (Nat.le_of_lt (hG.above b hb))) (g _ _ upd_same) fun i b k v i1 i2 => ?_⟩
  obtain ⟨vs, ⟨j, k', v', kq, j1, j2, ev, hkq⟩, hH⟩ := qt b (List.mem_of_getElem? i1)
  have eij : i = j := (List.getElem?_inj (List.getElem?_eq_some_iff.mp i1).1 nd).mp (i1.trans j1.symm)
  subst eij
  rw [i2] at j2
  cases j2
  rw [ev] at hH
  exact ⟨kq, hH, gr _ _ hkq⟩
end DcT
/-! dict(d), the keys tuples: a copy, where no two keys hash alike -/
namespace PySem
section
variable {prog : Program} {w : World} {K : Type} [DecidableEq K] {knd : HeapKind prog w K} {A : Around} {E : Value → Shared → Prop} {s : Shared}
theorem kt_call_dictH {o : Addr} {more : List (K × Addr × Value)} {Q : Value → Shared → Prop} (hu : knd.room A.in1.in1) (hoS : (o == sysModules) = false) (ho : s.heap.DictOfH knd o more) (hsz : more.length ≤ sizeLine)
    (hty : ∀ x ∈ more, s.TypeIs (.ref x.2.1) "tuple") (hap : (more.map fun x => knd.hash x.1).Nodup) (hst : (s.heap.push { cls := .type "dict", data := .dict #[] }).DictOfH knd o more) (hnew : (s.heap.push { cls := .type "dict", data := .dict #[] }).DictOfH knd s.heap.objs.size [])
    (h : ∀ h', h'.DictOfH knd s.heap.objs.size more → Heap.SameBut s.heap.objs.size (s.heap.push { cls := .type "dict", data := .dict #[] }) h' → Q (.ref s.heap.objs.size) { s with heap := h' }) :
    wpAny (model prog w) A (call (.type "dict") [.ref o]) Q E s := by
  refine callType_codes (Q₁ := fun obj s₁ => obj = .ref s.heap.objs.size ∧ s₁ = { s with heap := s.heap.push { cls := .type "dict", data := .dict #[] } }) F.kt_called_dict (F.kt_typeCall_dict_1 _) F.entry_dict_init (kt_code_dict_new _ ⟨rfl, rfl⟩) ?_
  rintro obj s₁ ⟨rfl, rfl⟩
  have hn : (more.map (·.1)).Nodup := ho.nodup
  have hdo : s.heap.objs.size ≠ o := by
    obtain ⟨_, _, _, hg, _⟩ := ho
    exact fun e => absurd (Heap.lt_size hg) (by rw [e]; exact Nat.lt_irrefl _)
  refine ⟨hnew.typeIs, F.args_dict_init_2 _ _, ?_⟩
  unfold Builtin.«dict.__init__»
  refine wpAny_bind ?_
  unfold Builtin.Dict.selfAndRest
  refine wpAny_bind (wpAny_notOrdered_dict hnew.typeIs ?_)
  show wpAny _ _ (pure (s.heap.objs.size, [Value.ref o])) _ _ _
  refine wpAny_pure ?_
  show wpAny _ _ (Builtin.Dict.updateFrom "dict.__init__" s.heap.objs.size (.ref o) [] .none) _ _ _
  have ty2 : ∀ x ∈ more, ({ s with heap := s.heap.push { cls := .type "dict", data := .dict #[] } } : Shared).TypeIs (.ref x.2.1) "tuple" := fun x hx => by
    obtain ⟨ob, hb, hc⟩ := hty x hx
    exact ⟨ob, Heap.get?_push_of_some _ hb, hc⟩
  unfold Builtin.Dict.updateFrom
  refine wpAny_bind (wpAny_typeOf hst.typeIs ?_)
  rw [if_neg (by decide)]
  refine wpAny_bind ?_
  unfold Builtin.Dict.merge
  refine wpAny_bind ?_
  unfold Builtin.Dict.readDirectly
  refine wpAny_bind (wpAny_isInstance hst.typeIs isSubtype_dict_dict ?_)
  simp only [Bool.not_true, Bool.false_eq_true, if_false]
  refine wpAny_bind (wpAny_specialOf hst.typeIs F.slot_dict_iter.lookup (wpAny_pure ?_))
  simp only [beq_self_eq_true, if_true]
  refine wpAny_bind (wpAny_pure ?_)
  refine wpAny_mergeDict_heap (hsz := by simpa using hsz) hu hdo hoS hnew hst (.inr ⟨ty2, hap⟩) fun h' hd' _ hs' => ?_
  show wpAny _ _ (Builtin.Dict.addKeywords s.heap.objs.size [] >>= _) _ _ _
  rw [storedAllH_nil_of_nodup more hn] at hd'
  exact wpAny_bind (wpAny_pure (wpAny_pure ⟨rfl, h h' hd' hs'⟩))
end
end PySem
namespace DcT
open PySem PySem.Spec PyProof.Rows PySem.W L2 L2.DX
theorem kt_keys {H : Hp} : ∀ {kvs : List (List L2.Key × V)} {xs : List (List L2.Key × Addr × Value)}, KT H kvs xs → xs.map (·.1) = kvs.map (·.1)
  | _, _, .nil => rfl
  | _, _, .cons h t => by rw [List.map_cons, List.map_cons, kt_keys t, h.1]
theorem call_dictT {X : Cx} (hu : X.A.units + 2 < cLine) : CallR X (.type "dict") (fun xs H Q => ∃ (a : Addr) (kvs : List (List L2.Key × V)), xs = [.ref a] ∧ H a = some (.dT kvs) ∧ (kvs.map fun kv => tupleKeyHash (mixKind X.prog X.w) kv.1).Nodup ∧ ∀ p, H p = none → Q (.ref p) (upd H p (.dT kvs))) := by
  intro pins s σ H xs us Q I r q
  obtain ⟨a, kvs, ex, hd, hap, q⟩ := q
  subst ex
  obtain ⟨u, eu, rx⟩ := vals1 r
  subst eu
  cases rx
  obtain ⟨z, lo, xs', rel, dd⟩ := dt_of I.hok hd
  have dd0 := dd
  obtain ⟨ob, es, ep, h1, h2, h3, h4, h5, h6⟩ := dd
  have up : ∀ b o, s.heap.get? b = some o → (s.heap.push { cls := .type "dict", data := .dict #[] }).get? b = some o := fun b o e => Heap.get?_push_of_some _ e
  have is2 : ∀ x ∈ xs', (tupleKind (mixKind X.prog X.w)).is (s.heap.push { cls := .type "dict", data := .dict #[] }) x.1 x.2.1 := fun x hx => by
    obtain ⟨o, its, n, k1, k2, k3, k4⟩ := (show IsTupleKey (mixKind X.prog X.w) s.heap x.1 x.2.1 from h5 x hx)
    exact ⟨o, its, n, up _ _ k1, k2, k3, k4⟩
  have hm : (s.heap.objs.size == sysModules) = false := beq_eq_false_iff_ne.mpr (Nat.ne_of_gt I.big)
  refine kt_call_dictH (knd := tupleKind (mixKind X.prog X.w)) (more := xs') hu lo dd0 (by rw [← Paired.length rel]; exact z) (fun x hx => ?_) ?_ ⟨ob, es, ep, up _ _ h1, h2, h3, h4, is2, h6⟩ ⟨_, #[], 0, Heap.get?_push_size _ rfl, ⟨rfl, rfl, rfl⟩, rfl, rfl, (fun x hx => by cases hx), List.nodup_nil⟩ fun h' d' hs => ?_
  · obtain ⟨o, its, n, k1, k2, _⟩ := (show IsTupleKey (mixKind X.prog X.w) s.heap x.1 x.2.1 from h5 x hx)
    exact ⟨o, k1, k2⟩
  · have e : (xs'.map fun x => (tupleKind (mixKind X.prog X.w)).hash x.1) = kvs.map fun kv => tupleKeyHash (mixKind X.prog X.w) kv.1 := by
      have := congrArg (List.map fun k => tupleKeyHash (mixKind X.prog X.w) k) (kt_keys rel)
      rw [List.map_map, List.map_map] at this
      exact this
    rw [e]
    exact hap
  obtain ⟨o', es', ep', k1, k2, k3, k4, _, k6⟩ := d'
  refine ⟨.ref s.heap.objs.size, upd H s.heap.objs.size (.dT kvs), I.laid (t' := s.toks) (fun b u e => (hs.2 b (Nat.ne_of_lt (Heap.lt_size e))).trans (Heap.get?_push_of_some _ e)) (Nat.le_refl _)
    (show ObjOk X.prog X.w _ _ _ (.dT kvs) from ⟨z, hm, xs', rel.keeps fun c ys ec => ?_, o', es', ep', k1, k2, k3, k4, k6⟩), rfl, q _ (I.hok.fresh (Nat.le_refl _))⟩
  rw [upd_ne (ne_of_none ec (I.hok.fresh (Nat.le_refl _)))]
  exact ec
end DcT
namespace Lw
open PySem L2 TL DcT
/-! no two coordinates of a table hash alike -/
def hk (k : List Int) : Int := reduceHash (Builtin.Tuple.tupleHashOf (k.map hashInt))
def allL : Nat → List (List Int)
  | 0 => [[]]
  | n + 1 => (allL n).flatMap fun l => ([0, 1, 2, 3, 4, 5] : List Int).map fun c => c :: l
theorem hk0 : ((allL 0).map hk).Nodup := by decide +kernel
theorem hk1 : ((allL 1).map hk).Nodup := by decide +kernel
theorem hk2 : ((allL 2).map hk).Nodup := by decide +kernel
theorem hk3 : ((allL 3).map hk).Nodup := by decide +kernel
theorem hk_all {n : Nat} (h : n ≤ 3) : ((allL n).map hk).Nodup := by
  match n, h with
  | 0, _ => exact hk0
  | 1, _ => exact hk1
  | 2, _ => exact hk2
  | 3, _ => exact hk3
theorem all_mem : ∀ {n : Nat} {k : List Int}, k.length = n → (∀ c ∈ k, 0 ≤ c ∧ c ≤ 5) → k ∈ allL n
  | 0, k, h, _ => by
    rw [List.length_eq_zero_iff.mp h]
    exact List.mem_singleton.mpr rfl
  | n + 1, c :: k, h, hc => by
    refine List.mem_flatMap.mpr ⟨k, all_mem (by simpa using h) (fun x hx => hc x (List.mem_cons_of_mem _ hx)), List.mem_map.mpr ⟨c, ?_, rfl⟩⟩
    obtain ⟨a, b⟩ := hc c (List.mem_cons_self ..)
    simp only [List.mem_cons, List.not_mem_nil, or_false]
    omega
theorem nodup_inj {α β : Type} {f : α → β} : ∀ {l : List α}, (l.map f).Nodup → ∀ a ∈ l, ∀ b ∈ l, f a = f b → a = b
  | [], _, a, ha, _, _, _ => by cases ha
  | x :: r, h, a, ha, b, hb, e => by
    rw [List.map_cons] at h
    obtain ⟨h1, h2⟩ := List.nodup_cons.mp h
    rcases List.mem_cons.mp ha with ea | ha
    · rcases List.mem_cons.mp hb with eb | hb
      · rw [ea, eb]
      · rw [ea] at e
        exact absurd (List.mem_map.mpr ⟨b, hb, e.symm⟩) h1
    · rcases List.mem_cons.mp hb with eb | hb
      · rw [eb] at e
        exact absurd (List.mem_map.mpr ⟨a, ha, e⟩) h1
      · exact nodup_inj h2 a ha b hb e
theorem cells_hash {P : Program} {w : World} {n : Nat} {cs : List (List Int × Int)} (hn : n ≤ 3) (nd : (cs.map (·.1)).Nodup) (h : ∀ c ∈ cs, c.1.length = n ∧ ∀ x ∈ c.1, 0 ≤ x ∧ x ≤ 5) : ((cs.map cell).map fun kv => tupleKeyHash (mixKind P w) kv.1).Nodup := by
  have e : ((cs.map cell).map fun kv => tupleKeyHash (mixKind P w) kv.1) = (cs.map (·.1)).map hk := by
    rw [List.map_map, List.map_map]
    refine List.map_congr_left fun c _ => ?_
    show reduceHash (Builtin.Tuple.tupleHashOf ((c.1.map (Sum.inl : Int → Key)).map (keyH w))) = hk c.1
    rw [List.map_map] <;> rfl
  rw [e]
  refine List.pairwise_map.mpr (nd.imp_of_mem fun {a b} ha hb ne e => ne ?_)
  obtain ⟨c, hc, rfl⟩ := List.mem_map.mp ha
  obtain ⟨d, hd, rfl⟩ := List.mem_map.mp hb
  exact nodup_inj (hk_all hn) _ (all_mem (h c hc).1 (h c hc).2) _ (all_mem (h d hd).1 (h d hd).2) e
theorem good_small {zs : List Int} {cs : List (List Int × Int)} (hg : GoodC zs cs) (hz : ∀ x ∈ zs, 1 ≤ x ∧ x ≤ 6) : ∀ c ∈ cs, c.1.length = zs.length ∧ ∀ x ∈ c.1, 0 ≤ x ∧ x ≤ 5 := fun c hc => by
  obtain ⟨⟨h1, h2⟩, _⟩ := hg.2 c hc
  refine ⟨h1, fun x hx => ?_⟩
  obtain ⟨i, hi⟩ := List.getElem?_of_mem hx
  have hi2 : i < zs.length := by rw [← h1]; exact (List.getElem?_eq_some_iff.mp hi).1
  have y := h2 i x zs[i] hi (List.getElem?_eq_getElem hi2)
  have z := hz zs[i] (List.getElem_mem hi2)
  omega
end Lw
namespace Lw
open PySem L2 TL DcT
/-! Stored.__init__ -/
/-- an attribute as a target -/
def gFld (K : PySem.W.Frag) (ta : TE) (f : Str) : TG := fun v σ H Q => ta σ H fun x H1 => ∃ a C dx fs, x = .ref a ∧ H1 a = some (.ins C dx fs) ∧ Cls K C ∧ NoAttr K C f ∧ fs.length < 1000 ∧ Q σ (upd H1 a (.ins C dx (putF f v fs)))
theorem pg_fld {X : Cx} {o : Expr} {f : Str} {pos : Pos} {ta : TE} (ha : PE X o ta) : PG X (.Attribute o f pos) (gFld X.K ta f) := by
  refine ⟨fun pins s σ H v u Q I r h => PySem.W.kas_attr (L2.thn (ha.run pins s σ H _ I h) fun ov s2 ⟨x, H2, I2, rx, a, C, dx, fs, ex, ea, c, n, l, q2⟩ => ?_)⟩
  subst ex
  obtain rfl : ov = Value.ref a := rx
  exact setattr_ok I2 ea c n l r fun s3 I3 => ⟨σ, _, I3, q2⟩
/-! cells by path -/
def pkv (fx : List Int) (c : List Int × Int) : List Int × Int := (pathI fx c.1, c.2)
def real (cs : List (List Int × Int)) : List (List Int × Int) := cs.filter fun c => decide (c.2 ≠ 0)
theorem vOf_in {cs : List (List Int × Int)} {k : List Int} {v : Int} (nd : (cs.map (·.1)).Nodup) (h : (k, v) ∈ cs) : vOf cs k = v := by
  have m := vOf_mem (cs := cs) (k := k) (List.mem_map_of_mem (f := (·.1)) h)
  obtain ⟨i, hi, ei⟩ := List.mem_iff_getElem.mp m
  obtain ⟨j, hj, ej⟩ := List.mem_iff_getElem.mp h
  have z : i = j := (List.getElem_inj nd (h₀ := by rw [List.length_map]; exact hi) (h₁ := by rw [List.length_map]; exact hj)).mp (by rw [List.getElem_map, List.getElem_map, ei, ej])
  subst z
  rw [ei] at ej
  injection ej
theorem vOf_out {cs : List (List Int × Int)} {k : List Int} (h : k ∉ cs.map (·.1)) : vOf cs k = 0 := by
  unfold vOf
  cases e : cs.find? fun p => decide (p.1 = k) with
  | none => rfl
  | some p =>
    have h0 := List.find?_some e
    have h1 : p.1 = k := of_decide_eq_true h0
    exact absurd (List.mem_map.mpr ⟨p, List.mem_of_find?_eq_some e, h1⟩) h
theorem vOf_same {A B : List (List Int × Int)} (ndA : (A.map (·.1)).Nodup) (ndB : (B.map (·.1)).Nodup) (h1 : ∀ p ∈ A, p ∈ B) (h2 : ∀ p ∈ B, p.2 ≠ 0 → p ∈ A) (k : List Int) : vOf A k = vOf B k := by
  by_cases hk : k ∈ A.map (·.1)
  · obtain ⟨⟨k', v⟩, hp, rfl⟩ := List.mem_map.mp hk
    rw [vOf_in ndA hp, vOf_in ndB (h1 _ hp)]
  · rw [vOf_out hk]
    by_cases hb : k ∈ B.map (·.1)
    · obtain ⟨⟨k', v⟩, hp, rfl⟩ := List.mem_map.mp hb
      rw [vOf_in ndB hp]
      by_cases z : v = 0
      · exact z.symm
      · exact absurd (List.mem_map_of_mem (f := (·.1)) (h2 _ hp z)) hk
    · rw [vOf_out hb]
theorem nz_perm {cs : List (List Int × Int)} {ks : List (List Int)} (nd : (cs.map (·.1)).Nodup) (h : ks.Perm (cs.map (·.1))) : (nz cs ks).Perm (real cs) := by
  have e : (cs.map (·.1)).map (fun k => (k, vOf cs k)) = cs := by
    rw [List.map_map]
    refine (List.map_congr_left fun p hp => ?_).trans (List.map_id cs)
    show (p.1, vOf cs p.1) = p
    rw [vOf_in (v := p.2) nd hp]
  have z : (nz cs ks).Perm (nz cs (cs.map (·.1))) := (h.map _).filter _
  refine z.trans ?_
  unfold nz
  rw [e]
  exact List.Perm.refl _
theorem pkv_nodup {fx : List Int} {n : Nat} (hp : fx.Perm (iota n)) {cs : List (List Int × Int)} (hl : ∀ p ∈ cs, p.1.length = n) (nd : (cs.map (·.1)).Nodup) : ((cs.map (pkv fx)).map (·.1)).Nodup := by
  rw [List.map_map]
  exact List.pairwise_map.mpr ((List.pairwise_map.mp nd).imp_of_mem fun {a b} ha hb ne e => ne (path_inj hp (hl a ha) (hl b hb) e))
theorem Lead.perm {A B ds : List (List Int)} (h : A.Perm B) (l : Lead A ds) : Lead B ds := fun k => (l k).trans ⟨fun ⟨p, hp, q⟩ => ⟨p, h.mem_iff.mp hp, q⟩, fun ⟨p, hp, q⟩ => ⟨p, h.mem_iff.mpr hp, q⟩⟩
theorem kpF {K : PySem.W.Frag} {C p q S dx : Addr} {fs : List (Str × V)} {ks : List Str} {is : List Int} {H H' : Hp} (k : Kp p H H') (hp : H p = some (.ins S dx fs)) (nq : q ≠ p) : FormAt K C q ks is H → FormAt K C q ks is H'
  | ⟨dx', tk, ta, h1, h2, h3⟩ => ⟨dx', tk, ta, k _ _ nq h1, k.seq hp h2, k.tz hp h3⟩
theorem kpT {K : PySem.W.Frag} {p S dx : Addr} {fs : List (Str × V)} {H H' : Hp} (k : Kp p H H') (hp : H p = some (.ins S dx fs)) : TK K H H' := fun _ _ h => k.seq hp h
theorem kpPut {H : Hp} {p : Addr} {o : HO} : Kp p H (upd H p o) := fun b u n e => by rw [upd_ne n]; exact e
theorem Kp.trans {p : Addr} {H H1 H2 : Hp} (k : Kp p H H1) (k' : Kp p H1 H2) : Kp p H H2 := fun b o n e => k' b o n (k b o n e)
theorem Kp.of {p : Addr} {H H' : Hp} (g : Same H H') : Kp p H H' := fun b o _ e => g b o e
def stF (ts q tc tl td : Addr) : List (Str × V) := [("sizes", .ref ts), ("form", .ref q), ("cells", .ref tc), ("levels", .ref tl), ("data", .ref td)]
structure Sd (K : PySem.W.Frag) (S C : Addr) : Prop where
  cl : Cls K S
  nS : PySem.W.findIn K (.ref S) "sizes" = some none
  nF : PySem.W.findIn K (.ref S) "form" = some none
  nC : PySem.W.findIn K (.ref S) "cells" = some none
  nL : PySem.W.findIn K (.ref S) "levels" = some none
  nD : PySem.W.findIn K (.ref S) "data" = some none
  clC : Cls K C
  nK : PySem.W.findIn K (.ref C) "kinds" = some none
abbrev s_st_init : Stmt := inClass (topS 35) 0
abbrev n_st_init : List Str := ["self", "sizes", "form", "cells", "worths", "at"]
theorem sc_st_init : FnScope n_st_init ["self", "sizes", "form", "cells"] (defScope s_st_init) := ⟨rfl, rfl, rfl, by decide +kernel, rfl, by decide +kernel, by decide +kernel⟩
/-- a table of these cells at p -/
def StoredAt (K : PySem.W.Frag) (S : Addr) (H : Hp) (p q : Addr) (zs : List Int) (l : List (Str × Int)) (cs : List (List Int × Int)) : Prop := ∃ (dx ts tc tl td : Addr) (us : List V) (ds : List (List Int)) (cs' : List (List Int × Int)), H p = some (.ins S dx (stF ts q tc tl td)) ∧ SqT K H ts (zs.map V.int) ∧ H tc = some (.dT (cs'.map cell)) ∧ cs'.Perm (real cs) ∧
  (cs'.map fun c => pathI (l.map (·.2)) c.1).Pairwise (fun u v => TS.code 1001 u ≤ TS.code 1001 v) ∧ SqT K H tl us ∧ LevsAt K H us zs ds l l.length ∧ SqT K H td ((pathsL zs ds l).map fun x => V.int (vOf (cs.map (pkv (l.map (·.2)))) x)) ∧ Lead ((real cs).map fun c => pathI (l.map (·.2)) c.1) ds
theorem StoredAt.same {K : PySem.W.Frag} {S : Addr} {H H' : Hp} {p q : Addr} {zs : List Int} {l : List (Str × Int)} {cs : List (List Int × Int)} (g : Same H H') : StoredAt K S H p q zs l cs → StoredAt K S H' p q zs l cs
  | ⟨dx, ts, tc, tl, td, us, ds, cs', h1, h2, h3, h4, h5, h6, h7, h8, h9⟩ => ⟨dx, ts, tc, tl, td, us, ds, cs', g _ _ h1, seqT g h2, g _ _ h3, h4, h5, seqT g h6, h7.mono (.of g), seqT g h8, h9⟩
/-- the dict of a table's cells -/
def CellN (N : Addr → Prop) (S : Addr) (H : Hp) (p q : Addr) : Prop := ∃ dx ts tc tl td : Addr, H p = some (.ins S dx (stF ts q tc tl td)) ∧ N tc
theorem CellN.same {N : Addr → Prop} {S : Addr} {H H' : Hp} {p q : Addr} (g : Same H H') : CellN N S H p q → CellN N S H' p q
  | ⟨dx, ts, tc, tl, td, h, n⟩ => ⟨dx, ts, tc, tl, td, g _ _ h, n⟩
theorem CellN.weak {N N' : Addr → Prop} {S : Addr} {H : Hp} {p q : Addr} (w : ∀ a, N a → N' a) : CellN N S H p q → CellN N' S H p q
  | ⟨dx, ts, tc, tl, td, h, n⟩ => ⟨dx, ts, tc, tl, td, h, w _ n⟩
def spStI (K : PySem.W.Frag) (S C BF : Addr) : Sp := fun vs H Q E => ∃ (p dx z q d : Addr) (zs : List Int) (l : List (Str × Int)) (cs : List (List Int × Int)), vs = [.ref p, .ref z, .ref q, .ref d] ∧ H p = some (.ins S dx []) ∧ (SqL K H z (zs.map V.int) ∨ SqT K H z (zs.map V.int)) ∧ FormAt K C q (l.map (·.1)) (l.map (·.2)) H ∧ H d = some (.dT (cs.map cell)) ∧
  zs.length ≤ 3 ∧ (∀ q ∈ l, q.1 ∈ KINDS) ∧ (l.length = zs.length → (l.map (·.2)).Perm (iota zs.length)) ∧ (∀ x ∈ zs, 1 ≤ x ∧ x ≤ 6) ∧ GoodC zs cs ∧ cs.length < 200 ∧
  (l.length = zs.length → ∀ H' : Hp, Kp p H H' → StoredAt K S H' p q zs l cs → CellN (fun a => H a = none) S H' p q → Q .non H') ∧ (l.length ≠ zs.length → ∀ H' : Hp, Kp p H H' → E (.ref BF) none H')
section
variable {P : Program} {w : World} {K : PySem.W.Frag} {mg : Str → Option Value} {base : Heap} {S C fI BF AW KD f : Addr} {MC : Value} {fd : FuncData}
theorem ok_st_init (F : Fun K "__init__" "Stored.__init__" s_st_init f fd) (T : Sd K S C) (Tf : Fm K mg C fI BF AW KD MC) (B : Bt mg) (cF : Ca P w K mg base 2 "frozen" ["worth"] (spFrz K)) (cA : Ca P w K mg base 2 "are_sizes" ["sizes"] (spASizes K)) (cC : Ca P w K mg base 3 "checked_cells" ["sizes", "cells"] (spChk K)) (cI : Ca P w K mg base 2 "in_path_order" ["form", "cells"] (spIpo K C))
    (cP : Ca P w K mg base 1 "path_of" ["form", "at"] (spPath K C)) (cL : Ca P w K mg base 4 "laid_out" ["sizes", "form", "worths"] (spLaid K C)) : FnOk P w K mg base (L2.CX P w) 5 f fd ["self", "sizes", "form", "cells"] (spStI K S C BF) := by
  refine F.okX sc_st_init (fun vs H Q E h => ?_) (fun cdv A outer s H vs Q E hr h => ?_)
  · obtain ⟨p, dx, z, q, d, zs, l, cs, rfl, _⟩ := h
    rfl
  obtain ⟨p, dx, z, q, d, zs, l, cs, rfl, hp, hz, hF, hd, hz3, hk, hpermE, hz6, hg, h64, k, kE⟩ := h
  refine ⟨_, (pss_cons (ps_fld (pv 0) (pca cF hr (by decide) rfl (pa_cons (pv 1) pa_nil)) rfl)
(pss_cons (ps_if (pt_not (pt_val (pca cA hr (by decide) rfl (pa_cons (pe_fld (pv 0) rfl) pa_nil)))) (pss_one ps_never) pss_nil)
(pss_cons (ps_if (pt_cmpR op_ne (pe_callB call_len_seq (by rfl) B.len PySem.boot_len (pa_cons (pe_fld (pv 2) rfl) pa_nil)) (pe_callB call_len_seq (by rfl) B.len PySem.boot_len (pa_cons (pe_fld (pv 0) rfl) pa_nil)) (nomark _)) (pss_one (ps_raise rfl (takes_of rfl rfl rfl rfl) (pmk_own0 PySem.F.excBase_ValueError Tf.xB Tf.mB Tf.kB (raises_own Tf.rB Tf.tB) (by rfl)))) pss_nil)
(pss_cons (ps_fld (pv 0) (pv 2) rfl)
(pss_cons (ps_fld (pv 0) (pca cI hr (by decide) rfl (pa_cons (pv 2) (pa_cons (pca cC hr (by decide) rfl (pa_cons (pe_fld (pv 0) rfl) (pa_cons (pv 3) pa_nil))) pa_nil))) rfl)
(pss_cons (ps_lock (DcT.ps_setDcT (i := 4) (own := [("at", 5)]) (g := gName 5) (tt := tYes) (tk := tCall (spPath K C) [] E0 (tCons (tVar 2) (tCons (tVar 5) tNil))) (tv := tDGet (tFld K (tVar 0) "cells") (tVar 5)) (room0 hr) rfl sc_st_init.nd rfl rfl (DcT.sw_trueD rfl rfl rfl (by decide +kernel)) (pi_keys (pe_fld (pv 0) rfl)) (blkOk_by (N := n_st_init) (sc := defScope s_st_init) (by decide +kernel)) (fun _ _ _ _ _ => pg_name (i := 5) sc_st_init.nd rfl (Or.inl rfl)) (fun _ _ _ _ _ => pts_nil) (fun _ _ _ _ _ => pca cP hr (by decide) rfl (pa_cons (pv 2) (pa_cons (pv 5) pa_nil))) (fun _ _ _ _ _ => pe_dget (hu_of hr) (pe_fld (pv 0) rfl) (pv 5) (fun _ _ => rfl))))
(pss_one (ps_asg (pca cL hr (by decide) rfl (pa_cons (pe_fld (pv 0) rfl) (pa_cons (pv 2) (pa_cons (pv 4) pa_nil)))) (pg_tup rfl (pgs_cons (pg_fld (pv 0)) (pgs_cons (pg_fld (pv 0)) pgs_nil))))))))))), ?_⟩
  have nq : q ≠ p := fun e => by
    obtain ⟨_, _, _, h1, _, _⟩ := hF
    rw [e, hp] at h1
    cases h1
  have nd_ : d ≠ p := fun e => by
    rw [e, hp] at hd
    cases hd
  have hz1000 : ∀ x ∈ zs, 1 ≤ x ∧ x ≤ 1000 := fun x hx => ⟨(hz6 x hx).1, by have := (hz6 x hx).2; omega⟩
  -- sizes
  refine ⟨_, rfl, z, zs, rfl, hz, by omega, fun ts H1 g1 n1 h1 => ?_⟩
  have hp1 := g1 _ _ hp
  refine ⟨_, rfl, p, S, dx, _, rfl, hp1, T.cl, T.nS, (by show 0 < 1000; decide), ?_⟩
  have kp2 : Kp p H1 (upd H1 p (.ins S dx (putF "sizes" (.ref ts) []))) := kpPut
  have hF2 := kpF kp2 hp1 nq (hF.same g1)
  have hts2 : SqT K (upd H1 p (.ins S dx (putF "sizes" (.ref ts) []))) ts (zs.map V.int) := kp2.seq hp1 h1.seq
  have hd2 := kp2 _ _ nd_ (g1 _ _ hd)
  have K2 := (Kp.of (p := p) g1).trans kp2
  have hp2 : upd H1 p (.ins S dx (putF "sizes" (.ref ts) [])) p = some (.ins S dx [("sizes", .ref ts)]) := upd_same
  generalize upd H1 p (.ins S dx (putF "sizes" (.ref ts) [])) = H2 at kp2 hF2 hts2 hd2 K2 hp2 ⊢
  have hok : sizesOk zs = true := by
    unfold sizesOk
    rw [decide_eq_true hz3, Bool.true_and, List.all_eq_true]
    intro x hx
    obtain ⟨a, b⟩ := hz6 x hx
    rw [decide_eq_true a, decide_eq_true b] <;> rfl
  refine ⟨_, rfl, p, S, dx, _, _, rfl, hp2, T.cl, T.nS, rfl, ts, zs, rfl, hts2, by omega, fun H3 g3 => ⟨_, rfl, ?_⟩⟩
  rw [hok]
  refine iteF ?_
  have hp3 := g3 _ _ hp2
  have hF3 := hF2.same g3
  have hts3 := seqT g3 hts2
  have hd3 := g3 _ _ hd2
  have K3 := K2.same g3
  obtain ⟨dxq, tk, ta, hq1, hq2, hq3⟩ := hF3
  refine ⟨_, rfl, q, C, dxq, _, _, rfl, hq1, T.clC, T.nK, flds_k _ _, tk, _, rfl, .inr hq2, _, rfl, p, S, dx, _, _, rfl, hp3, T.cl, T.nS, rfl, ts, _, rfl, .inr hts3, rfl, _, rfl, ?_⟩
  by_cases hlz : l.length = zs.length
  case neg => exact iteC (by rw [List.length_map, List.length_map, List.length_map, dec_int]; simp; omega) (kE hlz _ K3)
  have hperm := hpermE hlz
  have fl : (l.map (·.2)).length = zs.length := by rw [List.length_map, hlz]
  refine iteN (by rw [List.length_map, List.length_map, List.length_map, hlz, dec_int]; simp) ?_
  have hF3 : FormAt K C q (l.map (·.1)) (l.map (·.2)) H3 := ⟨dxq, tk, ta, hq1, hq2, hq3⟩
  -- form
  refine ⟨_, rfl, _, rfl, p, S, dx, _, rfl, hp3, T.cl, T.nF, (by show 1 < 1000; decide), ?_⟩
  have kp4 : Kp p H3 (upd H3 p (.ins S dx (putF "form" (.ref q) [("sizes", .ref ts)]))) := kpPut
  have hF4 := kpF kp4 hp3 nq hF3
  have hts4 := kp4.seq hp3 hts3
  have hd4 := kp4 _ _ nd_ hd3
  have K4 := K3.trans kp4
  have hp4 : upd H3 p (.ins S dx (putF "form" (.ref q) [("sizes", .ref ts)])) p = some (.ins S dx [("sizes", .ref ts), ("form", .ref q)]) := upd_same
  generalize upd H3 p (.ins S dx (putF "form" (.ref q) [("sizes", .ref ts)])) = H4 at kp4 hF4 hts4 hd4 K4 hp4 ⊢
  -- cells
  refine ⟨_, rfl, _, rfl, p, S, dx, _, _, rfl, hp4, T.cl, T.nS, rfl, _, rfl, ts, d, zs, cs, rfl, hts4, by omega, hz1000, hd4, hg, h64, fun t ks H5 pks ord5 ht5 g5 => ?_⟩
  have pnz := nz_perm hg.1 pks
  have inz : ∀ c ∈ nz cs ks, c ∈ cs := fun c hc => (List.mem_filter.mp (pnz.mem_iff.mp hc)).1
  have cin : ∀ c ∈ cs, c.1.length = zs.length ∧ TS.Bd 1001 c.1 := fun c hc => (hg.2 c hc).1.bd hz1000
  have ndnz : ((nz cs ks).map (·.1)).Nodup := (pnz.map (·.1)).nodup_iff.mpr (hg.1.sublist ((List.filter_sublist).map _))
  have nzl : (nz cs ks).length < 200 := by
    have a := pnz.length_eq
    have b := List.length_filter_le (fun c : List Int × Int => decide (c.2 ≠ 0)) cs
    unfold real at a
    omega
  refine ⟨q, t, _, _, zs.length, nz cs ks, rfl, hF4.same g5, hperm, hz3, ht5, ndnz, fun c hc => cin c (inz c hc), nzl, fun tc cs' H6 pcs ord6 ht6 g6 ntc0 => ?_⟩
  have ntcH : H tc = none := by
    cases e : H tc with
    | none => rfl
    | some o =>
      have npt : tc ≠ p := fun z => by
        rw [z, g5 _ _ hp4] at ntc0
        cases ntc0
      have y := (K4.same g5) tc o npt e
      rw [ntc0] at y
      cases y
  have g46 := g5.trans g6
  have hp6 := g46 _ _ hp4
  have ntc : tc ≠ p := fun e => by
    rw [e, hp6] at ht6
    cases ht6
  refine ⟨_, rfl, p, S, dx, _, rfl, hp6, T.cl, T.nC, (by show 2 < 1000; decide), ?_⟩
  have kp7 : Kp p H6 (upd H6 p (.ins S dx (putF "cells" (.ref tc) [("sizes", .ref ts), ("form", .ref q)]))) := kpPut
  have hF7 := kpF kp7 hp6 nq (hF4.same g46)
  have hts7 := kp7.seq hp6 (seqT g46 hts4)
  have ht7 := kp7 _ _ ntc ht6
  have K7 := (K4.same g46).trans kp7
  have hp7 : upd H6 p (.ins S dx (putF "cells" (.ref tc) [("sizes", .ref ts), ("form", .ref q)])) p = some (.ins S dx [("sizes", .ref ts), ("form", .ref q), ("cells", .ref tc)]) := upd_same
  generalize upd H6 p (.ins S dx (putF "cells" (.ref tc) [("sizes", .ref ts), ("form", .ref q)])) = H7 at kp7 hF7 hts7 ht7 K7 hp7 ⊢
  have pcs2 := pcs.trans pnz
  have inC : ∀ c ∈ cs', c ∈ cs := fun c hc => inz c (pcs.mem_iff.mp hc)
  have ndc : (cs'.map (·.1)).Nodup := (pcs.map (·.1)).nodup_iff.mpr ndnz
  have cl64 : cs'.length < 200 := by rw [pcs.length_eq]; exact nzl
  -- worths
  refine ⟨tc, .dT (cs'.map cell), ht7, trivial, fun od => ?_⟩
  have hFl := lock_form (od := od) ht7 hF7
  have hpl := lock_keep (od := od) ht7 hp7 (fun e => by cases e)
  have hdl : upd H7 tc (.frz od (.dT (cs'.map cell))) tc = some (.frz od (.dT (cs'.map cell))) := upd_same
  have hback : ∀ {H' : Hp}, Same (upd H7 tc (.frz od (.dT (cs'.map cell)))) H' → Same H7 (upd H' tc (.dT (cs'.map cell))) := fun {H'} g => unlock_same ht7 g
  generalize upd H7 tc (.frz od (.dT (cs'.map cell))) = Hl at hFl hpl hdl hback ⊢
  refine ⟨_, rfl, p, S, dx, _, _, rfl, hpl, T.cl, T.nC, rfl, tc, od, rfl, .inr ⟨_, hdl, fun D hD => ?_⟩⟩
  have gD := same_new hD (.dT [])
  have lk : (cs'.map cell).length = cs'.length := List.length_map _
  refine DcT.dcT_it (walk_keysT (d := tc) (o := od) (kvs := cs'.map cell)) (fun i H' => H' D = some (.dT (((cs'.take i).map (pkv (l.map (·.2)))).map cell)) ∧ Same Hl H') ⟨upd_same, gD⟩ (fun i H' _ ⟨_, g⟩ => g _ _ hdl) (fun i x H8 H9 hi hv hy => ?_) ?_
  · obtain ⟨rfl, kk, v, qa, ek, rfl, hq⟩ := hy
    obtain ⟨v1, v2⟩ := hv
    obtain ⟨c, ec, ek2⟩ : ∃ c, cs'[i]? = some c ∧ (kk, v) = cell c := by
      rw [List.getElem?_map] at ek
      cases e : cs'[i]? with
      | none => rw [e] at ek; cases ek
      | some c => rw [e] at ek; exact ⟨c, rfl, (Option.some.inj ek).symm⟩
    cases ek2
    have hqk := hq
    rw [keyI] at hq
    have cm := List.mem_of_getElem? ec
    obtain ⟨cl, _⟩ := cin c (inC c cm)
    have il : i < cs'.length := by rw [← lk]; exact hi
    refine ⟨rfl, kept ⟨_, rfl, _, rfl, q, qa, _, _, c.1, rfl, hFl.same v2, SqT.of hq, by omega, fun x hx => ?_, fun t0 H10 g10 ht0 => ?_⟩⟩
    · obtain ⟨x0, x1⟩ := iota_mem.mp (hperm.mem_iff.mp hx)
      exact ⟨x0, by omega⟩
    have g := v2.trans g10
    have get : DGet H10 tc (.ref qa) (some (.int c.2)) := by
      refine .inr ⟨_, c.1.map Sum.inl, qa, .inr ⟨od, g _ _ hdl⟩, rfl, g10 _ _ hqk, ?_⟩
      rw [valV_key (List.mem_map_of_mem (f := (·.1)) cm), vOf_in ndc cm]
    refine ⟨_, rfl, p, S, dx, _, _, rfl, g _ _ hpl, T.cl, T.nC, rfl, _, rfl, tc, _, rfl, get, ?_⟩
    have hD3 := g10 _ _ v1
    refine ⟨_, DPut.t (k := (pathI (l.map (·.2)) c.1).map Sum.inl) hD3 (by rw [keyI]; exact ht0) (by rw [List.length_map, List.length_map, List.length_take]; exact small1000 (by omega)), ?_, same_over g hD _⟩
    have et : (cs'.take (i + 1)).map (pkv (l.map (·.2))) = (cs'.take i).map (pkv (l.map (·.2))) ++ [pkv (l.map (·.2)) c] := by rw [List.take_succ, ec, List.map_append] <;> rfl
    rw [upd_same, putK_cells, putC_new, et]
    · rfl
    · intro hm
      rw [List.map_map] at hm
      obtain ⟨y, hy, e⟩ := List.mem_map.mp hm
      have yl := (cin y (inC y (List.mem_of_mem_take hy))).1
      have e2 := path_inj hperm yl cl e
      obtain ⟨j, hj, ej⟩ := List.mem_iff_getElem.mp hy
      rw [List.length_take] at hj
      rw [List.getElem_take] at ej
      obtain ⟨l1, l2⟩ := List.getElem?_eq_some_iff.mp ec
      have := (List.getElem_inj ndc (h₀ := by rw [List.length_map]; omega) (h₁ := by rw [List.length_map]; exact l1)).mp (show (cs'.map (·.1))[j]'(by rw [List.length_map]; omega) = (cs'.map (·.1))[i]'(by rw [List.length_map]; exact l1) by rw [List.getElem_map, List.getElem_map, ej, l2]; exact e2)
      omega
  rintro H8 ⟨v1, v2⟩
  rw [List.take_of_length_le (by rw [lk]; exact Nat.le_refl _)] at v1
  have hd1 := v2 _ _ hdl
  refine ⟨hd1, ?_⟩
  have gU := hback v2
  have hD9 : upd H8 tc (.dT (cs'.map cell)) D = some (.dT ((cs'.map (pkv (l.map (·.2)))).map cell)) := by
    rw [upd_ne (ne_of_none hdl hD).symm]
    exact v1
  have htc9 : upd H8 tc (.dT (cs'.map cell)) tc = some (.dT (cs'.map cell)) := upd_same
  generalize upd H8 tc (.dT (cs'.map cell)) = H9 at gU hD9 htc9 ⊢
  have hp9 := gU _ _ hp7
  -- levels and data
  refine ⟨_, rfl, p, S, dx, _, _, rfl, hp9, T.cl, T.nS, rfl, _, rfl, _, rfl, ts, q, D, zs, l, cs'.map (pkv (l.map (·.2))), rfl, seqT gU hts7, hF7.same gU, hD9, by omega, hk, fun r hr => ?_, hz6, by rw [List.length_map]; exact cl64, fun w0 hw0 => ?_, fun t tl td us ds H10 g10 ht htl hlev htd hlead => ?_⟩
  · obtain ⟨x0, x1⟩ := iota_mem.mp (hperm.mem_iff.mp (List.mem_map_of_mem (f := (·.2)) hr))
    exact ⟨x0, x1⟩
  · obtain ⟨c, hc, rfl⟩ := List.mem_map.mp hw0
    show (pathI _ c.1).length ≤ 3
    rw [path_len, fl]
    exact hz3
  have hp10 := g10 _ _ hp9
  have kp11 : Kp p H10 (upd H10 p (.ins S dx (putF "levels" (.ref tl) [("sizes", .ref ts), ("form", .ref q), ("cells", .ref tc)]))) := kpPut
  have hp11 : upd H10 p (.ins S dx (putF "levels" (.ref tl) [("sizes", .ref ts), ("form", .ref q), ("cells", .ref tc)])) p = some (.ins S dx [("sizes", .ref ts), ("form", .ref q), ("cells", .ref tc), ("levels", .ref tl)]) := upd_same
  refine ⟨t, [.ref tl, .ref td], rfl, ht, rfl, _, _, rfl, ⟨_, rfl, p, S, dx, _, rfl, hp10, T.cl, T.nL, (by show 3 < 1000; decide), ?_⟩⟩
  generalize upd H10 p (.ins S dx (putF "levels" (.ref tl) [("sizes", .ref ts), ("form", .ref q), ("cells", .ref tc)])) = H11 at kp11 hp11 ⊢
  refine ⟨_, _, rfl, ⟨_, rfl, p, S, dx, _, rfl, hp11, T.cl, T.nD, (by show 4 < 1000; decide), ?_⟩⟩
  have kp12 : Kp p H11 (upd H11 p (.ins S dx (putF "data" (.ref td) [("sizes", .ref ts), ("form", .ref q), ("cells", .ref tc), ("levels", .ref tl)]))) := kpPut
  have hp12 : upd H11 p (.ins S dx (putF "data" (.ref td) [("sizes", .ref ts), ("form", .ref q), ("cells", .ref tc), ("levels", .ref tl)])) p = some (.ins S dx (stF ts q tc tl td)) := upd_same
  have tK := (kpT (K := K) kp11 hp10).trans (kpT kp12 hp11)
  have dat : (pathsL zs ds l).map (fun x => V.int (vOf (cs'.map (pkv (l.map (·.2)))) x)) = (pathsL zs ds l).map fun x => V.int (vOf (cs.map (pkv (l.map (·.2)))) x) := by
    refine List.map_congr_left fun x _ => ?_
    rw [vOf_same (pkv_nodup hperm (fun c hc => (cin c (inC c hc)).1) ndc) (pkv_nodup hperm (fun c hc => (cin c hc).1) hg.1) (fun y hy => ?_) (fun y hy ny => ?_) x]
    · obtain ⟨c, hc, rfl⟩ := List.mem_map.mp hy
      exact List.mem_map_of_mem (inC c hc)
    · obtain ⟨c, hc, rfl⟩ := List.mem_map.mp hy
      exact List.mem_map_of_mem (pcs2.mem_iff.mpr (List.mem_filter.mpr ⟨hc, decide_eq_true ny⟩))
  rw [dat] at htd
  have htc12 := kp12 _ _ ntc (kp11 _ _ ntc (g10 _ _ htc9))
  refine ⟨rfl, k hlz _ ((((K7.same gU).same g10).trans kp11).trans kp12) ⟨dx, ts, tc, tl, td, us, ds, cs', hp12, tK _ _ (seqT g10 (seqT gU hts7)), htc12, pcs2, ord6, tK _ _ htl, hlev.mono tK, tK _ _ htd, hlead.perm ?_⟩ ⟨dx, ts, tc, tl, td, hp12, ntcH⟩⟩
  rw [List.map_map]
  exact pcs2.map _
end
end Lw
namespace DcT
open PySem PySem.Spec PyProof.Rows L2
/-- for k in e, e a dict that is made for it, the keys tuples: it stays locked -/
def iKeysN (td : TE) : TI := fun σ H R => td σ H fun x H1 => ∃ d kvs, x = .ref d ∧ H1 d = some (.dT kvs) ∧ ∀ o, R (Itkt d o kvs) (upd H1 d (.frz o (.dT kvs)))
theorem pi_keysN {X : Cx} {tg e : Expr} {td : TE} (he : PE X e td) : PI X tg e (iKeysN td) := by
  refine ⟨fun pins s σ H R I h => ?_⟩
  refine thn (he.run pins s σ H _ I h) fun u s1 ⟨x, H1, I1, rx, d, kvs, ex, hd, q⟩ => ?_
  subst ex
  obtain rfl : u = Value.ref d := rx
  obtain ⟨o, I2⟩ := I1.lock hd True.intro
  have hd2 : upd H1 d (.frz o (.dT kvs)) d = some (.frz o (.dT kvs)) := upd_same
  obtain ⟨hs, hgd, hx, es, ep, hdt, hsz, ent⟩ := I2.frzT hd2
  refine iter_keys hs hgd hx hdt (pi_one (tk := s1.toks) I2 _ (turn_keysT _ hdt) ⟨_, Heap.get?_push_size _ rfl, rfl, ?_⟩ (q o))
  rw [hsz] <;> rfl
end DcT
namespace Lw
open PySem L2 TL DcT
section
variable {P : Program} {w : World} {K : PySem.W.Frag} {mg : Str → Option Value} {base : Heap} {f : Addr} {fd : FuncData}
/-! _law_real -/
abbrev s_l_real : Stmt := topS 73
abbrev n_l_real : List Str := ["_law_cells_here", "_law_found", "_law_at_here"]
theorem sc_l_real : FnScope n_l_real ["_law_cells_here"] (defScope s_l_real) := ⟨rfl, rfl, rfl, by decide +kernel, rfl, by decide +kernel, by decide +kernel⟩
def spReal : Sp := fun vs H Q _ => ∃ (d : Addr) (cs : List (List Int × Int)), vs = [.ref d] ∧ H d = some (.dT (cs.map cell)) ∧ (cs.map (·.1)).Nodup ∧ cs.length < 64 ∧
  ∀ (t : Addr) (H' : Hp), Same H H' → H t = none → H' t = some (.dT ((real cs).map cell)) → Q (.ref t) H'
theorem ok_l_real (F : Fun K "_law_real" "_law_real" s_l_real f fd) : FnOk P w K mg base CX0 1 f fd ["_law_cells_here"] spReal := by
  refine F.ok sc_l_real (fun vs H Q E h => ?_) (fun cdv A outer s H vs Q E hr h => ?_)
  · obtain ⟨d, cs, rfl, _⟩ := h
    rfl
  obtain ⟨d, cs, rfl, hd, nd, h64, q⟩ := h
  refine ⟨_, (pss_cons (ps_set (i := 1) sc_l_real.nd rfl (Or.inl rfl) pe_dnewT)
(pss_cons (ps_lock (ps_for PassesOwn.never rfl (pi_keys (pv 0)) (pg_name (i := 2) sc_l_real.nd rfl (Or.inl rfl))
(pss_one (ps_if (pt_cmpR op_ne (pe_dget (hu_of hr) (pv 0) (pv 2) (fun _ _ => rfl)) pe_int (nomark _))
(pss_one (ps_dput (hu_of hr) (pv 1) (pv 2) (pe_dget (hu_of hr) (pv 0) (pv 2) (fun _ _ => rfl)) rfl)) pss_nil))))
(pss_one (ps_ret (pv 1))))), ?_⟩
  refine fun w hw => ?_
  have gw := same_new hw (.dT [])
  have hd1 := gw _ _ hd
  have nwd : w ≠ d := (ne_of_none hd hw).symm
  refine ⟨d, .dT (cs.map cell), hd1, trivial, fun od => ?_⟩
  have lk : (cs.map cell).length = cs.length := List.length_map _
  have hl : upd (upd H w (.dT [])) d (.frz od (.dT (cs.map cell))) d = some (.frz od (.dT (cs.map cell))) := upd_same
  have hw0 : upd (upd H w (.dT [])) d (.frz od (.dT (cs.map cell))) w = some (.dT []) := by rw [upd_ne nwd, upd_same]
  have k0 : Kp d H (upd (upd H w (.dT [])) d (.frz od (.dT (cs.map cell)))) := (Kp.of gw).trans kpPut
  generalize upd (upd H w (.dT [])) d (.frz od (.dT (cs.map cell))) = Hl at hl hw0 k0 ⊢
  refine ⟨_, rfl, d, od, rfl, .inr ⟨_, hl, ?_⟩⟩
  refine for_it (walk_keysT (d := d) (o := od) (kvs := cs.map cell)) (fun i σ' H' => (∃ u2 : Option V, σ' = [some (.ref d), some (.ref w), u2]) ∧ H' d = some (.frz od (.dT (cs.map cell))) ∧ H' w = some (.dT ((real (cs.take i)).map cell)) ∧ Kp d H H') ⟨⟨_, rfl⟩, hl, hw0, k0⟩ (fun i σ' H' _ ⟨_, h, _⟩ => h) ?_ ?_
  · rintro i x σ' H1 H2 hi ⟨⟨u2, rfl⟩, v1, v2, v3⟩ ⟨rfl, kk, v, qa, ek, rfl, hq⟩
    obtain ⟨c, ec, ek2⟩ : ∃ c, cs[i]? = some c ∧ (kk, v) = cell c := by
      rw [List.getElem?_map] at ek
      cases e : cs[i]? with
      | none => rw [e] at ek; cases ek
      | some c => rw [e] at ek; exact ⟨c, rfl, (Option.some.inj ek).symm⟩
    cases ek2
    have cm := List.mem_of_getElem? ec
    have il : i < cs.length := by rw [← lk]; exact hi
    have get : DGet H2 d (.ref qa) (some (.int c.2)) := by
      refine .inr ⟨_, c.1.map Sum.inl, qa, .inr ⟨od, v1⟩, rfl, hq, ?_⟩
      rw [valV_key (List.mem_map_of_mem (f := (·.1)) cm), vOf_in nd cm]
    have tk : real (cs.take (i + 1)) = real (cs.take i) ++ real [c] := by
      unfold real
      rw [List.take_succ, ec, List.filter_append] <;> rfl
    refine ⟨_, rfl, _, rfl, d, _, rfl, get, ?_⟩
    refine ⟨rfl, _, rfl, ite2 (fun e => ?_) (fun e => ?_)⟩
    · have ne0 : c.2 ≠ 0 := fun z => by
        rw [z] at e
        simp at e
      have fresh : c.1 ∉ (real (cs.take i)).map (·.1) := fun hm => by
        obtain ⟨y, hy, ey⟩ := List.mem_map.mp hm
        have hy := (List.mem_filter.mp hy).1
        obtain ⟨j, hj, ej⟩ := List.mem_iff_getElem.mp hy
        rw [List.length_take] at hj
        rw [List.getElem_take] at ej
        obtain ⟨l1, l2⟩ := List.getElem?_eq_some_iff.mp ec
        have := (List.getElem_inj nd (h₀ := by rw [List.length_map]; omega) (h₁ := by rw [List.length_map]; exact l1)).mp (show (cs.map (·.1))[j]'(by rw [List.length_map]; omega) = (cs.map (·.1))[i]'(by rw [List.length_map]; exact l1) by rw [List.getElem_map, List.getElem_map, ej, l2]; exact ey)
        omega
      have few : ((real (cs.take i)).map cell).length < sizeLine := small1000 (by
        have l1 := List.length_filter_le (fun p : List Int × Int => decide (p.2 ≠ 0)) (cs.take i)
        rw [List.length_take] at l1
        rw [List.length_map]
        unfold real
        omega)
      refine ⟨_, rfl, _, rfl, d, _, rfl, get, _, rfl, _, rfl, w, _, rfl, .inr ⟨_, c.1.map Sum.inl, qa, v2, rfl, hq, few, rfl⟩, ⟨_, rfl⟩, by rw [upd_ne nwd.symm]; exact v1, ?_, fun b o n eb => ?_⟩
      · rw [upd_same, putK_cells, putC_new _ fresh, tk]
        have : real [c] = [c] := by
          unfold real
          rw [List.filter_cons, if_pos (decide_eq_true ne0)] <;> rfl
        rw [this]
      · rw [upd_ne (ne_of_none eb hw)]
        exact v3 b o n eb
    · have is0 : c.2 = 0 := by
        by_cases z : c.2 = 0
        · exact z
        · exact absurd (by simp [z]) e
      refine ⟨⟨_, rfl⟩, v1, ?_, v3⟩
      have : real [c] = [] := by
        unfold real
        rw [List.filter_cons, if_neg (by simp [is0])] <;> rfl
      rw [tk, this, List.append_nil]
      exact v2
  · rintro σ' H1 ⟨⟨u2, rfl⟩, v1, v2, v3⟩
    rw [lk, List.take_length] at v2
    refine ⟨v1, _, rfl, q w _ (fun b o eb => ?_) hw (by rw [upd_ne nwd]; exact v2)⟩
    by_cases z : b = d
    · rw [z] at eb ⊢
      rw [upd_same, ← eb, hd]
    · rw [upd_ne z]
      exact v3 b o z eb
/-! _law_path -/
abbrev s_l_path : Stmt := topS 74
abbrev n_l_path : List Str := ["_law_form_here", "_law_at_here", "_law_kind", "_law_axis"]
theorem sc_l_path : FnScope n_l_path ["_law_form_here", "_law_at_here"] (defScope s_l_path) := ⟨rfl, rfl, rfl, by decide +kernel, rfl, by decide +kernel, by decide +kernel⟩
def spLPath (K : PySem.W.Frag) : Sp := fun vs H Q _ => ∃ (t a : Addr) (us : List V) (l : List (Str × Int)) (is : List Int), vs = [.ref t, .ref a] ∧ SqT K H t us ∧ Tups K H us l ∧ SqT K H a (is.map V.int) ∧ l.length ≤ 100 ∧ (∀ x ∈ l, 0 ≤ x.2 ∧ x.2 < (is.length : Int)) ∧
  ∀ (p : Addr) (H' : Hp), Same H H' → H' p = some (.tup ((pathI (l.map (·.2)) is).map V.int)) → Q (.ref p) H'
theorem ok_l_path (F : Fun K "_law_path" "_law_path" s_l_path f fd) (B : Bt mg) : FnOk P w K mg base CX0 1 f fd ["_law_form_here", "_law_at_here"] (spLPath K) := by
  refine F.ok sc_l_path (fun vs H Q E h => ?_) (fun cdv A outer s H vs Q E hr h => ?_)
  · obtain ⟨t, a, us, l, is, rfl, _⟩ := h
    rfl
  obtain ⟨t, a, us, l, is, rfl, hT, htu, ha, hl, hx, q⟩ := h
  refine ⟨_, (pss_one (ps_ret (pe_callTy call_tuple_of (by rfl) B.tup (by decide +kernel) (pa_cons (pe_lc (own := [("_law_kind", 2), ("_law_axis", 3)]) (g := (gTup K 2 (gCons (gName 2) (gCons (gName 3) gNil)))) (tt := tYes) (te := tOp (rIxT K) (tVar 1) (tVar 3)) rfl sc_l_path.nd (pi_tup (pv 0)) (blkOk_by (N := n_l_path) (sc := defScope s_l_path) (by decide +kernel)) (fun _ _ _ _ _ => (pg_tup rfl (pgs_cons (pg_name (i := 2) sc_l_path.nd rfl (Or.inl rfl)) (pgs_cons (pg_name (i := 3) sc_l_path.nd rfl (Or.inl rfl)) pgs_nil)))) (fun _ _ _ _ _ => pts_nil) (fun _ _ _ _ _ => (pe_ix ix_tup (pv 1) (pv 3) (fun _ _ => rfl)))) pa_nil)))), ?_⟩
  refine ⟨_, rfl, t, rfl, ⟨_, hT⟩, fun D hD => ?_⟩
  refine lc_tup (K := K) (a := t) (xs := us) (InvM H D (fun x : Str × Int => V.int (is.getD x.2.toNat 0)) l) ⟨upd_same, same_new hD _⟩ (fun i H' _ ⟨_, g⟩ => seqT g hT) (fun i x H' hx' hv => ?_) ?_
  · have hi : i < l.length := by rw [← htu.1]; exact (List.getElem?_eq_some_iff.mp hx').1
    obtain ⟨b, rfl, zb⟩ := htu.2 i x _ hx' (List.getElem?_eq_getElem hi)
    obtain ⟨y0, y1⟩ := hx _ (List.getElem_mem hi)
    exact ⟨b, _, rfl, seqT hv.2 zb, rfl, _, _, rfl, _, _, rfl, rfl, rfl, kept ⟨_, rfl, _, rfl, a, _, _, _, rfl, rfl, seqT hv.2 ha, at_getD y0 y1, _, hv.1, len_m (by omega), InvM.next (f := fun x : Str × Int => V.int (is.getD x.2.toNat 0)) hD hv.2 (List.getElem?_eq_getElem hi) _ rfl⟩⟩
  rintro H' ⟨hd, g⟩
  rw [List.take_of_length_le (by rw [htu.1]; exact Nat.le_refl _)] at hd
  refine ⟨D, _, rfl, .inl ⟨SqL.of hd, fun p hp => ?_⟩⟩
  refine q p _ (g.trans (same_new hp _)) ?_
  rw [upd_same]
  unfold pathI
  rw [List.map_map, List.map_map] <;> rfl
end
end Lw
namespace Lw
open PySem L2 TL DcT
/-! _law_rows -/
theorem u65 {k : Nat} {A : Around} (r : Room k A) : A.units + 65 < cLine := by
  have := r.un
  omega
def known (fx : List Int) (cs : List (List Int × Int)) : List (List Int) := (real cs).map fun c => pathI fx c.1
theorem lay_ints : ∀ ns : List Int, PyData.canLayAll0 (ns.map PyData.int) = true ∧ PyData.depthAll (ns.map PyData.int) ≤ 0
  | [] => ⟨by simp [PyData.canLayAll0], by simp [PyData.depthAll]⟩
  | n :: r => by
    obtain ⟨a, b⟩ := lay_ints r
    refine ⟨by simp [PyData.canLayAll0, PyData.canLay0, a], ?_⟩
    simp [PyData.depthAll, PyData.depth] at b ⊢
    exact b
abbrev dPath (p : List Int) : PyData := .tuple (p.map PyData.int)
theorem lay_paths : ∀ ps : List (List Int), PyData.canLayAll0 (ps.map dPath) = true ∧ PyData.depthAll (ps.map dPath) ≤ 1
  | [] => ⟨by simp [PyData.canLayAll0], by simp [PyData.depthAll]⟩
  | p :: r => by
    obtain ⟨a, b⟩ := lay_paths r
    obtain ⟨c, d⟩ := lay_ints p
    refine ⟨by simp only [List.map_cons, PyData.canLayAll0, PyData.canLay0, a, c]; rfl, ?_⟩
    simp only [List.map_cons, PyData.depthAll, PyData.depth]
    omega
theorem shaped_path (p : List Int) : SeqAt.shaped (dPath p) = true := by
  obtain ⟨a, b⟩ := lay_ints p
  unfold SeqAt.shaped
  rw [Bool.and_eq_true, decide_eq_true_eq]
  refine ⟨by simp only [PyData.canLay0]; exact a, ?_⟩
  simp only [PyData.depth]
  omega
theorem shaped_paths (ps : List (List Int)) : SeqAt.shaped (.list (ps.map dPath)) = true := by
  obtain ⟨a, b⟩ := lay_paths ps
  unfold SeqAt.shaped
  rw [Bool.and_eq_true, decide_eq_true_eq]
  refine ⟨by simp only [PyData.canLay0]; exact a, ?_⟩
  simp only [PyData.depth]
  omega
theorem eqv_ints : ∀ xs ys : List Int, PyData.eqvAll (xs.map PyData.int) (ys.map PyData.int) = decide (xs = ys)
  | [], [] => by simp [PyData.eqvAll]
  | [], _ :: _ => by simp [PyData.eqvAll]
  | _ :: _, [] => by simp [PyData.eqvAll]
  | a :: r, b :: t => by
    have q := eqv_ints r t
    rw [List.map_cons, List.map_cons]
    show (PyData.eqv (.int a) (.int b) && PyData.eqvAll (r.map PyData.int) (t.map PyData.int)) = _
    rw [q]
    show ((a == b) && decide (r = t)) = _
    by_cases h1 : a = b <;> by_cases h2 : r = t <;> simp [h1, h2]
theorem any_path (k : List Int) : ∀ ps : List (List Int), ((ps.map dPath).any fun z => PyData.eqv z (dPath k)) = decide (k ∈ ps)
  | [] => rfl
  | p :: r => by
    rw [List.map_cons, List.any_cons, any_path k r]
    show (PyData.eqvAll (p.map PyData.int) (k.map PyData.int) || decide (k ∈ r)) = _
    rw [eqv_ints]
    by_cases h1 : p = k <;> by_cases h2 : k ∈ r <;> simp [h1, h2, eq_comm]
    exact fun e => h1 e.symm
theorem dp_paths {K : PySem.W.Frag} {H : Hp} : ∀ {us : List V} {ps : List (List Int)}, PathsAt H us ps → DpAll K H us (ps.map dPath)
  | [], [], _ => .nil
  | [], _ :: _, h => by cases h.1
  | _ :: _, [], h => by cases h.1
  | u :: us, p :: l, h => by
    obtain ⟨a, rfl, z⟩ := h.2 0 u p rfl rfl
    exact .cons (.tup (SqT.of z) (dp_ints p)) (dp_paths ⟨Nat.succ.inj h.1, fun i v p e1 e2 => h.2 (i + 1) v p e1 e2⟩)
theorem lead_take {kn ds : List (List Int)} {n i : Nat} {p : List Int} {c : Int} (hL : Lead kn ds) (hk : ∀ k ∈ kn, k.length = n) (hp : p.length = i) (hi : i < n) : p ++ [c] ∈ kn.map (·.take (i + 1)) ↔ p ++ [c] ∈ ds := by
  have el : (p ++ [c]).length = i + 1 := by rw [List.length_append, hp] <;> rfl
  constructor
  · intro h
    obtain ⟨k, hkm, e⟩ := List.mem_map.mp h
    exact (hL _).mpr ⟨k, hkm, i + 1, by omega, by rw [hk k hkm]; omega, e.symm⟩
  · intro h
    obtain ⟨k, hkm, m, m1, m2, e⟩ := (hL _).mp h
    have := congrArg List.length e
    rw [el, List.length_take] at this
    have em : m = i + 1 := by omega
    exact List.mem_map.mpr ⟨k, hkm, by rw [e, em]⟩
def tstR (kind : Str) (p : List Int) (ds : List (List Int)) (c : Int) : Bool := decide (kind = "dense") || decide (p ++ [c] ∈ ds)
theorem rowD_eq (kind : Str) (n : Nat) (p : List Int) (ds : List (List Int)) : rowD kind n p ds = (iota n).filter (tstR kind p ds) := by
  unfold rowD
  by_cases e : kind = "dense"
  · rw [if_pos e, List.filter_eq_self.mpr]
    intro c _
    unfold tstR
    rw [decide_eq_true e] <;> rfl
  · rw [if_neg e]
    refine List.filter_congr fun c _ => ?_
    unfold tstR
    rw [decide_eq_false e, Bool.false_or]
theorem PathsAt.app {H : Hp} {us us' : List V} {ps ps' : List (List Int)} (h : PathsAt H us ps) (h' : PathsAt H us' ps') : PathsAt H (us ++ us') (ps ++ ps') := by
  refine ⟨by rw [List.length_append, List.length_append, h.1, h'.1], fun i u p e1 e2 => ?_⟩
  by_cases c : i < us.length
  · rw [List.getElem?_append_left c] at e1
    rw [List.getElem?_append_left (by rw [← h.1]; exact c)] at e2
    exact h.2 i u p e1 e2
  · rw [List.getElem?_append_right (by omega)] at e1
    rw [List.getElem?_append_right (by rw [← h.1]; omega), ← h.1] at e2
    exact h'.2 _ u p e1 e2
/-- a heap with nothing but a list at R -/
def oneH (R : Addr) : Hp := upd (fun _ => none) R (.lst [])
theorem oneH_at {R : Addr} : oneH R R = some (.lst []) := upd_same
theorem oneH_ne {R a : Addr} (h : a ≠ R) : oneH R a = none := by
  unfold oneH
  rw [upd_ne h]
theorem RowsN.base {H0 Hr H : Hp} {us : List V} {rs : List (List Int)} (h : RowsN H0 H us rs) (hb : ∀ a, H0 a = none → Hr a = none) : RowsN Hr H us rs := ⟨h.1, fun i u r e1 e2 => (h.2 i u r e1 e2).elim fun a q => ⟨a, q.1, hb a q.2.1, q.2.2⟩⟩
/-- for each level the list of its rows -/
def LRows (Hr H : Hp) (us : List V) (zs : List Int) (ds : List (List Int)) (l : List (Str × Int)) (n : Nat) : Prop := us.length = n ∧ ∀ (i : Nat) (u : V) (q : Str × Int), us[i]? = some u → l[i]? = some q → ∃ (o : Addr) (ws : List V), u = .ref o ∧ Hr o = none ∧ H o = some (.lst ws) ∧ RowsN Hr H ws (rowsL zs ds (pathsL zs ds (l.take i)) q)
theorem LRows.same {Hr H H' : Hp} {us : List V} {zs : List Int} {ds : List (List Int)} {l : List (Str × Int)} {n : Nat} (g : Same H H') (h : LRows Hr H us zs ds l n) : LRows Hr H' us zs ds l n := ⟨h.1, fun i u q e1 e2 => (h.2 i u q e1 e2).elim fun o z => z.elim fun ws z => ⟨o, ws, z.1, z.2.1, g _ _ z.2.2.1, z.2.2.2.same g⟩⟩
theorem LRows.upd {Hr H : Hp} {us : List V} {zs : List Int} {ds : List (List Int)} {l : List (Str × Int)} {n : Nat} {D : Addr} {o u0 : HO} (h : LRows Hr H us zs ds l n) (hD : Hr D = some u0) : LRows Hr (upd H D o) us zs ds l n :=
  ⟨h.1, fun i u q e1 e2 => (h.2 i u q e1 e2).elim fun a z => z.elim fun ws z => ⟨a, ws, z.1, z.2.1, by rw [upd_ne (fun y => by rw [y, hD] at z; cases z.2.1)]; exact z.2.2.1, z.2.2.2.upd hD⟩⟩
theorem LRows.snoc {Hr H : Hp} {us : List V} {zs : List Int} {ds : List (List Int)} {l : List (Str × Int)} {n : Nat} {o : Addr} {ws : List V} {q : Str × Int} (h : LRows Hr H us zs ds l n) (e : l[n]? = some q) (h0 : Hr o = none) (h1 : H o = some (.lst ws)) (h2 : RowsN Hr H ws (rowsL zs ds (pathsL zs ds (l.take n)) q)) : LRows Hr H (us ++ [.ref o]) zs ds l (n + 1) := by
  refine ⟨by rw [List.length_append, h.1] <;> rfl, fun i u q' e1 e2 => ?_⟩
  by_cases c : i < us.length
  · rw [List.getElem?_append_left c] at e1
    exact h.2 i u q' e1 e2
  · have ei : i = us.length := by
      have z := (List.getElem?_eq_some_iff.mp e1).1
      rw [List.length_append, List.length_singleton] at z
      omega
    subst ei
    rw [List.getElem?_append_right (Nat.le_refl _), Nat.sub_self] at e1
    cases e1
    rw [h.1] at e2 ⊢
    rw [e] at e2
    cases e2
    exact ⟨o, ws, rfl, h0, h1, h2⟩
abbrev s_l_rows : Stmt := topS 75
abbrev n_l_rows : List Str := ["_law_sizes_here", "_law_form_here", "_law_cells_here", "_law_known", "_law_at_here", "_law_paths", "_law_rows_here", "_law_kind", "_law_axis", "_law_begun", "_law_path_here", "_law_own", "_law_inner", "_law_row", "_law_one"]
theorem sc_l_rows : FnScope n_l_rows ["_law_sizes_here", "_law_form_here", "_law_cells_here"] (defScope s_l_rows) := ⟨rfl, rfl, rfl, by decide +kernel, rfl, by decide +kernel, by decide +kernel⟩
def spRows (K : PySem.W.Frag) : Sp := fun vs H Q _ => ∃ (z tf d : Addr) (zs : List Int) (us0 : List V) (l : List (Str × Int)) (cs : List (List Int × Int)) (ds : List (List Int)), vs = [.ref z, .ref tf, .ref d] ∧ SqT K H z (zs.map V.int) ∧ SqT K H tf us0 ∧ Tups K H us0 l ∧ H d = some (.dT (cs.map cell)) ∧
  zs.length ≤ 3 ∧ l.length = zs.length ∧ (l.map (·.2)).Perm (iota zs.length) ∧ (∀ x ∈ zs, 1 ≤ x ∧ x ≤ 6) ∧ GoodC zs cs ∧ cs.length < 64 ∧ Lead (known (l.map (·.2)) cs) ds ∧
  ∀ (t R Pa : Addr) (us vs : List V) (H' : Hp), Same H H' → SqT K H' t [.ref R, .ref Pa] → H' R = some (.lst us) → LRows (oneH R) H' us zs ds l l.length → H' Pa = some (.lst vs) → PathsAt H' vs (pathsL zs ds l) → Q (.ref t) H'
section
variable {P : Program} {w : World} {K : PySem.W.Frag} {mg : Str → Option Value} {base : Heap} {f : Addr} {fd : FuncData}
theorem ok_l_rows (F : Fun K "_law_rows" "_law_rows" s_l_rows f fd) (B : Bt mg) (cR : Ca P w K mg base 1 "_law_real" ["_law_cells_here"] spReal) (cP : Ca P w K mg base 1 "_law_path" ["_law_form_here", "_law_at_here"] (spLPath K)) : FnOk P w K mg base CX0 2 f fd ["_law_sizes_here", "_law_form_here", "_law_cells_here"] (spRows K) := by
  refine F.ok sc_l_rows (fun vs H Q E h => ?_) (fun cdv A outer s H vs Q E hr h => ?_)
  · obtain ⟨z, tf, d, zs, us0, l, cs, ds, rfl, _⟩ := h
    rfl
  obtain ⟨z, tf, d, zs, us0, l, cs, ds, rfl, hz, hT, htu, hd, hz3, hlz, hperm, hz6, hg, h64, hlead, q⟩ := h
  refine ⟨_, (pss_cons (ps_setLc (i := 3) (own := [("_law_at_here", 4)]) (g := (gName 4)) (tt := tYes) (te := tCall (spLPath K) [] E0 (tCons (tVar 1) (tCons (tVar 4) tNil))) rfl sc_l_rows.nd rfl rfl (sw_true rfl rfl rfl (by decide +kernel)) (pi_keysN (pca cR hr (by decide) rfl (pa_cons (pv 2) pa_nil))) (blkOk_by (N := n_l_rows) (sc := defScope s_l_rows) (by decide +kernel)) (fun _ _ _ _ _ => (pg_name (i := 4) sc_l_rows.nd rfl (Or.inl rfl))) (fun _ _ _ _ _ => pts_nil) (fun _ _ _ _ _ => (pca cP hr (by decide) rfl (pa_cons (pv 1) (pa_cons (pv 4) pa_nil)))))
(pss_cons (ps_asg (pe_tup (pa_cons (pe_lst (pa_cons (pe_tup pa_nil) pa_nil)) (pa_cons (pe_lst pa_nil) pa_nil))) (pg_tup rfl (pgs_cons (pg_name (i := 5) sc_l_rows.nd rfl (Or.inl rfl)) (pgs_cons (pg_name (i := 6) sc_l_rows.nd rfl (Or.inr rfl)) pgs_nil))))
(pss_cons (ps_for PassesOwn.never rfl (pi_tup (pv 1)) (pg_tup rfl (pgs_cons (pg_name (i := 7) sc_l_rows.nd rfl (Or.inr rfl)) (pgs_cons (pg_name (i := 8) sc_l_rows.nd rfl (Or.inl rfl)) pgs_nil)))
(pss_cons (ps_set (i := 9) sc_l_rows.nd rfl (Or.inr rfl) (pe_lc (own := [("_law_path_here", 10)]) (g := (gName 10)) (tt := tYes) (te := L2.tSl (rSlA K) (tVar 10) tNoPart (tPart (tOp (rI0 fun i j => .int (i + j)) (tCB (rLen K) (tCons (tVar 6) tNil)) (tC (.int 1))))) rfl sc_l_rows.nd (pi_list (pv 3)) (blkOk_by (N := n_l_rows) (sc := defScope s_l_rows) (by decide +kernel)) (fun _ _ _ _ _ => (pg_name (i := 10) sc_l_rows.nd rfl (Or.inl rfl))) (fun _ _ _ _ _ => pts_nil) (fun _ _ _ _ _ => (pe_slice sl_tupA (pv 10) po_none (po_some (pe_op op_add (pe_callB call_len_seq (by rfl) B.len PySem.boot_len (pa_cons (pv 6) pa_nil)) pe_int))))))
(pss_cons (ps_par (i := 11) (j := 12) rfl sc_l_rows.nd rfl rfl (by decide) rfl rfl (pa_cons (pe_lst pa_nil) (pa_cons (pe_lst pa_nil) pa_nil)) (by rfl))
(pss_cons (ps_for PassesOwn.never rfl (pi_list (pv 5)) (pg_name (i := 10) sc_l_rows.nd rfl (Or.inr rfl))
(pss_cons (ps_setLc (i := 13) (own := [("_law_one", 14)]) (g := (gName 14)) (tt := tOr (tTest (tOp rEq (tVar 7) (tC (.str "dense")))) (tTest (tOp (rInD K) (tOp (rCatA K) (tVar 10) (tTup (tCons (tVar 14) tNil))) (tVar 9)))) (te := tVar 14) rfl sc_l_rows.nd rfl rfl (sw_true rfl rfl rfl (by decide +kernel)) (pi_range1 (by rfl) B.range (pa_cons (pe_ix ix_tup (pv 0) (pv 8) (fun _ _ => rfl)) pa_nil)) (blkOk_by (N := n_l_rows) (sc := defScope s_l_rows) (by decide +kernel)) (fun _ _ _ _ _ => (pg_name (i := 14) sc_l_rows.nd rfl (Or.inl rfl))) (fun _ _ _ _ _ => (pts_one (PW.pt (pw_or (pt_cmpR op_eq (pv 7) pe_str (nomark _)) (pw_or1 (pt_cmpR (op_inD (u65 hr)) (pe_op op_catA (pv 10) (pe_tup (pa_cons (pv 14) pa_nil))) (pv 9) (by rfl))))))) (fun _ _ _ _ _ => (pv 14)))
(pss_cons (ps_expr (pe_bm PySem.F.plainAttrs_list PySem.F.slot_list_append PySem.F.type_list_append mt_append (pv 11) (pa_cons (pv 13) pa_nil)))
(pss_one (ps_expr (pe_bm PySem.F.plainAttrs_list PySem.F.slot_list_extend PySem.F.type_list_extend mt_extend (pv 12) (pa_cons (pe_lc (own := [("_law_one", 14)]) (g := (gName 14)) (tt := tYes) (te := tOp (rCatA K) (tVar 10) (tTup (tCons (tVar 14) tNil))) rfl sc_l_rows.nd (pi_list (pv 13)) (blkOk_by (N := n_l_rows) (sc := defScope s_l_rows) (by decide +kernel)) (fun _ _ _ _ _ => (pg_name (i := 14) sc_l_rows.nd rfl (Or.inl rfl))) (fun _ _ _ _ _ => pts_nil) (fun _ _ _ _ _ => (pe_op op_catA (pv 10) (pe_tup (pa_cons (pv 14) pa_nil))))) pa_nil)))))))
(pss_cons (ps_expr (pe_bm PySem.F.plainAttrs_list PySem.F.slot_list_append PySem.F.type_list_append mt_append (pv 6) (pa_cons (pv 11) pa_nil)))
(pss_one (ps_set (i := 5) sc_l_rows.nd rfl (Or.inl rfl) (pv 12))))))))
(pss_one (ps_ret (pe_tup (pa_cons (pv 6) (pa_cons (pv 5) pa_nil)))))))), ?_⟩
  have cin : ∀ c ∈ cs, c.1.length = zs.length := fun c hc => (hg.2 c hc).1.1
  have fl : (l.map (·.2)).length = zs.length := by rw [List.length_map, hlz]
  have rl64 : (real cs).length < 64 := by
    have := List.length_filter_le (fun c : List Int × Int => decide (c.2 ≠ 0)) cs
    unfold real
    omega
  have knl : ∀ k ∈ known (l.map (·.2)) cs, k.length = l.length := fun k hk => by
    obtain ⟨c, _, rfl⟩ := List.mem_map.mp hk
    rw [path_len, List.length_map]
  -- known
  refine ⟨_, rfl, d, cs, rfl, hd, hg.1, h64, fun tr H1 g1 hn1 htr => ⟨tr, _, rfl, htr, fun od => ?_⟩⟩
  have gl : Same H (upd H1 tr (.frz od (.dT ((real cs).map cell)))) := same_over g1 hn1 _
  have hlk : upd H1 tr (.frz od (.dT ((real cs).map cell))) tr = some (.frz od (.dT ((real cs).map cell))) := upd_same
  generalize upd H1 tr (.frz od (.dT ((real cs).map cell))) = Hl at gl hlk ⊢
  intro G hG
  have lk : ((real cs).map cell).length = (real cs).length := List.length_map _
  refine lc_it (walk_keysT (d := tr) (o := od) (kvs := (real cs).map cell)) (fun m H' => ∃ ks : List V, H' G = some (.lst ks) ∧ PathsAt H' ks (((real cs).take m).map fun c => pathI (l.map (·.2)) c.1) ∧ Same Hl H') ⟨[], upd_same, PathsAt.nil, same_new hG _⟩ (fun m H' _ ⟨_, _, _, g⟩ => g _ _ hlk) (fun m x H2 H3 hm hv hy => ?_) ?_
  · obtain ⟨rfl, kk, v, qa, ek, rfl, hq⟩ := hy
    obtain ⟨ks, v1, v2, v3⟩ := hv
    obtain ⟨c, ec, ek2⟩ : ∃ c, (real cs)[m]? = some c ∧ (kk, v) = cell c := by
      rw [List.getElem?_map] at ek
      cases e : (real cs)[m]? with
      | none => rw [e] at ek; cases ek
      | some c => rw [e] at ek; exact ⟨c, rfl, (Option.some.inj ek).symm⟩
    cases ek2
    rw [keyI] at hq
    have cl := cin c (List.mem_filter.mp (List.mem_of_getElem? ec)).1
    have g3 := gl.trans v3
    refine ⟨rfl, kept ⟨_, rfl, _, rfl, tf, qa, us0, l, c.1, rfl, seqT g3 hT, htu.mono (.of g3), SqT.of hq, by omega, fun x hx => ?_, fun p H4 g4 hp4 => ?_⟩⟩
    · obtain ⟨x0, x1⟩ := iota_mem.mp (hperm.mem_iff.mp (List.mem_map_of_mem (f := (·.2)) hx))
      exact ⟨x0, by omega⟩
    have v14 := g4 _ _ v1
    refine ⟨ks, v14, ?_, ks ++ [.ref p], upd_same, ?_, same_over (v3.trans g4) hG _⟩
    · have := v2.1
      rw [List.length_map, List.length_take] at this
      exact small1000 (by omega)
    · rw [List.take_succ, ec, List.map_append]
      exact ((v2.same g4).snoc hp4).lst v14
  rintro H2 ⟨ks, k1, k2, k3⟩
  rw [lk, List.take_length] at k2
  have k2 : PathsAt H2 ks (known (l.map (·.2)) cs) := k2
  have g2 := gl.trans k3
  -- paths and rows
  refine ⟨(by show 0 ≤ sizeLine; decide), fun e0 he0 => ⟨(by show 1 ≤ sizeLine; decide), fun P0 hP0 => ⟨(by show 0 ≤ sizeLine; decide), fun R hR => ⟨(by show 2 ≤ sizeLine; decide), fun t0 ht0 => ⟨t0, [.ref P0, .ref R], rfl, SqT.of upd_same, rfl, _, _, rfl, _, _, rfl, rfl, ?_⟩⟩⟩⟩⟩
  have ge := same_new he0 (.tup [])
  have gP := same_new hP0 (.lst [.ref e0])
  have gR := same_new hR (.lst [])
  have gt := same_new ht0 (.tup [.ref P0, .ref R])
  have hR2 : H2 R = none := ge.free (gP.free hR)
  have nPR : P0 ≠ R := ne_of_none upd_same hR
  have hP3 := gt _ _ (gR _ _ (upd_same (H := upd H2 e0 (.tup [])) (a := P0) (o := .lst [.ref e0])))
  have he3 := gt _ _ (gR _ _ (gP _ _ (upd_same (H := H2) (a := e0) (o := .tup []))))
  have hR3 := gt _ _ (upd_same (H := upd (upd H2 e0 (.tup [])) P0 (.lst [.ref e0])) (a := R) (o := .lst []))
  have g3 := ge.trans (gP.trans (gR.trans gt))
  generalize upd (upd (upd (upd H2 e0 (.tup [])) P0 (.lst [.ref e0])) R (.lst [])) t0 (.tup [.ref P0, .ref R]) = H3 at hP3 he3 hR3 g3 ⊢
  refine ⟨_, rfl, tf, rfl, ⟨_, seqT (g2.trans g3) hT⟩, ?_⟩
  refine for_it (walk_tup (K := K) (a := tf) (xs := us0)) (fun i σ' H' => (∃ (u4 u7 u8 u9 u10 u11 u12 u13 u14 : Option V) (Pa : Addr) (us vs : List V), σ' = [some (.ref z), some (.ref tf), some (.ref d), some (.ref G), u4, some (.ref Pa), some (.ref R), u7, u8, u9, u10, u11, u12, u13, u14] ∧
      H' R = some (.lst us) ∧ LRows (oneH R) H' us zs ds l i ∧ Pa ≠ R ∧ H' Pa = some (.lst vs) ∧ PathsAt H' vs (pathsL zs ds (l.take i))) ∧ Same H2 H')
      ⟨⟨_, _, _, _, _, _, _, _, _, P0, [], [.ref e0], rfl, hR3, ⟨rfl, fun i u q e _ => by cases e⟩, nPR, hP3, PathsAt.nil.snoc (p := []) he3⟩, g3⟩ (fun i σ' H' _ h => seqT (g2.trans h.2) hT) ?_ ?_
  · rintro i x σ' H3' H4 hi ⟨⟨u4, u7, u8, u9, u10, u11, u12, u13, u14, Pa, us, vs, rfl, v1, v2, v3, v4, v5⟩, v6⟩ ⟨rfl, ex⟩
    have hil : i < l.length := by rw [← htu.1]; exact hi
    have eq := List.getElem?_eq_getElem hil
    obtain ⟨k, j, eqq⟩ : ∃ k j, l[i] = (k, j) := ⟨_, _, rfl⟩
    rw [eqq] at eq
    obtain ⟨b0, rfl, zb0⟩ := htu.2 i x _ ex eq
    have hqm := List.mem_of_getElem? eq
    obtain ⟨x0, x1⟩ := iota_mem.mp (hperm.mem_iff.mp (List.mem_map_of_mem (f := (·.2)) hqm))
    have x0 : 0 ≤ j := x0
    have x1 : j < (zs.length : Int) := x1
    have lt : j.toNat < zs.length := by omega
    have egd : zs.getD j.toNat 0 = zs[j.toNat] := by rw [List.getD_eq_getElem?_getD, List.getElem?_eq_getElem lt] <;> rfl
    have bz := hz6 _ (List.getElem_mem lt)
    have esz : ((szN zs j : Nat) : Int) = zs.getD j.toNat 0 := by
      unfold szN
      rw [egd]
      omega
    have s6 : szN zs j ≤ 6 := by
      unfold szN
      rw [egd]
      omega
    have sat : atI (zs.map V.int) j = some (.int (szN zs j : Nat)) := by
      rw [esz]
      exact at_getD x0 x1
    have pf : (pathsL zs ds (l.take i)).length ≤ 36 := by
      have a := paths_few (zs := zs) (ds := ds) (l := l) (fun q hq => by
        obtain ⟨y0, y1⟩ := iota_mem.mp (hperm.mem_iff.mp (List.mem_map_of_mem (f := (·.2)) hq))
        have lt2 : q.2.toNat < zs.length := by omega
        have e2 : zs.getD q.2.toNat 0 = zs[q.2.toNat] := by rw [List.getD_eq_getElem?_getD, List.getElem?_eq_getElem lt2] <;> rfl
        have b2 := hz6 _ (List.getElem_mem lt2)
        unfold szN
        rw [e2]
        omega) i (by omega)
      have b : 6 ^ i ≤ 6 ^ 2 := Nat.pow_le_pow_right (by decide) (by omega)
      omega
    have plen := paths_len (zs := zs) (ds := ds) (l := l) i (by omega)
    have enext := pathsL_next (zs := zs) (ds := ds) eq
    generalize eps : pathsL zs ds (l.take i) = ps at pf plen v5 enext
    refine ⟨b0, _, rfl, seqT (g2.trans v6) zb0, rfl, _, _, rfl, _, _, rfl, rfl, ?_⟩
    -- begun
    refine ⟨_, rfl, G, rfl, ⟨_, SqL.of (v6 _ _ k1)⟩, fun Bg hBg => ?_⟩
    have lck : ks.length = (known (l.map (·.2)) cs).length := k2.1
    have ckl : (known (l.map (·.2)) cs).length < 64 := by
      unfold known
      rw [List.length_map]
      exact rl64
    have nBR : Bg ≠ R := (ne_of_none v1 hBg).symm
    refine lc_it (walk_list (K := K) (a := G) (xs := ks)) (fun m H' => ∃ bs : List V, H' Bg = some (.lst bs) ∧ PathsAt H' bs (((known (l.map (·.2)) cs).map (·.take (i + 1))).take m) ∧ Same H4 H') ⟨[], upd_same, PathsAt.nil, same_new hBg _⟩ (fun m H' _ ⟨_, _, _, g⟩ => SqL.of (g _ _ (v6 _ _ k1))) (fun m y H5 H6 hm hv hy => ?_) ?_
    · obtain ⟨rfl, hy⟩ := hy
      obtain ⟨bs, c1, c2, c3⟩ := hv
      have hmk : m < (known (l.map (·.2)) cs).length := by rw [← lck]; exact hm
      have ep := List.getElem?_eq_getElem hmk
      generalize (known (l.map (·.2)) cs)[m] = km at ep
      obtain ⟨qa, rfl, hqa⟩ := k2.2 m y km hy ep
      have kml := knl km (List.mem_of_getElem? ep)
      have hqa6 := c3 _ _ (v6 _ _ hqa)
      have etk : ((known (l.map (·.2)) cs).map (·.take (i + 1))).take (m + 1) = ((known (l.map (·.2)) cs).map (·.take (i + 1))).take m ++ [km.take (i + 1)] := by
        rw [List.take_succ, List.getElem?_map, ep] <;> rfl
      have bl : bs.length < sizeLine := by
        have := c2.1
        rw [List.length_take, List.length_map] at this
        exact small1000 (by omega)
      have step : ∀ (b : Addr) (H7 : Hp), Same H6 H7 → H7 b = some (.tup ((km.take (i + 1)).map V.int)) → ∃ acc, H7 Bg = some (.lst acc) ∧ acc.length < sizeLine ∧ ∃ bs : List V, upd H7 Bg (.lst (acc ++ [.ref b])) Bg = some (.lst bs) ∧ PathsAt (upd H7 Bg (.lst (acc ++ [.ref b]))) bs (((known (l.map (·.2)) cs).map (·.take (i + 1))).take (m + 1)) ∧ Same H4 (upd H7 Bg (.lst (acc ++ [.ref b]))) := fun b H7 g7 hb => by
        have c17 := g7 _ _ c1
        refine ⟨bs, c17, bl, bs ++ [.ref b], upd_same, ?_, same_over (c3.trans g7) hBg _⟩
        rw [etk]
        exact ((c2.same g7).snoc hb).lst c17
      have lt1 : i + 1 ≤ (km.map V.int).length := by
        rw [List.length_map]
        omega
      refine ⟨rfl, kept ⟨_, rfl, _, rfl, R, us, rfl, .inl (SqL.of (c3 _ _ v1)), _, _, rfl, rfl, _, rfl, qa, _, rfl, SqT.of hqa6, fun whole => ?_, fun _ b hb => ?_⟩⟩
      · rw [v2.1, show (((i : Nat) : Int) + 1) = ((i + 1 : Nat) : Int) from rfl] at whole
        have z := whole.2
        rw [sIx_nat, Nat.min_eq_left lt1, List.length_map] at z
        exact step qa H6 (Same.refl _) (by rw [List.take_of_length_le (by omega)]; exact hqa6)
      · rw [v2.1, show (((i : Nat) : Int) + 1) = ((i + 1 : Nat) : Int) from rfl]
        have ec : cutV (km.map V.int) none (some ((i + 1 : Nat) : Int)) = (km.take (i + 1)).map V.int := by rw [cut_take _ _ lt1, List.map_take]
        rw [ec]
        exact step b _ (same_new hb _) upd_same
    rintro H5 ⟨bs, c1, c2, c3⟩
    rw [lck, List.take_of_length_le (by rw [List.length_map]; exact Nat.le_refl _)] at c2
    have w6 := v6.trans c3
    -- own and inner
    refine ⟨(by show 0 ≤ sizeLine; decide), fun O hO => ⟨(by show 0 ≤ sizeLine; decide), fun I hI => ⟨_, _, rfl, ?_⟩⟩⟩
    have gO := same_new hO (.lst [])
    have gI := same_new hI (.lst [])
    have hO5 : H5 O = none := hO
    have hI5 : H5 I = none := gO.free hI
    have nOI : O ≠ I := ne_of_none upd_same hI
    have g56 := gO.trans gI
    have hO6 : upd (upd H5 O (.lst [])) I (.lst []) O = some (.lst []) := gI _ _ upd_same
    have hI6 : upd (upd H5 O (.lst [])) I (.lst []) I = some (.lst []) := upd_same
    have none6 : ∀ (H' : Hp) (a : Addr) (o1 o2 : HO), Same H5 H' → H' O = some o1 → H' I = some o2 → H' a = none → upd (upd H5 O (.lst [])) I (.lst []) a = none := fun H' a o1 o2 g e1 e2 e3 => by
      rw [upd_ne (fun z => by rw [z, e2] at e3; cases e3), upd_ne (fun z => by rw [z, e1] at e3; cases e3)]
      exact g.free e3
    generalize upd (upd H5 O (.lst [])) I (.lst []) = H6 at g56 hO6 hI6 none6 ⊢
    have pl5 := (v5.same c3)
    refine ⟨_, rfl, Pa, rfl, ⟨_, SqL.of (g56 _ _ (c3 _ _ v4))⟩, ?_⟩
    have vl : vs.length = ps.length := v5.1
    refine for_it (walk_list (K := K) (a := Pa) (xs := vs)) (fun m σ' H' => (∃ (u10 u13 u14 : Option V) (ws is : List V), σ' = [some (.ref z), some (.ref tf), some (.ref d), some (.ref G), u4, some (.ref Pa), some (.ref R), some (.str k), some (.int j), some (.ref Bg), u10, some (.ref O), some (.ref I), u13, u14] ∧
      H' O = some (.lst ws) ∧ RowsN H6 H' ws ((rowsL zs ds ps (k, j)).take m) ∧ H' I = some (.lst is) ∧ PathsAt H' is (((ps.take m).map (goOn zs ds (k, j))).flatten)) ∧ Same H5 H') ⟨⟨_, _, _, [], [], rfl, hO6, ⟨rfl, fun i u q e _ => by cases e⟩, hI6, PathsAt.nil⟩, g56⟩ (fun m σ' H' _ h => SqL.of (h.2 _ _ (c3 _ _ v4))) ?_ ?_
    · rintro m y σ' H7' H7 hm ⟨⟨u10', u13', u14', ws, is, rfl, d1, d2, d3, d4⟩, d5⟩ ⟨rfl, hy⟩
      have hmp : m < ps.length := by rw [← vl]; exact hm
      have ep := List.getElem?_eq_getElem hmp
      generalize ps[m] = pm at ep
      have pml := plen pm (List.mem_of_getElem? ep)
      obtain ⟨b, rfl, hb⟩ := pl5.2 m y pm hy ep
      have hb7 := d5 _ _ hb
      have miff : ∀ c : Int, pm ++ [c] ∈ (known (l.map (·.2)) cs).map (·.take (i + 1)) ↔ pm ++ [c] ∈ ds := fun c => lead_take hlead knl pml hil
      have g7 := g2.trans (w6.trans d5)
      refine ⟨_, rfl, _, rfl, z, _, j, _, rfl, rfl, seqT g7 hz, sat, _, rfl, by omega, by omega, fun Dr hDr => ?_⟩
      rw [Int.toNat_natCast]
      refine lc_it (walk_range (lo := 0) (n := szN zs j)) (InvF H7 Dr V.int (tstR k pm ds) (iota (szN zs j))) ⟨upd_same, same_new hDr _⟩ (fun _ _ _ _ => trivial) (fun n y H8 H9 hn hv hy => ?_) ?_
      · obtain ⟨rfl, hy⟩ := hy
        have hy : y = .int (0 + (n : Int)) := hy
        rw [Int.zero_add] at hy
        subst hy
        have ei := iota_at hn
        have few : ((((iota (szN zs j)).take n).filter (tstR k pm ds)).map V.int).length < sizeLine := InvF.len (by rw [iota_len]; omega)
        refine ⟨rfl, ?_⟩
        refine ⟨_, rfl, rfl, _, rfl, ?_⟩
        by_cases ek : k = "dense"
        · have tst : tstR k pm ds (n : Int) = true := by
            unfold tstR
            rw [decide_eq_true ek] <;> rfl
          exact iteC (by rw [ek]; exact decide_eq_true rfl) (iteT ⟨_, rfl, _, hv.1, few, InvF.yes (f := V.int) (H := H7) hDr hv.2 ei tst⟩)
        · refine iteN (decide_eq_false (fun e => ek (by injection e))) ?_
          have tst : tstR k pm ds (n : Int) = decide (pm ++ [(n : Int)] ∈ (known (l.map (·.2)) cs).map (·.take (i + 1))) := by
            unfold tstR
            rw [decide_eq_false ek, Bool.false_or]
            exact decide_eq_decide.mpr (miff _).symm
          refine ⟨_, rfl, _, rfl, (by show 1 ≤ sizeLine; decide), fun u hu => ?_⟩
          have gu := same_new hu (.tup [.int (n : Nat)])
          have hu1 : upd H9 u (.tup [.int (n : Nat)]) u = some (.tup [.int (n : Nat)]) := upd_same
          refine ⟨b, u, _, _, rfl, rfl, SqT.of (gu _ _ (hv.2 _ _ hb7)), SqT.of hu1, ?_, fun e => ?_, (fun _ e => by cases e), fun e _ pp hpp => ?_⟩
          · rw [List.length_map]
            exact Nat.le_trans (show _ ≤ 1000 by show pm.length + 1 ≤ 1000; omega) (by decide)
          · have e : pm = [] := List.map_eq_nil_iff.mp e
            have hp1 : upd H9 u (.tup [.int (n : Nat)]) u = some (.tup ((pm ++ [(n : Int)]).map V.int)) := by rw [e]; exact hu1
            refine ⟨_, rfl, dPath (pm ++ [(n : Int)]), ((known (l.map (·.2)) cs).map (·.take (i + 1))).map dPath, .tup (SqT.of hp1) (dp_ints _), .lst (SqL.of (((d5.trans hv.2).trans gu) _ _ c1)) (dp_paths (c2.same ((d5.trans hv.2).trans gu))), shaped_path _, shaped_paths _, _, rfl, ?_⟩
            rw [any_path, ← tst]
            cases et : tstR k pm ds (n : Int) with
            | true => exact iteT ⟨_, rfl, _, gu _ _ hv.1, few, InvF.yes (f := V.int) (H := H7) hDr (hv.2.trans gu) ei et⟩
            | false => exact iteF (InvF.no ⟨gu _ _ hv.1, hv.2.trans gu⟩ ei et)
          · have gp := gu.trans (same_new hpp (.tup (pm.map V.int ++ [.int (n : Nat)])))
            have hp1 : upd (upd H9 u (.tup [.int (n : Nat)])) pp (.tup (pm.map V.int ++ [.int (n : Nat)])) pp = some (.tup ((pm ++ [(n : Int)]).map V.int)) := by rw [List.map_append]; exact upd_same
            refine ⟨_, rfl, dPath (pm ++ [(n : Int)]), ((known (l.map (·.2)) cs).map (·.take (i + 1))).map dPath, .tup (SqT.of hp1) (dp_ints _), .lst (SqL.of (((d5.trans hv.2).trans gp) _ _ c1)) (dp_paths (c2.same ((d5.trans hv.2).trans gp))), shaped_path _, shaped_paths _, _, rfl, ?_⟩
            rw [any_path, ← tst]
            cases et : tstR k pm ds (n : Int) with
            | true => exact iteT ⟨_, rfl, _, gp _ _ hv.1, few, InvF.yes (f := V.int) (H := H7) hDr (hv.2.trans gp) ei et⟩
            | false => exact iteF (InvF.no ⟨gp _ _ hv.1, hv.2.trans gp⟩ ei et)
      rintro H8 ⟨r1, r2⟩
      rw [List.take_of_length_le (by rw [iota_len]; exact Nat.le_refl _), ← rowD_eq] at r1
      have rl6 := rowD_len k (szN zs j) pm ds
      have er : (rowsL zs ds ps (k, j))[m]? = some (rowD k (szN zs j) pm ds) := by
        unfold rowsL
        rw [List.getElem?_map, ep] <;> rfl
      have flm : ((ps.take (m + 1)).map (goOn zs ds (k, j))).flatten = ((ps.take m).map (goOn zs ds (k, j))).flatten ++ (rowD k (szN zs j) pm ds).map fun c => pm ++ [c] := by
        have step : goOn zs ds (k, j) pm = (rowD k (szN zs j) pm ds).map fun c => pm ++ [c] := rfl
        rw [List.take_succ, ep, List.map_append, List.flatten_append, ← step]
        show _ ++ List.flatten [goOn zs ds (k, j) pm] = _
        rw [List.flatten_cons, List.flatten_nil, List.append_nil]
      have few : (((ps.take m).map (goOn zs ds (k, j))).flatten).length ≤ 216 := by
        have a := step_few (zs := zs) (ds := ds) (ps := ps.take m) (q := (k, j)) s6
        have b : (ps.take m).length ≤ ps.length := by rw [List.length_take]; omega
        unfold stepP at a
        omega
      have dr6 : H6 Dr = none := none6 H7 Dr _ _ d5 d1 d3 hDr
      have wl : ws.length ≤ m := by
        have := d2.1
        rw [List.length_take] at this
        omega
      have isl : is.length ≤ 216 := by rw [d4.1]; exact few
      generalize rowD k (szN zs j) pm ds = row at r1 rl6 er flm
      -- own.append
      have hO8 := r2 _ _ d1
      have nOD : O ≠ Dr := ne_of_none d1 hDr
      refine ⟨_, rfl, .inl ⟨rfl, _, SqL.of hO8⟩, _, rfl, O, _, _, rfl, rfl, hO8, small1000 (by omega), ?_⟩
      have f1 : upd H8 O (.lst (ws ++ [.ref Dr])) O = some (.lst (ws ++ [.ref Dr])) := upd_same
      have f2 : RowsN H6 (upd H8 O (.lst (ws ++ [.ref Dr]))) (ws ++ [.ref Dr]) ((rowsL zs ds ps (k, j)).take (m + 1)) := by
        rw [List.take_succ, er]
        exact ((d2.same r2).snoc dr6 r1).upd hO6
      have f3 : upd H8 O (.lst (ws ++ [.ref Dr])) I = some (.lst is) := by rw [upd_ne nOI.symm]; exact r2 _ _ d3
      have f4 := (d4.same r2).lst (o := .lst (ws ++ [.ref Dr])) hO8
      have f5 : Same H5 (upd H8 O (.lst (ws ++ [.ref Dr]))) := same_over (d5.trans r2) hO5 _
      have f6 : upd H8 O (.lst (ws ++ [.ref Dr])) Dr = some (.lst (row.map V.int)) := by rw [upd_ne nOD.symm]; exact r1
      generalize upd H8 O (.lst (ws ++ [.ref Dr])) = H9 at f1 f2 f3 f4 f5 f6 ⊢
      -- inner.extend
      refine ⟨_, rfl, .inl ⟨rfl, _, SqL.of f3⟩, ?_⟩
      refine ⟨_, rfl, Dr, rfl, ⟨_, SqL.of f6⟩, fun E hE => ?_⟩
      refine lc_it (walk_list (K := K) (a := Dr) (xs := row.map V.int)) (fun n H' => ∃ es : List V, H' E = some (.lst es) ∧ PathsAt H' es ((row.take n).map fun c => pm ++ [c]) ∧ Same H9 H') ⟨[], upd_same, PathsAt.nil, same_new hE _⟩ (fun n H' _ ⟨_, _, _, g⟩ => SqL.of (g _ _ f6)) (fun n y H10 H11 hn hv hy => ?_) ?_
      · obtain ⟨rfl, hy⟩ := hy
        obtain ⟨c, ec, rfl⟩ := at_map hy
        obtain ⟨es, x1, x2, x3⟩ := hv
        have hb11 := x3 _ _ (f5 _ _ hb)
        have esl : es.length < sizeLine := by
          have := x2.1
          rw [List.length_map, List.length_take] at this
          exact small1000 (by omega)
        have fin : ∀ (pp : Addr) (H12 : Hp), Same H11 H12 → H12 pp = some (.tup ((pm ++ [c]).map V.int)) → ∃ acc, H12 E = some (.lst acc) ∧ acc.length < sizeLine ∧ ∃ es : List V, upd H12 E (.lst (acc ++ [.ref pp])) E = some (.lst es) ∧ PathsAt (upd H12 E (.lst (acc ++ [.ref pp]))) es ((row.take (n + 1)).map fun c => pm ++ [c]) ∧ Same H9 (upd H12 E (.lst (acc ++ [.ref pp]))) := fun pp H12 g12 hpp => by
          have x12 := g12 _ _ x1
          refine ⟨es, x12, esl, es ++ [.ref pp], upd_same, ?_, same_over (x3.trans g12) hE _⟩
          rw [List.take_succ, ec, List.map_append]
          exact ((x2.same g12).snoc hpp).lst x12
        refine ⟨rfl, kept ⟨_, rfl, _, rfl, (by show 1 ≤ sizeLine; decide), fun u hu => ?_⟩⟩
        have gu := same_new hu (.tup [.int c])
        have hu1 : upd H11 u (.tup [.int c]) u = some (.tup [.int c]) := upd_same
        refine ⟨b, u, _, _, rfl, rfl, SqT.of (gu _ _ hb11), SqT.of hu1, ?_, fun e => ?_, (fun _ e => by cases e), fun e _ pp hpp => ?_⟩
        · rw [List.length_map]
          exact Nat.le_trans (show _ ≤ 1000 by show pm.length + 1 ≤ 1000; omega) (by decide)
        · have e : pm = [] := List.map_eq_nil_iff.mp e
          exact fin u _ gu (by rw [e]; exact hu1)
        · exact fin pp _ (gu.trans (same_new hpp _)) (by rw [List.map_append]; exact upd_same)
      · rintro H10 ⟨es, x1, x2, x3⟩
        rw [List.length_map, List.take_length] at x2
        have x3I := x3 _ _ f3
        have esl : es.length ≤ 6 := by
          have := x2.1
          rw [List.length_map] at this
          omega
        refine ⟨I, E, _, _, rfl, rfl, x3I, x1, Nat.le_of_lt (small1000 (by omega)), ?_⟩
        refine ⟨⟨_, _, _, ws ++ [.ref Dr], is ++ es, rfl, by rw [upd_ne nOI]; exact x3 _ _ f1, (f2.same x3).upd hI6, upd_same, ?_⟩, same_over (f5.trans x3) hI5 _⟩
        rw [flm]
        exact ((f4.same x3).app x2).lst x3I
    · rintro σ' H7 ⟨⟨u10', u13', u14', ws, is, rfl, d1, d2, d3, d4⟩, d5⟩
      rw [vl, List.take_length] at d4
      rw [vl, List.take_of_length_le (by unfold rowsL; rw [List.length_map]; exact Nat.le_refl _)] at d2
      have d4 : PathsAt H7 is (stepP zs ds ps (k, j)) := d4
      rw [← enext] at d4
      have g37 := c3.trans d5
      have hR7 := g37 _ _ v1
      have nRO : R ≠ O := ne_of_none (c3 _ _ v1) hO5
      have nRI : R ≠ I := ne_of_none (c3 _ _ v1) hI5
      refine ⟨_, rfl, .inl ⟨rfl, _, SqL.of hR7⟩, _, rfl, R, _, _, rfl, rfl, hR7, small1000 (by rw [v2.1]; omega), ?_⟩
      refine ⟨_, rfl, ⟨_, _, _, _, _, _, _, _, _, I, us ++ [.ref O], is, rfl, upd_same, ?_, nRI.symm, by rw [upd_ne nRI.symm]; exact d3, d4.lst hR7⟩, same_over (v6.trans g37) hR2 _⟩
      refine LRows.upd (u0 := .lst []) ?_ oneH_at
      refine (v2.same g37).snoc eq (oneH_ne nRO.symm) d1 ?_
      rw [eps]
      refine d2.base fun a ha => oneH_ne fun e => ?_
      rw [e, g56 _ _ (c3 _ _ v1)] at ha
      cases ha
  · rintro σ' H4 ⟨⟨u4, u7, u8, u9, u10, u11, u12, u13, u14, Pa, us, vs, rfl, v1, v2, v3, v4, v5⟩, v6⟩
    rw [htu.1] at v2 v5
    rw [List.take_length] at v5
    refine ⟨_, rfl, _, rfl, (by show 2 ≤ sizeLine; decide), fun t ht => ?_⟩
    have gt := same_new ht (.tup [.ref R, .ref Pa])
    exact q t R Pa us vs _ (g2.trans (v6.trans gt)) (SqT.of upd_same) (gt _ _ v1) (v2.same gt) (gt _ _ v4) (v5.same gt)
end
end Lw
/-! zip of a tuple with a list -/
namespace ZiX
open PySem PySem.Spec PyProof.Rows L2
def ItX (K : PySem.W.Frag) (a b : Addr) : It where
  go := fun i H => ∃ (xs ys : List V) (x y : V), SqT K H a xs ∧ SqL K H b ys ∧ xs[i]? = some x ∧ ys[i]? = some y
  yld := fun i H v H' => ∃ (T : Addr) (x y : V), v = .ref T ∧ H T = none ∧ H' = upd H T (.tup [x, y]) ∧ (∀ xs, SqT K H a xs → xs[i]? = some x) ∧ ∀ ys, SqL K H b ys → ys[i]? = some y
  stop := fun i H => ∃ xs ys : List V, SqT K H a xs ∧ SqL K H b ys ∧ xs.length = i ∧ ys.length = i
abbrev Five (z TI TO i1 i2 : Addr) : List Addr := [z, TI, TO, i1, i2]
theorem five {z TI TO i1 i2 c : Addr} (h : c ∈ Five z TI TO i1 i2) : c = z ∨ c = TI ∨ c = TO ∨ c = i1 ∨ c = i2 := by simpa using h
def StX (a b z TI TO i1 i2 : Addr) (i : Nat) (h : Heap) : Prop := IsZip h z TI TO .none ∧ IsPair h TI (.ref i1) (.ref i2) ∧ (∃ x y, IsPair h TO x y) ∧ h.IsTupleIter i1 a i ∧ h.IsListIter i2 b i
theorem turnX {P : Program} {w : World} {K : PySem.W.Frag} {elts : List Expr} {kk : Nat} {tpos : Pos} {a b z TI TO i1 i2 : Addr} (S : ZipSep2 z TI TO i1 i2 [i1, a] [i2, b]) (na : a ≠ i1) (nb : b ≠ i2) :
    Turn P w K (.Tuple elts kk tpos) (ItX K a b) (Five z TI TO i1 i2) z (StX a b z TI TO i1 i2) where
  mem := by simp
  obj := fun i h st c hc => by
    obtain ⟨hz, hTI, ⟨x, y, hTO⟩, ⟨o1, e1, _, d1⟩, ⟨o2, e2, _, d2⟩⟩ := st
    rcases five hc with q | q | q | q | q <;> subst q
    · exact ⟨_, hz, fun v r => nomatch r⟩
    · exact ⟨_, hTI, fun v r => nomatch r⟩
    · exact ⟨_, hTO, fun v r => nomatch r⟩
    · exact ⟨o1, e1, fun v r => by rw [d1] at r; cases r⟩
    · exact ⟨o2, e2, fun v r => by rw [d2] at r; cases r⟩
  keep := fun i h h' st k => by
    obtain ⟨hz, hTI, ⟨x, y, hTO⟩, h1, h2⟩ := st
    refine ⟨k _ (by simp) _ hz, k _ (by simp) _ hTI, ⟨x, y, k _ (by simp) _ hTO⟩, ?_, ?_⟩
    · exact h1.at fun o r => k _ (by simp) o r
    · exact h2.at fun o r => k _ (by simp) o r
  item := by
    intro X eP ew eK hc i pins s σ H E I hf st hg
    subst eP ew eK
    obtain ⟨hz, hTI, ⟨x0, y0, hTO⟩, h1, h2⟩ := st
    obtain ⟨xs, ys, x, y, qx, qy, hx, hy⟩ := hg
    obtain ⟨us, rv, p, _⟩ := I.tuple qx
    obtain ⟨vs, rw2, p2, _⟩ := I.list qy
    obtain ⟨u, hu, ru⟩ := rv.get hx
    obtain ⟨v, hv, rvv⟩ := rw2.get hy
    have lu : i < us.toArray.size := by rw [List.size_toArray]; exact (List.getElem?_eq_some_iff.mp hu).1
    have lv : i < vs.toArray.size := by rw [List.size_toArray]; exact (List.getElem?_eq_some_iff.mp hv).1
    have zlt : z < s.heap.objs.size := Heap.lt_size hz
    have hA : X.A.in1.handled = none := I.ok.hd hc
    refine wpAny_pyNext_zipD2_item S (Draws.tuple hA i1 a na us.toArray) (Draws.list hA i2 b nb vs.toArray) hz hTI hTO ⟨h1, p⟩ ⟨h2, p2.isList⟩ lu lv fun x1 x2 h' tk e1 e2 z' TO' s1 s2 hT hsz hk => ?_
    have ex1 : u = x1 := by
      have e1 : us.toArray[i]? = some x1 := e1
      rw [List.getElem?_toArray, hu] at e1
      exact Option.some.inj e1
    have ex2 : v = x2 := by
      have e2 : vs.toArray[i]? = some x2 := e2
      rw [List.getElem?_toArray, hv] at e2
      exact Option.some.inj e2
    subst ex1 ex2
    refine ⟨_, rfl, wpAny_letOwnedTupleGo_zip (s := { s with heap := h', toks := tk }) z' fun h'' z'' sb => ?_⟩
    have pair : IsPair h'' s.heap.objs.size u v := (sb.2 _ (Nat.ne_of_gt zlt)).trans hT
    have new : ObjOk X.prog X.w (upd H s.heap.objs.size (.tup [x, y])) h'' s.heap.objs.size (.tup [x, y]) := ⟨Nat.le_trans (show 2 ≤ 3 by decide) (by decide), [u, v], .cons ru (.cons rvv .nil), ⟨_, pair, rfl, _, rfl⟩⟩
    have kp : ∀ c o, c ∉ Five z TI TO i1 i2 → s.heap.get? c = some o → h''.get? c = some o := fun c o hb q => by
      have nz : c ≠ z := fun e => hb (by simp [e])
      exact (sb.2 c nz).trans (hk c o nz (fun e => hb (by simp [e])) (fun e => hb (by simp [e])) (fun e => hb (by simp [e])) q)
    refine ⟨.ref s.heap.objs.size, _, I.turnedNew (t' := tk) (ch := Five z TI TO i1 i2) kp hf (Nat.le_refl _) new, rfl, ⟨_, x, y, rfl, I.hok.fresh (Nat.le_refl _), rfl, fun l hl => ?_, fun l hl => ?_⟩, ⟨z'', ?_, ⟨u, v, ?_⟩, ?_, ?_⟩, fun c hcm => ?_⟩
    · rw [I.tuple_inj hl qx]
      exact hx
    · rw [I.list_inj hl qy]
      exact hy
    · exact (sb.2 _ S.TIz).trans (hk _ _ S.TIz S.TITO S.TIi1 S.TIi2 hTI)
    · exact (sb.2 _ S.TOz).trans TO'
    · exact s1.1.at fun o q => (sb.2 _ S.zi1.symm).trans q
    · exact s2.1.at fun o q => (sb.2 _ S.zi2.symm).trans q
    · have lt : c < s.heap.objs.size := by
        rcases five hcm with q | q | q | q | q <;> subst q
        · exact zlt
        · exact Heap.lt_size hTI
        · exact Heap.lt_size hTO
        · obtain ⟨_, e, _⟩ := h1
          exact Heap.lt_size e
        · obtain ⟨_, e, _⟩ := h2
          exact Heap.lt_size e
      rw [upd_ne (Nat.ne_of_lt lt)]
      exact (hf c hcm).1
  done := by
    intro X eP ew eK hc i pins s σ H E I hf st hg
    subst eP ew eK
    obtain ⟨hz, hTI, ⟨x0, y0, hTO⟩, h1, h2⟩ := st
    obtain ⟨xs, ys, qx, qy, ei, ej⟩ := hg
    obtain ⟨us, rv, p, _⟩ := I.tuple qx
    obtain ⟨vs, rw2, p2, _⟩ := I.list qy
    have l1 : us.toArray.size = i := by rw [List.size_toArray, ← rv.length]; exact ei
    have l2 : vs.toArray.size = i := by rw [List.size_toArray, ← rw2.length]; exact ej
    have hA : X.A.in1.handled = none := I.ok.hd hc
    refine wpAny_pyNext_zipD2_end S (Draws.tuple hA i1 a na us.toArray) (Draws.list hA i2 b nb vs.toArray) hz hTI hTO ⟨h1, p⟩ ⟨h2, p2.isList⟩ (Nat.le_of_eq l1.symm) (Nat.le_of_eq l2.symm) (.inl l1.symm) fun h' tk hk => ⟨rfl, I.turnedL (t' := tk) (ch := Five z TI TO i1 i2) (fun c o hb q => ?_) hf⟩
    exact hk c o (fun e => hb (by simp [e])) (fun e => hb (by simp [e])) (fun e => hb (by simp [e])) (fun e => hb (by simp [e])) q
  self := fun A i s Q E st h => wpAny_pyIter_zip st.1 h
theorem ne_nat {x y : Nat} (h : ¬ x = y) : @Ne Addr x y := h
theorem out2 {x y z : Nat} (h : ¬ x = y) (h2 : ¬ x = z) : @Not ((x : Addr) ∈ ([y, z] : List Addr)) := fun m => by
  rcases List.mem_cons.mp m with e | m
  · exact h e
  · exact h2 (List.mem_singleton.mp m)
theorem sep_new (n a b : Nat) (ha : a < n) (hb : b < n) : ZipSep2 (n + 4) (n + 2) (n + 3) n (n + 1) [n, a] [n + 1, b] where
  TIz := ne_nat (by omega)
  TOz := ne_nat (by omega)
  TITO := ne_nat (by omega)
  TIi1 := ne_nat (by omega)
  mem1 := List.mem_cons_self ..
  zf1 := out2 (by omega) (by omega)
  Tf1 := out2 (by omega) (by omega)
  TIi2 := ne_nat (by omega)
  mem2 := List.mem_cons_self ..
  zf2 := out2 (by omega) (by omega)
  Tf2 := out2 (by omega) (by omega)
  sep1_2 := out2 (by omega) (by omega)
  sep2_1 := out2 (by omega) (by omega)
theorem ge_new {n c : Nat} (h : c = n + 4 ∨ c = n + 2 ∨ c = n + 3 ∨ c = n ∨ c = n + 1) : n ≤ c := by omega
def iZipX (K : PySem.W.Frag) (ta : TA) : TI := fun σ H R => ta σ H fun vs H1 => ∃ (a b : Addr) (xs ys : List V), vs = [.ref a, .ref b] ∧ SqT K H1 a xs ∧ SqL K H1 b ys ∧ R (ItX K a b) H1
theorem pi_zipX {X : Cx} {e e2 : Expr} {ta : TA} {p pos tpos : Pos} {elts : List Expr} {kk : Nat} (hg : Gl X "zip") (hm : X.mg "zip" = none) (ha : PA X [e, e2] ta)
    (hs : starEach [e, e2] X.env = (false, eval e X.env) :: starEach [e2] X.env := by rfl) (hpl : (backTo pos (starEach [e2] X.env)).any (·.1) = false := by rfl) :
    PI X (.Tuple elts kk tpos) (.Call (.Name "zip" p) [e, e2] [] pos) (iZipX X.K ta) := by
  refine ⟨fun pins s σ H R I h => ?_⟩
  refine Call_ (ld_blt I hg hm PyProof.Rows.boot_zip (PyProof.Rows.callWith_type1 (thn (ha.run pos pins s σ H _ I h) fun us s1 ⟨vs, H1, I1, r1, a, b, xs, ys, ex, qx, qy, q⟩ => ?_) hs hpl))
  subst ex
  obtain ⟨u1, u2, rfl, ra, rb⟩ := vals2 r1
  cases ra
  cases rb
  obtain ⟨us, rv, p1, _⟩ := I1.tuple qx
  obtain ⟨vs, rw2, p2, _⟩ := I1.list qy
  have la : a < s1.heap.objs.size := by
    obtain ⟨o, ho, _⟩ := id p1
    exact Heap.lt_size ho
  have lb : b < s1.heap.objs.size := p2.lt
  refine zip_begins2 (begins_tuple a us.toArray) (begins_list b vs.toArray) p1 p2.isList fun h' hz hTI hTO h1 h2 hsz hk => wpAny_pyIter_zip hz ?_
  have I2 : L2.Inv X pins σ H1 { s1 with heap := h' } := I1.kept (t' := s1.toks) hk
  refine ⟨s1.heap.objs.size + 4, Five (s1.heap.objs.size + 4) (s1.heap.objs.size + 2) (s1.heap.objs.size + 3) s1.heap.objs.size (s1.heap.objs.size + 1), _, _, H1, rfl, I2, turnX (sep_new s1.heap.objs.size a b la lb) (Nat.ne_of_lt la) (Nat.ne_of_lt (Nat.lt_succ_of_lt lb)), ⟨hz, hTI, ⟨_, _, hTO⟩, ⟨_, h1, rfl, rfl⟩, ⟨_, h2, rfl, rfl⟩⟩, fun c hcm => ?_, q⟩
  have hle : s1.heap.objs.size ≤ c := ge_new (five hcm)
  exact I1.fpOk hle (I1.hok.fresh hle)
theorem walkX {K : PySem.W.Frag} {a b : Addr} {xs ys : List V} (e : xs.length = ys.length) : Walk (ItX K a b) xs.length (fun H => SqT K H a xs ∧ SqL K H b ys) (YPair (fun i => xs[i]?) (fun i => ys[i]?)) where
  goes := fun i _ hi q => ⟨xs, ys, xs[i], ys[i]'(by omega), q.1, q.2, List.getElem?_eq_getElem hi, List.getElem?_eq_getElem (by omega)⟩
  stops := fun _ q => ⟨xs, ys, q.1, q.2, rfl, e.symm⟩
  yields := fun i H v H' _ q ⟨T, x, y, h1, h2, h3, h4, h5⟩ => ⟨T, x, y, h1, h2, h3, h4 xs q.1, h5 ys q.2⟩
end ZiX
namespace Lw
open PySem L2 TL DcT
/-! the law's data -/
def ledOf (kn : List (List Int)) : List (List Int) := (kn.map fun p => (List.range p.length).map fun m => p.take (m + 1)).flatten
theorem led_of (kn : List (List Int)) : Lead kn (ledOf kn) := fun k => by
  constructor
  · intro h
    obtain ⟨g, hg, hk⟩ := List.mem_flatten.mp h
    obtain ⟨p, hp, rfl⟩ := List.mem_map.mp hg
    obtain ⟨m, hm, rfl⟩ := List.mem_map.mp hk
    rw [List.mem_range] at hm
    exact ⟨p, hp, m + 1, by omega, by omega, rfl⟩
  · rintro ⟨p, hp, m, m1, m2, rfl⟩
    refine List.mem_flatten.mpr ⟨_, List.mem_map.mpr ⟨p, hp, rfl⟩, List.mem_map.mpr ⟨m - 1, List.mem_range.mpr (by omega), ?_⟩⟩
    rw [show m - 1 + 1 = m by omega]
theorem lead_same {kn ds ds' : List (List Int)} (h : Lead kn ds) (h' : Lead kn ds') (k : List Int) : k ∈ ds ↔ k ∈ ds' := (h k).trans (h' k).symm
theorem rowD_same {ds ds' : List (List Int)} (h : ∀ k, k ∈ ds ↔ k ∈ ds') (kind : Str) (n : Nat) (p : List Int) : rowD kind n p ds = rowD kind n p ds' := by
  unfold rowD
  split
  · rfl
  · exact List.filter_congr fun c _ => decide_eq_decide.mpr (h _)
theorem rowsL_same {ds ds' : List (List Int)} (h : ∀ k, k ∈ ds ↔ k ∈ ds') (zs : List Int) (ps : List (List Int)) (q : Str × Int) : rowsL zs ds ps q = rowsL zs ds' ps q := by
  unfold rowsL
  exact List.map_congr_left fun p _ => rowD_same h _ _ _
theorem pathsL_same {ds ds' : List (List Int)} (h : ∀ k, k ∈ ds ↔ k ∈ ds') (zs : List Int) (l : List (Str × Int)) : pathsL zs ds l = pathsL zs ds' l := by
  have e : stepP zs ds = stepP zs ds' := by
    funext ps q
    unfold stepP
    have : goOn zs ds q = goOn zs ds' q := by
      funext p
      unfold goOn
      rw [rowD_same h]
    rw [this]
  unfold pathsL
  rw [e]
theorem LevsAt.ds {K : PySem.W.Frag} {H : Hp} {us : List V} {zs : List Int} {ds ds' : List (List Int)} {l : List (Str × Int)} {n : Nat} (h : ∀ k, k ∈ ds ↔ k ∈ ds') (a : LevsAt K H us zs ds l n) : LevsAt K H us zs ds' l n :=
  ⟨a.1, fun i u q e1 e2 => by
    have z := a.2 i u q e1 e2
    rw [pathsL_same h, rowsL_same h] at z
    exact z⟩
theorem sm_ints {K : PySem.W.Frag} {H : Hp} {n : Nat} {a b : Addr} {is : List Int} (h1 : SqT K H a (is.map V.int)) (h2 : SqT K H b (is.map V.int)) (hl : is.length ≤ 1000) : Sm K H (n + 2) (.ref a) (.ref b) :=
  Sm.tup h1 h2 (by rw [List.length_map]; exact hl) ⟨rfl, fun i x y ex ey => by
    obtain ⟨c, ec, rfl⟩ := at_map ex
    obtain ⟨c', ec', rfl⟩ := at_map ey
    rw [ec] at ec'
    cases ec'
    exact Sm.int c⟩
theorem den_pac : ¬ (("dense" : Str) = "packed") := by decide +kernel
theorem den_bit : ¬ (("dense" : Str) = "bits") := by decide +kernel
theorem den_has : ¬ (("dense" : Str) = "hashed") := by decide +kernel
theorem pac_bit : ¬ (("packed" : Str) = "bits") := by decide +kernel
theorem pac_has : ¬ (("packed" : Str) = "hashed") := by decide +kernel
theorem bit_has : ¬ (("bits" : Str) = "hashed") := by decide +kernel
theorem starts_ints (rs : List (List Int)) : startsV rs = ((List.range (rs.length + 1)).map fun i => cnt rs i).map V.int := by
  unfold startsV
  rw [List.map_map] <;> rfl
theorem masks_ints (rs : List (List Int)) : masksV rs = (rs.map maskI).map V.int := by
  unfold masksV
  rw [List.map_map] <;> rfl
theorem bks_sm {K : PySem.W.Frag} {H : Hp} {a a' : Addr} {rs : List (List Int)} (h : BksAt K H a rs) (h' : BksAt K H a' rs) (l2 : rs.flatten.length ≤ 900) : Sm K H 4 (.ref a) (.ref a') := by
  obtain ⟨bs, b1, b2, b3⟩ := h
  obtain ⟨bs', b1', b2', b3'⟩ := h'
  refine Sm.tup b1 b1' (by omega) ⟨by omega, fun i x y ex ey => ?_⟩
  obtain ⟨c, es, rfl, c2, c3⟩ := b3 i x ex
  obtain ⟨c', es', rfl, c2', c3'⟩ := b3' i y ey
  have pl := prsT_len rs rs.length (Nat.le_refl _)
  rw [List.take_length] at pl
  have bl := bktT_len (prsT rs rs.length) (prsT rs rs.length).length i
  refine Sm.tup c2 c2' (by rw [c3.1]; omega) ⟨by rw [c3.1, c3'.1], fun j u v eu ev => ?_⟩
  have hj : j < (bktT (prsT rs rs.length) (prsT rs rs.length).length i).length := by
    rw [← c3.1]
    exact (List.getElem?_eq_some_iff.mp eu).1
  have et := List.getElem?_eq_getElem hj
  obtain ⟨d, rfl, d2⟩ := c3.2 j u _ eu et
  obtain ⟨d', rfl, d2'⟩ := c3'.2 j v _ ev et
  exact Sm.tup d2 d2' (by show 3 ≤ 1000; decide) (.cons (Sm.int _) (.cons (Sm.int _) (.cons (Sm.int _) .nil)))
theorem lev_sm {K : PySem.W.Frag} {H : Hp} {v v' : V} {kind : Str} {n : Int} {rs : List (List Int)} (h : LevAt K H v kind n rs) (h' : LevAt K H v' kind n rs) (l1 : rs.length ≤ 900) (l2 : rs.flatten.length ≤ 900) : Sm K H 5 v v' := by
  rcases h with ⟨e, t, rfl, h⟩ | ⟨e, t, a, b, rfl, h1, h2, h3⟩ | ⟨e, t, a, b, rfl, h1, h2, h3⟩ | ⟨e, t, a, rfl, h1, h2⟩ <;>
    rcases h' with ⟨e', t', rfl, h'⟩ | ⟨e', t', a', b', rfl, h1', h2', h3'⟩ | ⟨e', t', a', b', rfl, h1', h2', h3'⟩ | ⟨e', t', a', rfl, h1', h2'⟩
  · exact Sm.tup h h' (by show 2 ≤ 1000; decide) (.cons (Sm.str _) (.cons (Sm.int _) .nil))
  · exact absurd (e.symm.trans e') den_pac
  · exact absurd (e.symm.trans e') den_bit
  · exact absurd (e.symm.trans e') den_has
  · exact absurd (e'.symm.trans e) den_pac
  · rw [starts_ints] at h2 h2'
    exact Sm.tup h1 h1' (by show 3 ≤ 1000; decide) (.cons (Sm.str _) (.cons (sm_ints h2 h2' (by rw [List.length_map, List.length_range]; omega)) (.cons (sm_ints h3 h3' (by omega)) .nil)))
  · exact absurd (e.symm.trans e') pac_bit
  · exact absurd (e.symm.trans e') pac_has
  · exact absurd (e'.symm.trans e) den_bit
  · exact absurd (e'.symm.trans e) pac_bit
  · rw [starts_ints] at h2 h2'
    rw [masks_ints] at h3 h3'
    exact Sm.tup h1 h1' (by show 3 ≤ 1000; decide) (.cons (Sm.str _) (.cons (sm_ints h2 h2' (by rw [List.length_map, List.length_range]; omega)) (.cons (sm_ints h3 h3' (by rw [List.length_map]; omega)) .nil)))
  · exact absurd (e.symm.trans e') bit_has
  · exact absurd (e'.symm.trans e) den_has
  · exact absurd (e'.symm.trans e) pac_has
  · exact absurd (e'.symm.trans e) bit_has
  · exact Sm.tup h1 h1' (by show 2 ≤ 1000; decide) (.cons (Sm.str _) (.cons (bks_sm h2 h2' l2) .nil))
theorem levs_sm {K : PySem.W.Frag} {H : Hp} {us us' : List V} {zs : List Int} {ds : List (List Int)} {l : List (Str × Int)} (hz : ∀ q ∈ l, szN zs q.2 ≤ 6) (hl : l.length ≤ 3) (h : LevsAt K H us zs ds l l.length) (h' : LevsAt K H us' zs ds l l.length) : SmAll K H 5 us us' := by
  refine ⟨by rw [h.1, h'.1], fun i x y ex ey => ?_⟩
  have hi : i < l.length := by
    rw [← h.1]
    exact (List.getElem?_eq_some_iff.mp ex).1
  have eq := List.getElem?_eq_getElem hi
  have pf := paths_few (ds := ds) hz i (by omega)
  have b : 6 ^ i ≤ 6 ^ 2 := Nat.pow_le_pow_right (by decide) (by omega)
  have rf := rows_few (zs := zs) (ds := ds) (ps := pathsL zs ds (l.take i)) (hz _ (List.getElem_mem hi))
  refine lev_sm (h.2 i x _ ex eq) (h'.2 i y _ ey eq) ?_ (by omega)
  unfold rowsL
  rw [List.length_map]
  omega
theorem good_of {l : List (Str × Int)} {n : Nat} (h1 : l.length = n) (h2 : ∀ p ∈ l, p.1 ∈ KINDS) (h3 : (l.map (·.2)).Perm (iota n)) : Good l n := ⟨h1, h2, h3⟩
theorem sz_six {zs : List Int} {l : List (Str × Int)} (hp : (l.map (·.2)).Perm (iota zs.length)) (hz : ∀ x ∈ zs, 1 ≤ x ∧ x ≤ 6) : ∀ q ∈ l, szN zs q.2 ≤ 6 ∧ atI (zs.map V.int) q.2 = some (.int (szN zs q.2 : Nat)) := fun q hq => by
  obtain ⟨x0, x1⟩ := iota_mem.mp (hp.mem_iff.mp (List.mem_map_of_mem (f := (·.2)) hq))
  have lt : q.2.toNat < zs.length := by omega
  have e : zs.getD q.2.toNat 0 = zs[q.2.toNat] := by rw [List.getD_eq_getElem?_getD, List.getElem?_eq_getElem lt] <;> rfl
  have b := hz _ (List.getElem_mem lt)
  have e2 : ((szN zs q.2 : Nat) : Int) = zs.getD q.2.toNat 0 := by
    unfold szN
    rw [e]
    omega
  refine ⟨?_, by rw [e2]; exact at_getD x0 x1⟩
  unfold szN
  rw [e]
  omega
end Lw
namespace Lw
open PySem L2 TL DcT L2.DX
section
variable {P : Program} {w : World} {K : PySem.W.Frag} {mg : Str → Option Value} {base : Heap} {S fS C fI BF AW KD gX gR pR f : Addr} {MC : Value} {dS dX fd : FuncData}
/-! _law_stored -/
abbrev s_l_stored : Stmt := topS 58
theorem sc_l_stored : FnScope ["_law_table", "_law_form_here"] ["_law_table", "_law_form_here"] (defScope s_l_stored) := ⟨rfl, rfl, rfl, by decide +kernel, rfl, by decide +kernel, by decide +kernel⟩
def spLSt (K : PySem.W.Frag) (S C : Addr) : Sp := fun vs H Q _ => ∃ (t z d tf : Addr) (zs : List Int) (us : List V) (l : List (Str × Int)) (cs : List (List Int × Int)), vs = [.ref t, .ref tf] ∧ SqT K H t [.ref z, .ref d] ∧ SqT K H z (zs.map V.int) ∧ SqT K H tf us ∧ Tups K H us l ∧ Good l zs.length ∧ H d = some (.dT (cs.map cell)) ∧
  zs.length ≤ 3 ∧ (∀ x ∈ zs, 1 ≤ x ∧ x ≤ 6) ∧ GoodC zs cs ∧ cs.length < 200 ∧ ∀ (x q : Addr) (H' : Hp), Same H H' → StoredAt K S H' x q zs l cs → FormAt K C q (l.map (·.1)) (l.map (·.2)) H' → CellN (fun a => H a = none) S H' x q → Q (.ref x) H'
theorem ok_l_stored (F : Fun K "_law_stored" "_law_stored" s_l_stored f fd) (B : Bt mg) (T : Sd K S C) (Tf : Fm K mg C fI BF AW KD MC) (MS : Mk K S fS) (GS : FnOk P w K mg base (L2.CX P w) 5 fS dS ["self", "sizes", "form", "cells"] (spStI K S C BF)) (bS : Binds K dS ["self", "sizes", "form", "cells"] []) (mS : mg "Stored" = some (.ref S))
    (GR : FnR P w K mg base (L2.CX P w) 5 gR (spRead K C BF)) (cRd : ClX.CMet K C MC "read" pR gR) (cX : Ca P w K mg base 1 "_law_form_text" ["_law_form_here"] (spFtext K)) : FnOk P w K mg base CX0 7 f fd ["_law_table", "_law_form_here"] (spLSt K S C) := by
  refine F.ok sc_l_stored (fun vs H Q E h => ?_) (fun cdv A outer s H vs Q E hr h => ?_)
  · obtain ⟨t, z, d, tf, zs, us, l, cs, rfl, _⟩ := h
    rfl
  obtain ⟨t, z, d, tf, zs, us, l, cs, rfl, ht, hz, hT, htu, hgl, hd, hz3, hz6, hg, h64, k⟩ := h
  have u2 : (A.deeper (PyProof.Rows.envOfC "_law_stored" (defScope s_l_stored) s.heap.objs.size f cdv)).units + 2 < cLine := by
    have := hr.un
    omega
  refine ⟨_, (pss_one (ps_ret (pe_make MS GS (hr.mono (by decide)) (by rfl) mS bS .nil (passL (X := (cxOf CX0 P w K mg base ["_law_table", "_law_form_here"] "_law_stored" (defScope s_l_stored) f cdv A outer s H E).nox)) (pa_cons (pe_ix ix_tup (pv 0) pe_int (fun _ _ => rfl)) (pa_cons (ClX.pe_cmeth (E := E0) (pe_glob (v := .ref C) (by rfl) Tf.mC rfl) Tf.cr cRd GR (hr.mono (by decide)) (passL (X := (cxOf CX0 P w K mg base ["_law_table", "_law_form_here"] "_law_stored" (defScope s_l_stored) f cdv A outer s H E).nox)) (pa_cons (pca cX hr (by decide) rfl (pa_cons (pv 1) pa_nil)) pa_nil)) (pa_cons (pe_callTy (call_dictT u2) (by rfl) B.dict (by decide +kernel) (pa_cons (pe_ix ix_tup (pv 0) pe_int (fun _ _ => rfl)) pa_nil)) pa_nil)))))), ?_⟩
  have hv : valid (l.map (·.1)) (l.map (·.2)) = true := iota_valid hgl hz3
  refine ⟨_, rfl, t, _, (0 : Int), .ref z, rfl, rfl, ht, atI_nat (j := 0) rfl, rfl, _, rfl, tf, us, l, _, rfl, hT, htu, hgl, hz3, fun H15 g15 => ?_⟩
  refine ⟨_, rfl, by have := (ftext_small hv).1; omega, fun ks is er pf H16 g16 hpf => ?_, fun z => by rw [rd_ftext hv] at z; cases z⟩
  rw [rd_ftext hv] at er
  cases er
  have g916 := g15.trans g16
  refine ⟨_, rfl, t, _, (1 : Int), .ref d, rfl, rfl, seqT g916 ht, atI_nat (j := 1) rfl, d, _, rfl, g916 _ _ hd, cells_hash hz3 hg.1 (good_small hg hz6), fun d2 hd2 => ?_⟩
  have gd := same_new hd2 (.dT (cs.map cell))
  have hdd : upd H16 d2 (.dT (cs.map cell)) d2 = some (.dT (cs.map cell)) := upd_same
  generalize upd H16 d2 (.dT (cs.map cell)) = H17 at gd hdd ⊢
  have g := g916.trans gd
  intro x dx nx ndx ne
  have g17 : Same H17 (upd (upd H17 dx (.own x)) x (.ins S dx [])) := fun b o e => by rw [upd_ne (ne_of_none e nx), upd_ne (ne_of_none e ndx)]; exact e
  refine ⟨x, dx, z, pf, d2, zs, l, cs, rfl, upd_same, .inr (seqT (g.trans g17) hz), (hpf.same gd).same g17, g17 _ _ hdd, hz3, hgl.2.1, fun _ => hgl.2.2, hz6, hg, h64, fun _ H18 kp hSt hC => ⟨rfl, ?_⟩, fun e => absurd hgl.1 e⟩
  have g18 : Same H17 H18 := fun b o e => kp b o (ne_of_none e nx) (g17 _ _ e)
  exact k x pf H18 (g.trans g18) hSt ((hpf.same gd).same g18) (hC.weak fun a h => (g.trans g17).free h)
end
end Lw
namespace Lw
open PySem L2 TL DcT L2.DX
section
variable {P : Program} {w : World} {K : PySem.W.Frag} {mg : Str → Option Value} {base : Heap} {S fS C fI BF AW KD gX gR pR f : Addr} {MC : Value} {dS dX fd : FuncData}
/-! entries -/
abbrev s_entries : Stmt := inClass (topS 35) 3
theorem sc_entries : FnScope ["self"] ["self"] (defScope s_entries) := ⟨rfl, rfl, rfl, by decide +kernel, rfl, by decide +kernel, by decide +kernel⟩
/-- pairs of coordinates and values -/
def EntsAt (H : Hp) (us : List V) (cs : List (List Int × Int)) : Prop := us.length = cs.length ∧ ∀ (i : Nat) (u : V) (c : List Int × Int), us[i]? = some u → cs[i]? = some c → ∃ a q, u = .ref a ∧ H a = some (.tup [.ref q, .int c.2]) ∧ H q = some (.tup (c.1.map V.int))
theorem EntsAt.same {H H' : Hp} {us : List V} {cs : List (List Int × Int)} (g : Same H H') (h : EntsAt H us cs) : EntsAt H' us cs := ⟨h.1, fun i u c e1 e2 => (h.2 i u c e1 e2).elim fun a z => z.elim fun q z => ⟨a, q, z.1, g _ _ z.2.1, g _ _ z.2.2⟩⟩
def spEnt (K : PySem.W.Frag) (S : Addr) : Sp := fun vs H Q _ => ∃ (p q : Addr) (zs : List Int) (l : List (Str × Int)) (cs : List (List Int × Int)), vs = [.ref p] ∧ StoredAt K S H p q zs l cs ∧ cs.length < 64 ∧
  ∀ (r : Addr) (us : List V) (cs' : List (List Int × Int)) (H' : Hp), Same H H' → H' r = some (.lst us) → EntsAt H' us cs' → cs'.Perm (real cs) → (cs'.map fun c => pathI (l.map (·.2)) c.1).Pairwise (fun u v => TS.code 1001 u ≤ TS.code 1001 v) → Q (.ref r) H'
theorem ok_entries (F : Fun K "entries" "Stored.entries" s_entries f fd) (T : Sd K S C) (B : Bt mg) : FnOk P w K mg base CX0 1 f fd ["self"] (spEnt K S) := by
  refine F.ok sc_entries (fun vs H Q E h => ?_) (fun cdv A outer s H vs Q E hr h => ?_)
  · obtain ⟨p, q, zs, l, cs, rfl, _⟩ := h
    rfl
  obtain ⟨p, q, zs, l, cs, rfl, ⟨dx, ts, tc, tl, td, us, ds, cs', h1, h2, h3, h4, h5, h6, h7, h8, h9⟩, h64, k⟩ := h
  refine ⟨_, (pss_one (ps_ret (pe_callTy (cr_listItems rfl) (by rfl) B.lst (by decide +kernel) (pa_cons (pe_bm0 PySem.F.plainAttrs_dict PySem.F.slot_dict_items PySem.F.type_dict_items mt_itemsT (pe_fld (pv 0) rfl)) pa_nil)))), ?_⟩
  have rl : cs'.length < 64 := by
    rw [h4.length_eq]
    have := List.length_filter_le (fun c : List Int × Int => decide (c.2 ≠ 0)) cs
    unfold real
    omega
  refine ⟨_, rfl, p, S, dx, _, _, rfl, h1, T.cl, T.nC, rfl, .inr (.inr (.inl ⟨rfl, .inr ⟨_, h3⟩⟩)), tc, _, rfl, rfl, h3, fun vw hvw => ?_⟩
  have gv := same_new hvw (itemsO vw tc)
  refine ⟨vw, tc, _, rfl, upd_same, gv _ _ h3, by rw [List.length_map]; omega, fun H' r as g hl hn hna hr' pairs => ?_⟩
  refine k r (as.map V.ref) cs' H' (gv.trans g) hr' ⟨by rw [List.length_map, hl, List.length_map], fun i u c e1 e2 => ?_⟩ h4 h5
  rw [List.getElem?_map] at e1
  cases ea : as[i]? with
  | none => rw [ea] at e1; cases e1
  | some a =>
    rw [ea] at e1
    cases e1
    obtain ⟨q', z1, z2⟩ := pairs i a (c.1.map Sum.inl) (.int c.2) ea (by rw [List.getElem?_map, e2] <;> rfl)
    rw [keyI] at z2
    exact ⟨a, q', rfl, z1, z2⟩
end
theorem code_inj {B : Int} : ∀ {a b : List Int}, a.length = b.length → TS.Bd B a → TS.Bd B b → TS.code B a = TS.code B b → a = b
  | [], [], _, _, _, _ => rfl
  | [], _ :: _, h, _, _, _ => by cases h
  | _ :: _, [], h, _, _, _ => by cases h
  | x :: a, y :: b, h, ha, hb, e => by
    have hl : a.length = b.length := Nat.succ.inj h
    rcases Int.lt_trichotomy x y with z | z | z
    · have := TS.code_lt hl ha.tail hb.tail z
      omega
    · subst z
      have e2 : TS.code B a = TS.code B b := by
        have e' : x * B ^ a.length + TS.code B a = x * B ^ b.length + TS.code B b := e
        rw [hl] at e'
        omega
      rw [code_inj hl ha.tail hb.tail e2]
    · have := TS.code_lt hl.symm hb.tail ha.tail z
      omega
/-- one order alone -/
theorem sorted_one {α : Type} {r : α → Int} : ∀ {A B : List α}, A.Perm B → A.Pairwise (fun u v => r u ≤ r v) → B.Pairwise (fun u v => r u ≤ r v) → (∀ u ∈ A, ∀ v ∈ A, r u = r v → u = v) → A = B
  | [], B, h, _, _, _ => (List.nil_perm.mp h).symm
  | x :: A, [], h, _, _, _ => absurd h.length_eq (by simp)
  | x :: A, y :: B, h, ha, hb, inj => by
    have hy : y ∈ x :: A := h.mem_iff.mpr (List.mem_cons_self ..)
    have hx : x ∈ y :: B := h.mem_iff.mp (List.mem_cons_self ..)
    obtain ⟨a1, a2⟩ := List.pairwise_cons.mp ha
    obtain ⟨b1, b2⟩ := List.pairwise_cons.mp hb
    have e : x = y := by
      refine inj x (List.mem_cons_self ..) y hy ?_
      have l1 : r x ≤ r y := by
        rcases List.mem_cons.mp hy with z | z
        · rw [z]; exact Int.le_refl _
        · exact a1 y z
      have l2 : r y ≤ r x := by
        rcases List.mem_cons.mp hx with z | z
        · rw [z]; exact Int.le_refl _
        · exact b1 x z
      omega
    subst e
    rw [sorted_one ((List.perm_cons x).mp h) a2 b2 fun u hu v hv => inj u (List.mem_cons_of_mem _ hu) v (List.mem_cons_of_mem _ hv)]
section
variable {P : Program} {w : World} {K : PySem.W.Frag} {mg : Str → Option Value} {base : Heap} {S C f : Addr} {fd : FuncData}
/-! _law_told -/
abbrev s_l_told : Stmt := topS 76
abbrev n_l_told : List Str := ["_law_stored_here", "_law_told_here", "_law_at_here", "_law_worth_here"]
theorem sc_l_told : FnScope n_l_told ["_law_stored_here"] (defScope s_l_told) := ⟨rfl, rfl, rfl, by decide +kernel, rfl, by decide +kernel, by decide +kernel⟩
/-- what is told of a table -/
def ToldAt (N : Addr → Prop) (K : PySem.W.Frag) (H : Hp) (v : V) (zs : List Int) (l : List (Str × Int)) (cs : List (List Int × Int)) : Prop := ∃ (r ts tk ta tl td te : Addr) (us es : List V) (ds : List (List Int)) (cs' : List (List Int × Int)), v = .ref r ∧ H r = some (.lst [.ref ts, .ref tk, .ref ta, .ref tl, .ref td, .ref te]) ∧ SqT K H ts (zs.map V.int) ∧ SqT K H tk ((l.map (·.1)).map V.str) ∧ SqT K H ta ((l.map (·.2)).map V.int) ∧
  SqT K H tl us ∧ LevsAt K H us zs ds l l.length ∧ SqT K H td ((pathsL zs ds l).map fun x => V.int (vOf (cs.map (pkv (l.map (·.2)))) x)) ∧ Lead ((real cs).map fun c => pathI (l.map (·.2)) c.1) ds ∧ H te = some (.lst es) ∧ EntsAt H es cs' ∧ cs'.Perm (real cs) ∧ (cs'.map fun c => pathI (l.map (·.2)) c.1).Pairwise (fun u v => TS.code 1001 u ≤ TS.code 1001 v) ∧ N r ∧ N te
theorem ToldAt.same {N : Addr → Prop} {K : PySem.W.Frag} {H H' : Hp} {v : V} {zs : List Int} {l : List (Str × Int)} {cs : List (List Int × Int)} (g : Same H H') : ToldAt N K H v zs l cs → ToldAt N K H' v zs l cs
  | ⟨r, ts, tk, ta, tl, td, te, us, es, ds, cs', h0, h1, h2, h3, h4, h5, h6, h7, h8, h9, h10, h11, h12, n1, n2⟩ => ⟨r, ts, tk, ta, tl, td, te, us, es, ds, cs', h0, g _ _ h1, seqT g h2, seqT g h3, seqT g h4, seqT g h5, h6.mono (.of g), seqT g h7, h8, g _ _ h9, h10.same g, h11, h12, n1, n2⟩
def spTold (K : PySem.W.Frag) (S C : Addr) : Sp := fun vs H Q _ => ∃ (p q : Addr) (zs : List Int) (l : List (Str × Int)) (cs : List (List Int × Int)), vs = [.ref p] ∧ StoredAt K S H p q zs l cs ∧ FormAt K C q (l.map (·.1)) (l.map (·.2)) H ∧ cs.length < 64 ∧ ∀ (v : V) (H' : Hp), Same H H' → ToldAt (fun a => H a = none) K H' v zs l cs → Q v H'
theorem ok_l_told (F : Fun K "_law_told" "_law_told" s_l_told f fd) (T : Sd K S C) (nA : PySem.W.findIn K (.ref C) "axes" = some none) {g : Addr} {gd : FuncData} (ME : Meth K S "entries" g) (GE : FnOk P w K mg base CX0 1 g gd ["self"] (spEnt K S)) (bE : Binds K gd ["self"] []) : FnOk P w K mg base CX0 2 f fd ["_law_stored_here"] (spTold K S C) := by
  refine F.ok sc_l_told (fun vs H Q E h => ?_) (fun cdv A outer s H vs Q E hr h => ?_)
  · obtain ⟨p, q, zs, l, cs, rfl, _⟩ := h
    rfl
  obtain ⟨p, q, zs, l, cs, rfl, hSt, hF, h64, k⟩ := h
  refine ⟨_, (pss_cons (ps_setLc (i := 1) (own := [("_law_at_here", 2), ("_law_worth_here", 3)]) (g := (gTup K 2 (gCons (gName 2) (gCons (gName 3) gNil)))) (tt := tYes) (te := tTup (tCons (tVar 2) (tCons (tVar 3) tNil))) rfl sc_l_told.nd rfl rfl (sw_true rfl rfl rfl (by decide +kernel)) (pi_list (pe_meth0 (pv 0) T.cl ME GE (hr.mono (by decide)) bE .nil pass0)) (blkOk_by (N := n_l_told) (sc := defScope s_l_told) (by decide +kernel)) (fun _ _ _ _ _ => (pg_tup rfl (pgs_cons (pg_name (i := 2) sc_l_told.nd rfl (Or.inl rfl)) (pgs_cons (pg_name (i := 3) sc_l_told.nd rfl (Or.inl rfl)) pgs_nil)))) (fun _ _ _ _ _ => pts_nil) (fun _ _ _ _ _ => (pe_tup (pa_cons (pv 2) (pa_cons (pv 3) pa_nil)))))
(pss_one (ps_ret (pe_lst (pa_cons (pe_fld (pv 0) rfl) (pa_cons (pe_fld (pe_fld (pv 0) rfl) rfl) (pa_cons (pe_fld (pe_fld (pv 0) rfl) rfl) (pa_cons (pe_fld (pv 0) rfl) (pa_cons (pe_fld (pv 0) rfl) (pa_cons (pv 1) pa_nil)))))))))), ?_⟩
  have hSt0 := hSt
  obtain ⟨dx, ts, tc, tl, td, us, ds, cs0, h1, h2, h3, h4, h5, h6, h7, h8, h9⟩ := hSt
  refine ⟨_, rfl, p, dx, _, rfl, h1, rfl, p, q, zs, l, cs, rfl, hSt0, h64, fun r es cs' H1 g1 hr1 hes perm ord => ?_⟩
  refine ⟨r, rfl, ⟨_, SqL.of hr1⟩, fun D hD => ?_⟩
  have el : es.length = cs'.length := hes.1
  have c64 : cs'.length < 64 := by
    rw [perm.length_eq]
    have := List.length_filter_le (fun c : List Int × Int => decide (c.2 ≠ 0)) cs
    unfold real
    omega
  refine lc_it (walk_list (K := K) (a := r) (xs := es)) (fun i H' => ∃ ns : List V, H' D = some (.lst ns) ∧ EntsAt H' ns (cs'.take i) ∧ Same H1 H') ⟨[], upd_same, ⟨rfl, fun i u c e _ => by cases e⟩, same_new hD _⟩ (fun i H' _ ⟨_, _, _, g⟩ => SqL.of (g _ _ hr1)) (fun i y H2 H3 hi hv hy => ?_) ?_
  · obtain ⟨rfl, hy⟩ := hy
    obtain ⟨ns, n1, n2, n3⟩ := hv
    have hic : i < cs'.length := by omega
    have ec := List.getElem?_eq_getElem hic
    generalize cs'[i] = c at ec
    obtain ⟨a, qq, rfl, z1, z2⟩ := hes.2 i y c hy ec
    refine ⟨a, _, rfl, SqT.of (n3 _ _ z1), rfl, _, _, rfl, _, _, rfl, rfl, rfl, kept ⟨_, rfl, _, rfl, (by show 2 ≤ sizeLine; decide), fun t ht => ?_⟩⟩
    have gt := same_new ht (.tup [.ref qq, .int c.2])
    have n1t := gt _ _ n1
    have nl : ns.length = (cs'.take i).length := n2.1
    refine ⟨ns, n1t, small1000 (by rw [nl, List.length_take]; omega), ns ++ [.ref t], upd_same, ?_, same_over (n3.trans gt) hD _⟩
    rw [List.take_succ, ec]
    have ne : ∀ {b : Addr} {ys : List V}, (upd H3 t (.tup [.ref qq, .int c.2])) b = some (.tup ys) → (upd (upd H3 t (.tup [.ref qq, .int c.2])) D (.lst (ns ++ [.ref t]))) b = some (.tup ys) := fun {b ys} hb => by
      rw [upd_ne (fun z => by rw [z, n1t] at hb; cases hb)]
      exact hb
    refine ⟨by rw [List.length_append, List.length_append, nl] <;> rfl, ?_⟩
    refine snoc2 (R := fun _ (u : V) (c : List Int × Int) => ∃ a q, u = V.ref a ∧ (upd (upd H3 t (.tup [.ref qq, .int _])) D (.lst (ns ++ [.ref t]))) a = some (.tup [.ref q, .int c.2]) ∧ (upd (upd H3 t (.tup [.ref qq, .int _])) D (.lst (ns ++ [.ref t]))) q = some (.tup (c.1.map V.int))) nl (fun i u c' e1 e2 => ?_) ⟨t, qq, rfl, ne upd_same, ne (gt _ _ (n3 _ _ z2))⟩
    obtain ⟨a', q', y1, y2, y3⟩ := n2.2 i u c' e1 e2
    exact ⟨a', q', y1, ne (gt _ _ y2), ne (gt _ _ y3)⟩
  rintro H2 ⟨ns, n1, n2, n3⟩
  rw [el, List.take_length] at n2
  have g := g1.trans n3
  obtain ⟨dxq, tk, ta, f1, f2, f3⟩ := hF
  replace f3 : SqT K H ta ((l.map (·.2)).map V.int) := f3.seq
  refine ⟨_, rfl, p, S, dx, _, _, rfl, g _ _ h1, T.cl, T.nS, rfl, _, rfl, p, S, dx, _, _, rfl, g _ _ h1, T.cl, T.nF, rfl, q, C, dxq, _, _, rfl, g _ _ f1, T.clC, T.nK, flds_k _ _, _, rfl, p, S, dx, _, _, rfl, g _ _ h1, T.cl, T.nF, rfl, q, C, dxq, _, _, rfl, g _ _ f1, T.clC, nA, flds_a _ _, _, rfl, p, S, dx, _, _, rfl, g _ _ h1, T.cl, T.nL, rfl, _, rfl, p, S, dx, _, _, rfl, g _ _ h1, T.cl, T.nD, rfl, _, rfl, (by show 6 ≤ sizeLine; decide), fun t ht => ?_⟩
  have gt := same_new ht (.lst [.ref ts, .ref tk, .ref ta, .ref tl, .ref td, .ref D])
  have gA := g.trans gt
  exact k (.ref t) _ gA ⟨t, ts, tk, ta, tl, td, D, us, ns, ds, cs', rfl, upd_same, seqT gA h2, seqT gA f2, seqT gA f3, seqT gA h6, h7.mono (.of gA), seqT gA h8, h9, gt _ _ n1, n2.same gt, perm, ord, g.free ht, g1.free hD⟩
end
theorem sm_strs {K : PySem.W.Frag} {H : Hp} {n : Nat} {a b : Addr} {ss : List Str} (h1 : SqT K H a (ss.map V.str)) (h2 : SqT K H b (ss.map V.str)) (hl : ss.length ≤ 1000) : Sm K H (n + 2) (.ref a) (.ref b) :=
  Sm.tup h1 h2 (by rw [List.length_map]; exact hl) ⟨rfl, fun i x y ex ey => by
    obtain ⟨c, ec, rfl⟩ := at_map ex
    obtain ⟨c', ec', rfl⟩ := at_map ey
    rw [ec] at ec'
    cases ec'
    exact Sm.str c⟩
/-- what is told of two tables of the same cells in the same form -/
theorem told_sm {N N' : Addr → Prop} {K : PySem.W.Frag} {H : Hp} {v v' : V} {zs : List Int} {l : List (Str × Int)} {cs : List (List Int × Int)} (h : ToldAt N K H v zs l cs) (h' : ToldAt N' K H v' zs l cs) (hz3 : zs.length ≤ 3) (hgl : Good l zs.length) (hz6 : ∀ x ∈ zs, 1 ≤ x ∧ x ≤ 6) (hg : GoodC zs cs) (h64 : cs.length < 64) : Sm K H 7 v v' := by
  obtain ⟨r, ts, tk, ta, tl, td, te, us, es, ds, c1, rfl, a1, a2, a3, a4, a5, a6, a7, a8, a9, a10, a11, a12, _, _⟩ := h
  obtain ⟨r', ts', tk', ta', tl', td', te', us', es', ds', c2, rfl, b1, b2, b3, b4, b5, b6, b7, b8, b9, b10, b11, b12, _, _⟩ := h'
  have six := sz_six hgl.2.2 hz6
  have iffs := lead_same b8 a8
  have b6 := b6.ds iffs
  rw [pathsL_same iffs] at b7
  have ll : l.length ≤ 3 := by rw [hgl.1]; exact hz3
  have pf3 : (pathsL zs ds l).length ≤ 216 := by
    have a := paths_few (ds := ds) (fun q hq => (six q hq).1) l.length (Nat.le_refl _)
    rw [List.take_length] at a
    exact Nat.le_trans a (Nat.le_trans (Nat.pow_le_pow_right (by decide) ll) (by decide))
  have eqd : (pathsL zs ds l).map (fun x => V.int (vOf (cs.map (pkv (l.map (·.2)))) x)) = ((pathsL zs ds l).map (vOf (cs.map (pkv (l.map (·.2)))))).map V.int := by rw [List.map_map] <;> rfl
  rw [eqd] at a7 b7
  have hz1000 : ∀ x ∈ zs, 1 ≤ x ∧ x ≤ 1000 := fun x hx => ⟨(hz6 x hx).1, by have := (hz6 x hx).2; omega⟩
  have cin : ∀ c ∈ real cs, c.1.length = zs.length ∧ TS.Bd 1001 c.1 := fun c hc => (hg.2 c (List.mem_filter.mp hc).1).1.bd hz1000
  have rnd : ((real cs).map (·.1)).Nodup := hg.1.sublist ((List.filter_sublist).map _)
  have ec : c1 = c2 := by
    have a12' : c1.Pairwise (fun u v => TS.code 1001 (pathI (l.map Prod.snd) u.1) ≤ TS.code 1001 (pathI (l.map Prod.snd) v.1)) := by rw [List.pairwise_map] at a12; exact a12
    have b12' : c2.Pairwise (fun u v => TS.code 1001 (pathI (l.map Prod.snd) u.1) ≤ TS.code 1001 (pathI (l.map Prod.snd) v.1)) := by rw [List.pairwise_map] at b12; exact b12
    refine sorted_one (r := fun c : List Int × Int => TS.code 1001 (pathI (l.map Prod.snd) c.1)) (a11.trans b11.symm) a12' b12' fun u hu v hv e => ?_
    have hu := a11.mem_iff.mp hu
    have hv := a11.mem_iff.mp hv
    obtain ⟨u1, u2⟩ := cin u hu
    obtain ⟨v1, v2⟩ := cin v hv
    have e1 : pathI (l.map (·.2)) u.1 = pathI (l.map (·.2)) v.1 := code_inj (by rw [path_len, path_len]) (path_bd hgl.2.2 u1 u2) (path_bd hgl.2.2 v1 v2) e
    have e2 := path_inj hgl.2.2 u1 v1 e1
    exact nodup_inj rnd u hu v hv e2
  subst ec
  have c64 : c1.length < 64 := by
    rw [a11.length_eq]
    have := List.length_filter_le (fun c : List Int × Int => decide (c.2 ≠ 0)) cs
    unfold real
    omega
  refine Sm.lst a1 b1 (by show 6 ≤ 1000; decide) (.cons (sm_ints (n := 4) a2 b2 (by omega)) (.cons (sm_strs (n := 4) a3 b3 (by rw [List.length_map]; omega)) (.cons (sm_ints (n := 4) a4 b4 (by rw [List.length_map]; omega)) (.cons (Sm.tup a5 b5 (by rw [a6.1]; omega) (levs_sm (fun q hq => (six q hq).1) ll a6 b6)) (.cons (sm_ints (n := 4) a7 b7 (by rw [List.length_map]; omega)) (.cons ?_ .nil))))))
  refine Sm.lst a9 b9 (by rw [a10.1]; omega) ⟨by rw [a10.1, b10.1], fun i x y ex ey => ?_⟩
  have hi : i < c1.length := by
    rw [← a10.1]
    exact (List.getElem?_eq_some_iff.mp ex).1
  have ei := List.getElem?_eq_getElem hi
  generalize c1[i] = c at ei
  obtain ⟨p, q, rfl, p1, p2⟩ := a10.2 i x c ex ei
  obtain ⟨p', q', rfl, p1', p2'⟩ := b10.2 i y c ey ei
  have cl := (cin c (a11.mem_iff.mp (List.mem_of_getElem? ei))).1
  exact Sm.tup (SqT.of p1) (SqT.of p1') (by show 2 ≤ 1000; decide) (.cons (sm_ints (n := 2) (SqT.of p2) (SqT.of p2') (by omega)) (.cons (Sm.int _) .nil))
end Lw
namespace Lw
open PySem L2 TL DcT
/-! words: texts and whole numbers, as str() tells them -/
abbrev numS (i : Int) : Str := ((toString i : String) : Str)
def wS : V → Str
  | .str s => s
  | .int i => numS i
  | _ => ""
def WdOk (v : V) : Prop := (∃ s : Str, v = .str s ∧ s.length ≤ 2000) ∨ ∃ i : Int, v = .int i ∧ i.natAbs.log2 < 1920
theorem numS_few {i : Int} (h : i.natAbs < 10 ^ 5) : (numS i).length ≤ 6 := by
  have e := int_text_length_le10 (k := 5) (by decide) h
  show (Str.ofString (toString i)).length ≤ 6
  rw [ofString_length]
  exact e
theorem numS_val {i : Int} (h : i.natAbs < 10 ^ 60) : (numS i).length ≤ 61 := by
  have e := int_text_length_le10 (k := 60) (by decide) h
  show (Str.ofString (toString i)).length ≤ 61
  rw [ofString_length]
  exact e
theorem numS_len {i : Int} (h : i.natAbs.log2 < 1920) : (numS i).length ≤ 2000 := by
  have e := int_text_length_le (k := 1920) (by decide) h
  show (Str.ofString (toString i)).length ≤ 2000
  rw [ofString_length]
  omega
theorem WdOk.len {v : V} (h : WdOk v) : (wS v).length ≤ 2000 := by
  rcases h with ⟨s, rfl, h⟩ | ⟨i, rfl, h⟩
  · exact h
  · exact numS_len h
theorem WdOk.str {s : Str} (h : s.length ≤ 2000) : WdOk (.str s) := .inl ⟨s, rfl, h⟩
theorem WdOk.int {i : Int} (h : i.natAbs.log2 < 1920) : WdOk (.int i) := .inr ⟨i, rfl, h⟩
theorem log_big {n : Int} (h : n.natAbs < 2 ^ 1000) : n.natAbs.log2 < 1920 := by
  by_cases h0 : n.natAbs = 0
  · rw [h0]; decide
  · exact Nat.lt_of_lt_of_le ((Nat.log2_lt h0).mpr h) (by decide)
theorem log_few {n : Int} (h0 : 0 ≤ n) (h : n ≤ 100000) : n.natAbs.log2 < 1920 := log_big (Nat.lt_of_le_of_lt (show n.natAbs ≤ 100000 by omega) (by decide +kernel))
theorem log_val {n : Int} (h : n.natAbs < 10 ^ 60) : n.natAbs.log2 < 1920 := log_big (Nat.lt_trans h (by decide +kernel))
theorem sum_le' {ys : List Str} {m : Nat} (h : ∀ y ∈ ys, y.length ≤ m) : (ys.map (·.length)).sum ≤ ys.length * m := by
  induction ys with
  | nil => simp
  | cons y ys ih =>
    have h1 := h y (List.mem_cons_self ..)
    have h2 := ih fun z hz => h z (List.mem_cons_of_mem _ hz)
    rw [List.map_cons, List.sum_cons, List.length_cons, Nat.add_mul]
    omega
theorem seqL {K : PySem.W.Frag} {H H' : Hp} (g : Same H H') {a : Addr} {xs : List V} (h : SqL K H a xs) : SqL K H' a xs :=
  h.elim (fun h => .inl (h.elim (fun h => .inl (g _ _ h)) fun ⟨o, h⟩ => .inr ⟨o, g _ _ h⟩)) fun h => .inr h
theorem cr_strW {X : Cx} : CallR X (.type "str") (fun xs H Q => ∃ v, xs = [v] ∧ WdOk v ∧ Q (.str (wS v)) H) := by
  intro pins s σ H xs us Q I r h
  obtain ⟨v, rfl, hw, q⟩ := h
  rcases hw with ⟨z, rfl, _⟩ | ⟨i, rfl, hz⟩
  · exact SkE.call_str_str pins s σ H _ us Q I r ⟨z, rfl, q⟩
  · exact call_str_int pins s σ H _ us Q I r ⟨i, rfl, hz, q⟩
def joinW (xs : List V) : Str := Txt.join " " (xs.map wS)
/-- words, all that is asked of them to be joined: how long they may be together -/
def lenW (xs : List V) : Nat := (xs.map fun x => (wS x).length).sum
theorem lenW_nil : lenW [] = 0 := rfl
theorem lenW_cons (x : V) (xs : List V) : lenW (x :: xs) = (wS x).length + lenW xs := rfl
theorem lenW_app (xs ys : List V) : lenW (xs ++ ys) = lenW xs + lenW ys := by
  unfold lenW
  rw [List.map_append, List.sum_append]
theorem lenW_le {xs : List V} {m : Nat} (h : ∀ x ∈ xs, (wS x).length ≤ m) : lenW xs ≤ xs.length * m := by
  induction xs with
  | nil => simp [lenW]
  | cons y ys ih =>
    have h1 := h y (List.mem_cons_self ..)
    have h2 := ih fun z hz => h z (List.mem_cons_of_mem _ hz)
    rw [lenW_cons, List.length_cons, Nat.add_mul]
    omega
theorem joinL_len (S : List Nat) : ∀ l : List (List Nat), (joinL S l).length ≤ (l.map (·.length)).sum + l.length * S.length
  | [] => by simp [joinL]
  | [p] => by simp [joinL]
  | p :: q :: r => by
    have h := joinL_len S (q :: r)
    show (p ++ (S ++ joinL S (q :: r))).length ≤ _
    rw [List.length_append, List.length_append, List.map_cons, List.sum_cons, List.length_cons (as := q :: r), Nat.add_mul]
    omega
theorem joinW_len (xs : List V) : (joinW xs).length ≤ lenW xs + xs.length := by
  have h := joinL_len (tl " ") ((xs.map wS).map tl)
  have e : (tl " ").length = 1 := by decide +kernel
  have e2 : (((xs.map wS).map tl).map (·.length)).sum = lenW xs := by
    unfold lenW
    rw [List.map_map, List.map_map]
    congr 1
  rw [e, e2, List.length_map, List.length_map, Nat.mul_one] at h
  rw [len_tl, show tl (joinW xs) = joinL (tl " ") ((xs.map wS).map tl) by unfold joinW; rw [join_eq, tl_join]]
  exact h
/-- words that may be joined -/
structure WordsOk (xs : List V) : Prop where
  few : xs.length ≤ 10000
  ok : ∀ x ∈ xs, WdOk x
  len : lenW xs ≤ 2000000
theorem joinW_sum {xs : List V} (h : WordsOk xs) : ((xs.map wS).map (·.length)).sum + (xs.map wS).length * Str.length " " ≤ 16777216 := by
  have e1 : Str.length " " = 1 := by decide +kernel
  have e2 : ((xs.map wS).map (·.length)).sum = lenW xs := by rw [List.map_map] <;> rfl
  rw [e1, e2, List.length_map]
  have := h.few
  have := h.len
  omega
theorem small10000 {n : Nat} (h : n ≤ 10000) : n < sizeLine := Nat.lt_of_le_of_lt h (by decide)
theorem len_m4 {α : Type} {f : α → V} {l : List α} {i : Nat} (h : l.length ≤ 10000) : ((l.take i).map f).length < sizeLine := by
  rw [List.length_map, List.length_take]
  exact small10000 (by omega)
abbrev s_spaced : Stmt := topS 38
abbrev n_spaced : List Str := ["words", "word"]
theorem sc_spaced : FnScope n_spaced ["words"] (defScope s_spaced) := ⟨rfl, rfl, rfl, by decide +kernel, rfl, by decide +kernel, by decide +kernel⟩
def spSpaced (K : PySem.W.Frag) : Sp := fun vs H Q _ => ∃ (a : Addr) (xs : List V), vs = [.ref a] ∧ SqL K H a xs ∧ WordsOk xs ∧ ∀ H' : Hp, Same H H' → Q (.str (joinW xs)) H'
section
variable {P : Program} {w : World} {K : PySem.W.Frag} {mg : Str → Option Value} {base : Heap} {f : Addr} {fd : FuncData}
theorem ok_spaced (F : Fun K "spaced" "spaced" s_spaced f fd) (zS : mg "str" = none) : FnOk P w K mg base CX0 1 f fd ["words"] (spSpaced K) := by
  refine F.ok sc_spaced (fun vs H Q E h => ?_) (fun cdv A outer s H vs Q E hr h => ?_)
  · obtain ⟨a, xs, rfl, _⟩ := h
    rfl
  obtain ⟨a, xs, rfl, ha, hw, k⟩ := h
  refine ⟨_, (pss_one (ps_ret (pe_join pe_str (pe_lc (own := [("word", 1)]) (g := (gName 1)) (tt := tYes) (te := tCB (fun xs H Q => ∃ v, xs = [v] ∧ WdOk v ∧ Q (.str (wS v)) H) (tCons (tVar 1) tNil)) rfl sc_spaced.nd (pi_list (pv 0)) (blkOk_by (N := n_spaced) (sc := defScope s_spaced) (by decide +kernel)) (fun _ _ _ _ _ => (pg_name (i := 1) sc_spaced.nd rfl (Or.inl rfl))) (fun _ _ _ _ _ => pts_nil) (fun _ _ _ _ _ => (pe_callTy cr_strW (by rfl) zS (by decide +kernel) (pa_cons (pv 1) pa_nil))))))), ?_⟩
  refine ⟨⟨_, rfl⟩, _, rfl, a, rfl, ⟨_, ha⟩, fun D hD => ?_⟩
  refine lc_list (K := K) (a := a) (xs := xs) (InvM H D (fun v : V => V.str (wS v)) xs) ⟨upd_same, same_new hD _⟩ (fun i H' _ ⟨_, g⟩ => seqL g ha) (fun i x H' hx hv => ?_) ?_
  · exact ⟨rfl, kept ⟨_, rfl, x, rfl, hw.ok x (List.mem_of_getElem? hx), _, hv.1, len_m4 hw.few, InvM.next (f := fun v : V => V.str (wS v)) hD hv.2 hx _ rfl⟩⟩
  rintro H' ⟨hd, g⟩
  rw [List.take_length] at hd
  refine ⟨_, D, xs.map wS, rfl, rfl, .inl (SqL.of (by rw [hd, List.map_map] <;> rfl)), joinW_sum hw, k H' g⟩
end
end Lw
namespace Lw
open PySem L2 TL DcT
/-! the line of a level -/
def trS (p : Nat × Int × Nat) : Str := Str.empty ++ numS (p.1 : Nat) ++ ":" ++ numS p.2.1 ++ ":" ++ numS (p.2.2 : Nat)
def bkW (rs : List (List Int)) (b : Nat) : List V := (bktT (prsT rs rs.length) (prsT rs rs.length).length b).map (fun p => V.str (trS p)) ++ [.str "/"]
def bksW (rs : List (List Int)) (n : Nat) : List V := ((List.range n).map (bkW rs)).flatten
def hashW (rs : List (List Int)) : List V := .str "hashed" :: bksW rs 8
def toldV (kind : Str) (rs : List (List Int)) : List V := if kind = "bits" then masksV rs else rs.flatten.map V.int
def lvW (kind : Str) (rs : List (List Int)) : List V := .str kind :: (startsV rs ++ .str "/" :: toldV kind rs)
def lineT (kind : Str) (rs : List (List Int)) : Str := if kind = "dense" then "dense" else if kind = "hashed" then joinW (hashW rs) else joinW (lvW kind rs)
/-- rows of few coordinates -/
structure FewR (rs : List (List Int)) : Prop where
  l1 : rs.length ≤ 900
  l2 : rs.flatten.length ≤ 900
  c : ∀ r ∈ rs, ∀ c ∈ r, 0 ≤ c ∧ c ≤ 5
  w : ∀ r ∈ rs, r.length ≤ 6
theorem FewR.prs {rs : List (List Int)} (h : FewR rs) : (prsT rs rs.length).length ≤ 900 := by
  have e := prsT_len rs rs.length (Nat.le_refl _)
  rw [List.take_length] at e
  have := h.l2
  omega
theorem FewR.ent {rs : List (List Int)} (h : FewR rs) {b n : Nat} (hn : n ≤ (prsT rs rs.length).length) {p : Nat × Int × Nat} (hp : p ∈ bktT (prsT rs rs.length) n b) : p.1 ≤ 900 ∧ (0 ≤ p.2.1 ∧ p.2.1 ≤ 100) ∧ p.2.2 ≤ 900 := by
  unfold bktT at hp
  obtain ⟨m, hm, rfl⟩ := List.mem_map.mp hp
  have hm := List.mem_range.mp (List.mem_filter.mp hm).1
  have hm2 : m < (prsT rs rs.length).length := by omega
  have em : (prsT rs rs.length).getD m (0, 0) = (prsT rs rs.length)[m] := by rw [List.getD_eq_getElem?_getD, List.getElem?_eq_getElem hm2] <;> rfl
  obtain ⟨b1, rr, b2, b3⟩ := prsT_mem rs.length (Nat.le_refl _) (List.getElem_mem hm2)
  have l1 := h.l1
  have l3 := h.prs
  unfold entP
  rw [em]
  have := h.c rr b2 _ b3
  have h3 := this.2
  exact ⟨by show _ ≤ 900; omega, ⟨this.1, Int.le_trans h3 (by decide)⟩, by show m ≤ 900; omega⟩
theorem nat_few {n : Nat} (h : n ≤ 900) : ((n : Nat) : Int).natAbs < 10 ^ 5 := by
  rw [Int.natAbs_natCast]
  exact Nat.lt_of_le_of_lt h (by decide)
theorem int_few {c : Int} (h : 0 ≤ c ∧ c ≤ 100) : c.natAbs < 10 ^ 5 := by
  have : c.natAbs ≤ 100 := by omega
  exact Nat.lt_of_le_of_lt this (by decide)
theorem log_few5 {c : Int} (h : c.natAbs < 10 ^ 5) : c.natAbs.log2 < 1920 := log_big (Nat.lt_trans h (by decide +kernel))
theorem trS_len {p : Nat × Int × Nat} (h : p.1 ≤ 900 ∧ (0 ≤ p.2.1 ∧ p.2.1 ≤ 100) ∧ p.2.2 ≤ 900) : (Str.empty ++ numS (p.1 : Nat)).length ≤ 20 ∧ (Str.empty ++ numS (p.1 : Nat) ++ ":").length ≤ 20 ∧ (Str.empty ++ numS (p.1 : Nat) ++ ":" ++ numS p.2.1).length ≤ 20 ∧ (Str.empty ++ numS (p.1 : Nat) ++ ":" ++ numS p.2.1 ++ ":").length ≤ 20 ∧ (trS p).length ≤ 20 := by
  have h1 := numS_few (nat_few h.1)
  have h2 := numS_few (int_few h.2.1)
  have h3 := numS_few (nat_few h.2.2)
  have e0 : Str.empty.length = 0 := by decide +kernel
  have e1 : Str.length ":" = 1 := by decide +kernel
  unfold trS
  simp only [Str.length_append, e0, e1]
  omega
theorem str_word {s : Str} {n : Nat} (h : s.length ≤ n) (hn : n ≤ 2000) : WdOk (.str s) := .str (Nat.le_trans h hn)
theorem slash_len : Str.length "/" ≤ 20 := by decide +kernel
theorem bkW_ok {rs : List (List Int)} (h : FewR rs) (b : Nat) : ∀ x ∈ bkW rs b, WdOk x ∧ (wS x).length ≤ 20 := fun x hx => by
  rcases List.mem_append.mp hx with hx | hx
  · obtain ⟨p, hp, rfl⟩ := List.mem_map.mp hx
    have := (trS_len (h.ent (Nat.le_refl _) hp)).2.2.2.2
    exact ⟨str_word this (by decide), this⟩
  · rw [List.mem_singleton.mp hx]
    exact ⟨str_word slash_len (by decide), slash_len⟩
theorem bkW_len {rs : List (List Int)} (h : FewR rs) (b : Nat) : (bkW rs b).length ≤ 901 := by
  have e := bktT_len (prsT rs rs.length) (prsT rs rs.length).length b
  have := h.prs
  unfold bkW
  rw [List.length_append, List.length_map, List.length_singleton]
  omega
theorem bksW_next (rs : List (List Int)) (n : Nat) : bksW rs (n + 1) = bksW rs n ++ bkW rs n := by
  unfold bksW
  rw [List.range_succ, List.map_append, List.flatten_append]
  simp
theorem bksW_len {rs : List (List Int)} (h : FewR rs) : ∀ n, (bksW rs n).length ≤ n * 901
  | 0 => by simp [bksW]
  | n + 1 => by
    have e := bksW_len h n
    have e2 := bkW_len h n
    rw [bksW_next, List.length_append, Nat.add_mul]
    omega
theorem bksW_ok {rs : List (List Int)} (h : FewR rs) : ∀ n, ∀ x ∈ bksW rs n, WdOk x ∧ (wS x).length ≤ 20
  | 0 => fun x hx => by simp [bksW] at hx
  | n + 1 => fun x hx => by
    rw [bksW_next] at hx
    rcases List.mem_append.mp hx with hx | hx
    · exact bksW_ok h n x hx
    · exact bkW_ok h n x hx
theorem words_of {xs : List V} (hl : xs.length ≤ 10000) (h : ∀ x ∈ xs, WdOk x ∧ (wS x).length ≤ 100) : WordsOk xs :=
  ⟨hl, fun x hx => (h x hx).1, Nat.le_trans (lenW_le fun x hx => (h x hx).2) (by omega)⟩
theorem hashW_ok {rs : List (List Int)} (h : FewR rs) : WordsOk (hashW rs) := by
  have e := bksW_len h 8
  refine words_of (by unfold hashW; rw [List.length_cons]; omega) fun x hx => ?_
  rcases List.mem_cons.mp hx with rfl | hx
  · exact ⟨str_word (n := 20) (by decide +kernel) (by decide), by decide +kernel⟩
  · have := bksW_ok h 8 x hx
    exact ⟨this.1, by omega⟩
theorem wd_int {i : Int} (h : i.natAbs < 10 ^ 5) : WdOk (.int i) ∧ (wS (.int i)).length ≤ 100 := ⟨.int (log_few5 h), Nat.le_trans (numS_few h) (by decide)⟩
theorem cnt_le (rs : List (List Int)) (i : Nat) : 0 ≤ cnt rs i ∧ cnt rs i ≤ (rs.flatten.length : Int) := by
  unfold cnt
  have e : rs.flatten = (rs.take i).flatten ++ (rs.drop i).flatten := by rw [← List.flatten_append, List.take_append_drop]
  have e2 := congrArg List.length e
  rw [List.length_append, List.length_flatten (L := rs.take i)] at e2
  have e3 : ((rs.take i).map (fun x => x.length)).sum = ((rs.take i).map List.length).sum := rfl
  omega
theorem mask_le : ∀ r : List Int, (∀ c ∈ r, 0 ≤ c ∧ c ≤ 5) → 0 ≤ maskI r ∧ maskI r ≤ 32 * (r.length : Int)
  | [], _ => by decide
  | c :: r, h => by
    have ih := mask_le r fun x hx => h x (List.mem_cons_of_mem _ hx)
    obtain ⟨c0, c1⟩ := h c (List.mem_cons_self ..)
    have e : maskI (c :: r) = 1 * 2 ^ c.toNat + maskI r := by
      unfold maskI
      rw [List.map_cons, List.sum_cons]
    have hc : c.toNat = 0 ∨ c.toNat = 1 ∨ c.toNat = 2 ∨ c.toNat = 3 ∨ c.toNat = 4 ∨ c.toNat = 5 := by omega
    rw [e, List.length_cons]
    rcases hc with h | h | h | h | h | h <;> rw [h] <;> omega
theorem startsV_ok {rs : List (List Int)} (h : FewR rs) : (startsV rs).length ≤ 901 ∧ ∀ x ∈ startsV rs, WdOk x ∧ (wS x).length ≤ 100 := by
  have l1 := h.l1
  have l2 := h.l2
  unfold startsV
  refine ⟨by rw [List.length_map, List.length_range]; omega, fun x hx => ?_⟩
  obtain ⟨i, _, rfl⟩ := List.mem_map.mp hx
  have := cnt_le rs i
  refine wd_int ?_
  have : (cnt rs i).natAbs ≤ 900 := by omega
  exact Nat.lt_of_le_of_lt this (by decide)
theorem toldV_ok {kind : Str} {rs : List (List Int)} (h : FewR rs) : (toldV kind rs).length ≤ 900 ∧ ∀ x ∈ toldV kind rs, WdOk x ∧ (wS x).length ≤ 100 := by
  have l1 := h.l1
  have l2 := h.l2
  unfold toldV
  by_cases e : kind = "bits"
  · rw [if_pos e]
    unfold masksV
    refine ⟨by rw [List.length_map]; omega, fun x hx => ?_⟩
    obtain ⟨r, hr, rfl⟩ := List.mem_map.mp hx
    have m := mask_le r (h.c r hr)
    have := h.w r hr
    refine wd_int ?_
    have : (maskI r).natAbs ≤ 192 := by omega
    exact Nat.lt_of_le_of_lt this (by decide)
  · rw [if_neg e]
    refine ⟨by rw [List.length_map]; omega, fun x hx => ?_⟩
    obtain ⟨c, hc, rfl⟩ := List.mem_map.mp hx
    obtain ⟨r, hr, hcr⟩ := List.mem_flatten.mp hc
    have := h.c r hr c hcr
    exact wd_int (int_few ⟨this.1, by omega⟩)
theorem lvW_ok {kind : Str} {rs : List (List Int)} (h : FewR rs) (hk : kind.length ≤ 20) : WordsOk (lvW kind rs) := by
  obtain ⟨a1, a2⟩ := startsV_ok h
  obtain ⟨b1, b2⟩ := toldV_ok (kind := kind) h
  unfold lvW
  refine words_of (by rw [List.length_cons, List.length_append, List.length_cons]; omega) fun x hx => ?_
  rcases List.mem_cons.mp hx with rfl | hx
  · exact ⟨str_word hk (by decide), Nat.le_trans hk (by decide)⟩
  · rcases List.mem_append.mp hx with hx | hx
    · exact a2 x hx
    · rcases List.mem_cons.mp hx with rfl | hx
      · exact ⟨str_word slash_len (by decide), Nat.le_trans slash_len (by decide)⟩
      · exact b2 x hx
theorem kind_len : ∀ k ∈ KINDS, k.length ≤ 20 := by decide +kernel
theorem lineT_len {kind : Str} {rs : List (List Int)} (h : FewR rs) (hk : kind.length ≤ 20) : (lineT kind rs).length ≤ 2010000 := by
  unfold lineT
  by_cases e : kind = "dense"
  · rw [if_pos e]
    exact Nat.le_trans (show Str.length "dense" ≤ 20 by decide +kernel) (by decide)
  rw [if_neg e]
  by_cases e : kind = "hashed"
  · rw [if_pos e]
    have a := joinW_len (hashW rs)
    have b := (hashW_ok h).few
    have c := (hashW_ok h).len
    omega
  · rw [if_neg e]
    have a := joinW_len (lvW kind rs)
    have b := (lvW_ok h hk).few
    have c := (lvW_ok h hk).len
    omega
end Lw
namespace Lw
open PySem L2 TL DcT
abbrev s_level_line : Stmt := topS 39
abbrev n_level_line : List Str := ["level", "kind", "starts", "told", "words", "bucket", "upper", "c", "place"]
theorem sc_level_line : FnScope n_level_line ["level"] (defScope s_level_line) := ⟨rfl, rfl, rfl, by decide +kernel, rfl, by decide +kernel, by decide +kernel⟩
def spLine (K : PySem.W.Frag) : Sp := fun vs H Q _ => ∃ (v : V) (kind : Str) (n : Int) (rs : List (List Int)), vs = [v] ∧ LevAt K H v kind n rs ∧ FewR rs ∧ ∀ H' : Hp, Same H H' → Q (.str (lineT kind rs)) H'
section
variable {P : Program} {w : World} {K : PySem.W.Frag} {mg : Str → Option Value} {base : Heap} {f : Addr} {fd : FuncData}
theorem ok_level_line (F : Fun K "level_line" "level_line" s_level_line f fd) (cS : Ca P w K mg base 1 "spaced" ["words"] (spSpaced K)) : FnOk P w K mg base CX0 2 f fd ["level"] (spLine K) := by
  refine F.ok sc_level_line (fun vs H Q E h => ?_) (fun cdv A outer s H vs Q E hr h => ?_)
  · obtain ⟨v, kind, n, rs, rfl, _⟩ := h
    rfl
  obtain ⟨v, kind, n, rs, rfl, hv, hf, k⟩ := h
  refine ⟨_, (pss_cons (ps_if (pt_cmpR op_eq (pe_ix ix_tup (pv 0) pe_int (fun _ _ => rfl)) pe_str (nomark _)) (pss_one (ps_ret pe_str)) pss_nil)
(pss_cons (ps_if (pt_cmpR op_ne (pe_ix ix_tup (pv 0) pe_int (fun _ _ => rfl)) pe_str (nomark _))
(pss_cons (ps_asg (pv 0) (pg_tup rfl (pgs_cons (pg_name (i := 1) sc_level_line.nd rfl (Or.inl rfl)) (pgs_cons (pg_name (i := 2) sc_level_line.nd rfl (Or.inl rfl)) (pgs_cons (pg_name (i := 3) sc_level_line.nd rfl (Or.inl rfl)) pgs_nil)))))
(pss_one (ps_ret (pca cS hr (by decide) rfl (pa_cons (pe_lst (pa_cons (pv 1) (StX.pa_star (pv 2) (pa_cons pe_str (StX.pa_star (pv 3) pa_nil))))) pa_nil))))) pss_nil)
(pss_cons (ps_set (i := 4) sc_level_line.nd rfl (Or.inl rfl) (pe_lst (pa_cons pe_str pa_nil)))
(pss_cons (ps_for PassesOwn.never rfl (pi_tup (pe_ix ix_tup (pv 0) pe_int (fun _ _ => rfl))) (pg_name (i := 5) sc_level_line.nd rfl (Or.inl rfl))
(pss_cons (ps_expr (pe_bm PySem.F.plainAttrs_list PySem.F.slot_list_extend PySem.F.type_list_extend mt_extend (pv 4) (pa_cons (pe_lc (own := [("upper", 6), ("c", 7), ("place", 8)]) (g := (gTup K 3 (gCons (gName 6) (gCons (gName 7) (gCons (gName 8) gNil))))) (tt := tYes) (te := fun σ H Q => tJs [tFmt (tVar 6), tC (.str ":"), tFmt (tVar 7), tC (.str ":"), tFmt (tVar 8)] Str.empty σ H fun out H1 => Q (.str out) H1) rfl sc_level_line.nd (pi_tup (pv 5)) (blkOk_by (N := n_level_line) (sc := defScope s_level_line) (by decide +kernel)) (fun _ _ _ _ _ => (pg_tup rfl (pgs_cons (pg_name (i := 6) sc_level_line.nd rfl (Or.inl rfl)) (pgs_cons (pg_name (i := 7) sc_level_line.nd rfl (Or.inl rfl)) (pgs_cons (pg_name (i := 8) sc_level_line.nd rfl (Or.inl rfl)) pgs_nil))))) (fun _ _ _ _ _ => pts_nil) (fun _ _ _ _ _ => pe_joined (.cons (pe_fmt (pv 6)) (.cons pe_str (.cons (pe_fmt (pv 7)) (.cons pe_str (.cons (pe_fmt (pv 8)) .nil))))))) pa_nil)))
(pss_one (ps_expr (pe_bm PySem.F.plainAttrs_list PySem.F.slot_list_append PySem.F.type_list_append mt_append (pv 4) (pa_cons pe_str pa_nil))))))
(pss_one (ps_ret (pca cS hr (by decide) rfl (pa_cons (pv 4) pa_nil)))))))), ?_⟩
  rcases hv with ⟨e, t, rfl, h1⟩ | ⟨e, t, a, b, rfl, h1, h2, h3⟩ | ⟨e, t, a, b, rfl, h1, h2, h3⟩ | ⟨e, t, a, rfl, h1, h2⟩
  · refine ⟨_, rfl, t, _, _, _, rfl, rfl, h1, rfl, rfl, _, rfl, iteC (by rw [dstr]; decide +kernel) ?_⟩
    have q := k H (Same.refl H)
    unfold lineT at q
    rw [if_pos e] at q
    exact q
  · have hk : kind.length ≤ 20 := by rw [e]; decide +kernel
    have q : ∀ H', Same H H' → Q (.str (joinW (lvW kind rs))) H' := fun H' g => by
      have q := k H' g
      unfold lineT at q
      rw [if_neg (fun z => den_pac (z.symm.trans e)), if_neg (fun z => pac_has (e.symm.trans z))] at q
      exact q
    have et : toldV kind rs = rs.flatten.map V.int := by
      unfold toldV
      rw [if_neg (fun z => pac_bit (e.symm.trans z))]
    have ok := lvW_ok hf hk
    have ew : lvW kind rs = V.str "packed" :: (startsV rs ++ .str "/" :: (rs.flatten.map V.int ++ [])) := by
      unfold lvW
      rw [et, e, List.append_nil]
    rw [ew] at q ok
    refine ⟨_, rfl, t, _, _, _, rfl, rfl, h1, rfl, rfl, _, rfl, iteN (by rw [dstr]; decide +kernel) ?_⟩
    refine ⟨_, rfl, t, _, _, _, rfl, rfl, h1, rfl, rfl, _, rfl, iteC (by rw [dstr]; decide +kernel) ?_⟩
    refine ⟨_, rfl, t, _, rfl, h1, rfl, _, _, rfl, _, _, rfl, _, _, rfl, rfl, ?_⟩
    refine ⟨_, rfl, _, rfl, a, _, rfl, .inl h2, _, rfl, b, _, rfl, .inl h3, Nat.le_of_lt (small10000 ok.few), fun L hL => ?_⟩
    have gL := same_new hL (.lst (V.str "packed" :: (startsV rs ++ .str "/" :: (rs.flatten.map V.int ++ []))))
    exact ⟨L, _, rfl, SqL.of upd_same, ok, fun H' g => q H' (gL.trans g)⟩
  · have hk : kind.length ≤ 20 := by rw [e]; decide +kernel
    have q : ∀ H', Same H H' → Q (.str (joinW (lvW kind rs))) H' := fun H' g => by
      have q := k H' g
      unfold lineT at q
      rw [if_neg (fun z => den_bit (z.symm.trans e)), if_neg (fun z => bit_has (e.symm.trans z))] at q
      exact q
    have et : toldV kind rs = masksV rs := by
      unfold toldV
      rw [if_pos e]
    have ok := lvW_ok hf hk
    have ew : lvW kind rs = V.str "bits" :: (startsV rs ++ .str "/" :: (masksV rs ++ [])) := by
      unfold lvW
      rw [et, e, List.append_nil]
    rw [ew] at q ok
    refine ⟨_, rfl, t, _, _, _, rfl, rfl, h1, rfl, rfl, _, rfl, iteN (by rw [dstr]; decide +kernel) ?_⟩
    refine ⟨_, rfl, t, _, _, _, rfl, rfl, h1, rfl, rfl, _, rfl, iteC (by rw [dstr]; decide +kernel) ?_⟩
    refine ⟨_, rfl, t, _, rfl, h1, rfl, _, _, rfl, _, _, rfl, _, _, rfl, rfl, ?_⟩
    refine ⟨_, rfl, _, rfl, a, _, rfl, .inl h2, _, rfl, b, _, rfl, .inl h3, Nat.le_of_lt (small10000 ok.few), fun L hL => ?_⟩
    have gL := same_new hL (.lst (V.str "bits" :: (startsV rs ++ .str "/" :: (masksV rs ++ []))))
    exact ⟨L, _, rfl, SqL.of upd_same, ok, fun H' g => q H' (gL.trans g)⟩
  · have q : ∀ H', Same H H' → Q (.str (joinW (hashW rs))) H' := fun H' g => by
      have q := k H' g
      unfold lineT at q
      rw [if_neg (fun z => den_has (z.symm.trans e)), if_pos e] at q
      exact q
    have ok := hashW_ok hf
    obtain ⟨bs, b1, b2, b3⟩ := h2
    refine ⟨_, rfl, t, _, _, _, rfl, rfl, h1, rfl, rfl, _, rfl, iteN (by rw [dstr]; decide +kernel) ?_⟩
    refine ⟨_, rfl, t, _, _, _, rfl, rfl, h1, rfl, rfl, _, rfl, iteN (by rw [dstr]; decide +kernel) ?_⟩
    refine ⟨(by show 1 ≤ sizeLine; decide), fun W hW => ?_⟩
    have gW := same_new hW (.lst [.str "hashed"])
    refine ⟨_, rfl, t, _, _, _, rfl, rfl, seqT gW h1, rfl, a, rfl, ⟨_, seqT gW b1⟩, ?_⟩
    refine for_tup (K := K) (a := a) (xs := bs) (fun i σ' H' => (∃ u1 u2 u3 u5 u6 u7 u8 : Option V, σ' = [some (.ref t), u1, u2, u3, some (.ref W), u5, u6, u7, u8]) ∧ H' W = some (.lst (.str "hashed" :: bksW rs i)) ∧ Same H H')
      ⟨⟨_, _, _, _, _, _, _, rfl⟩, upd_same, gW⟩ (fun i σ' H' _ h => seqT h.2.2 b1) ?_ ?_
    · rintro i x σ' H' hx ⟨⟨u1, u2, u3, u5, u6, u7, u8, rfl⟩, v1, v2⟩
      obtain ⟨c, es, rfl, c2, c3⟩ := b3 i x hx
      have hi : i < 8 := by rw [← b2]; exact (List.getElem?_eq_some_iff.mp hx).1
      have hes := bktT_len (prsT rs rs.length) (prsT rs rs.length).length i
      have hpl := hf.prs
      refine ⟨_, rfl, .inl ⟨rfl, _, SqL.of v1⟩, _, rfl, c, rfl, ⟨_, seqT v2 c2⟩, fun D hD => ?_⟩
      refine lc_tup (K := K) (te := fun σ H Q => tJs [tFmt (tVar 6), tC (.str ":"), tFmt (tVar 7), tC (.str ":"), tFmt (tVar 8)] Str.empty σ H fun out H1 => Q (.str out) H1) (a := c) (xs := es) (InvM H' D (fun p : Nat × Int × Nat => V.str (trS p)) (bktT (prsT rs rs.length) (prsT rs rs.length).length i)) ⟨upd_same, same_new hD _⟩ (fun j H2 _ ⟨_, g⟩ => seqT (v2.trans g) c2) (fun j y H2 hy hv => ?_) ?_
      · have hj : j < (bktT (prsT rs rs.length) (prsT rs rs.length).length i).length := by rw [← c3.1]; exact (List.getElem?_eq_some_iff.mp hy).1
        have ej := List.getElem?_eq_getElem hj
        obtain ⟨d, rfl, hd⟩ := c3.2 j y _ hy ej
        have en := hf.ent (Nat.le_refl _) (List.mem_of_getElem? ej)
        generalize (bktT (prsT rs rs.length) (prsT rs rs.length).length i)[j] = p at ej hd en
        obtain ⟨m1, m2, m3, m4, m5⟩ := trS_len en
        have sz : ∀ {n : Nat}, n ≤ 20 → n ≤ sizeLine := fun h => Nat.le_of_lt (small1000 (by omega))
        refine ⟨d, _, rfl, seqT (v2.trans hv.2) hd, rfl, _, _, rfl, _, _, rfl, _, _, rfl, rfl, rfl, kept ?_⟩
        exact ⟨_, rfl, .inr ⟨_, rfl, log_few5 (nat_few en.1), _, rfl, sz m1, _, rfl, sz m2, _, rfl, .inr ⟨_, rfl, log_few5 (int_few en.2.1), _, rfl, sz m3, _, rfl, sz m4, _, rfl, .inr ⟨_, rfl, log_few5 (nat_few en.2.2), _, rfl, sz m5, _, hv.1, len_m (by omega), InvM.next (f := fun p : Nat × Int × Nat => V.str (trS p)) hD hv.2 ej _ rfl⟩⟩⟩⟩
      rintro H2 ⟨hd, g⟩
      rw [List.take_of_length_le (by rw [c3.1]; exact Nat.le_refl _)] at hd
      have w1 := g _ _ v1
      have lw := bksW_len hf i
      have lb : (bkW rs i).length ≤ 901 := bkW_len hf i
      refine ⟨W, D, _, _, rfl, rfl, w1, hd, ?_, ?_⟩
      · refine Nat.le_of_lt (small10000 ?_)
        rw [List.length_cons, List.length_map]
        omega
      refine ⟨_, rfl, .inl ⟨rfl, _, SqL.of upd_same⟩, W, _, _, rfl, rfl, upd_same, ?_, ⟨_, _, _, _, _, _, _, rfl⟩, ?_, ?_⟩
      · refine small10000 ?_
        rw [List.length_append, List.length_cons, List.length_map]
        omega
      · rw [upd_same, bksW_next]
        unfold bkW
        simp only [List.cons_append, List.append_assoc]
      · have := v2.trans g
        exact same_over (same_over this hW _) hW _
    · rintro σ' H' ⟨⟨u1, u2, u3, u5, u6, u7, u8, rfl⟩, v1, v2⟩
      rw [b2] at v1
      exact ⟨_, rfl, W, _, rfl, SqL.of v1, ok, fun H2 g => q H2 (v2.trans g)⟩
end
end Lw
namespace Lw
open PySem L2 TL DcT
/-! the text of a table -/
def lvQ (l : List (Str × Int)) (i : Nat) : Str × Int := l.getD i ("", 0)
def lvR (zs : List Int) (ds : List (List Int)) (l : List (Str × Int)) (i : Nat) : List (List Int) := rowsL zs ds (pathsL zs ds (l.take i)) (lvQ l i)
def lvL (zs : List Int) (ds : List (List Int)) (l : List (Str × Int)) (i : Nat) : Str := lineT (lvQ l i).1 (lvR zs ds l i)
def dataV (zs : List Int) (ds : List (List Int)) (l : List (Str × Int)) (cs : List (List Int × Int)) : List V := (pathsL zs ds l).map fun x => V.int (vOf (cs.map (pkv (l.map (·.2)))) x)
def linesT (zs : List Int) (ds : List (List Int)) (l : List (Str × Int)) (cs : List (List Int × Int)) : List Str :=
  joinW (.str "sizes" :: zs.map V.int) :: joinW [.str "form", .str (ftext (l.map (·.1)) (l.map (·.2)))] :: ((List.range l.length).map (lvL zs ds l) ++ [joinW (.str "values" :: dataV zs ds l cs)])
def tableT (zs : List Int) (ds : List (List Int)) (l : List (Str × Int)) (cs : List (List Int × Int)) : Str := Txt.join "\n" (linesT zs ds l cs)
/-- a table as the law draws it -/
structure TabOk (zs : List Int) (ds : List (List Int)) (l : List (Str × Int)) (cs : List (List Int × Int)) : Prop where
  z3 : zs.length ≤ 3
  gl : Good l zs.length
  z6 : ∀ x ∈ zs, 1 ≤ x ∧ x ≤ 6
  gc : GoodC zs cs
  few : cs.length < 200
  ld : Lead (known (l.map (·.2)) cs) ds
theorem lvQ_at {l : List (Str × Int)} {i : Nat} {q : Str × Int} (h : l[i]? = some q) : lvQ l i = q := by
  unfold lvQ
  rw [List.getD_eq_getElem?_getD, h] <;> rfl
theorem rowD_mem {kind : Str} {n : Nat} {p : List Int} {ds : List (List Int)} {c : Int} (h : c ∈ rowD kind n p ds) : 0 ≤ c ∧ c < (n : Int) := by
  rw [rowD_eq] at h
  exact iota_mem.mp (List.mem_filter.mp h).1
section
variable {zs : List Int} {ds : List (List Int)} {l : List (Str × Int)} {cs : List (List Int × Int)}
theorem TabOk.six (T : TabOk zs ds l cs) : ∀ q ∈ l, szN zs q.2 ≤ 6 := fun q hq => ((sz_six T.gl.2.2 T.z6) q hq).1
theorem TabOk.l3 (T : TabOk zs ds l cs) : l.length ≤ 3 := by rw [T.gl.1]; exact T.z3
theorem TabOk.rows (T : TabOk zs ds l cs) {i : Nat} {q : Str × Int} (h : l[i]? = some q) : FewR (rowsL zs ds (pathsL zs ds (l.take i)) q) := by
  have hi := (List.getElem?_eq_some_iff.mp h).1
  have l3 := T.l3
  have s6 := T.six q (List.mem_of_getElem? h)
  have pf := paths_few (ds := ds) T.six i (by omega)
  have b : 6 ^ i ≤ 6 ^ 2 := Nat.pow_le_pow_right (by decide) (by omega)
  have b : 6 ^ i ≤ 36 := b
  have rf := rows_few (ds := ds) (ps := pathsL zs ds (l.take i)) s6
  refine ⟨by unfold rowsL; rw [List.length_map]; omega, by omega, fun r hr c hc => ?_, fun r hr => ?_⟩
  · obtain ⟨p, _, rfl⟩ := List.mem_map.mp hr
    have := rowD_mem hc
    omega
  · obtain ⟨p, _, rfl⟩ := List.mem_map.mp hr
    exact Nat.le_trans (rowD_len _ _ _ _) s6
theorem TabOk.paths (T : TabOk zs ds l cs) : (pathsL zs ds l).length ≤ 216 := by
  have a := paths_few (ds := ds) T.six l.length (Nat.le_refl _)
  rw [List.take_length] at a
  exact Nat.le_trans a (Nat.le_trans (Nat.pow_le_pow_right (by decide) T.l3) (by decide))
theorem vOf_small {cs : List (List Int × Int)} (h : ∀ p ∈ cs, p.2 < 10 ^ 60 ∧ - 10 ^ 60 < p.2) (k : List Int) : (vOf cs k).natAbs < 10 ^ 60 := by
  by_cases hk : k ∈ cs.map (·.1)
  · have m := vOf_mem (cs := cs) (k := k) hk
    have := h _ m
    have a : vOf cs k < 10 ^ 60 := this.1
    have b : - 10 ^ 60 < vOf cs k := this.2
    omega
  · rw [vOf_out hk]
    decide +kernel
theorem TabOk.data (T : TabOk zs ds l cs) : (dataV zs ds l cs).length ≤ 216 ∧ ∀ x ∈ dataV zs ds l cs, WdOk x ∧ (wS x).length ≤ 100 := by
  unfold dataV
  refine ⟨by rw [List.length_map]; exact T.paths, fun x hx => ?_⟩
  obtain ⟨p, _, rfl⟩ := List.mem_map.mp hx
  have v := vOf_small (cs := cs.map (pkv (l.map (·.2)))) (fun q hq => by
    obtain ⟨c, hc, rfl⟩ := List.mem_map.mp hq
    exact (T.gc.2 c hc).2) p
  exact ⟨.int (log_val v), Nat.le_trans (numS_val v) (by decide)⟩
theorem TabOk.w1 (T : TabOk zs ds l cs) : WordsOk (.str "sizes" :: zs.map V.int) := by
  have := T.z3
  refine words_of (by rw [List.length_cons, List.length_map]; omega) fun x hx => ?_
  rcases List.mem_cons.mp hx with rfl | hx
  · exact ⟨str_word (n := 20) (by decide +kernel) (by decide), by decide +kernel⟩
  · obtain ⟨c, hc, rfl⟩ := List.mem_map.mp hx
    have := T.z6 c hc
    exact wd_int (int_few ⟨by omega, by omega⟩)
theorem TabOk.valid (T : TabOk zs ds l cs) : valid (l.map (·.1)) (l.map (·.2)) = true := iota_valid T.gl T.z3
theorem TabOk.w2 (T : TabOk zs ds l cs) : WordsOk [.str "form", .str (ftext (l.map (·.1)) (l.map (·.2)))] := by
  have f := (ftext_small T.valid).1
  refine words_of (by show 2 ≤ 10000; decide) fun x hx => ?_
  rcases List.mem_cons.mp hx with rfl | hx
  · exact ⟨str_word (n := 20) (by decide +kernel) (by decide), by decide +kernel⟩
  · rw [List.mem_singleton.mp hx]
    exact ⟨str_word f (by decide), f⟩
theorem TabOk.w3 (T : TabOk zs ds l cs) : WordsOk (.str "values" :: dataV zs ds l cs) := by
  obtain ⟨d1, d2⟩ := T.data
  refine words_of (by rw [List.length_cons]; omega) fun x hx => ?_
  rcases List.mem_cons.mp hx with rfl | hx
  · exact ⟨str_word (n := 20) (by decide +kernel) (by decide), by decide +kernel⟩
  · exact d2 x hx
theorem WordsOk.jl {xs : List V} (h : WordsOk xs) : (joinW xs).length ≤ 2010000 := by
  have a := joinW_len xs
  have b := h.few
  have c := h.len
  omega
theorem TabOk.lines (T : TabOk zs ds l cs) : (linesT zs ds l cs).length ≤ 6 ∧ ∀ x ∈ linesT zs ds l cs, x.length ≤ 2010000 := by
  have l3 := T.l3
  unfold linesT
  refine ⟨by rw [List.length_cons, List.length_cons, List.length_append, List.length_map, List.length_range, List.length_singleton]; omega, fun x hx => ?_⟩
  rcases List.mem_cons.mp hx with rfl | hx
  · exact T.w1.jl
  rcases List.mem_cons.mp hx with rfl | hx
  · exact T.w2.jl
  rcases List.mem_append.mp hx with hx | hx
  · obtain ⟨i, hi, rfl⟩ := List.mem_map.mp hx
    have hi := List.mem_range.mp hi
    have e := List.getElem?_eq_getElem hi
    unfold lvL lvR
    rw [lvQ_at e]
    exact lineT_len (T.rows e) (kind_len _ (T.gl.2.1 _ (List.getElem_mem hi)))
  · rw [List.mem_singleton.mp hx]
    exact T.w3.jl
theorem TabOk.sum (T : TabOk zs ds l cs) : ((linesT zs ds l cs).map (·.length)).sum + (linesT zs ds l cs).length * Str.length "\n" ≤ 16777216 := by
  obtain ⟨a, b⟩ := T.lines
  have z := sum_le' b
  have e : Str.length "\n" = 1 := by decide +kernel
  have := Nat.mul_le_mul_right 2010000 a
  rw [e]
  omega
end
abbrev s_table_text : Stmt := topS 40
abbrev n_table_text : List Str := ["stored", "lines", "level"]
theorem sc_table_text : FnScope n_table_text ["stored"] (defScope s_table_text) := ⟨rfl, rfl, rfl, by decide +kernel, rfl, by decide +kernel, by decide +kernel⟩
def spTT (K : PySem.W.Frag) (S C : Addr) : Sp := fun vs H Q _ => ∃ (p q : Addr) (zs : List Int) (l : List (Str × Int)) (cs : List (List Int × Int)) (ds : List (List Int)), vs = [.ref p] ∧ StoredAt K S H p q zs l cs ∧ FormAt K C q (l.map (·.1)) (l.map (·.2)) H ∧ TabOk zs ds l cs ∧ ∀ H' : Hp, Same H H' → Q (.str (tableT zs ds l cs)) H'
section
variable {P : Program} {w : World} {K : PySem.W.Frag} {mg : Str → Option Value} {base : Heap} {S C f pT gT : Addr} {dT fd : FuncData}
theorem ok_table_text (F : Fun K "table_text" "table_text" s_table_text f fd) (T : Sd K S C) (cS : Ca P w K mg base 1 "spaced" ["words"] (spSpaced K)) (cL : Ca P w K mg base 2 "level_line" ["level"] (spLine K))
    (pTx : PropOf K C "text" pT gT) (GT : FnOk P w K mg base CX0 1 gT dT ["self"] (spText K C)) (bT : Binds K dT ["self"] []) : FnOk P w K mg base CX0 3 f fd ["stored"] (spTT K S C) := by
  refine F.ok sc_table_text (fun vs H Q E h => ?_) (fun cdv A outer s H vs Q E hr h => ?_)
  · obtain ⟨p, q, zs, l, cs, ds, rfl, _⟩ := h
    rfl
  obtain ⟨p, q, zs, l, cs, ds, rfl, hSt, hF, tb, k⟩ := h
  refine ⟨_, (pss_cons (ps_set (i := 1) sc_table_text.nd rfl (Or.inl rfl) (pe_lst (pa_cons (pca cS hr (by decide) rfl (pa_cons (pe_lst (pa_cons pe_str (StX.pa_star (pe_fld (pv 0) rfl) pa_nil))) pa_nil)) (pa_cons (pca cS hr (by decide) rfl (pa_cons (pe_lst (pa_cons pe_str (pa_cons (pe_prop (dvs := []) (pe_fld (pv 0) rfl) T.clC pTx GT (hr.mono (by decide)) bT .nil pass0 rfl) pa_nil))) pa_nil)) pa_nil))))
(pss_cons (ps_expr (pe_bm PySem.F.plainAttrs_list PySem.F.slot_list_extend PySem.F.type_list_extend mt_extend (pv 1) (pa_cons (pe_lc (own := [("level", 2)]) (g := (gName 2)) (tt := tYes) (te := tCall (spLine K) [] E0 (tCons (tVar 2) tNil)) rfl sc_table_text.nd (pi_tup (pe_fld (pv 0) rfl)) (blkOk_by (N := n_table_text) (sc := defScope s_table_text) (by decide +kernel)) (fun _ _ _ _ _ => (pg_name (i := 2) sc_table_text.nd rfl (Or.inl rfl))) (fun _ _ _ _ _ => pts_nil) (fun _ _ _ _ _ => (pca cL hr (by decide) rfl (pa_cons (pv 2) pa_nil)))) pa_nil)))
(pss_cons (ps_expr (pe_bm PySem.F.plainAttrs_list PySem.F.slot_list_append PySem.F.type_list_append mt_append (pv 1) (pa_cons (pca cS hr (by decide) rfl (pa_cons (pe_lst (pa_cons pe_str (StX.pa_star (pe_fld (pv 0) rfl) pa_nil))) pa_nil)) pa_nil)))
(pss_one (ps_ret (pe_join pe_str (pv 1))))))), ?_⟩
  obtain ⟨dx, ts, tc, tl, td, us, ds0, cs0, h1, h2, h3, h4, h5, h6, h7, h8, h9⟩ := id hSt
  obtain ⟨dxq, tkq, taq, hq1, _⟩ := id hF
  have iffs := lead_same h9 tb.ld
  have h7 := h7.ds iffs
  rw [pathsL_same iffs] at h8
  have hlen := h7.1
  have ok1 : WordsOk (.str "sizes" :: (zs.map V.int ++ [])) := by rw [List.append_nil]; exact tb.w1
  have ok3 : WordsOk (.str "values" :: (dataV zs ds l cs ++ [])) := by rw [List.append_nil]; exact tb.w3
  have l3 := tb.l3
  -- sizes
  refine ⟨_, rfl, p, S, dx, _, _, rfl, h1, T.cl, T.nS, rfl, ts, _, rfl, .inl h2, Nat.le_of_lt (small10000 ok1.few), fun L1 hL1 => ?_⟩
  have g1 := same_new hL1 (.lst (.str "sizes" :: (zs.map V.int ++ [])))
  refine ⟨L1, _, rfl, SqL.of upd_same, ok1, fun H2 g2 => ?_⟩
  have g12 := g1.trans g2
  refine ⟨_, rfl, p, S, dx, _, _, rfl, g12 _ _ h1, T.cl, T.nF, rfl, q, dxq, _, rfl, g12 _ _ hq1, q, _, _, rfl, hF.same g12, tb.valid, fun H3 g3 => ?_⟩
  refine ⟨(by show 2 ≤ sizeLine; decide), fun L2 hL2 => ?_⟩
  have gL2 := same_new hL2 (.lst [.str "form", .str (ftext (l.map (·.1)) (l.map (·.2)))])
  refine ⟨L2, _, rfl, SqL.of upd_same, tb.w2, fun H4 g4 => ?_⟩
  have g14 := g12.trans (g3.trans (gL2.trans g4))
  refine ⟨(by show 2 ≤ sizeLine; decide), fun Ls hLs => ?_⟩
  have gLs := same_new hLs (.lst [.str (joinW (.str "sizes" :: (zs.map V.int ++ []))), .str (joinW [.str "form", .str (ftext (l.map (·.1)) (l.map (·.2)))])])
  have hLn : H Ls = none := g14.free hLs
  have g15 := g14.trans gLs
  have e15 : (upd H4 Ls (.lst [.str (joinW (.str "sizes" :: (zs.map V.int ++ []))), .str (joinW [.str "form", .str (ftext (l.map (·.1)) (l.map (·.2)))])])) Ls = some (.lst [.str (joinW (.str "sizes" :: (zs.map V.int ++ []))), .str (joinW [.str "form", .str (ftext (l.map (·.1)) (l.map (·.2)))])]) := upd_same
  generalize upd H4 Ls (.lst [.str (joinW (.str "sizes" :: (zs.map V.int ++ []))), .str (joinW [.str "form", .str (ftext (l.map (·.1)) (l.map (·.2)))])]) = H5 at g15 e15 ⊢
  rw [List.append_nil] at e15
  -- levels
  refine ⟨_, rfl, .inl ⟨rfl, _, SqL.of e15⟩, _, rfl, p, S, dx, _, _, rfl, g15 _ _ h1, T.cl, T.nL, rfl, tl, rfl, ⟨_, seqT g15 h6⟩, fun D hD => ?_⟩
  refine lc_tup (K := K) (a := tl) (xs := us) (InvM H5 D (fun i : Nat => V.str (lvL zs ds l i)) (List.range l.length)) ⟨upd_same, same_new hD _⟩ (fun i H' _ ⟨_, g⟩ => seqT (g15.trans g) h6) (fun i x H6 hx hv => ?_) ?_
  · have hi : i < l.length := by rw [← hlen]; exact (List.getElem?_eq_some_iff.mp hx).1
    have eq := List.getElem?_eq_getElem hi
    have lev := (h7.2 i x _ hx eq).mono (.of (g15.trans hv.2))
    have ei : (List.range l.length)[i]? = some i := by rw [List.getElem?_range hi]
    have ev : lineT (l[i]).1 (rowsL zs ds (pathsL zs ds (l.take i)) l[i]) = lvL zs ds l i := by
      unfold lvL lvR
      rw [lvQ_at eq]
    refine ⟨rfl, kept ⟨_, rfl, x, _, _, _, rfl, lev, tb.rows eq, fun H7 g7 => ?_⟩⟩
    rw [ev]
    exact ⟨_, g7 _ _ hv.1, len_m (by rw [List.length_range]; omega), InvM.next (f := fun i : Nat => V.str (lvL zs ds l i)) hD (hv.2.trans g7) ei _ rfl⟩
  rintro H6 ⟨hd, g6⟩
  rw [hlen, List.take_of_length_le (by rw [List.length_range]; exact Nat.le_refl _)] at hd
  refine ⟨Ls, D, _, _, rfl, rfl, g6 _ _ e15, hd, ?_, ?_⟩
  · refine Nat.le_of_lt (small1000 ?_)
    rw [List.length_map, List.length_range]
    show 2 + l.length ≤ 1000
    omega
  have e16 : (upd H6 Ls (.lst ([.str (joinW (.str "sizes" :: zs.map V.int)), .str (joinW [.str "form", .str (ftext (l.map (·.1)) (l.map (·.2)))])] ++ (List.range l.length).map fun i => V.str (lvL zs ds l i)))) Ls = some (.lst ([.str (joinW (.str "sizes" :: zs.map V.int)), .str (joinW [.str "form", .str (ftext (l.map (·.1)) (l.map (·.2)))])] ++ (List.range l.length).map fun i => V.str (lvL zs ds l i))) := upd_same
  have g16 : Same H (upd H6 Ls (.lst ([.str (joinW (.str "sizes" :: zs.map V.int)), .str (joinW [.str "form", .str (ftext (l.map (·.1)) (l.map (·.2)))])] ++ (List.range l.length).map fun i => V.str (lvL zs ds l i)))) := same_over (g15.trans g6) hLn _
  generalize upd H6 Ls (.lst ([.str (joinW (.str "sizes" :: zs.map V.int)), .str (joinW [.str "form", .str (ftext (l.map (·.1)) (l.map (·.2)))])] ++ (List.range l.length).map fun i => V.str (lvL zs ds l i))) = H7 at e16 g16 ⊢
  -- values
  refine ⟨_, rfl, .inl ⟨rfl, _, SqL.of e16⟩, _, rfl, p, S, dx, _, _, rfl, g16 _ _ h1, T.cl, T.nD, rfl, td, _, rfl, .inl (seqT g16 h8), Nat.le_of_lt (small10000 ok3.few), fun L3 hL3 => ?_⟩
  have g3' := same_new hL3 (.lst (.str "values" :: (dataV zs ds l cs ++ [])))
  refine ⟨L3, _, rfl, SqL.of upd_same, ok3, fun H8 g8 => ?_⟩
  have g38 := g3'.trans g8
  have e17 := g38 _ _ e16
  refine ⟨Ls, _, _, rfl, rfl, e17, ?_, ?_⟩
  · refine small1000 ?_
    rw [List.length_append, List.length_map, List.length_range]
    show 2 + l.length ≤ 1000
    omega
  refine ⟨⟨_, rfl⟩, _, rfl, _, Ls, linesT zs ds l cs, rfl, rfl, .inl (SqL.of ?_), tb.sum, k _ (same_over (g16.trans g38) hLn _)⟩
  rw [upd_same, List.append_nil]
  unfold linesT
  simp only [List.map_cons, List.map_append, List.map_map, List.cons_append, List.nil_append, List.map_nil]
  rfl
end
end Lw
namespace Lw
open PySem L2 TL DcT
/-! _law_level_line -/
theorem cnt_flat (rs : List (List Int)) (i : Nat) : (((rs.take i).flatten.length : Nat) : Int) = cnt rs i := by
  unfold cnt
  rw [List.length_flatten]
theorem prsT_pre (rs : List (List Int)) (i : Nat) : ∀ n, i ≤ n → n ≤ rs.length → ∃ t, prsT rs n = prsT rs i ++ t
  | 0, h, _ => ⟨[], by rw [show i = 0 by omega, List.append_nil]⟩
  | n + 1, h, hn => by
    by_cases e : i = n + 1
    · exact ⟨[], by rw [e, List.append_nil]⟩
    · obtain ⟨t, ht⟩ := prsT_pre rs i n (by omega) (by omega)
      have er := List.getElem?_eq_getElem (l := rs) (i := n) (by omega)
      exact ⟨t ++ rs[n].map fun c => (n, c), by rw [prsT_next er, ht, List.append_assoc]⟩
theorem prsT_at {rs : List (List Int)} {i j : Nat} {row : List Int} {c : Int} (er : rs[i]? = some row) (ec : row[j]? = some c) : (prsT rs rs.length)[(prsT rs i).length + j]? = some (i, c) := by
  have hi := (List.getElem?_eq_some_iff.mp er).1
  have hj := (List.getElem?_eq_some_iff.mp ec).1
  obtain ⟨t, ht⟩ := prsT_pre rs (i + 1) rs.length (by omega) (Nat.le_refl _)
  rw [ht, prsT_next er, List.append_assoc, List.getElem?_append_right (by omega), show (prsT rs i).length + j - (prsT rs i).length = j by omega, List.getElem?_append_left (by rw [List.length_map]; exact hj), List.getElem?_map, ec] <;> rfl
theorem prsT_nlen {rs : List (List Int)} {i : Nat} {row : List Int} (er : rs[i]? = some row) : (prsT rs (i + 1)).length = (prsT rs i).length + row.length := by
  rw [prsT_next er, List.length_append, List.length_map]
theorem trS_eq (u : Nat) (c : Int) (p : Nat) : numS (u : Nat) ++ ":" ++ numS c ++ ":" ++ numS (p : Nat) = trS (u, c, p) := by
  refine ext_tl ?_
  unfold trS
  simp only [tl_append]
  rfl
theorem lt_strs (xs : List Int) : (xs.map V.int).map (fun v => V.str (wS v)) = (xs.map V.int).map (fun v => V.str (wS v)) := rfl
def vS (v : V) : V := .str (wS v)
theorem join_vS (xs : List V) : Txt.join " " (xs.map wS) = joinW xs := rfl
def bkV (rs : List (List Int)) (n b : Nat) : List V := (bktT (prsT rs rs.length) n b).map fun p => V.str (trS p)
theorem bkV_len (rs : List (List Int)) (n b : Nat) : (bkV rs n b).length ≤ n := by
  unfold bkV
  rw [List.length_map]
  exact bktT_len _ _ _
theorem bksW_vS : ∀ (rs : List (List Int)) (n : Nat), (bksW rs n).map vS = bksW rs n
  | rs, 0 => rfl
  | rs, n + 1 => by
    rw [bksW_next, List.map_append, bksW_vS rs n]
    congr 1
    unfold bkW
    rw [List.map_append, List.map_map] <;> rfl
theorem if_var {b : Bool} {σ : St} {H : Hp} {Q : V → Hp → Prop} {i j : Nat} {N : V} (hi : b = true → σ[i]? = some (some N)) (hj : b = false → σ[j]? = some (some N)) (q : Q N H) : if b = true then tVar i σ H Q else tVar j σ H Q := by
  cases b with
  | true => exact ⟨N, hi rfl, q⟩
  | false => exact ⟨N, hj rfl, q⟩
abbrev s_l_level_line : Stmt := topS 59
abbrev n_l_level_line : List Str := ["_law_kind", "_law_rows_here", "_law_starts", "_law_found", "_law_masks", "_law_buckets", "_law_k", "_law_above", "_law_row", "_law_one", "_law_bucket", "_law_words", "_law_told_here"]
theorem sc_l_level_line : FnScope n_l_level_line ["_law_kind", "_law_rows_here"] (defScope s_l_level_line) := ⟨rfl, rfl, rfl, by decide +kernel, rfl, by decide +kernel, by decide +kernel⟩
def spLLine (K : PySem.W.Frag) : Sp := fun vs H Q _ => ∃ (kind : Str) (r : Addr) (us : List V) (rs : List (List Int)), vs = [.str kind, .ref r] ∧ H r = some (.lst us) ∧ RowsAt H us rs ∧ FewR rs ∧ kind ∈ KINDS ∧ ∀ H' : Hp, Same H H' → Q (.str (lineT kind rs)) H'
section
variable {P : Program} {w : World} {K : PySem.W.Frag} {mg : Str → Option Value} {base : Heap} {f : Addr} {fd : FuncData}
theorem ok_l_level_line (F : Fun K "_law_level_line" "_law_level_line" s_l_level_line f fd) (B : Bt mg) (zE : mg "enumerate" = none) (zS : mg "str" = none) (zSum : mg "sum" = none) : FnOk P w K mg base CX0 1 f fd ["_law_kind", "_law_rows_here"] (spLLine K) := by
  refine F.ok sc_l_level_line (fun vs H Q E h => ?_) (fun cdv A outer s H vs Q E hr h => ?_)
  · obtain ⟨kind, r, us, rs, rfl, _⟩ := h
    rfl
  obtain ⟨kind, r, us, rs, rfl, hr1, hrs, hf, hkd, k⟩ := h
  refine ⟨_, (pss_cons (ps_if (pt_cmpR op_eq (pv 0) pe_str (nomark _)) (pss_one (ps_ret pe_str)) pss_nil)
(pss_cons (ps_asg (pe_tup (pa_cons (pe_lst (pa_cons pe_int pa_nil)) (pa_cons (pe_lst pa_nil) (pa_cons (pe_lst pa_nil) (pa_cons (pe_lc (own := [("_law_k", 6)]) (g := (gName 6)) (tt := tYes) (te := tLst tNil) rfl sc_l_level_line.nd (pi_range1 (by rfl) B.range (pa_cons pe_int pa_nil)) (blkOk_by (N := n_l_level_line) (sc := defScope s_l_level_line) (by decide +kernel)) (fun _ _ _ _ _ => (pg_name (i := 6) sc_l_level_line.nd rfl (Or.inl rfl))) (fun _ _ _ _ _ => pts_nil) (fun _ _ _ _ _ => (pe_lst pa_nil))) pa_nil))))) (pg_tup rfl (pgs_cons (pg_name (i := 2) sc_l_level_line.nd rfl (Or.inl rfl)) (pgs_cons (pg_name (i := 3) sc_l_level_line.nd rfl (Or.inl rfl)) (pgs_cons (pg_name (i := 4) sc_l_level_line.nd rfl (Or.inl rfl)) (pgs_cons (pg_name (i := 5) sc_l_level_line.nd rfl (Or.inl rfl)) pgs_nil))))))
(pss_cons (ps_for PassesOwn.never rfl (pi_enum (by rfl) zE (pa_cons (pv 1) pa_nil)) (pg_tup rfl (pgs_cons (pg_name (i := 7) sc_l_level_line.nd rfl (Or.inl rfl)) (pgs_cons (pg_name (i := 8) sc_l_level_line.nd rfl (Or.inl rfl)) pgs_nil)))
(pss_cons (ps_for PassesOwn.never rfl (pi_list (pv 8)) (pg_name (i := 9) sc_l_level_line.nd rfl (Or.inl rfl))
(pss_cons (ps_set (i := 10) sc_l_level_line.nd rfl (Or.inl rfl) (pe_ix ix_list (pv 5) (pe_op op_mod (pe_callTy call_int1 (by rfl) B.int (by decide +kernel) (pa_cons (pe_op op_add (pe_op op_mul (pv 7) pe_int) (pv 9)) pa_nil)) pe_int) (fun _ _ => rfl)))
(pss_cons (ps_expr (pe_bm PySem.F.plainAttrs_list PySem.F.slot_list_append PySem.F.type_list_append mt_append (pv 10) (pa_cons (pe_op op_add_str (pe_op op_add_str (pe_op op_add_str (pe_op op_add_str (pe_callTy call_str_int (by rfl) zS (by decide +kernel) (pa_cons (pv 7) pa_nil)) pe_str) (pe_callTy call_str_int (by rfl) zS (by decide +kernel) (pa_cons (pv 9) pa_nil))) pe_str) (pe_callTy call_str_int (by rfl) zS (by decide +kernel) (pa_cons (pe_callB call_len_seq (by rfl) B.len PySem.boot_len (pa_cons (pv 3) pa_nil)) pa_nil))) pa_nil)))
(pss_one (ps_expr (pe_bm PySem.F.plainAttrs_list PySem.F.slot_list_append PySem.F.type_list_append mt_append (pv 3) (pa_cons (pv 9) pa_nil)))))))
(pss_cons (ps_expr (pe_bm PySem.F.plainAttrs_list PySem.F.slot_list_append PySem.F.type_list_append mt_append (pv 2) (pa_cons (pe_callB call_len_seq (by rfl) B.len PySem.boot_len (pa_cons (pv 3) pa_nil)) pa_nil)))
(pss_one (ps_expr (pe_bm PySem.F.plainAttrs_list PySem.F.slot_list_append PySem.F.type_list_append mt_append (pv 4) (pa_cons (pe_callB (cr_sum rfl) (by rfl) zSum (by decide +kernel) (pa_cons (pe_lc (own := [("_law_one", 9)]) (g := (gName 9)) (tt := tYes) (te := tOp (rIxL K) (tLst (tCons (tC (.int 1)) (tCons (tC (.int 2)) (tCons (tC (.int 4)) (tCons (tC (.int 8)) (tCons (tC (.int 16)) (tCons (tC (.int 32)) tNil))))))) (tVar 9)) rfl sc_l_level_line.nd (pi_list (pv 8)) (blkOk_by (N := n_l_level_line) (sc := defScope s_l_level_line) (by decide +kernel)) (fun _ _ _ _ _ => (pg_name (i := 9) sc_l_level_line.nd rfl (Or.inl rfl))) (fun _ _ _ _ _ => pts_nil) (fun _ _ _ _ _ => (pe_ix ix_list (pe_lst (pa_cons pe_int (pa_cons pe_int (pa_cons pe_int (pa_cons pe_int (pa_cons pe_int (pa_cons pe_int pa_nil))))))) (pv 9) (fun _ _ => rfl)))) pa_nil)) pa_nil)))))))
(pss_cons (ps_if (pt_cmpR op_eq (pv 0) pe_str (nomark _))
(pss_cons (ps_set (i := 11) sc_l_level_line.nd rfl (Or.inl rfl) (pe_lst (pa_cons (pv 0) pa_nil)))
(pss_cons (ps_for PassesOwn.never rfl (pi_list (pv 5)) (pg_name (i := 10) sc_l_level_line.nd rfl (Or.inl rfl))
(pss_one (ps_expr (pe_bm PySem.F.plainAttrs_list PySem.F.slot_list_extend PySem.F.type_list_extend mt_extend (pv 11) (pa_cons (pe_op op_cat (pv 10) (pe_lst (pa_cons pe_str pa_nil))) pa_nil)))))
(pss_one (ps_ret (pe_join pe_str (pv 11)))))) pss_nil)
(pss_cons (ps_set (i := 12) sc_l_level_line.nd rfl (Or.inl rfl) (pe_ifExp (pt_cmpR op_eq (pv 0) pe_str (nomark _)) (pv 4) (pv 3)))
(pss_one (ps_ret (pe_join pe_str (pe_op op_cat (pe_op op_cat (pe_op op_cat (pe_lst (pa_cons (pv 0) pa_nil)) (pe_lc (own := [("_law_one", 9)]) (g := (gName 9)) (tt := tYes) (te := tCB (fun xs H Q => ∃ v, xs = [v] ∧ WdOk v ∧ Q (.str (wS v)) H) (tCons (tVar 9) tNil)) rfl sc_l_level_line.nd (pi_list (pv 2)) (blkOk_by (N := n_l_level_line) (sc := defScope s_l_level_line) (by decide +kernel)) (fun _ _ _ _ _ => (pg_name (i := 9) sc_l_level_line.nd rfl (Or.inl rfl))) (fun _ _ _ _ _ => pts_nil) (fun _ _ _ _ _ => (pe_callTy cr_strW (by rfl) zS (by decide +kernel) (pa_cons (pv 9) pa_nil))))) (pe_lst (pa_cons pe_str pa_nil))) (pe_lc (own := [("_law_one", 9)]) (g := (gName 9)) (tt := tYes) (te := tCB (fun xs H Q => ∃ v, xs = [v] ∧ WdOk v ∧ Q (.str (wS v)) H) (tCons (tVar 9) tNil)) rfl sc_l_level_line.nd (pi_list (pv 12)) (blkOk_by (N := n_l_level_line) (sc := defScope s_l_level_line) (by decide +kernel)) (fun _ _ _ _ _ => (pg_name (i := 9) sc_l_level_line.nd rfl (Or.inl rfl))) (fun _ _ _ _ _ => pts_nil) (fun _ _ _ _ _ => (pe_callTy cr_strW (by rfl) zS (by decide +kernel) (pa_cons (pv 9) pa_nil))))))))))))), ?_⟩
  have hl1 := hf.l1
  have hl2 := hf.l2
  have hpl := hf.prs
  have plen := prsT_len rs rs.length (Nat.le_refl _)
  rw [List.take_length] at plen
  refine ⟨_, rfl, rfl, _, rfl, ?_⟩
  rw [dstr]
  by_cases e0 : kind = "dense"
  · refine iteC (decide_eq_true e0) ?_
    have q := k H (Same.refl H)
    unfold lineT at q
    rw [if_pos e0] at q
    exact q
  refine iteN (decide_eq_false e0) ?_
  -- the lists
  refine ⟨(by show 1 ≤ sizeLine; decide), fun S hS => ⟨(by show 0 ≤ sizeLine; decide), fun O hO => ⟨(by show 0 ≤ sizeLine; decide), fun M hM => ?_⟩⟩⟩
  have gS := same_new hS (.lst [.int 0])
  have gO := same_new hO (.lst [])
  have gM := same_new hM (.lst [])
  have hM1 : (upd (upd (upd H S (.lst [.int 0])) O (.lst [])) M (.lst [])) M = some (.lst []) := upd_same
  have hO1 : (upd (upd (upd H S (.lst [.int 0])) O (.lst [])) M (.lst [])) O = some (.lst []) := gM _ _ upd_same
  have hS1 : (upd (upd (upd H S (.lst [.int 0])) O (.lst [])) M (.lst [])) S = some (.lst [.int 0]) := gM _ _ (gO _ _ upd_same)
  have nSO : S ≠ O := ne_of_none upd_same hO
  have nSM : S ≠ M := ne_of_none (gO _ _ upd_same) hM
  have nOM : O ≠ M := ne_of_none upd_same hM
  have hO0 : H O = none := gS.free hO
  have hM0 : H M = none := (gS.trans gO).free hM
  have g1 := gS.trans (gO.trans gM)
  generalize upd (upd (upd H S (.lst [.int 0])) O (.lst [])) M (.lst []) = H1 at hS1 hO1 hM1 g1 ⊢
  -- eight lists
  refine ⟨8, rfl, by decide, by decide, fun D hD => ?_⟩
  have nDS : D ≠ S := (ne_of_none hS1 hD).symm
  have nDO : D ≠ O := (ne_of_none hO1 hD).symm
  have nDM : D ≠ M := (ne_of_none hM1 hD).symm
  refine lc_it (walk_range (lo := 0) (n := 8)) (fun i H' => ∃ as : List Addr, H' D = some (.lst (as.map V.ref)) ∧ as.length = i ∧ as.Nodup ∧ (∀ a ∈ as, H1 a = none ∧ a ≠ D ∧ H' a = some (.lst [])) ∧ Same H1 H') ⟨[], upd_same, rfl, List.nodup_nil, (fun a ha => by cases ha), same_new hD _⟩ (fun _ _ _ _ => trivial) (fun i y H1' H2 hi hv hy => ?_) ?_
  · obtain ⟨rfl, hy⟩ := hy
    obtain ⟨as, a1, a2, a3, a4, a5⟩ := hv
    refine ⟨rfl, kept ⟨(by show 0 ≤ sizeLine; decide), fun t ht => ?_⟩⟩
    have gt := same_new ht (.lst [])
    have a1t := gt _ _ a1
    have ntD : t ≠ D := (ne_of_none a1 ht).symm
    refine ⟨_, a1t, by rw [List.length_map]; exact small1000 (by omega), as ++ [t], by rw [upd_same, List.map_append] <;> rfl, by rw [List.length_append, a2] <;> rfl, ?_, fun a ha => ?_, same_over (a5.trans gt) hD _⟩
    · refine List.nodup_append.mpr ⟨a3, by simp, fun x hx y hy => ?_⟩
      rw [List.mem_singleton.mp hy]
      rintro rfl
      rw [(a4 _ hx).2.2] at ht
      cases ht
    · rcases List.mem_append.mp ha with ha | ha
      · obtain ⟨b1, b2, b3⟩ := a4 a ha
        exact ⟨b1, b2, by rw [upd_ne b2]; exact gt _ _ b3⟩
      · rw [List.mem_singleton.mp ha]
        exact ⟨a5.free ht, ntD, by rw [upd_ne ntD]; exact upd_same⟩
  rintro H2 ⟨as, a1, a2, a3, a4, a5⟩
  refine ⟨(by show 4 ≤ sizeLine; decide), fun tq htq => ?_⟩
  have gq := same_new htq (.tup [.ref S, .ref O, .ref M, .ref D])
  refine ⟨tq, _, rfl, SqT.of upd_same, rfl, _, _, rfl, _, _, rfl, _, _, rfl, _, _, rfl, rfl, ?_⟩
  have nS : ∀ a ∈ as, a ≠ S := fun a ha e => by have := (a4 a ha).1; rw [e, hS1] at this; cases this
  have nO : ∀ a ∈ as, a ≠ O := fun a ha e => by have := (a4 a ha).1; rw [e, hO1] at this; cases this
  have nM : ∀ a ∈ as, a ≠ M := fun a ha e => by have := (a4 a ha).1; rw [e, hM1] at this; cases this
  have nD : ∀ a ∈ as, a ≠ D := fun a ha => (a4 a ha).2.1
  have n0 : ∀ a ∈ as, H a = none := fun a ha => g1.free (a4 a ha).1
  have w1 := gq _ _ a1
  have w2 := gq _ _ (a5 _ _ hS1)
  have w3 := gq _ _ (a5 _ _ hO1)
  have w4 := gq _ _ (a5 _ _ hM1)
  have w5 : ∀ a ∈ as, (upd H2 tq (.tup [.ref S, .ref O, .ref M, .ref D])) a = some (.lst []) := fun a ha => gq _ _ (a4 a ha).2.2
  have w6 := g1.trans (a5.trans gq)
  have hD0 : H D = none := g1.free hD
  generalize upd H2 tq (.tup [.ref S, .ref O, .ref M, .ref D]) = H3 at w1 w2 w3 w4 w5 w6 ⊢
  refine ⟨_, rfl, r, us, rfl, SqL.of (w6 _ _ hr1), ?_⟩
  refine for_it (walk_enum (K := K) (a := r) (xs := us)) (fun i σ' H' => (∃ u6 u7 u8 u9 u10 u11 u12 : Option V, σ' = [some (.str kind), some (.ref r), some (.ref S), some (.ref O), some (.ref M), some (.ref D), u6, u7, u8, u9, u10, u11, u12]) ∧ H' D = some (.lst (as.map V.ref)) ∧ H' S = some (.lst ((List.range (i + 1)).map fun j => V.int (cnt rs j))) ∧ H' O = some (.lst ((rs.take i).flatten.map V.int)) ∧ H' M = some (.lst ((rs.take i).map fun r => V.int (maskI r))) ∧ (∀ (b : Nat) (a : Addr), as[b]? = some a → H' a = some (.lst (bkV rs (prsT rs i).length b))) ∧ Same H H')
    ⟨⟨_, _, _, _, _, _, _, rfl⟩, w1, w2, w3, w4, fun b a e => w5 a (List.mem_of_getElem? e), w6⟩ (fun i σ' H' _ ⟨_, _, _, _, _, _, g⟩ => SqL.of (g _ _ hr1)) ?_ ?_
  · rintro i x σ' H4 H5 hi ⟨⟨u6, u7, u8, u9, u10, u11, u12, rfl⟩, v1, v2, v3, v4, v5, v6⟩ ⟨U, x1, y1, rfl, hU, rfl, ex, ey⟩
    cases ex
    have hir : i < rs.length := by rw [← hrs.1]; exact hi
    have er := List.getElem?_eq_getElem hir
    generalize rs[i] = row at er
    have hrow := hf.c row (List.mem_of_getElem? er)
    have rl := hf.w row (List.mem_of_getElem? er)
    obtain ⟨ra, rfl, hra⟩ := hrs.2 i y1 row ey er
    have gU := same_new hU (.tup [.int (i : Nat), .ref ra])
    refine ⟨U, [.int (i : Nat), .ref ra], rfl, SqT.of upd_same, rfl, _, _, rfl, _, _, rfl, rfl, ?_⟩
    have v1 := gU _ _ v1
    have v2 := gU _ _ v2
    have v3 := gU _ _ v3
    have v4 := gU _ _ v4
    have v5 : ∀ (b : Nat) (a : Addr), as[b]? = some a → (upd H4 U (.tup [.int (i : Nat), .ref ra])) a = some (.lst (bkV rs (prsT rs i).length b)) := fun b a e => gU _ _ (v5 b a e)
    have v6 := v6.trans gU
    generalize upd H4 U (.tup [.int (i : Nat), .ref ra]) = H6 at v1 v2 v3 v4 v5 v6 ⊢
    have nlen := prsT_nlen er
    have fle : (rs.take i).flatten.length = (prsT rs i).length := (prsT_len rs i (by omega)).symm
    have few : (prsT rs i).length + row.length ≤ 900 := by
      have e : rs.flatten = (rs.take (i + 1)).flatten ++ (rs.drop (i + 1)).flatten := by rw [← List.flatten_append, List.take_append_drop]
      have e2 := congrArg List.length e
      rw [List.length_append, ← prsT_len rs (i + 1) (by omega)] at e2
      omega
    refine ⟨_, rfl, ra, rfl, ⟨_, SqL.of (v6 _ _ hra)⟩, ?_⟩
    refine for_it (walk_list (K := K) (a := ra) (xs := row.map V.int)) (fun j σ' H' => (∃ u9 u10 : Option V, σ' = [some (.str kind), some (.ref r), some (.ref S), some (.ref O), some (.ref M), some (.ref D), u6, some (.int (i : Nat)), some (.ref ra), u9, u10, u11, u12]) ∧ H' D = some (.lst (as.map V.ref)) ∧ H' S = some (.lst ((List.range (i + 1)).map fun j => V.int (cnt rs j))) ∧ H' O = some (.lst (((rs.take i).flatten ++ row.take j).map V.int)) ∧ H' M = some (.lst ((rs.take i).map fun r => V.int (maskI r))) ∧ (∀ (b : Nat) (a : Addr), as[b]? = some a → H' a = some (.lst (bkV rs ((prsT rs i).length + j) b))) ∧ Same H H')
      ⟨⟨_, _, rfl⟩, v1, v2, (by rw [List.take_zero, List.append_nil]; exact v3), v4, v5, v6⟩ (fun j σ' H' _ ⟨_, _, _, _, _, _, g⟩ => SqL.of (g _ _ hra)) ?_ ?_
    · rintro j y σ' H7 H8 hj ⟨⟨u9, u10, rfl⟩, z1, z2, z3, z4, z5, z6⟩ ⟨rfl, hy⟩
      obtain ⟨c, ec, rfl⟩ := at_map hy
      have hjr : j < row.length := (List.getElem?_eq_some_iff.mp ec).1
      obtain ⟨c0, c1⟩ := hrow c (List.mem_of_getElem? ec)
      have ep := prsT_at er ec
      have hps := (List.getElem?_eq_some_iff.mp ep).1
      obtain ⟨b, hb⟩ : ∃ b : Nat, ((i : Int) * 3 + c) % 8 = (b : Int) := ⟨(((i : Int) * 3 + c) % 8).toNat, by omega⟩
      have b8 : b < as.length := by omega
      have ea := List.getElem?_eq_getElem b8
      have mb : as[b] ∈ as := List.getElem_mem b8
      have e1 := z5 b _ ea
      have el := bkV_len rs ((prsT rs i).length + j) b
      have flen : ((rs.take i).flatten ++ row.take j).length = (prsT rs i).length + j := by
        rw [List.length_append, List.length_take, fle]
        omega
      refine ⟨_, rfl, _, rfl, _, _, rfl, rfl, .inr (by decide), _, rfl, _, _, rfl, rfl, .inl ⟨_, rfl, _, _, rfl, rfl, (by show (0 : Int) < 8; decide), D, _, _, .ref as[b], rfl, rfl, SqL.of z1, ?_, ?_⟩⟩
      · rw [hb]
        exact atI_nat (by rw [List.getElem?_map, ea] <;> rfl)
      have t1 : (Str.ofString (toString ((i : Nat) : Int))).length ≤ 6 := numS_few (nat_few (show i ≤ 900 by omega))
      have t2 : (Str.ofString (toString c)).length ≤ 6 := numS_few (int_few (c := c) ⟨c0, by omega⟩)
      have t3 : (Str.ofString (toString ((((prsT rs i).length + j : Nat) : Nat) : Int))).length ≤ 6 := numS_few (nat_few (show (prsT rs i).length + j ≤ 900 by omega))
      have e1' : Str.length ":" = 1 := by decide +kernel
      have sz : ∀ {n : Nat}, n ≤ 30 → n ≤ sizeLine := fun h => Nat.le_of_lt (small1000 (by omega))
      refine ⟨_, rfl, .inl ⟨rfl, _, SqL.of e1⟩, _, rfl, (i : Int), rfl, log_few5 (nat_few (by omega)), _, _, rfl, rfl, sz ?_, _, rfl, c, rfl, log_few5 (int_few ⟨c0, by omega⟩), _, _, rfl, rfl, sz ?_, _, _, rfl, rfl, sz ?_, _, rfl, O, _, rfl, .inl (SqL.of z3), _, rfl, ?_, _, _, rfl, rfl, sz ?_, as[b], _, _, rfl, rfl, e1, small1000 (by omega), ?_⟩
      · omega
      · rw [Str.length_append]
        omega
      · rw [Str.length_append, Str.length_append]
        omega
      · rw [List.length_map, flen]
        exact log_few5 (nat_few (by omega))
      · rw [List.length_map, flen, Str.length_append, Str.length_append, Str.length_append]
        omega
      rw [List.length_map, flen]
      have nbO : O ≠ as[b] := (nO _ mb).symm
      refine ⟨_, rfl, .inl ⟨rfl, _, SqL.of (by rw [upd_ne nbO]; exact z3)⟩, _, rfl, O, _, _, rfl, rfl, (by rw [upd_ne nbO]; exact z3), small1000 (by rw [List.length_map, flen]; omega), ⟨_, _, rfl⟩, ?_, ?_, ?_, ?_, fun b' a' ea' => ?_, ?_⟩
      · rw [upd_ne nDO, upd_ne (nD _ mb).symm]
        exact z1
      · rw [upd_ne nSO, upd_ne (nS _ mb).symm]
        exact z2
      · rw [upd_same, List.take_succ, ec, ← List.append_assoc]
        simp only [List.map_append, List.map_cons, List.map_nil, Option.toList_some]
      · rw [upd_ne nOM.symm, upd_ne (nM _ mb).symm]
        exact z4
      · rw [upd_ne (nO _ (List.mem_of_getElem? ea')), show (prsT rs i).length + (j + 1) = (prsT rs i).length + j + 1 by omega]
        unfold bkV
        rw [bktT_next ep]
        by_cases eb : b' = b
        · subst eb
          rw [ea] at ea'
          cases ea'
          rw [if_pos hb, upd_same, List.map_append]
          show some (HO.lst (_ ++ [V.str (numS (i : Nat) ++ ":" ++ numS c ++ ":" ++ numS (((prsT rs i).length + j : Nat) : Nat))])) = _
          rw [trS_eq] <;> rfl
        · have ne : a' ≠ as[b] := fun e => by
            obtain ⟨h1, h2⟩ := List.getElem?_eq_some_iff.mp ea'
            exact eb ((List.getElem_inj a3).mp (h2.trans e))
          rw [if_neg (by omega), List.append_nil, upd_ne ne]
          exact z5 b' a' ea'
      · exact same_over (same_over z6 (n0 _ mb) _) hO0 _
    · rintro σ' H7 ⟨⟨u9, u10, rfl⟩, z1, z2, z3, z4, z5, z6⟩
      rw [List.length_map] at z3 z5
      rw [List.take_length] at z3
      have ef : (rs.take i).flatten ++ row = (rs.take (i + 1)).flatten := by
        rw [List.take_succ, er, List.flatten_append]
        simp
      rw [ef] at z3
      rw [← nlen] at z5
      have ecn : ((((rs.take (i + 1)).flatten.map V.int).length : Nat) : Int) = cnt rs (i + 1) := by rw [List.length_map, cnt_flat]
      refine ⟨_, rfl, .inl ⟨rfl, _, SqL.of z2⟩, _, rfl, O, _, rfl, .inl (SqL.of z3), S, _, _, rfl, rfl, z2, small1000 (by rw [List.length_map, List.length_range]; omega), ?_⟩
      rw [ecn]
      refine ⟨_, rfl, .inl ⟨rfl, _, SqL.of (by rw [upd_ne nSM.symm]; exact z4)⟩, ?_⟩
      have y1 : upd H7 S (.lst ((List.range (i + 1)).map (fun j => V.int (cnt rs j)) ++ [V.int (cnt rs (i + 1))])) S = some (.lst ((List.range (i + 1 + 1)).map fun j => V.int (cnt rs j))) := by
        rw [upd_same, List.range_succ (n := i + 1), List.map_append] <;> rfl
      have y2 : upd H7 S (.lst ((List.range (i + 1)).map (fun j => V.int (cnt rs j)) ++ [V.int (cnt rs (i + 1))])) D = some (.lst (as.map V.ref)) := by rw [upd_ne nDS]; exact z1
      have y3 : upd H7 S (.lst ((List.range (i + 1)).map (fun j => V.int (cnt rs j)) ++ [V.int (cnt rs (i + 1))])) O = some (.lst ((rs.take (i + 1)).flatten.map V.int)) := by rw [upd_ne nSO.symm]; exact z3
      have y4 : upd H7 S (.lst ((List.range (i + 1)).map (fun j => V.int (cnt rs j)) ++ [V.int (cnt rs (i + 1))])) M = some (.lst ((rs.take i).map fun r => V.int (maskI r))) := by rw [upd_ne nSM.symm]; exact z4
      have y5 : ∀ (b : Nat) (a : Addr), as[b]? = some a → upd H7 S (.lst ((List.range (i + 1)).map (fun j => V.int (cnt rs j)) ++ [V.int (cnt rs (i + 1))])) a = some (.lst (bkV rs (prsT rs (i + 1)).length b)) := fun b a e => by rw [upd_ne (nS _ (List.mem_of_getElem? e))]; exact z5 b a e
      have y6 : Same H (upd H7 S (.lst ((List.range (i + 1)).map (fun j => V.int (cnt rs j)) ++ [V.int (cnt rs (i + 1))]))) := same_over z6 hS _
      generalize upd H7 S (.lst ((List.range (i + 1)).map (fun j => V.int (cnt rs j)) ++ [V.int (cnt rs (i + 1))])) = H8 at y1 y2 y3 y4 y5 y6 ⊢
      refine ⟨_, rfl, ra, rfl, ⟨_, SqL.of (y6 _ _ hra)⟩, fun N hN => ?_⟩
      refine lc_it (walk_list (K := K) (a := ra) (xs := row.map V.int)) (InvM H8 N (fun c : Int => V.int (1 * 2 ^ c.toNat)) row) ⟨upd_same, same_new hN _⟩ (fun j H' _ ⟨_, g⟩ => SqL.of ((y6.trans g) _ _ hra)) (fun j z H9 H10 hj hv4 hy4 => ?_) ?_
      · obtain ⟨rfl, hy4⟩ := hy4
        obtain ⟨c, ec, rfl⟩ := at_map hy4
        obtain ⟨c0, c1⟩ := hrow c (List.mem_of_getElem? ec)
        refine ⟨rfl, kept ⟨(by show 6 ≤ sizeLine; decide), fun t ht => ?_⟩⟩
        have gt := same_new ht (.lst [.int 1, .int 2, .int 4, .int 8, .int 16, .int 32])
        have all : ∀ c ∈ ([0, 1, 2, 3, 4, 5] : List Int), atI [V.int 1, V.int 2, V.int 4, V.int 8, V.int 16, V.int 32] c = some (V.int (1 * 2 ^ c.toNat)) := by
          intro c hc
          simp only [List.mem_cons, List.not_mem_nil, or_false] at hc
          rcases hc with rfl | rfl | rfl | rfl | rfl | rfl <;> rfl
        exact ⟨_, rfl, t, _, c, _, rfl, rfl, SqL.of upd_same, all c (by simp only [List.mem_cons, List.not_mem_nil, or_false]; omega), _, gt _ _ hv4.1, len_m (by omega), InvM.next (f := fun c : Int => V.int (1 * 2 ^ c.toNat)) hN (hv4.2.trans gt) ec _ rfl⟩
      rintro H9 ⟨q1, q2⟩
      rw [List.length_map, List.take_length] at q1
      refine ⟨N, row.map (fun c : Int => 1 * 2 ^ c.toNat), rfl, SqL.of (by rw [q1, List.map_map] <;> rfl), M, _, _, rfl, rfl, q2 _ _ y4, small1000 (by rw [List.length_map, List.length_take]; omega), ⟨_, _, _, _, _, _, _, rfl⟩, by rw [upd_ne nDM]; exact q2 _ _ y2, by rw [upd_ne nSM]; exact q2 _ _ y1, by rw [upd_ne nOM]; exact q2 _ _ y3, ?_, fun b a e => by rw [upd_ne (nM _ (List.mem_of_getElem? e))]; exact q2 _ _ (y5 b a e), same_over (y6.trans q2) hM0 _⟩
      rw [upd_same, List.take_succ, er, List.map_append] <;> rfl
  rintro σ' H4 ⟨⟨u6, u7, u8, u9, u10, u11, u12, rfl⟩, v1, v2, v3, v4, v5, v6⟩
  rw [hrs.1] at v2 v3 v4 v5
  rw [List.take_length] at v3 v4
  refine ⟨_, rfl, rfl, _, rfl, ?_⟩
  rw [dstr]
  by_cases eh : kind = "hashed"
  · refine iteC (decide_eq_true eh) ?_
    have ok := hashW_ok hf
    have q : ∀ H', Same H H' → Q (.str (joinW (hashW rs))) H' := fun H' g => by
      have q := k H' g
      unfold lineT at q
      rw [if_neg e0, if_pos eh] at q
      exact q
    refine ⟨_, rfl, (by show 1 ≤ sizeLine; decide), fun W hW => ?_⟩
    have gW := same_new hW (.lst [.str kind])
    have hW0 : H W = none := v6.free hW
    have gHW := v6.trans gW
    refine ⟨_, rfl, D, rfl, ⟨_, SqL.of (gW _ _ v1)⟩, ?_⟩
    refine for_list (K := K) (a := D) (xs := as.map V.ref) (fun i σ' H' => (∃ u10 u12 : Option V, σ' = [some (.str kind), some (.ref r), some (.ref S), some (.ref O), some (.ref M), some (.ref D), u6, u7, u8, u9, u10, some (.ref W), u12]) ∧ H' W = some (.lst (.str "hashed" :: bksW rs i)) ∧ Same H4 H')
      ⟨⟨_, _, rfl⟩, by rw [upd_same, eh] <;> rfl, gW⟩ (fun i σ' H' _ h => SqL.of (h.2.2 _ _ v1)) ?_ ?_
    · rintro i x σ' H' hx ⟨⟨u10', u12', rfl⟩, y1, y2⟩
      have hi : i < as.length := by
        have := (List.getElem?_eq_some_iff.mp hx).1
        rw [List.length_map] at this
        exact this
      rw [List.getElem?_map, List.getElem?_eq_getElem hi] at hx
      cases hx
      have hb := y2 _ _ (v5 i _ (List.getElem?_eq_getElem hi))
      have bl := bkV_len rs (prsT rs rs.length).length i
      have wl := bksW_len hf i
      refine ⟨_, rfl, .inl ⟨rfl, _, SqL.of y1⟩, _, rfl, (by show 1 ≤ sizeLine; decide), fun p1 hp1 => ?_⟩
      have gp1 := same_new hp1 (.lst [.str "/"])
      refine ⟨as[i], p1, _, _, rfl, rfl, gp1 _ _ hb, upd_same, ?_, fun p2 hp2 => ?_⟩
      · refine Nat.le_of_lt (small10000 ?_)
        show (bkV rs (prsT rs rs.length).length i).length + 1 ≤ 10000
        omega
      have gp2 := same_new hp2 (.lst (bkV rs (prsT rs rs.length).length i ++ [.str "/"]))
      have gp := gp1.trans gp2
      have y1' := gp _ _ y1
      refine ⟨W, p2, _, _, rfl, rfl, y1', upd_same, ?_, ⟨_, _, rfl⟩, ?_, ?_⟩
      · refine Nat.le_of_lt (small10000 ?_)
        rw [List.length_cons, List.length_append, List.length_singleton]
        omega
      · rw [upd_same, bksW_next] <;> rfl
      · exact same_over (y2.trans gp) hW _
    · rintro σ' H' ⟨⟨u10', u12', rfl⟩, y1, y2⟩
      rw [List.length_map, a2] at y1
      refine ⟨⟨_, rfl⟩, _, rfl, _, W, (hashW rs).map wS, rfl, rfl, .inl (SqL.of ?_), joinW_sum ok, q _ (v6.trans y2)⟩
      rw [y1, List.map_map]
      show some (HO.lst (V.str "hashed" :: bksW rs 8)) = some (HO.lst (V.str "hashed" :: (bksW rs 8).map vS))
      rw [bksW_vS]
  · refine iteN (decide_eq_false eh) ?_
    have kl := kind_len _ hkd
    have ok := lvW_ok hf kl
    have q : ∀ H', Same H H' → Q (.str (joinW (lvW kind rs))) H' := fun H' g => by
      have q := k H' g
      unfold lineT at q
      rw [if_neg e0, if_neg eh] at q
      exact q
    obtain ⟨s1, s2⟩ := startsV_ok hf
    obtain ⟨t1, t2⟩ := toldV_ok (kind := kind) hf
    -- what is told
    obtain ⟨N, n1, n2, hNt⟩ : ∃ N : Addr, (decide (kind = "bits") = true → M = N) ∧ (decide (kind = "bits") = false → O = N) ∧ H4 N = some (.lst (toldV kind rs)) := by
      unfold toldV
      by_cases eb : kind = "bits"
      · exact ⟨M, fun _ => rfl, (fun z => absurd eb (of_decide_eq_false z)), by rw [if_pos eb]; exact v4⟩
      · exact ⟨O, (fun z => absurd (of_decide_eq_true z) eb), fun _ => rfl, by rw [if_neg eb]; exact v3⟩
    refine ⟨_, rfl, rfl, _, rfl, ?_⟩
    rw [dstr]
    refine if_var (N := .ref N) (fun z => by rw [← n1 z]; rfl) (fun z => by rw [← n2 z]; rfl) ?_
    have g04 := v6
    refine ⟨⟨_, rfl⟩, _, rfl, (by show 1 ≤ sizeLine; decide), fun p1 hp1 => ?_⟩
    have gp1 := same_new hp1 (.lst [.str kind])
    have e1 : (upd H4 p1 (.lst [.str kind])) p1 = some (.lst [.str kind]) := upd_same
    have v2' := gp1 _ _ v2
    have hNt' := gp1 _ _ hNt
    have g5 := g04.trans gp1
    generalize upd H4 p1 (.lst [.str kind]) = H5 at e1 v2' hNt' g5 ⊢
    refine ⟨_, rfl, S, rfl, ⟨_, SqL.of v2'⟩, fun D1 hD1 => ?_⟩
    refine lc_list (K := K) (a := S) (xs := startsV rs) (InvM H5 D1 vS (startsV rs)) ⟨upd_same, same_new hD1 _⟩ (fun i H' _ ⟨_, g⟩ => SqL.of (g _ _ v2')) (fun i x H' hx hv => ?_) ?_
    · exact ⟨rfl, kept ⟨_, rfl, x, rfl, (s2 x (List.mem_of_getElem? hx)).1, _, hv.1, len_m4 (by omega), InvM.next (f := vS) hD1 hv.2 hx _ rfl⟩⟩
    rintro H6 ⟨hd1, g6⟩
    rw [List.take_length] at hd1
    refine ⟨p1, D1, _, _, rfl, rfl, g6 _ _ e1, hd1, ?_, fun p2 hp2 => ?_⟩
    · refine Nat.le_of_lt (small10000 ?_)
      rw [List.length_map, List.length_singleton]
      omega
    have gp2 := same_new hp2 (.lst ([.str kind] ++ (startsV rs).map vS))
    have e2 : (upd H6 p2 (.lst ([.str kind] ++ (startsV rs).map vS))) p2 = some (.lst ([.str kind] ++ (startsV rs).map vS)) := upd_same
    have hNt' := gp2 _ _ (g6 _ _ hNt')
    have g7 := g5.trans (g6.trans gp2)
    generalize upd H6 p2 (.lst ([.str kind] ++ (startsV rs).map vS)) = H7 at e2 hNt' g7 ⊢
    refine ⟨(by show 1 ≤ sizeLine; decide), fun p3 hp3 => ?_⟩
    have gp3 := same_new hp3 (.lst [.str "/"])
    refine ⟨p2, p3, _, _, rfl, rfl, gp3 _ _ e2, upd_same, ?_, fun p4 hp4 => ?_⟩
    · refine Nat.le_of_lt (small10000 ?_)
      rw [List.length_append, List.length_map, List.length_singleton, List.length_singleton]
      omega
    have gp4 := same_new hp4 (.lst ([.str kind] ++ (startsV rs).map vS ++ [.str "/"]))
    have e4 : (upd (upd H7 p3 (.lst [.str "/"])) p4 (.lst ([.str kind] ++ (startsV rs).map vS ++ [.str "/"]))) p4 = some (.lst ([.str kind] ++ (startsV rs).map vS ++ [.str "/"])) := upd_same
    have hNt' := gp4 _ _ (gp3 _ _ hNt')
    have g8 := g7.trans (gp3.trans gp4)
    generalize upd (upd H7 p3 (.lst [.str "/"])) p4 (.lst ([.str kind] ++ (startsV rs).map vS ++ [.str "/"])) = H8 at e4 hNt' g8 ⊢
    refine ⟨_, rfl, N, rfl, ⟨_, SqL.of hNt'⟩, fun D2 hD2 => ?_⟩
    refine lc_list (K := K) (a := N) (xs := toldV kind rs) (InvM H8 D2 vS (toldV kind rs)) ⟨upd_same, same_new hD2 _⟩ (fun i H' _ ⟨_, g⟩ => SqL.of (g _ _ hNt')) (fun i x H' hx hv => ?_) ?_
    · exact ⟨rfl, kept ⟨_, rfl, x, rfl, (t2 x (List.mem_of_getElem? hx)).1, _, hv.1, len_m4 (by omega), InvM.next (f := vS) hD2 hv.2 hx _ rfl⟩⟩
    rintro H9 ⟨hd2, g9⟩
    rw [List.take_length] at hd2
    refine ⟨p4, D2, _, _, rfl, rfl, g9 _ _ e4, hd2, ?_, fun p5 hp5 => ?_⟩
    · refine Nat.le_of_lt (small10000 ?_)
      rw [List.length_append, List.length_append, List.length_map, List.length_map, List.length_singleton, List.length_singleton]
      omega
    refine ⟨_, p5, (lvW kind rs).map wS, rfl, rfl, .inl (SqL.of ?_), joinW_sum ok, q _ (g8.trans (g9.trans (same_new hp5 _)))⟩
    rw [upd_same]
    unfold lvW
    simp only [List.map_cons, List.map_append, List.map_map, List.cons_append, List.nil_append, List.append_assoc]
    rfl
end
end Lw
namespace Lw
open PySem L2 TL DcT
/-! _law_table_text -/
theorem get_cells (cs : List (List Int × Int)) (a : List Int) : (valV (cs.map cell) (a.map Sum.inl)).getD (.int 0) = .int (vOf cs a) := by
  by_cases h : a ∈ cs.map (·.1)
  · rw [valV_key h] <;> rfl
  · rw [vOf_out h]
    have e : valV (cs.map cell) (a.map Sum.inl) = none := by
      unfold valV
      rw [Option.map_eq_none_iff, List.find?_eq_none]
      intro x hx
      obtain ⟨c, hc, rfl⟩ := List.mem_map.mp hx
      have ne : c.1 ≠ a := fun e => h (by rw [← e]; exact List.mem_map_of_mem (f := (·.1)) hc)
      refine fun z => ne ?_
      have z : c.1.map Sum.inl = a.map (Sum.inl : Int → Key) := of_decide_eq_true z
      exact (List.map_inj_right (fun a b e => Sum.inl.inj e)).mp z
    rw [e] <;> rfl
theorem form_line (x : Str) : joinW [.str "form", .str x] = "form " ++ x := by
  refine ext_tl ?_
  unfold joinW
  rw [join_eq, tl_join, tl_append]
  show tl "form" ++ (tl " " ++ tl x) = _
  rw [← List.append_assoc]
  congr 1
abbrev s_l_table_text : Stmt := topS 60
abbrev n_l_table_text : List Str := ["_law_sizes_here", "_law_form_here", "_law_cells_here", "_law_rows_here", "_law_paths", "_law_by_path", "_law_at_here", "_law_lines", "_law_size", "_law_level", "_law_own", "_law_path_here"]
theorem sc_l_table_text : FnScope n_l_table_text ["_law_sizes_here", "_law_form_here", "_law_cells_here"] (defScope s_l_table_text) := ⟨rfl, rfl, rfl, by decide +kernel, rfl, by decide +kernel, by decide +kernel⟩
def spLTT (K : PySem.W.Frag) : Sp := fun vs H Q _ => ∃ (z tf d : Addr) (zs : List Int) (us : List V) (l : List (Str × Int)) (cs : List (List Int × Int)) (ds : List (List Int)), vs = [.ref z, .ref tf, .ref d] ∧ SqT K H z (zs.map V.int) ∧ SqT K H tf us ∧ Tups K H us l ∧ H d = some (.dT (cs.map cell)) ∧ TabOk zs ds l cs ∧ cs.length < 64 ∧ ∀ H' : Hp, Same H H' → Q (.str (tableT zs ds l cs)) H'
section
variable {P : Program} {w : World} {K : PySem.W.Frag} {mg : Str → Option Value} {base : Heap} {f : Addr} {fd : FuncData}
theorem ok_l_table_text (F : Fun K "_law_table_text" "_law_table_text" s_l_table_text f fd) (B : Bt mg) (zS : mg "str" = none) (cR : Ca P w K mg base 2 "_law_rows" ["_law_sizes_here", "_law_form_here", "_law_cells_here"] (spRows K)) (cP : Ca P w K mg base 1 "_law_path" ["_law_form_here", "_law_at_here"] (spLPath K))
    (cX : Ca P w K mg base 1 "_law_form_text" ["_law_form_here"] (spFtext K)) (cL : Ca P w K mg base 1 "_law_level_line" ["_law_kind", "_law_rows_here"] (spLLine K)) : FnOk P w K mg base CX0 3 f fd ["_law_sizes_here", "_law_form_here", "_law_cells_here"] (spLTT K) := by
  refine F.ok sc_l_table_text (fun vs H Q E h => ?_) (fun cdv A outer s H vs Q E hr h => ?_)
  · obtain ⟨z, tf, d, zs, us, l, cs, ds, rfl, _⟩ := h
    rfl
  obtain ⟨z, tf, d, zs, us0, l, cs, ds, rfl, hz, hT, htu, hd, tb, h64, k⟩ := h
  refine ⟨_, (pss_cons (ps_asg (pca cR hr (by decide) rfl (pa_cons (pv 0) (pa_cons (pv 1) (pa_cons (pv 2) pa_nil)))) (pg_tup rfl (pgs_cons (pg_name (i := 3) sc_l_table_text.nd rfl (Or.inl rfl)) (pgs_cons (pg_name (i := 4) sc_l_table_text.nd rfl (Or.inl rfl)) pgs_nil))))
(pss_cons (ps_set (i := 5) sc_l_table_text.nd rfl (Or.inr rfl) pe_dnewT)
(pss_cons (ps_lock (ps_for PassesOwn.never rfl (pi_keys (pv 2)) (pg_name (i := 6) sc_l_table_text.nd rfl (Or.inl rfl))
(pss_one (ps_dput (hu_of hr) (pv 5) (pca cP hr (by decide) rfl (pa_cons (pv 1) (pa_cons (pv 6) pa_nil))) (pe_dget (hu_of hr) (pv 2) (pv 6) (fun _ _ => rfl)) rfl))))
(pss_cons (ps_set (i := 7) sc_l_table_text.nd rfl (Or.inl rfl) (pe_lst (pa_cons (pe_join pe_str (pe_op op_cat (pe_lst (pa_cons pe_str pa_nil)) (pe_lc (own := [("_law_size", 8)]) (g := (gName 8)) (tt := tYes) (te := tCB (fun xs H Q => ∃ v, xs = [v] ∧ WdOk v ∧ Q (.str (wS v)) H) (tCons (tVar 8) tNil)) rfl sc_l_table_text.nd (pi_tup (pv 0)) (blkOk_by (N := n_l_table_text) (sc := defScope s_l_table_text) (by decide +kernel)) (fun _ _ _ _ _ => (pg_name (i := 8) sc_l_table_text.nd rfl (Or.inl rfl))) (fun _ _ _ _ _ => pts_nil) (fun _ _ _ _ _ => (pe_callTy cr_strW (by rfl) zS (by decide +kernel) (pa_cons (pv 8) pa_nil)))))) (pa_cons (pe_op op_add_str pe_str (pca cX hr (by decide) rfl (pa_cons (pv 1) pa_nil))) pa_nil))))
(pss_cons (ps_expr (pe_bm PySem.F.plainAttrs_list PySem.F.slot_list_extend PySem.F.type_list_extend mt_extend (pv 7) (pa_cons (pe_lc (own := [("_law_level", 9), ("_law_own", 10)]) (g := (gTup K 2 (gCons (gName 9) (gCons (gName 10) gNil)))) (tt := tYes) (te := tCall (spLLine K) [] E0 (tCons (tOp (rIxT K) (tVar 9) (tC (.int 0))) (tCons (tVar 10) tNil))) rfl sc_l_table_text.nd (ZiX.pi_zipX (by rfl) B.zip (pa_cons (pv 1) (pa_cons (pv 3) pa_nil))) (blkOk_by (N := n_l_table_text) (sc := defScope s_l_table_text) (by decide +kernel)) (fun _ _ _ _ _ => (pg_tup rfl (pgs_cons (pg_name (i := 9) sc_l_table_text.nd rfl (Or.inl rfl)) (pgs_cons (pg_name (i := 10) sc_l_table_text.nd rfl (Or.inl rfl)) pgs_nil)))) (fun _ _ _ _ _ => pts_nil) (fun _ _ _ _ _ => (pca cL hr (by decide) rfl (pa_cons (pe_ix ix_tup (pv 9) pe_int (fun _ _ => rfl)) (pa_cons (pv 10) pa_nil))))) pa_nil)))
(pss_one (ps_ret (pe_join pe_str (pe_op op_cat (pv 7) (pe_lst (pa_cons (pe_join pe_str (pe_op op_cat (pe_lst (pa_cons pe_str pa_nil)) (pe_lc (own := [("_law_path_here", 11)]) (g := (gName 11)) (tt := tYes) (te := tCB (fun xs H Q => ∃ v, xs = [v] ∧ WdOk v ∧ Q (.str (wS v)) H) (tCons (tDGet2 (tVar 5) (tVar 11) (tC (.int 0))) tNil)) rfl sc_l_table_text.nd (pi_list (pv 4)) (blkOk_by (N := n_l_table_text) (sc := defScope s_l_table_text) (by decide +kernel)) (fun _ _ _ _ _ => (pg_name (i := 11) sc_l_table_text.nd rfl (Or.inl rfl))) (fun _ _ _ _ _ => pts_nil) (fun _ _ _ _ _ => (pe_callTy cr_strW (by rfl) zS (by decide +kernel) (pa_cons (pe_dget2 (hu_of hr) (pv 5) (pv 11) pe_int ⟨rfl, rfl, rfl, rfl⟩) pa_nil)))))) pa_nil))))))))))), ?_⟩
  have l3 := tb.l3
  have hgl := tb.gl
  refine ⟨_, rfl, _, rfl, _, rfl, z, tf, d, zs, us0, l, cs, ds, rfl, hz, hT, htu, hd, tb.z3, hgl.1, hgl.2.2, tb.z6, tb.gc, h64, tb.ld, fun t R Pa us vs H1 g1 ht hR hrows hPa hps => ?_⟩
  refine ⟨t, _, rfl, ht, rfl, _, _, rfl, _, _, rfl, rfl, ?_⟩
  refine fun W hW => ?_
  have gw := same_new hW (.dT [])
  have g2 := g1.trans gw
  have hd1 := g2 _ _ hd
  have nwd : W ≠ d := (ne_of_none (g1 _ _ hd) hW).symm
  have hW0 : H W = none := g1.free hW
  refine ⟨d, .dT (cs.map cell), hd1, trivial, fun od => ?_⟩
  have lk : (cs.map cell).length = cs.length := List.length_map _
  have hl : upd (upd H1 W (.dT [])) d (.frz od (.dT (cs.map cell))) d = some (.frz od (.dT (cs.map cell))) := upd_same
  have hw0 : upd (upd H1 W (.dT [])) d (.frz od (.dT (cs.map cell))) W = some (.dT []) := by rw [upd_ne nwd, upd_same]
  have k0 : Kp d H1 (upd (upd H1 W (.dT [])) d (.frz od (.dT (cs.map cell)))) := (Kp.of gw).trans kpPut
  generalize upd (upd H1 W (.dT [])) d (.frz od (.dT (cs.map cell))) = Hl at hl hw0 k0 ⊢
  have kl : ∀ c ∈ cs, c.1.length = zs.length := fun c hc => (tb.gc.2 c hc).1.1
  have nd := tb.gc.1
  have ndp := pkv_nodup hgl.2.2 kl nd
  have hd1' : H1 d = some (.dT (cs.map cell)) := g1 _ _ hd
  have tk : ∀ {H' : Hp}, Kp d H1 H' → ∀ {b : Addr} {xs : List V}, SqT K H1 b xs → SqT K H' b xs := fun {H'} kp {b xs} h => by
    rcases h with (h | ⟨o, h⟩) | h
    · exact .inl (.inl (kp _ _ (fun e => by rw [e, hd1'] at h; cases h) h))
    · exact .inl (.inr ⟨o, kp _ _ (fun e => by rw [e, hd1'] at h; cases h) h⟩)
    · exact .inr h
  refine ⟨_, rfl, d, od, rfl, .inr ⟨_, hl, ?_⟩⟩
  refine for_it (walk_keysT (d := d) (o := od) (kvs := cs.map cell)) (fun i σ' H' => (∃ u6 u7 u8 u9 u10 u11 : Option V, σ' = [some (.ref z), some (.ref tf), some (.ref d), some (.ref R), some (.ref Pa), some (.ref W), u6, u7, u8, u9, u10, u11]) ∧ H' d = some (.frz od (.dT (cs.map cell))) ∧ H' W = some (.dT (((cs.take i).map (pkv (l.map (·.2)))).map cell)) ∧ Kp d H1 H') ⟨⟨_, _, _, _, _, _, rfl⟩, hl, hw0, k0⟩ (fun i σ' H' _ ⟨_, h, _⟩ => h) ?_ ?_
  · rintro i x σ' H2 H3 hi ⟨⟨u6, u7, u8, u9, u10, u11, rfl⟩, v1, v2, v3⟩ ⟨rfl, kk, v, qa, ek, rfl, hq⟩
    obtain ⟨c, ec, ek2⟩ : ∃ c, cs[i]? = some c ∧ (kk, v) = cell c := by
      rw [List.getElem?_map] at ek
      cases e : cs[i]? with
      | none => rw [e] at ek; cases ek
      | some c => rw [e] at ek; exact ⟨c, rfl, (Option.some.inj ek).symm⟩
    cases ek2
    have cm := List.mem_of_getElem? ec
    have cl := kl c cm
    have get : DGet H3 d (.ref qa) (some (.int c.2)) := by
      refine .inr ⟨_, c.1.map Sum.inl, qa, .inr ⟨od, v1⟩, rfl, hq, ?_⟩
      rw [valV_key (List.mem_map_of_mem (f := (·.1)) cm), vOf_in nd cm]
    have hq0 := hq
    rw [keyI] at hq
    refine ⟨_, rfl, _, rfl, d, _, rfl, get, _, rfl, _, rfl, _, rfl, tf, qa, us0, l, c.1, rfl, tk v3 (seqT g1 hT), ⟨htu.1, fun i v p e1 e2 => (htu.2 i v p e1 e2).elim fun a q => ⟨a, q.1, tk v3 (seqT g1 q.2)⟩⟩, SqT.of hq, by omega, fun x hx => ?_, fun pp H4 g4 hpp => ?_⟩
    · obtain ⟨x0, x1⟩ := iota_mem.mp (hgl.2.2.mem_iff.mp (List.mem_map_of_mem (f := (·.2)) hx))
      exact ⟨x0, by omega⟩
    have v1' := g4 _ _ v1
    have v2' := g4 _ _ v2
    have fresh : (pkv (l.map (·.2)) c).1 ∉ ((cs.take i).map (pkv (l.map (·.2)))).map (·.1) := fun hm => by
      obtain ⟨y, hy, ey⟩ := List.mem_map.mp hm
      obtain ⟨c', hc', rfl⟩ := List.mem_map.mp hy
      have hm' := List.mem_of_mem_take hc'
      have : c'.1 = c.1 := path_inj hgl.2.2 (kl c' hm') cl ey
      obtain ⟨j, hj, ej⟩ := List.mem_iff_getElem.mp hc'
      rw [List.length_take] at hj
      rw [List.getElem_take] at ej
      obtain ⟨l1, l2⟩ := List.getElem?_eq_some_iff.mp ec
      have := (List.getElem_inj nd (h₀ := by rw [List.length_map]; omega) (h₁ := by rw [List.length_map]; exact l1)).mp (show (cs.map (·.1))[j]'(by rw [List.length_map]; omega) = (cs.map (·.1))[i]'(by rw [List.length_map]; exact l1) by rw [List.getElem_map, List.getElem_map, ej, l2]; exact this)
      omega
    have few : (((cs.take i).map (pkv (l.map (·.2)))).map cell).length < sizeLine := small1000 (by rw [List.length_map, List.length_map, List.length_take]; omega)
    refine ⟨W, _, rfl, .inr ⟨_, (pkv (l.map (·.2)) c).1.map Sum.inl, pp, v2', rfl, by rw [keyI]; exact hpp, few, rfl⟩, ⟨_, _, _, _, _, _, rfl⟩, by rw [upd_ne nwd.symm]; exact v1', ?_, fun b o n eb => ?_⟩
    · rw [upd_same, putK_cells, putC_new _ fresh, List.take_succ, ec, Option.toList_some, List.map_append (l₂ := [c])] <;> rfl
    · rw [upd_ne (ne_of_none eb hW)]
      exact g4 _ _ (v3 b o n eb)
  rintro σ' H2 ⟨⟨u6, u7, u8, u9, u10, u11, rfl⟩, v1, v2, v3⟩
  rw [lk, List.take_length] at v2
  refine ⟨v1, ?_⟩
  have s13 : Same H1 (upd H2 d (.dT (cs.map cell))) := fun b o eb => by
    by_cases zz : b = d
    · rw [zz] at eb ⊢
      rw [upd_same, ← eb, hd1']
    · rw [upd_ne zz]
      exact v3 b o zz eb
  have hW3 : (upd H2 d (.dT (cs.map cell))) W = some (.dT ((cs.map (pkv (l.map (·.2)))).map cell)) := by rw [upd_ne nwd]; exact v2
  generalize upd H2 d (.dT (cs.map cell)) = H3 at s13 hW3 ⊢
  have g3 := g1.trans s13
  have hR3 := s13 _ _ hR
  have hPa3 := s13 _ _ hPa
  have ok1 := tb.w1
  have ok3 := tb.w3
  -- sizes
  refine ⟨⟨_, rfl⟩, (by show 1 ≤ sizeLine; decide), fun p1 hp1 => ?_⟩
  have gp1 := same_new hp1 (.lst [.str "sizes"])
  have e1 : (upd H3 p1 (.lst [.str "sizes"])) p1 = some (.lst [.str "sizes"]) := upd_same
  have s14 := s13.trans gp1
  have t4 := gp1
  generalize upd H3 p1 (.lst [.str "sizes"]) = H4 at e1 s14 t4 ⊢
  refine ⟨_, rfl, z, rfl, ⟨_, seqT (g1.trans s14) hz⟩, fun D1 hD1 => ?_⟩
  refine lc_tup (K := K) (a := z) (xs := zs.map V.int) (InvM H4 D1 vS (zs.map V.int)) ⟨upd_same, same_new hD1 _⟩ (fun i H' _ ⟨_, g⟩ => seqT ((g1.trans s14).trans g) hz) (fun i x H' hx hv => ?_) ?_
  · exact ⟨rfl, kept ⟨_, rfl, x, rfl, ok1.ok x (List.mem_cons_of_mem _ (List.mem_of_getElem? hx)), _, hv.1, len_m4 (by rw [List.length_map]; have := tb.z3; omega), InvM.next (f := vS) hD1 hv.2 hx _ rfl⟩⟩
  rintro H5 ⟨hd5, g5⟩
  rw [List.take_length] at hd5
  refine ⟨p1, D1, _, _, rfl, rfl, g5 _ _ e1, hd5, ?_, fun p2 hp2 => ?_⟩
  · refine Nat.le_of_lt (small10000 ?_)
    have := tb.z3
    rw [List.length_map, List.length_map, List.length_singleton]
    omega
  have gp2 := same_new hp2 (.lst ([.str "sizes"] ++ (zs.map V.int).map vS))
  have e2 : (upd H5 p2 (.lst ([.str "sizes"] ++ (zs.map V.int).map vS))) p2 = some (.lst ([.str "sizes"] ++ (zs.map V.int).map vS)) := upd_same
  have s16 := s14.trans (g5.trans gp2)
  have t6 := t4.trans (g5.trans gp2)
  generalize upd H5 p2 (.lst ([.str "sizes"] ++ (zs.map V.int).map vS)) = H6 at e2 s16 t6 ⊢
  refine ⟨_, p2, (V.str "sizes" :: zs.map V.int).map wS, rfl, rfl, .inl (SqL.of ?_), joinW_sum ok1, ?_⟩
  · rw [e2]
    simp only [List.map_cons, List.map_map]
    rfl
  have gH6 := g1.trans s16
  refine ⟨_, rfl, tf, us0, l, zs.length, rfl, seqT gH6 hT, htu.mono (.of gH6), hgl, tb.z3, fun H7 g7 => ?_⟩
  have fl := (ftext_small tb.valid).1
  refine ⟨_, _, rfl, rfl, ?_, (by show 2 ≤ sizeLine; decide), fun Ls hLs => ?_⟩
  · have e5 : Str.length "form " = 5 := by decide +kernel
    rw [e5]
    exact Nat.le_of_lt (small1000 (by omega))
  rw [join_vS]
  have gLs := same_new hLs (.lst [.str (joinW (.str "sizes" :: zs.map V.int)), .str ("form " ++ ftext (l.map (·.1)) (l.map (·.2)))])
  have s18 := s16.trans (g7.trans gLs)
  have t8 := t6.trans (g7.trans gLs)
  have hLn : H1 Ls = none := (s16.trans g7).free hLs
  have e8 : (upd H7 Ls (.lst [.str (joinW (.str "sizes" :: zs.map V.int)), .str ("form " ++ ftext (l.map (·.1)) (l.map (·.2)))])) Ls = some (.lst [.str (joinW (.str "sizes" :: zs.map V.int)), .str (joinW [.str "form", .str (ftext (l.map (·.1)) (l.map (·.2)))])]) := by rw [upd_same, form_line]
  have hL3 : H3 Ls = none := (t6.trans g7).free hLs
  generalize upd H7 Ls (.lst [.str (joinW (.str "sizes" :: zs.map V.int)), .str ("form " ++ ftext (l.map (·.1)) (l.map (·.2)))]) = H8 at e8 s18 t8 ⊢
  -- levels
  have elen : us0.length = us.length := by rw [htu.1, hrows.1]
  have gH8 := g1.trans s18
  refine ⟨_, rfl, .inl ⟨rfl, _, SqL.of e8⟩, _, rfl, _, rfl, tf, R, us0, us, rfl, seqT gH8 hT, SqL.of (s18 _ _ hR), fun D hD => ?_⟩
  refine lc_it (te := tCall (spLLine K) [] E0 (tCons (tOp (rIxT K) (tVar 9) (tC (.int 0))) (tCons (tVar 10) tNil))) (ZiX.walkX (K := K) (a := tf) (b := R) elen) (InvM H8 D (fun i : Nat => V.str (lvL zs ds l i)) (List.range l.length)) ⟨upd_same, same_new hD _⟩ (fun i H' _ ⟨_, g⟩ => ⟨seqT (gH8.trans g) hT, SqL.of ((s18.trans g) _ _ hR)⟩) (fun i x H9 H10 hi hv hy => ?_) ?_
  · obtain ⟨T, x1, y1, rfl, hTn, rfl, ex, ey⟩ := hy
    have hil : i < l.length := by rw [← htu.1]; exact hi
    have ex : us0[i]? = some x1 := ex
    have ey : us[i]? = some y1 := ey
    have eq := List.getElem?_eq_getElem hil
    obtain ⟨a, rfl, za⟩ := htu.2 i x1 _ ex eq
    obtain ⟨o, ws, rfl, _, ho, hrn⟩ := hrows.2 i y1 _ ey eq
    have ei : (List.range l.length)[i]? = some i := by rw [List.getElem?_range hil]
    have ev : lineT (l[i]).1 (rowsL zs ds (pathsL zs ds (l.take i)) l[i]) = lvL zs ds l i := by
      unfold lvL lvR
      rw [lvQ_at eq]
    have gT := same_new hTn (.tup [.ref a, .ref o])
    have gv := hv.2.trans gT
    refine ⟨T, _, rfl, SqT.of upd_same, rfl, _, _, rfl, _, _, rfl, rfl, rfl, kept ⟨_, rfl, a, _, _, _, rfl, rfl, seqT (gH8.trans gv) za, rfl, _, rfl, _, o, ws, _, rfl, (s18.trans gv) _ _ ho, (hrn.same (s18.trans gv)).rows, tb.rows eq, hgl.2.1 _ (List.getElem_mem hil), fun H11 g11 => ?_⟩⟩
    rw [ev]
    exact ⟨_, g11 _ _ (gT _ _ hv.1), len_m (by rw [List.length_range]; omega), InvM.next (f := fun i : Nat => V.str (lvL zs ds l i)) hD (gv.trans g11) ei _ rfl⟩
  rintro H9 ⟨hd9, g9⟩
  rw [htu.1, List.take_of_length_le (by rw [List.length_range]; exact Nat.le_refl _)] at hd9
  refine ⟨Ls, D, _, _, rfl, rfl, g9 _ _ e8, hd9, ?_, ?_⟩
  · refine Nat.le_of_lt (small1000 ?_)
    rw [List.length_map, List.length_range]
    show 2 + l.length ≤ 1000
    omega
  have e9 : (upd H9 Ls (.lst ([.str (joinW (.str "sizes" :: zs.map V.int)), .str (joinW [.str "form", .str (ftext (l.map (·.1)) (l.map (·.2)))])] ++ (List.range l.length).map fun i => V.str (lvL zs ds l i)))) Ls = some (.lst ([.str (joinW (.str "sizes" :: zs.map V.int)), .str (joinW [.str "form", .str (ftext (l.map (·.1)) (l.map (·.2)))])] ++ (List.range l.length).map fun i => V.str (lvL zs ds l i))) := upd_same
  have t9 : Same H3 (upd H9 Ls (.lst ([.str (joinW (.str "sizes" :: zs.map V.int)), .str (joinW [.str "form", .str (ftext (l.map (·.1)) (l.map (·.2)))])] ++ (List.range l.length).map fun i => V.str (lvL zs ds l i)))) := same_over (t8.trans g9) hL3 _
  generalize upd H9 Ls (.lst ([.str (joinW (.str "sizes" :: zs.map V.int)), .str (joinW [.str "form", .str (ftext (l.map (·.1)) (l.map (·.2)))])] ++ (List.range l.length).map fun i => V.str (lvL zs ds l i))) = H10 at e9 t9 ⊢
  -- values
  have s110 := s13.trans t9
  refine ⟨⟨_, rfl⟩, _, rfl, ⟨_, rfl⟩, (by show 1 ≤ sizeLine; decide), fun q1 hq1 => ?_⟩
  have gq1 := same_new hq1 (.lst [.str "values"])
  have f1 : (upd H10 q1 (.lst [.str "values"])) q1 = some (.lst [.str "values"]) := upd_same
  have e10 := gq1 _ _ e9
  have t10 := t9.trans gq1
  have s111 := s110.trans gq1
  generalize upd H10 q1 (.lst [.str "values"]) = H11 at f1 e10 t10 s111 ⊢
  refine ⟨_, rfl, Pa, rfl, ⟨_, SqL.of (s111 _ _ hPa)⟩, fun D3 hD3 => ?_⟩
  have hW11 := t10 _ _ hW3
  have pl := tb.paths
  refine lc_list (K := K) (a := Pa) (xs := vs) (InvM H11 D3 (fun p : List Int => vS (.int (vOf (cs.map (pkv (l.map (·.2)))) p))) (pathsL zs ds l)) ⟨upd_same, same_new hD3 _⟩ (fun i H' _ ⟨_, g⟩ => SqL.of ((s111.trans g) _ _ hPa)) (fun i x H12 hx hv => ?_) ?_
  · have hi : i < (pathsL zs ds l).length := by rw [← hps.1]; exact (List.getElem?_eq_some_iff.mp hx).1
    have ep := List.getElem?_eq_getElem hi
    generalize (pathsL zs ds l)[i] = p at ep
    obtain ⟨b, rfl, hb⟩ := hps.2 i x p hx ep
    have hW12 := hv.2 _ _ hW11
    have hb12 := (s111.trans hv.2) _ _ hb
    have mem : V.int (vOf (cs.map (pkv (l.map (·.2)))) p) ∈ dataV zs ds l cs := List.mem_map_of_mem (f := fun x => V.int (vOf (cs.map (pkv (l.map (·.2)))) x)) (List.mem_of_getElem? ep)
    refine ⟨rfl, kept ⟨_, rfl, W, rfl, .inr ⟨_, .inl hW12⟩, _, rfl, _, DGet.t (k := p.map Sum.inl) hW12 (by rw [keyI]; exact hb12), ?_⟩⟩
    rw [get_cells]
    exact ⟨_, rfl, ok3.ok _ (List.mem_cons_of_mem _ mem), _, hv.1, len_m4 (by omega), InvM.next (f := fun p : List Int => vS (.int (vOf (cs.map (pkv (l.map (·.2)))) p))) hD3 hv.2 ep _ rfl⟩
  rintro H12 ⟨hd12, g12⟩
  rw [hps.1, List.take_length] at hd12
  refine ⟨q1, D3, _, _, rfl, rfl, g12 _ _ f1, hd12, ?_, fun q2 hq2 => ?_⟩
  · refine Nat.le_of_lt (small10000 ?_)
    rw [List.length_map, List.length_singleton]
    omega
  have gq2 := same_new hq2 (.lst ([.str "values"] ++ (pathsL zs ds l).map fun p : List Int => vS (.int (vOf (cs.map (pkv (l.map (·.2)))) p))))
  refine ⟨_, q2, (V.str "values" :: dataV zs ds l cs).map wS, rfl, rfl, .inl (SqL.of ?_), joinW_sum ok3, ?_⟩
  · rw [upd_same]
    unfold dataV
    simp only [List.map_cons, List.map_map]
    rfl
  refine ⟨(by show 1 ≤ sizeLine; decide), fun q3 hq3 => ?_⟩
  rw [join_vS]
  have gq3 := same_new hq3 (.lst [.str (joinW (V.str "values" :: dataV zs ds l cs))])
  have e13 := (g12.trans (gq2.trans gq3)) _ _ e10
  refine ⟨Ls, q3, _, _, rfl, rfl, e13, upd_same, ?_, fun q4 hq4 => ?_⟩
  · refine Nat.le_of_lt (small1000 ?_)
    rw [List.length_append, List.length_map, List.length_range]
    show 2 + l.length + 1 ≤ 1000
    omega
  have gq4 := same_new hq4 (.lst ([.str (joinW (.str "sizes" :: zs.map V.int)), .str (joinW [.str "form", .str (ftext (l.map (·.1)) (l.map (·.2)))])] ++ ((List.range l.length).map fun i => V.str (lvL zs ds l i)) ++ [.str (joinW (V.str "values" :: dataV zs ds l cs))]))
  refine ⟨_, q4, linesT zs ds l cs, rfl, rfl, .inl (SqL.of ?_), tb.sum, k _ (g3.trans (t10.trans (g12.trans (gq2.trans (gq3.trans gq4)))))⟩
  rw [upd_same]
  unfold linesT
  simp only [List.map_cons, List.map_append, List.map_map, List.cons_append, List.nil_append, List.map_nil]
  rfl
end
end Lw
namespace Lw
open PySem L2
/-! words that are numbers -/
theorem tl_pos (m : Nat) : TL.tl (numS (m : Int)) = TL.numL m := TL.tl_num m
theorem tl_neg {m : Nat} (h : 0 < m) : TL.tl (numS (-(m : Int))) = 45 :: TL.numL m := by
  have e : toString (-(m : Int)) = "-" ++ toString ((m : Nat) : Int) := by
    cases m with
    | zero => exact absurd h (Nat.lt_irrefl _)
    | succ k => rfl
  show TL.tl (Str.ofString (toString (-(m : Int)))) = _
  rw [e, TL.tl_ofString, String.toList_append, List.map_append]
  have e2 := TL.tl_num m
  rw [TL.tl_ofString] at e2
  rw [e2] <;> rfl
theorem numL_dig {n c : Nat} (h : c ∈ TL.numL n) : 48 ≤ c ∧ c ≤ 57 := by
  refine ⟨Classical.byContradiction fun q => ?_, Classical.byContradiction fun q => ?_⟩
  · exact TL.numL_free (n := n) (s := c) (by omega) h
  · exact TL.numL_free (n := n) (s := c) (by omega) h
theorem dig_is : ∀ c, 48 ≤ c → c ≤ 57 → Unicode.isDigit c = true ∧ c < 128 := by
  intro c h1 h2
  have hh : c = 48 ∨ c = 49 ∨ c = 50 ∨ c = 51 ∨ c = 52 ∨ c = 53 ∨ c = 54 ∨ c = 55 ∨ c = 56 ∨ c = 57 := by omega
  rcases hh with rfl | rfl | rfl | rfl | rfl | rfl | rfl | rfl | rfl | rfl <;> decide +kernel
theorem len_tl' (x : Str) : x.length = (TL.tl x).length := TL.len_tl x
theorem isdig_pos (m : Nat) : Txt.isdigit (numS (m : Int)) = true ∧ Txt.isascii (numS (m : Int)) = true := by
  have hall : ∀ c ∈ (numS (m : Int)).cps.toList, Unicode.isDigit c = true ∧ c < 128 := fun c hc => by
    have h := numL_dig (show c ∈ TL.numL m by rw [← tl_pos]; exact hc)
    exact dig_is c h.1 h.2
  have hne : (numS (m : Int)).length > 0 := by
    rw [len_tl', tl_pos]
    exact List.length_pos_iff.mpr (TL.numL_ne m)
  refine ⟨?_, ?_⟩
  · show (decide ((numS (m : Int)).length > 0) && (numS (m : Int)).cps.all Unicode.isDigit) = true
    rw [decide_eq_true hne, Bool.true_and, ← Array.all_toList, List.all_eq_true]
    exact fun c hc => (hall c hc).1
  · show ((numS (m : Int)).cps.all fun c => decide (c < 128)) = true
    rw [← Array.all_toList, List.all_eq_true]
    exact fun c hc => decide_eq_true (hall c hc).2
theorem rp_pos (m : Nat) : Txt.removeprefix (numS (m : Int)) "-" = numS (m : Int) := by
  have e : Builtin.Str.subAt (numS (m : Int)) "-" 0 = false := by
    rw [StrLaws.subAt_eq]
    refine beq_eq_false_iff_ne.mpr fun h => ?_
    have l1 : Str.length "-" = 1 := by decide +kernel
    have l2 : (Str.ofString "-").cps.toList = [45] := by decide +kernel
    rw [l1, l2, List.drop_zero] at h
    have e2 : (numS (m : Int)).cps.toList = TL.numL m := tl_pos m
    rw [e2] at h
    have hm : 45 ∈ TL.numL m := List.mem_of_mem_take (by rw [h]; exact List.mem_singleton.mpr rfl)
    have := numL_dig hm
    omega
  show Txt.affix _ (if Builtin.Str.subAt _ _ 0 = true then _ else _) = _
  rw [e, if_neg (by decide)] <;> rfl
theorem rp_neg {m : Nat} (h : 0 < m) : Txt.removeprefix (numS (-(m : Int))) "-" = numS (m : Int) := by
  have l1 : Str.length "-" = 1 := by decide +kernel
  have l2 : (Str.ofString "-").cps.toList = [45] := by decide +kernel
  have e2 : (numS (-(m : Int))).cps.toList = 45 :: TL.numL m := tl_neg h
  have e : Builtin.Str.subAt (numS (-(m : Int))) "-" 0 = true := by
    rw [StrLaws.subAt_eq, l1, l2, e2]
    rfl
  show Txt.affix _ (if Builtin.Str.subAt _ _ 0 = true then _ else _) = _
  rw [e, if_pos rfl, l1]
  have hl : (numS (-(m : Int))).length = (TL.numL m).length + 1 := by
    rw [len_tl', tl_neg h, List.length_cons]
  show (if ((numS (-(m : Int))).length - 1 == (numS (-(m : Int))).length) = true then _ else _) = _
  rw [if_neg (by rw [hl]; simp)]
  refine TL.ext_tl ?_
  show (Builtin.Str.strSub _ 1 _).cps.toList = _
  rw [StrLaws.strSub_toList, e2, hl, List.drop_one, List.tail_cons, Nat.add_sub_cancel, List.take_length]
  exact (tl_pos m).symm
theorem int_back {n : Int} (h : (numS n).length ≤ 640) : intText? (numS n) = some n := by
  by_cases h0 : 0 ≤ n
  · obtain ⟨m, rfl⟩ : ∃ m : Nat, n = (m : Int) := ⟨n.natAbs, by omega⟩
    rw [len_tl', tl_pos] at h
    exact TL.int_num (Nat.le_trans h (by decide))
  · obtain ⟨m, rfl⟩ : ∃ m : Nat, n = -(m : Int) := ⟨n.natAbs, by omega⟩
    have hm : 0 < m := by omega
    have e := intText_neg (x := numS (-(m : Int))) (tl_neg hm) (TL.numL_digits m) (TL.numL_ne m) (Nat.le_trans h (by decide))
    rw [TL.numL_val] at e
    exact e
end Lw
namespace Lw
open PySem L2
theorem rp_num (n : Int) : Txt.removeprefix (numS n) "-" = numS (n.natAbs : Nat) := by
  by_cases h0 : 0 ≤ n
  · obtain ⟨m, rfl⟩ : ∃ m : Nat, n = (m : Int) := ⟨n.natAbs, by omega⟩
    exact rp_pos m
  · obtain ⟨m, rfl⟩ : ∃ m : Nat, n = -(m : Int) := ⟨n.natAbs, by omega⟩
    rw [rp_neg (by omega), show (-(m : Int)).natAbs = m by omega]
abbrev s_whole_in : Stmt := topS 4
abbrev n_whole_in : List Str := ["word", "digits"]
theorem sc_whole_in : FnScope n_whole_in ["word"] (defScope s_whole_in) := ⟨rfl, rfl, rfl, by decide +kernel, rfl, by decide +kernel, by decide +kernel⟩
def NumOk (n : Int) : Prop := n.natAbs.log2 < 1920 ∧ (numS n).length ≤ 640
def spWin : Sp := fun vs H Q _ => ∃ n : Int, vs = [.str (numS n)] ∧ NumOk n ∧ Q (.int n) H
section
variable {P : Program} {w : World} {K : PySem.W.Frag} {mg : Str → Option Value} {base : Heap} {f : Addr} {fd : FuncData}
theorem ok_whole_in (F : Fun K "whole_in" "whole_in" s_whole_in f fd) (B : Bt mg) (zS : mg "str" = none) : FnOk P w K mg base CX0 1 f fd ["word"] spWin := by
  refine F.ok sc_whole_in (fun vs H Q E h => ?_) (fun cdv A outer s H vs Q E hr h => ?_)
  · obtain ⟨n, rfl, _⟩ := h
    rfl
  obtain ⟨n, rfl, ⟨hn, hl⟩, q⟩ := h
  refine ⟨_, (pss_cons (ps_set (i := 1) sc_whole_in.nd rfl (Or.inl rfl) (pe_bm PySem.F.plainAttrs_str PySem.F.slot_str_removeprefix PySem.F.type_str_removeprefix mt_removeprefix (pv 0) (pa_cons pe_str pa_nil)))
(pss_cons (ps_if (PW.pt (pw_or (pt_not (pt_val (pe_bm0 PySem.F.plainAttrs_str PySem.F.slot_str_isdigit PySem.F.type_str_isdigit mt_isdigit (pv 1)))) (pw_or1 (pt_not (pt_val (pe_bm0 PySem.F.plainAttrs_str PySem.F.slot_str_isascii PySem.F.type_str_isascii mt_isascii (pv 1)))))))
(pss_one (ps_ret pe_non)) pss_nil)
(pss_cons (ps_if (pt_cmpR op_ne (pe_callTy call_str_int (by rfl) zS (by decide +kernel) (pa_cons (pe_callTy call_int_str (by rfl) B.int (by decide +kernel) (pa_cons (pv 0) pa_nil)) pa_nil)) (pv 0) (nomark _))
(pss_one (ps_ret pe_non)) pss_nil)
(pss_one (ps_ret (pe_callTy call_int_str (by rfl) B.int (by decide +kernel) (pa_cons (pv 0) pa_nil))))))), ?_⟩
  obtain ⟨d1, d2⟩ := isdig_pos n.natAbs
  have big : (numS n).length ≤ sizeLine := Nat.le_trans hl (by decide)
  have ib := int_back hl
  refine ⟨_, rfl, rfl, _, _, rfl, rfl, big, ?_⟩
  rw [rp_num]
  refine ⟨_, rfl, rfl, _, rfl, rfl, trivial, ?_⟩
  rw [d1]
  refine ⟨_, rfl, iteF ⟨_, rfl, rfl, _, rfl, rfl, trivial, ?_⟩⟩
  rw [d2]
  refine ⟨_, rfl, iteF ?_⟩
  refine ⟨_, rfl, _, n, rfl, ib, hl, n, rfl, hn, _, rfl, rfl, _, rfl, iteN ?_ ⟨_, rfl, _, n, rfl, ib, hl, q⟩⟩
  rw [decide_eq_true rfl]
  rfl
end
end Lw
namespace Lw
open PySem L2
def numW (n : Int) : V := .str (numS n)
abbrev s_integers_in : Stmt := topS 41
abbrev n_integers_in : List Str := ["words", "integers", "word", "n"]
theorem sc_integers_in : FnScope n_integers_in ["words"] (defScope s_integers_in) := ⟨rfl, rfl, rfl, by decide +kernel, rfl, by decide +kernel, by decide +kernel⟩
def spIin (K : PySem.W.Frag) : Sp := fun vs H Q _ => ∃ (a : Addr) (ns : List Int), vs = [.ref a] ∧ SqL K H a (ns.map numW) ∧ (∀ n ∈ ns, NumOk n) ∧ ns.length ≤ 10000 ∧ ∀ (r : Addr) (H' : Hp), Same H H' → H r = none → H' r = some (.lst (ns.map V.int)) → Q (.ref r) H'
theorem any_none : ∀ ns : List Int, (ns.map fun _ => false).any id = false
  | [] => rfl
  | _ :: r => by
    rw [List.map_cons, List.any_cons, any_none r] <;> rfl
section
variable {P : Program} {w : World} {K : PySem.W.Frag} {mg : Str → Option Value} {base : Heap} {f : Addr} {fd : FuncData}
theorem ok_integers_in (F : Fun K "integers_in" "integers_in" s_integers_in f fd) (zAny : mg "any" = none) (cW : Ca P w K mg base 1 "whole_in" ["word"] spWin) : FnOk P w K mg base CX0 2 f fd ["words"] (spIin K) := by
  refine F.ok sc_integers_in (fun vs H Q E h => ?_) (fun cdv A outer s H vs Q E hr h => ?_)
  · obtain ⟨a, ns, rfl, _⟩ := h
    rfl
  obtain ⟨a, ns, rfl, ha, hok, hl, q⟩ := h
  refine ⟨_, (pss_cons (ps_setLc (i := 1) (own := [("word", 2)]) (g := (gName 2)) (tt := tYes) (te := tCall spWin [] E0 (tCons (tVar 2) tNil)) rfl sc_integers_in.nd rfl rfl (sw_true rfl rfl rfl (by decide +kernel)) (pi_list (pv 0)) (blkOk_by (N := n_integers_in) (sc := defScope s_integers_in) (by decide +kernel)) (fun _ _ _ _ _ => (pg_name (i := 2) sc_integers_in.nd rfl (Or.inl rfl))) (fun _ _ _ _ _ => pts_nil) (fun _ _ _ _ _ => (pca cW hr (by decide) rfl (pa_cons (pv 2) pa_nil))))
(pss_cons (ps_if (pt_val (pe_callB (cr_any rfl) (by rfl) zAny (by decide +kernel) (pa_cons (pe_lc (own := [("n", 3)]) (g := (gName 3)) (tt := tYes) (te := tOp rIsN (tVar 3) (tC .non)) rfl sc_integers_in.nd (pi_list (pv 1)) (blkOk_by (N := n_integers_in) (sc := defScope s_integers_in) (by decide +kernel)) (fun _ _ _ _ _ => (pg_name (i := 3) sc_integers_in.nd rfl (Or.inl rfl))) (fun _ _ _ _ _ => pts_nil) (fun _ _ _ _ _ => (pe_cmpR op_isN (pv 3) pe_non (nomark _)))) pa_nil)))
(pss_one (ps_ret pe_non)) pss_nil)
(pss_one (ps_ret (pv 1))))), ?_⟩
  refine ⟨_, rfl, a, rfl, ⟨_, ha⟩, fun D hD => ?_⟩
  refine lc_list (K := K) (a := a) (xs := ns.map numW) (InvM H D V.int ns) ⟨upd_same, same_new hD _⟩ (fun i H' _ ⟨_, g⟩ => seqL g ha) (fun i x H' hx hv => ?_) ?_
  · obtain ⟨n, en, rfl⟩ := at_map hx
    exact ⟨rfl, kept ⟨_, rfl, n, rfl, hok n (List.mem_of_getElem? en), _, hv.1, len_m4 hl, InvM.next hD hv.2 en _ rfl⟩⟩
  rw [List.length_map]
  rintro H1 ⟨hd, g1⟩
  rw [List.take_length] at hd
  refine ⟨_, rfl, D, rfl, ⟨_, SqL.of hd⟩, fun D2 hD2 => ?_⟩
  refine lc_list (K := K) (a := D) (xs := ns.map V.int) (InvM H1 D2 (fun _ : Int => V.bl false) ns) ⟨upd_same, same_new hD2 _⟩ (fun i H' _ ⟨_, g⟩ => SqL.of (g _ _ hd)) (fun i x H' hx hv => ?_) ?_
  · obtain ⟨n, en, rfl⟩ := at_map hx
    exact ⟨rfl, kept ⟨_, rfl, rfl, _, hv.1, len_m4 hl, InvM.next (f := fun _ : Int => V.bl false) hD2 hv.2 en _ rfl⟩⟩
  rw [List.length_map]
  rintro H2 ⟨hd2, g2⟩
  rw [List.take_length] at hd2
  refine ⟨D2, ns.map (fun _ => false), rfl, SqL.of (by rw [hd2, List.map_map] <;> rfl), ?_⟩
  rw [any_none]
  exact ⟨_, rfl, iteF ⟨_, rfl, q D H2 (g1.trans g2) hD (g2 _ _ hd)⟩⟩
end
/-! words of a line -/
def NoC (c : Nat) (s : Str) : Prop := c ∉ TL.tl s
theorem numS_no {c : Nat} (h : c ≠ 45 ∧ ¬ (48 ≤ c ∧ c ≤ 57)) (n : Int) : NoC c (numS n) := fun hc => by
  by_cases h0 : 0 ≤ n
  · obtain ⟨m, rfl⟩ : ∃ m : Nat, n = (m : Int) := ⟨n.natAbs, by omega⟩
    rw [tl_pos] at hc
    exact h.2 (numL_dig hc)
  · obtain ⟨m, rfl⟩ : ∃ m : Nat, n = -(m : Int) := ⟨n.natAbs, by omega⟩
    rw [tl_neg (by omega)] at hc
    rcases List.mem_cons.mp hc with e | e
    · exact h.1 e
    · exact h.2 (numL_dig e)
theorem split_w {xs : List V} (hne : xs ≠ []) (h : ∀ x ∈ xs, NoC 32 (wS x)) : Txt.split (joinW xs) " " = xs.map wS := by
  refine TL.split_join (y := " ") (s := 32) (S := []) (by decide +kernel) (by decide +kernel) (fun e => hne (List.map_eq_nil_iff.mp e)) fun p hp => ?_
  obtain ⟨x, hx, rfl⟩ := List.mem_map.mp hp
  exact h x hx
end Lw
namespace Lw
open PySem L2
theorem cut_1 (x : V) (xs : List V) : cutV (x :: xs) (some 1) none = xs := by
  unfold cutV
  rw [show (1 : Int) = ((1 : Nat) : Int) from rfl, sIx_nat, sIx_none, List.length_cons]
  rw [show min 1 (xs.length + 1) = 1 by omega, List.drop_one, List.tail_cons, show xs.length + 1 - 1 = xs.length by omega, List.take_length]
theorem no32_num (n : Int) : NoC 32 (numS n) := numS_no (by decide) n
theorem words_split {x : Str} {ns : List Int} (h : NoC 32 x) : Txt.split (joinW (.str x :: ns.map V.int)) " " = x :: ns.map numS := by
  rw [split_w (by simp) fun y hy => ?_]
  · rw [List.map_cons, List.map_map]
    rfl
  · rcases List.mem_cons.mp hy with rfl | hy
    · exact h
    · obtain ⟨n, _, rfl⟩ := List.mem_map.mp hy
      exact no32_num n
abbrev s_integers_behind : Stmt := topS 42
abbrev n_integers_behind : List Str := ["line", "word", "words"]
theorem sc_integers_behind : FnScope n_integers_behind ["line", "word"] (defScope s_integers_behind) := ⟨rfl, rfl, rfl, by decide +kernel, rfl, by decide +kernel, by decide +kernel⟩
def spIbh : Sp := fun vs H Q _ => ∃ (x : Str) (ns : List Int), vs = [.str (joinW (.str x :: ns.map V.int)), .str x] ∧ NoC 32 x ∧ (joinW (.str x :: ns.map V.int)).length + 2 ≤ sizeLine ∧ (∀ n ∈ ns, NumOk n) ∧ ns.length ≤ 10000 ∧ ∀ (r : Addr) (H' : Hp), Same H H' → H r = none → H' r = some (.lst (ns.map V.int)) → Q (.ref r) H'
abbrev s_sizes_in : Stmt := topS 43
abbrev n_sizes_in : List Str := ["line", "sizes"]
theorem sc_sizes_in : FnScope n_sizes_in ["line"] (defScope s_sizes_in) := ⟨rfl, rfl, rfl, by decide +kernel, rfl, by decide +kernel, by decide +kernel⟩
def spSzin : Sp := fun vs H Q _ => ∃ zs : List Int, vs = [.str (joinW (.str "sizes" :: zs.map V.int))] ∧ (joinW (.str "sizes" :: zs.map V.int)).length + 2 ≤ sizeLine ∧ (∀ n ∈ zs, NumOk n) ∧ zs.length ≤ 3 ∧ sizesOk zs = true ∧ ∀ (r : Addr) (H' : Hp), Same H H' → H r = none → H' r = some (.lst (zs.map V.int)) → Q (.ref r) H'
section
variable {P : Program} {w : World} {K : PySem.W.Frag} {mg : Str → Option Value} {base : Heap} {f : Addr} {fd : FuncData}
theorem ok_integers_behind (F : Fun K "integers_behind" "integers_behind" s_integers_behind f fd) (cI : Ca P w K mg base 2 "integers_in" ["words"] (spIin K)) : FnOk P w K mg base CX0 3 f fd ["line", "word"] spIbh := by
  refine F.ok sc_integers_behind (fun vs H Q E h => ?_) (fun cdv A outer s H vs Q E hr h => ?_)
  · obtain ⟨x, ns, rfl, _⟩ := h
    rfl
  obtain ⟨x, ns, rfl, hx, hlen, hok, hl, q⟩ := h
  refine ⟨_, (pss_cons (ps_set (i := 2) sc_integers_behind.nd rfl (Or.inl rfl) (pe_split (pv 0) pe_str))
(pss_cons (ps_if (pt_cmpR op_ne (pe_ix ix_list (pv 2) pe_int (fun _ _ => rfl)) (pv 1) (nomark _))
(pss_one (ps_ret pe_non)) pss_nil)
(pss_one (ps_ret (pca cI hr (by decide) rfl (pa_cons (pe_slice sl_list (pv 2) (po_some pe_int) po_none) pa_nil)))))), ?_⟩
  refine ⟨_, rfl, ⟨_, rfl⟩, _, _, rfl, rfl, by decide +kernel, hlen, ?_⟩
  rw [words_split hx]
  intro p hp
  have g1 := same_new hp (.lst ((x :: ns.map numS).map V.str))
  have h1 : upd H p (.lst ((x :: ns.map numS).map V.str)) p = some (.lst (.str x :: ns.map numW)) := by rw [upd_same, List.map_cons, List.map_map] <;> rfl
  revert g1 h1
  generalize upd H p (.lst ((x :: ns.map numS).map V.str)) = H1
  intro g1 h1
  refine ⟨_, rfl, p, _, 0, .str x, rfl, rfl, SqL.of h1, atI_nat (j := 0) rfl, _, rfl, rfl, _, rfl, iteN (by rw [decide_eq_true rfl] <;> rfl) ?_⟩
  refine ⟨_, rfl, 1, rfl, p, _, rfl, SqL.of h1, fun p2 hp2 => ?_⟩
  rw [cut_1]
  have g2 := same_new hp2 (.lst (ns.map numW))
  exact ⟨p2, ns, rfl, SqL.of upd_same, hok, hl, fun r H' g nr hr' => q r H' ((g1.trans g2).trans g) ((g1.trans g2).free nr) hr'⟩
theorem ok_sizes_in (F : Fun K "sizes_in" "sizes_in" s_sizes_in f fd) (B : Bt mg) (cI : Ca P w K mg base 3 "integers_behind" ["line", "word"] spIbh) (cS : Ca P w K mg base 2 "are_sizes" ["sizes"] (spASizes K)) : FnOk P w K mg base CX0 4 f fd ["line"] spSzin := by
  refine F.ok sc_sizes_in (fun vs H Q E h => ?_) (fun cdv A outer s H vs Q E hr h => ?_)
  · obtain ⟨zs, rfl, _⟩ := h
    rfl
  obtain ⟨zs, rfl, hlen, hok, hl, hs, q⟩ := h
  refine ⟨_, (pss_cons (ps_set (i := 1) sc_sizes_in.nd rfl (Or.inl rfl) (pca cI hr (by decide) rfl (pa_cons (pv 0) (pa_cons pe_str pa_nil))))
(pss_cons (ps_if (PW.pt (pw_or (pt_cmpR op_isN (pv 1) pe_non (nomark _)) (pw_or1 (pt_not (pt_val (pca cS hr (by decide) rfl (pa_cons (pe_callTy call_tuple_of (by rfl) B.tup (by decide +kernel) (pa_cons (pv 1) pa_nil)) pa_nil)))))))
(pss_one (ps_ret pe_non)) pss_nil)
(pss_one (ps_ret (pv 1))))), ?_⟩
  refine ⟨_, rfl, "sizes", zs, rfl, (by unfold NoC; decide +kernel), hlen, hok, by omega, fun r H1 g1 nr hr1 => ?_⟩
  refine ⟨_, rfl, rfl, _, rfl, iteN (decide_eq_false (fun e => by cases e)) ?_⟩
  refine ⟨_, rfl, r, _, rfl, .inl ⟨SqL.of hr1, fun t ht => ?_⟩⟩
  have g2 := same_new ht (.tup (zs.map V.int))
  refine ⟨t, zs, rfl, SqT.of upd_same, by omega, fun H3 g3 => ⟨_, rfl, ?_⟩⟩
  rw [hs]
  exact iteF ⟨_, rfl, q r H3 (g1.trans (g2.trans g3)) nr (g3 _ _ (g2 _ _ hr1))⟩
end
end Lw
namespace L2
open PySem PySem.Spec PyProof.Rows
/-- l.count(x), texts -/
def rCntS (K : PySem.W.Frag) : V → List V → Hp → VK → Prop := fun x xs H Q => ∃ (a : Addr) (ss : List Str) (k : Str), x = .ref a ∧ xs = [.str k] ∧ SqL K H a (ss.map V.str) ∧ Q (.int ((ss.countP fun y => decide (y = k) : Nat) : Int)) H
theorem dpa_strsS {K : PySem.W.Frag} {H : Hp} : ∀ ls : List Str, DpAll K H (ls.map V.str) (ls.map PyData.str)
  | [] => .nil
  | z :: r => .cons (.str z) (dpa_strsS r)
theorem plain_strs : ∀ ls : List Str, PyData.plainAll (ls.map PyData.str) = true ∧ PyData.depthAll (ls.map PyData.str) = 0
  | [] => ⟨by simp [PyData.plainAll], by simp [PyData.depthAll]⟩
  | z :: r => by
    obtain ⟨h1, h2⟩ := plain_strs r
    exact ⟨by simp [PyData.plainAll, PyData.plain, h1], by simp [PyData.depthAll, PyData.depth] at h2 ⊢; exact h2⟩
theorem cnt_strs (k : Str) : ∀ ls : List Str, (ls.map PyData.str).countP (fun y => PyData.eqv y (.str k)) = ls.countP fun y => decide (y = k)
  | [] => rfl
  | z :: r => by
    rw [List.map_cons, List.countP_cons, List.countP_cons, cnt_strs k r]
    have e : PyData.eqv (.str z) (.str k) = decide (z = k) := by
      simp only [PyData.eqv]
      rfl
    rw [e]
section
variable {X : Cx}
theorem mt_countS (hu : X.A.units + 2 < cLine) : MtR X "list.count" (rCntS X.K) := by
  intro pins s σ H x xs v us Q I rx rxs h
  obtain ⟨a, ss, k, rfl, rfl, hs, q⟩ := h
  cases rx
  cases rxs with
  | cons ry rt =>
    rename_i uy ut
    cases rt
    obtain ⟨bs, r1⟩ := Dp.reads I (.str k) (.str k) uy (.str k) ry
    obtain ⟨its, rv, hl, hlen⟩ := I.list hs
    obtain ⟨as, h4⟩ := Dp.readsAll I (ss.map PyData.str) _ its (dpa_strsS ss) rv
    obtain ⟨p1, p2⟩ := plain_strs ss
    obtain ⟨o, n, ho, hc, hdn, hdt⟩ := hl
    refine PySem.SeqAt.count_list_data (vs := its.toArray) ⟨o, ho, hc, n, hdt⟩ h4 r1 p1 (by simp [PyData.plain]) ?_ ?_
    · rw [p2]
      simp [PyData.depth]
      omega
    · rw [cnt_strs]
      exact ⟨.int _, H, I.tok _, ⟨_, rfl⟩, q⟩
end
end L2
namespace Lw
open PySem L2
theorem cut_drop (xs : List V) (i : Nat) (h : i ≤ xs.length) : cutV xs (some (i : Int)) none = xs.drop i := by
  unfold cutV
  rw [sIx_nat, sIx_none, Nat.min_eq_left h, List.take_of_length_le (by rw [List.length_drop]; omega)]
theorem roomU2 {k : Nat} {A : Around} (r : Room k A) : A.units + 2 < cLine := by
  have := r.un
  omega
def halfS (as bs : List Int) : List Str := as.map numS ++ ("/" : Str) :: bs.map numS
theorem num_slash (n : Int) : numS n ≠ ("/" : Str) := fun e => by
  have h := numS_no (c := 47) (by decide) n
  rw [e] at h
  exact h (by decide +kernel)
theorem cnt_half (as bs : List Int) : (halfS as bs).countP (fun y => decide (y = ("/" : Str))) = 1 := by
  have z : ∀ l : List Int, (l.map numS).countP (fun y => decide (y = ("/" : Str))) = 0 := fun l => by
    rw [List.countP_eq_zero]
    intro y hy
    obtain ⟨n, _, rfl⟩ := List.mem_map.mp hy
    rw [decide_eq_false (num_slash n)]
    decide
  unfold halfS
  rw [List.countP_append, List.countP_cons, z, z, if_pos (decide_eq_true rfl)]
abbrev s_halves_of : Stmt := topS 45
abbrev n_halves_of : List Str := ["words", "cut"]
theorem sc_halves_of : FnScope n_halves_of ["words"] (defScope s_halves_of) := ⟨rfl, rfl, rfl, by decide +kernel, rfl, by decide +kernel, by decide +kernel⟩
def spHalf (K : PySem.W.Frag) : Sp := fun vs H Q _ => ∃ (a : Addr) (as bs : List Int), vs = [.ref a] ∧ SqL K H a ((halfS as bs).map V.str) ∧ (∀ n ∈ as, NumOk n) ∧ (∀ n ∈ bs, NumOk n) ∧ as.length ≤ 1000 ∧ bs.length ≤ 1000 ∧
  ∀ (r p1 p2 : Addr) (H' : Hp), Same H H' → SqT K H' r [.ref p1, .ref p2] → H' p1 = some (.lst (as.map V.int)) → H' p2 = some (.lst (bs.map V.int)) → Q (.ref r) H'
theorem flat_strs2 : ∀ l : List Str, (l.map V.str).all flatV = true
  | [] => rfl
  | z :: r => by
    rw [List.map_cons, List.all_cons, flat_strs2 r] <;> rfl
section
variable {P : Program} {w : World} {K : PySem.W.Frag} {mg : Str → Option Value} {base : Heap} {f : Addr} {fd : FuncData}
theorem ok_halves_of (F : Fun K "halves_of" "halves_of" s_halves_of f fd) (cI : Ca P w K mg base 2 "integers_in" ["words"] (spIin K)) : FnOk P w K mg base CX0 3 f fd ["words"] (spHalf K) := by
  refine F.ok sc_halves_of (fun vs H Q E h => ?_) (fun cdv A outer s H vs Q E hr h => ?_)
  · obtain ⟨a, as, bs, rfl, _⟩ := h
    rfl
  obtain ⟨a, as, bs, rfl, ha, oka, okb, la, lb, q⟩ := h
  refine ⟨_, (pss_cons (ps_if (pt_cmpR op_ne (pe_bm PySem.F.plainAttrs_list PySem.F.slot_list_count PySem.F.type_list_count (mt_countS (roomU2 hr)) (pv 0) (pa_cons pe_str pa_nil)) pe_int (nomark _))
(pss_one (ps_ret (pe_tup (pa_cons pe_non (pa_cons pe_non pa_nil))))) pss_nil)
(pss_cons (ps_set (i := 1) sc_halves_of.nd rfl (Or.inl rfl) (pe_bm PySem.F.plainAttrs_list PySem.F.slot_list_index PySem.F.type_list_index mt_index (pv 0) (pa_cons pe_str pa_nil)))
(pss_one (ps_ret (pe_tup (pa_cons (pca cI hr (by decide) rfl (pa_cons (pe_slice sl_list (pv 0) po_none (po_some (pv 1))) pa_nil)) (pa_cons (pca cI hr (by decide) rfl (pa_cons (pe_slice sl_list (pv 0) (po_some (pe_op op_add (pv 1) pe_int)) po_none) pa_nil)) pa_nil))))))), ?_⟩
  have hlen : ((halfS as bs).map V.str).length = as.length + (bs.length + 1) := by
    unfold halfS
    rw [List.length_map, List.length_append, List.length_cons, List.length_map, List.length_map]
  refine ⟨_, rfl, .inl ⟨rfl, _, ha⟩, a, halfS as bs, "/", rfl, rfl, ha, ?_⟩
  rw [cnt_half]
  refine ⟨rfl, _, rfl, iteN (by decide) ?_⟩
  have ej : ((halfS as bs).map V.str)[as.length]? = some (.str "/") := by
    unfold halfS
    rw [List.getElem?_map, List.getElem?_append_right (by rw [List.length_map]; exact Nat.le_refl _), List.length_map, Nat.sub_self]
    rfl
  refine ⟨_, rfl, .inl ⟨rfl, _, ha⟩, a, _, .str "/", as.length, .str "/", rfl, rfl, ha, rfl, flat_strs2 _, ej, rfl, fun m z' hm hz => ?_, ?_⟩
  · unfold halfS at hz
    rw [List.getElem?_map, List.getElem?_append_left (by rw [List.length_map]; exact hm), List.getElem?_map] at hz
    cases en : as[m]? with
    | none => rw [en] at hz; cases hz
    | some n =>
      rw [en] at hz
      cases hz
      exact beq_eq_false_iff_ne.mpr (num_slash n)
  refine ⟨_, rfl, _, rfl, _, rfl, a, _, rfl, ha, fun p1 hp1 => ?_⟩
  rw [cut_take _ _ (by rw [hlen]; omega)]
  have e1 : ((halfS as bs).map V.str).take as.length = as.map numW := by
    unfold halfS
    rw [List.map_append, List.take_append_of_le_length (by rw [List.length_map, List.length_map]; exact Nat.le_refl _), List.take_of_length_le (by rw [List.length_map, List.length_map]; exact Nat.le_refl _), List.map_map]
    rfl
  have e2 : ((halfS as bs).map V.str).drop (as.length + 1) = bs.map numW := by
    unfold halfS
    rw [List.map_append, List.map_cons, List.drop_append, List.drop_eq_nil_of_le (by rw [List.length_map, List.length_map]; omega), List.length_map, List.length_map, show as.length + 1 - as.length = 1 by omega, List.nil_append, List.drop_one, List.tail_cons, List.map_map]
    rfl
  rw [e1]
  have g1 := same_new hp1 (.lst (as.map numW))
  refine ⟨p1, as, rfl, SqL.of upd_same, oka, by omega, fun r1 H2 g2 nr1 hr1 => ?_⟩
  have g12 := g1.trans g2
  refine ⟨_, rfl, _, rfl, _, _, rfl, rfl, _, rfl, a, _, rfl, seqL g12 ha, fun p2 hp2 => ?_⟩
  rw [show ((as.length : Nat) : Int) + 1 = ((as.length + 1 : Nat) : Int) by omega, cut_drop _ _ (by rw [hlen]; omega), e2]
  have g3 := same_new hp2 (.lst (bs.map numW))
  refine ⟨p2, bs, rfl, SqL.of upd_same, okb, by omega, fun r2 H4 g4 nr2 hr2 => ?_⟩
  refine ⟨(by show 2 ≤ sizeLine; decide), fun t ht => ?_⟩
  have g5 := same_new ht (.tup [.ref r1, .ref r2])
  have g34 := g3.trans g4
  exact q t r1 r2 _ ((g12.trans g34).trans g5) (SqT.of upd_same) (g5 _ _ (g34 _ _ hr1)) (g5 _ _ hr2)
end
end Lw
namespace Lw
open PySem L2
theorem cut_mid (xs : List V) (i j : Nat) (h1 : i ≤ j) (h2 : j ≤ xs.length) : cutV xs (some (i : Int)) (some (j : Int)) = (xs.drop i).take (j - i) := by
  unfold cutV
  rw [sIx_nat, sIx_nat, Nat.min_eq_left h2, Nat.min_eq_left (Nat.le_trans h1 h2)]
def cntN (rs : List (List Int)) (i : Nat) : Nat := ((rs.take i).map (·.length)).sum
theorem cntN_flat (rs : List (List Int)) (i : Nat) : (rs.take i).flatten.length = cntN rs i := by
  unfold cntN
  rw [List.length_flatten]
theorem flat_row {rs : List (List Int)} {i : Nat} {r : List Int} (h : rs[i]? = some r) : cntN rs (i + 1) = cntN rs i + r.length ∧ cntN rs (i + 1) ≤ rs.flatten.length ∧ (rs.flatten.drop (cntN rs i)).take r.length = r := by
  have hi := (List.getElem?_eq_some_iff.mp h).1
  have e : rs.flatten = (rs.take i).flatten ++ (r ++ (rs.drop (i + 1)).flatten) := by
    have e1 : rs = rs.take i ++ r :: rs.drop (i + 1) := by
      have e2 := (List.take_append_drop i rs).symm
      rw [List.drop_eq_getElem_cons hi] at e2
      have e3 : rs[i] = r := (List.getElem?_eq_some_iff.mp h).2
      rw [e3] at e2
      exact e2
    conv => lhs; rw [e1]
    rw [List.flatten_append, List.flatten_cons]
  have e4 : cntN rs (i + 1) = cntN rs i + r.length := by
    unfold cntN
    rw [List.take_succ, h, Option.toList_some, List.map_append, List.sum_append]
    simp
  refine ⟨e4, ?_, ?_⟩
  · rw [e4, e, List.length_append, List.length_append, cntN_flat]
    omega
  · rw [e, ← cntN_flat, List.drop_left, List.take_left]
def stI (rs : List (List Int)) : List Int := (List.range (rs.length + 1)).map fun i => ((cntN rs i : Nat) : Int)
theorem stI_len (rs : List (List Int)) : (stI rs).length = rs.length + 1 := by
  unfold stI
  rw [List.length_map, List.length_range]
theorem stI_at {rs : List (List Int)} {i : Nat} (h : i ≤ rs.length) : ((stI rs).map V.int)[i]? = some (.int ((cntN rs i : Nat) : Int)) := by
  unfold stI
  rw [List.map_map, List.getElem?_map, List.getElem?_range (by omega)]
  rfl
theorem cntN_le (rs : List (List Int)) (i : Nat) : cntN rs i ≤ rs.flatten.length := by
  rw [← cntN_flat]
  have e := congrArg List.length (congrArg List.flatten (List.take_append_drop i rs))
  rw [List.flatten_append, List.length_append] at e
  omega
theorem numOk_few {n : Int} (h : n.natAbs < 10 ^ 5) : NumOk n := ⟨log_few5 h, Nat.le_trans (numS_few h) (by decide)⟩
abbrev s_packed_rows : Stmt := topS 46
abbrev n_packed_rows : List Str := ["words", "upper_count", "starts", "coordinates", "upper"]
theorem sc_packed_rows : FnScope n_packed_rows ["words", "upper_count"] (defScope s_packed_rows) := ⟨rfl, rfl, rfl, by decide +kernel, rfl, by decide +kernel, by decide +kernel⟩
/-- rows of few coordinates, as the texts tell them -/
def RowsQ (rs : List (List Int)) : Prop := rs.length ≤ 900 ∧ rs.flatten.length ≤ 900 ∧ ∀ r ∈ rs, ∀ c ∈ r, 0 ≤ c ∧ c ≤ 100
def rOut (H : Hp) (rs : List (List Int)) (Q : V → Hp → Prop) : Prop := ∀ (r : Addr) (us : List V) (H' : Hp), Same H H' → H r = none → H' r = some (.lst us) → RowsN H H' us rs → Q (.ref r) H'
def spPkd (K : PySem.W.Frag) : Sp := fun vs H Q _ => ∃ (a : Addr) (rs : List (List Int)), vs = [.ref a, .int ((rs.length : Nat) : Int)] ∧ SqL K H a ((halfS (stI rs) rs.flatten).map V.str) ∧ RowsQ rs ∧ rOut H rs Q
theorem RowsN.nil' {H0 H : Hp} : RowsN H0 H [] [] := ⟨rfl, fun i u r e _ => by cases e⟩
theorem RowsN.weak {H0 H0' H : Hp} {us : List V} {rs : List (List Int)} (k : ∀ b, H0' b = none → H0 b = none) (h : RowsN H0' H us rs) : RowsN H0 H us rs := ⟨h.1, fun i u r e1 e2 => (h.2 i u r e1 e2).elim fun a q => ⟨a, q.1, k _ q.2.1, q.2.2⟩⟩
section
variable {P : Program} {w : World} {K : PySem.W.Frag} {mg : Str → Option Value} {base : Heap} {f : Addr} {fd : FuncData}
theorem ok_packed_rows (F : Fun K "packed_rows" "packed_rows" s_packed_rows f fd) (B : Bt mg) (cH : Ca P w K mg base 3 "halves_of" ["words"] (spHalf K)) : FnOk P w K mg base CX0 4 f fd ["words", "upper_count"] (spPkd K) := by
  refine F.ok sc_packed_rows (fun vs H Q E h => ?_) (fun cdv A outer s H vs Q E hr h => ?_)
  · obtain ⟨a, rs, rfl, _⟩ := h
    rfl
  obtain ⟨a, rs, rfl, ha, ⟨l1, l2, hc⟩, q⟩ := h
  refine ⟨_, (pss_cons (ps_asg (pca cH hr (by decide) rfl (pa_cons (pv 0) pa_nil)) (pg_tup rfl (pgs_cons (pg_name (i := 2) sc_packed_rows.nd rfl (Or.inr rfl)) (pgs_cons (pg_name (i := 3) sc_packed_rows.nd rfl (Or.inr rfl)) pgs_nil))))
(pss_cons (ps_if (PW.pt (pw_or (pt_cmpR op_isN (pv 2) pe_non (nomark _)) (pw_or (pt_cmpR op_isN (pv 3) pe_non (nomark _)) (pw_or1 (pt_cmpR op_ne (pe_callB call_len_seq (by rfl) B.len PySem.boot_len (pa_cons (pv 2) pa_nil)) (pe_op op_add (pv 1) pe_int) (nomark _))))))
(pss_one (ps_ret pe_non)) pss_nil)
(pss_one (ps_ret (pe_lc (own := [("upper", 4)]) (g := (gName 4)) (tt := tYes) (te := tSl (rSlL K) (tVar 3) (tPart (tOp (rIxL K) (tVar 2) (tVar 4))) (tPart (tOp (rIxL K) (tVar 2) (tOp (rI0 fun i j => .int (i + j)) (tVar 4) (tC (.int 1)))))) rfl sc_packed_rows.nd (pi_range1 (by rfl) B.range (pa_cons (pv 1) pa_nil)) (blkOk_by (N := n_packed_rows) (sc := defScope s_packed_rows) (by decide +kernel)) (fun _ _ _ _ _ => (pg_name (i := 4) sc_packed_rows.nd rfl (Or.inl rfl))) (fun _ _ _ _ _ => pts_nil) (fun _ _ _ _ _ => (pe_slice sl_list (pv 3) (po_some (pe_ix ix_list (pv 2) (pv 4) (fun _ _ => rfl))) (po_some (pe_ix ix_list (pv 2) (pe_op op_add (pv 4) pe_int) (fun _ _ => rfl)))))))))), ?_⟩
  refine ⟨_, rfl, a, stI rs, rs.flatten, rfl, ha, fun n hn => ?_, fun n hn => ?_, by rw [stI_len]; omega, by omega, fun r p1 p2 H1 g1 hr1 h1 h2 => ?_⟩
  · obtain ⟨i, _, rfl⟩ := List.mem_map.mp hn
    have := cntN_le rs i
    exact numOk_few (by omega)
  · obtain ⟨r, hr1, hn1⟩ := List.mem_flatten.mp hn
    have := hc r hr1 n hn1
    exact numOk_few (by omega)
  refine ⟨r, _, rfl, hr1, rfl, _, _, rfl, _, _, rfl, rfl, ?_⟩
  refine ⟨_, rfl, rfl, _, rfl, iteN (decide_eq_false (fun e => by cases e)) ?_⟩
  refine ⟨_, rfl, rfl, _, rfl, iteN (decide_eq_false (fun e => by cases e)) ?_⟩
  refine ⟨_, rfl, p1, _, rfl, .inl (SqL.of h1), _, rfl, _, _, rfl, rfl, rfl, _, rfl, iteN ?_ ?_⟩
  · rw [List.length_map, stI_len, decide_eq_true (by rw [show ((rs.length + 1 : Nat) : Int) = (rs.length : Int) + 1 by omega])]
    rfl
  refine ⟨_, rfl, rs.length, rfl, by omega, by omega, fun D hD => ?_⟩
  have g3 := same_new hD (.lst [])
  refine lc_range (lo := 0) (n := rs.length) (fun i H' => ∃ acc : List V, H' D = some (.lst acc) ∧ RowsN (upd H1 D (.lst [])) H' acc (rs.take i) ∧ Same H1 H') ⟨[], upd_same, by rw [List.take_zero]; exact RowsN.nil', g3⟩ (fun i H' hi ⟨acc, v1, v2, v3⟩ => ?_) ?_
  · obtain ⟨row, erow⟩ : ∃ row, rs[i]? = some row := ⟨rs[i], List.getElem?_eq_getElem hi⟩
    obtain ⟨c1, c2, c3⟩ := flat_row erow
    have al : acc.length ≤ i := by
      have := v2.1
      rw [List.length_take] at this
      omega
    refine ⟨rfl, kept ?_⟩
    refine ⟨_, rfl, _, rfl, _, rfl, p1, _, _, .int ((cntN rs i : Nat) : Int), rfl, rfl, SqL.of (v3 _ _ h1), ?_, _, rfl, ?_⟩
    · rw [show (0 : Int) + ((i : Nat) : Int) = ((i : Nat) : Int) by omega]
      exact atI_nat (stI_at (by omega))
    refine ⟨_, rfl, _, rfl, _, _, rfl, rfl, p1, _, _, .int ((cntN rs (i + 1) : Nat) : Int), rfl, rfl, SqL.of (v3 _ _ h1), ?_, _, rfl, ?_⟩
    · rw [show (0 : Int) + ((i : Nat) : Int) + 1 = ((i + 1 : Nat) : Int) by omega]
      exact atI_nat (stI_at (by omega))
    refine ⟨p2, _, rfl, SqL.of (v3 _ _ h2), fun p hp => ?_⟩
    rw [cut_mid _ _ _ (by omega) (by rw [List.length_map]; exact c2), c1, Nat.add_sub_cancel_left, ← List.map_drop, ← List.map_take, c3]
    have g4 := same_new hp (.lst (row.map V.int))
    refine ⟨acc, g4 _ _ v1, small1000 (by omega), acc ++ [.ref p], upd_same, ?_, same_over (v3.trans g4) hD _⟩
    rw [List.take_succ, erow, Option.toList_some]
    have hpD : upd H1 D (.lst []) p = none := by
      rw [upd_ne (ne_of_none v1 hp).symm]
      exact v3.free hp
    exact ((v2.same g4).snoc hpD upd_same).upd upd_same
  rintro H3 ⟨acc, v1, v2, v3⟩
  rw [List.take_length] at v2
  exact q D acc H3 (g1.trans v3) (g1.free hD) v1 (v2.weak fun b hb => g1.free (g3.free hb))
end
end Lw
namespace Lw
open PySem L2
/-- all lists that leave out some items -/
def subs : List Int → List (List Int)
  | [] => [[]]
  | x :: l => subs l ++ (subs l).map (x :: ·)
theorem filter_subs (p : Int → Bool) : ∀ l : List Int, l.filter p ∈ subs l
  | [] => List.mem_singleton.mpr rfl
  | x :: l => by
    have ih := filter_subs p l
    show _ ∈ subs l ++ (subs l).map (x :: ·)
    rw [List.filter_cons]
    split
    · exact List.mem_append_right _ (List.mem_map_of_mem ih)
    · exact List.mem_append_left _ ih
def bitsB : Bool := (List.range 7).all fun n => (subs (iota n)).all fun r => (List.range n).all fun c => decide (Builtin.bitAnd (maskI r / 2 ^ c) 1 = 1) == decide ((c : Int) ∈ r)
theorem bits_ok : bitsB = true := by decide +kernel
theorem bit_at {n c : Nat} {p : Int → Bool} (hn : n ≤ 6) (hc : c < n) : decide (Builtin.bitAnd (maskI ((iota n).filter p) / 2 ^ c) 1 = 1) = decide ((c : Int) ∈ (iota n).filter p) := by
  have h := bits_ok
  unfold bitsB at h
  rw [List.all_eq_true] at h
  have h1 := h n (List.mem_range.mpr (by omega))
  rw [List.all_eq_true] at h1
  have h2 := h1 _ (filter_subs p (iota n))
  rw [List.all_eq_true] at h2
  have h3 := h2 c (List.mem_range.mpr hc)
  exact eq_of_beq h3
/-- rows of coordinates below n -/
def RowsBelow (n : Nat) (rs : List (List Int)) : Prop := ∀ r ∈ rs, ∃ p : Int → Bool, r = (iota n).filter p
theorem filter_mem {n : Nat} {p : Int → Bool} : (iota n).filter (fun c => decide (c ∈ (iota n).filter p)) = (iota n).filter p := by
  refine List.filter_congr fun c hc => ?_
  cases h : p c with
  | false => exact decide_eq_false (fun q => by have := (List.mem_filter.mp q).2; rw [h] at this; cases this)
  | true => exact decide_eq_true (List.mem_filter.mpr ⟨hc, h⟩)
abbrev s_bits_rows : Stmt := topS 47
abbrev n_bits_rows : List Str := ["words", "size", "upper_count", "starts", "masks", "c", "mask"]
theorem sc_bits_rows : FnScope n_bits_rows ["words", "size", "upper_count"] (defScope s_bits_rows) := ⟨rfl, rfl, rfl, by decide +kernel, rfl, by decide +kernel, by decide +kernel⟩
def spBtr (K : PySem.W.Frag) : Sp := fun vs H Q _ => ∃ (a : Addr) (n : Nat) (rs : List (List Int)), vs = [.ref a, .int (n : Nat), .int ((rs.length : Nat) : Int)] ∧ SqL K H a ((halfS (stI rs) (rs.map maskI)).map V.str) ∧ RowsQ rs ∧ n ≤ 6 ∧ RowsBelow n rs ∧ (∀ r ∈ rs, NumOk (maskI r)) ∧ rOut H rs Q
section
variable {P : Program} {w : World} {K : PySem.W.Frag} {mg : Str → Option Value} {base : Heap} {f : Addr} {fd : FuncData}
theorem ok_bits_rows (F : Fun K "bits_rows" "bits_rows" s_bits_rows f fd) (B : Bt mg) (cH : Ca P w K mg base 3 "halves_of" ["words"] (spHalf K)) : FnOk P w K mg base CX0 4 f fd ["words", "size", "upper_count"] (spBtr K) := by
  refine F.ok sc_bits_rows (fun vs H Q E h => ?_) (fun cdv A outer s H vs Q E hr h => ?_)
  · obtain ⟨a, n, rs, rfl, _⟩ := h
    rfl
  obtain ⟨a, n, rs, rfl, ha, ⟨l1, l2, hc⟩, hn, hb, hmk, q⟩ := h
  refine ⟨_, (pss_cons (ps_asg (pca cH hr (by decide) rfl (pa_cons (pv 0) pa_nil)) (pg_tup rfl (pgs_cons (pg_name (i := 3) sc_bits_rows.nd rfl (Or.inl rfl)) (pgs_cons (pg_name (i := 4) sc_bits_rows.nd rfl (Or.inl rfl)) pgs_nil))))
(pss_cons (ps_if (PW.pt (pw_or (pt_cmpR op_isN (pv 3) pe_non (nomark _)) (pw_or (pt_cmpR op_isN (pv 4) pe_non (nomark _)) (pw_or1 (pt_cmpR op_ne (pe_callB call_len_seq (by rfl) B.len PySem.boot_len (pa_cons (pv 4) pa_nil)) (pv 2) (nomark _))))))
(pss_one (ps_ret pe_non)) pss_nil)
(pss_one (ps_ret (pe_lc (own := [("mask", 6)]) (g := (gName 6)) (tt := tYes) rfl sc_bits_rows.nd (pi_list (pv 4)) (blkOk_by (N := n_bits_rows) (sc := defScope s_bits_rows) (by decide +kernel)) (fun _ _ _ _ _ => (pg_name (i := 6) sc_bits_rows.nd rfl (Or.inr rfl))) (fun _ _ _ _ _ => pts_nil) (fun _ _ _ _ _ => (pe_lc (own := [("c", 5)]) (g := (gName 5)) (tt := tTest (tOp rEq (tOp (rI0 fun i j => .int (Builtin.bitAnd i j)) (tOp (rI (fun _ j => 0 ≤ j) fun i j => .int (i / 2 ^ j.toNat)) (tVar 6) (tVar 5)) (tC (.int 1))) (tC (.int 1)))) (te := tVar 5) rfl sc_bits_rows.nd (pi_range1 (by rfl) B.range (pa_cons (pv 1) pa_nil)) (blkOk_by (N := n_bits_rows) (by with_unfolding_all rfl)) (fun _ _ _ _ _ => (pg_name (i := 5) sc_bits_rows.nd rfl (Or.inl rfl))) (fun _ _ _ _ _ => (pts_one (pt_cmpR op_eq (pe_op op_and (pe_op op_shr (pv 6) (pv 5)) pe_int) pe_int (nomark _)))) (fun _ _ _ _ _ => (pv 5))))))))), ?_⟩
  refine ⟨_, rfl, a, stI rs, rs.map maskI, rfl, ha, fun n hn => ?_, fun n hn => ?_, by rw [stI_len]; omega, by rw [List.length_map]; omega, fun r p1 p2 H1 g1 hr1 h1 h2 => ?_⟩
  · obtain ⟨i, _, rfl⟩ := List.mem_map.mp hn
    have := cntN_le rs i
    exact numOk_few (by omega)
  · obtain ⟨r, hr1, rfl⟩ := List.mem_map.mp hn
    exact hmk r hr1
  refine ⟨r, _, rfl, hr1, rfl, _, _, rfl, _, _, rfl, rfl, ?_⟩
  refine ⟨_, rfl, rfl, _, rfl, iteN (decide_eq_false (fun e => by cases e)) ?_⟩
  refine ⟨_, rfl, rfl, _, rfl, iteN (decide_eq_false (fun e => by cases e)) ?_⟩
  refine ⟨_, rfl, p2, _, rfl, .inl (SqL.of h2), _, rfl, rfl, _, rfl, iteN ?_ ?_⟩
  · rw [List.length_map, List.length_map, decide_eq_true rfl]
    rfl
  refine ⟨_, rfl, p2, rfl, ⟨_, SqL.of h2⟩, fun D hD => ?_⟩
  have g3 := same_new hD (.lst [])
  refine lc_list (K := K) (a := p2) (xs := (rs.map maskI).map V.int) (fun i H' => ∃ acc : List V, H' D = some (.lst acc) ∧ RowsN (upd H1 D (.lst [])) H' acc (rs.take i) ∧ Same H1 H') ⟨[], upd_same, by rw [List.take_zero]; exact RowsN.nil', g3⟩ (fun i H' _ ⟨_, _, _, g⟩ => SqL.of (g _ _ h2)) (fun i x H' hx ⟨acc, v1, v2, v3⟩ => ?_) ?_
  · rw [List.map_map] at hx
    obtain ⟨row, erow, rfl⟩ := at_map hx
    obtain ⟨pr, epr⟩ := hb row (List.mem_of_getElem? erow)
    have hi := (List.getElem?_eq_some_iff.mp erow).1
    have al : acc.length ≤ i := by
      have := v2.1
      rw [List.length_take] at this
      omega
    refine ⟨rfl, kept ?_⟩
    refine ⟨_, rfl, n, rfl, by omega, by omega, fun D2 hD2 => ?_⟩
    have nD2 : D2 ≠ D := (ne_of_none v1 hD2).symm
    refine lc_it (walk_range (lo := 0) (n := n)) (InvF H' D2 V.int (fun c => decide (c ∈ row)) (iota n)) ⟨upd_same, same_new hD2 _⟩ (fun _ _ _ _ => trivial) (fun j y H2 H3 hj hv hy => ?_) ?_
    · obtain ⟨rfl, hy⟩ := hy
      have hy : y = .int (0 + (j : Int)) := hy
      rw [Int.zero_add] at hy
      subst hy
      have ej := iota_at hj
      refine ⟨rfl, _, rfl, _, rfl, _, _, rfl, rfl, Int.natCast_nonneg _, _, _, rfl, rfl, rfl, _, rfl, ?_⟩
      have eb := bit_at (p := pr) hn hj
      rw [← epr] at eb
      have ev : decide (V.int (Builtin.bitAnd (maskI row / 2 ^ ((j : Nat) : Int).toNat) 1) = V.int 1) = decide ((j : Int) ∈ row) := by
        rw [Int.toNat_natCast, ← eb]
        exact decide_eq_decide.mpr ⟨fun e => V.int.inj e, fun e => by rw [e]⟩
      by_cases hm : (j : Int) ∈ row
      · refine iteC (c := decide (V.int (Builtin.bitAnd (maskI row / 2 ^ ((j : Nat) : Int).toNat) 1) = V.int 1)) (by rw [ev]; exact decide_eq_true hm) ?_
        exact ⟨_, rfl, _, hv.1, InvF.len (by rw [iota_len]; omega), InvF.yes (f := V.int) (H := H3) hD2 hv.2 ej (decide_eq_true hm)⟩
      · refine iteN (c := decide (V.int (Builtin.bitAnd (maskI row / 2 ^ ((j : Nat) : Int).toNat) 1) = V.int 1)) (by rw [ev]; exact decide_eq_false hm) ?_
        exact hv.no ej (decide_eq_false hm)
    rintro H3 ⟨hd2, g2⟩
    rw [List.take_of_length_le (by rw [iota_len]; exact Nat.le_refl _), show (iota n).filter (fun c => decide (c ∈ row)) = row by rw [epr]; exact filter_mem] at hd2
    have hpD : upd H1 D (.lst []) D2 = none := by
      rw [upd_ne nD2]
      exact v3.free hD2
    refine ⟨acc, g2 _ _ v1, small1000 (by omega), acc ++ [.ref D2], upd_same, ?_, same_over (v3.trans g2) hD _⟩
    rw [List.take_succ, erow, Option.toList_some]
    exact ((v2.same g2).snoc hpD hd2).upd upd_same
  rintro H3 ⟨acc, v1, v2, v3⟩
  rw [List.length_map, List.length_map, List.take_length] at v2
  exact q D acc H3 (g1.trans v3) (g1.free hD) v1 (v2.weak fun b hb => g1.free (g3.free hb))
end
end Lw
namespace Lw
open PySem L2 DcT
theorem no_num {c : Nat} (h : c ≠ 45 ∧ ¬ (48 ≤ c ∧ c ≤ 57)) (n : Int) : c ∉ TL.tl (numS n) := numS_no h n
theorem trS_join (p : Nat × Int × Nat) : trS p = Txt.join ":" [numS (p.1 : Nat), numS p.2.1, numS (p.2.2 : Nat)] := by
  refine TL.ext_tl ?_
  rw [TL.join_eq, TL.tl_join]
  unfold trS
  simp [TL.joinL, TL.tl_append, TL.tl]
  rfl
theorem trS_split (p : Nat × Int × Nat) : Txt.split (trS p) ":" = [numS (p.1 : Nat), numS p.2.1, numS (p.2.2 : Nat)] := by
  rw [trS_join]
  refine TL.split_join (y := ":") (s := 58) (S := []) (by decide +kernel) (by decide +kernel) (by simp) fun q hq => ?_
  simp only [List.mem_cons, List.not_mem_nil, or_false] at hq
  rcases hq with rfl | rfl | rfl <;> exact no_num (by decide) _
theorem trS_slash (p : Nat × Int × Nat) : trS p ≠ ("/" : Str) := fun e => by
  have h := congrArg (fun s => Txt.split s ":") e
  rw [trS_split] at h
  have z : Txt.split ("/" : Str) ":" = [("/" : Str)] := by
    have q := TL.split_join (y := ":") (s := 58) (S := []) (by decide +kernel) (by decide +kernel) (parts := [("/" : Str)]) (by simp) (fun p hp => by rw [List.mem_singleton.mp hp]; decide +kernel)
    have e1 : Txt.join ":" [("/" : Str)] = "/" := by decide +kernel
    rwa [e1] at q
  have h : [numS (p.1 : Nat), numS p.2.1, numS (p.2.2 : Nat)] = [("/" : Str)] := h.trans z
  have := congrArg List.length h
  simp at this
abbrev It3 := Option (Nat × Int × Nat)
def itW : It3 → V
  | none => .str "/"
  | some p => .str (trS p)
def trI (p : Nat × Int × Nat) : List Int := [((p.1 : Nat) : Int), p.2.1, ((p.2.2 : Nat) : Int)]
abbrev s_hashed_rows : Stmt := topS 48
abbrev n_hashed_rows : List Str := ["words", "size", "upper_count", "entries", "word", "entry", "found", "c", "upper"]
theorem sc_hashed_rows : FnScope n_hashed_rows ["words", "size", "upper_count"] (defScope s_hashed_rows) := ⟨rfl, rfl, rfl, by decide +kernel, rfl, by decide +kernel, by decide +kernel⟩
def spHsr (K : PySem.W.Frag) : Sp := fun vs H Q _ => ∃ (a : Addr) (n : Nat) (its : List It3) (rs : List (List Int)), vs = [.ref a, .int (n : Nat), .int ((rs.length : Nat) : Int)] ∧ SqL K H a (its.map itW) ∧ its.length ≤ 10000 ∧ (∀ p, some p ∈ its → p.1 ≤ 900 ∧ (0 ≤ p.2.1 ∧ p.2.1 ≤ 100) ∧ p.2.2 ≤ 900) ∧ RowsQ rs ∧ n ≤ 6 ∧ RowsBelow n rs ∧
  (∀ (u : Nat) (c : Int), (∃ p, some p ∈ its ∧ p.1 = u ∧ p.2.1 = c) ↔ ∃ r, rs[u]? = some r ∧ c ∈ r) ∧ rOut H rs Q
section
variable {P : Program} {w : World} {K : PySem.W.Frag} {mg : Str → Option Value} {base : Heap} {f : Addr} {fd : FuncData}
theorem ok_hashed_rows (F : Fun K "hashed_rows" "hashed_rows" s_hashed_rows f fd) (B : Bt mg) (zAny : mg "any" = none) (cI : Ca P w K mg base 2 "integers_in" ["words"] (spIin K)) : FnOk P w K mg base CX0 3 f fd ["words", "size", "upper_count"] (spHsr K) := by
  refine F.ok sc_hashed_rows (fun vs H Q E h => ?_) (fun cdv A outer s H vs Q E hr h => ?_)
  · obtain ⟨a, n, its, rs, rfl, _⟩ := h
    rfl
  obtain ⟨a, n, its, rs, rfl, ha, hil, hit, ⟨l1, l2, hc⟩, hn, hb, hmem, q⟩ := h
  refine ⟨_, (pss_cons (ps_setLc (i := 3) (own := [("word", 4)]) (g := (gName 4)) (tt := tTest (tOp rNe (tVar 4) (tC (.str "/")))) rfl sc_hashed_rows.nd rfl rfl (sw_true rfl rfl rfl (by decide +kernel)) (pi_list (pv 0)) (blkOk_by (N := n_hashed_rows) (sc := defScope s_hashed_rows) (by decide +kernel)) (fun _ _ _ _ _ => (pg_name (i := 4) sc_hashed_rows.nd rfl (Or.inl rfl))) (fun _ _ _ _ _ => (pts_one (pt_cmpR op_ne (pv 4) pe_str (nomark _)))) (fun _ _ _ _ _ => (pca cI hr (by decide) rfl (pa_cons (pe_split (pv 4) pe_str) pa_nil))))
(pss_cons (ps_if (pt_val (pe_callB (cr_any rfl) (by rfl) zAny (by decide +kernel) (pa_cons (pe_lc (own := [("entry", 5)]) (g := (gName 5)) (tt := tYes) (te := tOrV (tOp rIsN (tVar 5) (tC .non)) (tOp rNe (tCB (fun xs H Q => ∃ p ys, xs = [V.ref p] ∧ (SqL K H p ys ∨ SqT K H p ys) ∧ Q (.int ys.length) H) (tCons (tVar 5) tNil)) (tC (.int 3)))) rfl sc_hashed_rows.nd (pi_list (pv 3)) (blkOk_by (N := n_hashed_rows) (sc := defScope s_hashed_rows) (by decide +kernel)) (fun _ _ _ _ _ => (pg_name (i := 5) sc_hashed_rows.nd rfl (Or.inl rfl))) (fun _ _ _ _ _ => pts_nil) (fun _ _ _ _ _ => (pe_or (pe_cmpR op_isN (pv 5) pe_non (nomark _)) (pe_one (pe_cmpR op_ne (pe_callB call_len_seq (by rfl) B.len PySem.boot_len (pa_cons (pv 5) pa_nil)) pe_int (nomark _)))))) pa_nil)))
(pss_one (ps_ret pe_non)) pss_nil)
(pss_cons (ps_set (i := 6) sc_hashed_rows.nd rfl (Or.inr rfl) (pe_dcT (own := [("entry", 5)]) (g := gName 5) (tt := tYes) (tk := tTup (tCons (tOp (rIxL K) (tVar 5) (tC (.int 0))) (tCons (tOp (rIxL K) (tVar 5) (tC (.int 1))) tNil))) (tv := tC (.bl true)) (room0 hr) rfl sc_hashed_rows.nd (pi_list (pv 3)) (blkOk_by (N := n_hashed_rows) (sc := defScope s_hashed_rows) (by decide +kernel)) (fun _ _ _ _ _ => pg_name (i := 5) sc_hashed_rows.nd rfl (Or.inl rfl)) (fun _ _ _ _ _ => pts_nil) (fun _ _ _ _ _ => pe_tup (pa_cons (pe_ix ix_list (pv 5) pe_int (fun _ _ => rfl)) (pa_cons (pe_ix ix_list (pv 5) pe_int (fun _ _ => rfl)) pa_nil))) (fun _ _ _ _ _ => pe_bl)))
(pss_one (ps_ret (pe_lc (own := [("upper", 8)]) (g := (gName 8)) (tt := tYes) rfl sc_hashed_rows.nd (pi_range1 (by rfl) B.range (pa_cons (pv 2) pa_nil)) (blkOk_by (N := n_hashed_rows) (sc := defScope s_hashed_rows) (by decide +kernel)) (fun _ _ _ _ _ => (pg_name (i := 8) sc_hashed_rows.nd rfl (Or.inr rfl))) (fun _ _ _ _ _ => pts_nil) (fun _ _ _ _ _ => (pe_lc (own := [("c", 7)]) (g := (gName 7)) (te := tVar 7) rfl sc_hashed_rows.nd (pi_range1 (by rfl) B.range (pa_cons (pv 1) pa_nil)) (blkOk_by (N := n_hashed_rows) (by with_unfolding_all rfl)) (fun _ _ _ _ _ => (pg_name (i := 7) sc_hashed_rows.nd rfl (Or.inl rfl))) (fun _ _ _ _ _ => (pts_one (pt_cmp (pc_din (hu_of hr) (pe_tup (pa_cons (pv 8) (pa_cons (pv 7) pa_nil))) (pv 6))))) (fun _ _ _ _ _ => (pv 7)))))))))), ?_⟩
  refine ⟨_, rfl, a, rfl, ⟨_, ha⟩, fun D hD => ?_⟩
  have gD := same_new hD (.lst [])
  refine lc_list (K := K) (a := a) (xs := its.map itW) (fun i H' => ∃ acc : List V, H' D = some (.lst acc) ∧ RowsN (upd H D (.lst [])) H' acc (((its.take i).filterMap id).map trI) ∧ Same H H') ⟨[], upd_same, by rw [List.take_zero]; exact RowsN.nil', gD⟩ (fun i H' _ ⟨_, _, _, g⟩ => seqL g ha) (fun i x H' hx ⟨acc, v1, v2, v3⟩ => ?_) ?_
  · obtain ⟨o, eo, rfl⟩ := at_map hx
    have hi := (List.getElem?_eq_some_iff.mp eo).1
    have al : acc.length ≤ 10000 := by
      have h1 := v2.1
      have h2 := List.length_filterMap_le (f := (id : It3 → It3)) (l := its.take i)
      rw [List.length_map] at h1
      rw [List.length_take] at h2
      omega
    cases o with
    | none =>
      refine ⟨rfl, _, rfl, rfl, _, rfl, iteN ?_ ⟨acc, v1, ?_, v3⟩⟩
      · show (!decide (V.str "/" = V.str "/")) = false
        rw [decide_eq_true rfl]
        rfl
      · rw [List.take_succ, eo, Option.toList_some, List.filterMap_append, List.filterMap_cons_none rfl, List.filterMap_nil, List.append_nil]
        exact v2
    | some p =>
      obtain ⟨p1, p2, p3⟩ := hit p (List.mem_of_getElem? eo)
      have tl20 := (trS_len ⟨p1, p2, p3⟩).2.2.2.2
      refine ⟨rfl, _, rfl, rfl, _, rfl, iteC ?_ ?_⟩
      · show (!decide (V.str (trS p) = V.str "/")) = true
        rw [decide_eq_false (fun e => trS_slash p (V.str.inj e))]
        rfl
      refine ⟨_, rfl, ⟨_, rfl⟩, _, _, rfl, rfl, by decide +kernel, Nat.le_trans (show (trS p).length + 2 ≤ 22 by omega) (by decide), ?_⟩
      rw [trS_split]
      intro b hb
      have g1 := same_new hb (.lst (([numS (p.1 : Nat), numS p.2.1, numS (p.2.2 : Nat)] : List Str).map V.str))
      refine ⟨b, trI p, rfl, SqL.of upd_same, fun z hz => ?_, (by show 3 ≤ 10000; decide), fun r H4 g4 nr hr' => ?_⟩
      · unfold trI at hz
        simp only [List.mem_cons, List.not_mem_nil, or_false] at hz
        rcases hz with rfl | rfl | rfl <;> exact numOk_few (by omega)
      have g14 := g1.trans g4
      have nr0 := g1.free nr
      have hrD : upd H D (.lst []) r = none := by
        rw [upd_ne (ne_of_none v1 nr0).symm]
        exact v3.free nr0
      refine ⟨acc, g14 _ _ v1, small10000 al, acc ++ [.ref r], upd_same, ?_, same_over (v3.trans g14) hD _⟩
      rw [List.take_succ, eo, Option.toList_some, List.filterMap_append, List.map_append]
      exact ((v2.same g14).snoc hrD hr').upd upd_same
  rw [List.length_map, List.take_length]
  rintro H1 ⟨acc, v1, v2, v3⟩
  generalize eps : its.filterMap id = ps at v2
  have pmem : ∀ p, p ∈ ps ↔ some p ∈ its := fun p => by
    rw [← eps, List.mem_filterMap]
    exact ⟨fun ⟨o, h1, h2⟩ => by cases h2; exact h1, fun h => ⟨some p, h, rfl⟩⟩
  have psl : ps.length ≤ 10000 := by
    rw [← eps]
    exact Nat.le_trans (List.length_filterMap_le ..) hil
  have acl : acc.length = ps.length := by
    have := v2.1
    rw [List.length_map] at this
    exact this
  have accAt : ∀ (H' : Hp) (i : Nat) (x : V), Same H1 H' → acc[i]? = some x → ∃ (p : Nat × Int × Nat) (b : Addr), ps[i]? = some p ∧ x = .ref b ∧ H' b = some (.lst ((trI p).map V.int)) := fun H' i x g hx => by
    have hi := (List.getElem?_eq_some_iff.mp hx).1
    have ep : ps[i]? = some (ps[i]'(by omega)) := List.getElem?_eq_getElem (by omega)
    obtain ⟨b, e1, _, e3⟩ := v2.2 i x _ hx (by rw [List.getElem?_map, ep] <;> rfl)
    exact ⟨_, b, ep, e1, g _ _ e3⟩
  refine ⟨_, rfl, D, rfl, ⟨_, SqL.of v1⟩, fun D2 hD2 => ?_⟩
  refine lc_list (K := K) (a := D) (xs := acc) (InvM H1 D2 (fun _ : V => V.bl false) acc) ⟨upd_same, same_new hD2 _⟩ (fun i H' _ ⟨_, g⟩ => SqL.of (g _ _ v1)) (fun i x H' hx hv => ?_) ?_
  · obtain ⟨p, b, ep, rfl, hb3⟩ := accAt H' i x hv.2 hx
    refine ⟨rfl, kept ⟨_, rfl, rfl, _, rfl, iteN (decide_eq_false (fun e => by cases e)) ?_⟩⟩
    refine ⟨_, rfl, b, _, rfl, .inl (SqL.of hb3), rfl, ?_⟩
    have e : (!decide (V.int ((((trI p).map V.int).length : Nat) : Int) = V.int 3)) = false := by
      rw [decide_eq_true (show V.int ((((trI p).map V.int).length : Nat) : Int) = V.int 3 from rfl)]
      rfl
    rw [e]
    exact ⟨_, hv.1, len_m4 (by omega), InvM.next (f := fun _ : V => V.bl false) hD2 hv.2 hx _ rfl⟩
  rintro H2 ⟨hd2, g2⟩
  rw [List.take_length] at hd2
  refine ⟨D2, acc.map (fun _ => false), rfl, SqL.of (by rw [hd2, List.map_map] <;> rfl), ?_⟩
  have an : ∀ l : List V, (l.map fun _ => false).any id = false := fun l => by
    induction l with
    | nil => rfl
    | cons x l ih => rw [List.map_cons, List.any_cons, ih] <;> rfl
  rw [an]
  refine ⟨_, rfl, iteF ?_⟩
  have v12 := g2 _ _ v1
  refine ⟨_, rfl, D, rfl, ⟨_, SqL.of v12⟩, fun D3 hD3 => ?_⟩
  refine DcT.dcT_it (walk_list (K := K) (a := D) (xs := acc)) (fun i H' => ∃ ds : List (List Int), H' D3 = some (.dT (ds.map ledK)) ∧ (∀ k, k ∈ ds ↔ ∃ p ∈ ps.take i, k = [((p.1 : Nat) : Int), p.2.1]) ∧ ds.length ≤ i ∧ Same H2 H') ⟨[], upd_same, fun k => ⟨fun h => (by cases h), fun ⟨p, hp, _⟩ => (by rw [List.take_zero] at hp; cases hp)⟩, Nat.le_refl _, same_new hD3 _⟩ (fun i H' _ ⟨_, _, _, _, g⟩ => SqL.of (g _ _ v12)) (fun i x H3 H4 hi hv hy => ?_) ?_
  · obtain ⟨rfl, hx⟩ := hy
    obtain ⟨ds, u1, u2, u3, u4⟩ := hv
    obtain ⟨p, b, ep, rfl, hb3⟩ := accAt H4 i x (g2.trans u4) hx
    refine ⟨rfl, ?_⟩
    refine ⟨_, rfl, b, _, 0, .int ((p.1 : Nat) : Int), rfl, rfl, SqL.of hb3, atI_nat (j := 0) rfl, _, rfl, b, _, 1, .int p.2.1, rfl, rfl, SqL.of hb3, atI_nat (j := 1) rfl, (by show 2 ≤ sizeLine; decide), fun t ht => ?_⟩
    have gt := same_new ht (.tup [.int ((p.1 : Nat) : Int), .int p.2.1])
    refine ⟨_, DPut.t (k := ([((p.1 : Nat) : Int), p.2.1] : List Int).map Sum.inl) (gt _ _ u1) (by rw [keyI]; exact upd_same) (by rw [List.length_map]; exact small10000 (by omega)), addP ds [((p.1 : Nat) : Int), p.2.1], by rw [upd_same, put_led], fun k => ?_, ?_, same_over (u4.trans gt) hD3 _⟩
    · rw [addP_mem, u2 k, List.take_succ, ep, Option.toList_some]
      constructor
      · rintro (⟨p', h1, h2⟩ | h)
        · exact ⟨p', List.mem_append_left _ h1, h2⟩
        · exact ⟨p, List.mem_append_right _ (List.mem_singleton.mpr rfl), h⟩
      · rintro ⟨p', h1, h2⟩
        rcases List.mem_append.mp h1 with h1 | h1
        · exact .inl ⟨p', h1, h2⟩
        · rw [List.mem_singleton.mp h1] at h2
          exact .inr h2
    · have := addP_len ds [((p.1 : Nat) : Int), p.2.1]
      omega
  rw [acl, List.take_length]
  rintro H3 ⟨ds, u1, u2, u3, u4⟩
  have din : ∀ (u : Nat) (c : Int), ([((u : Nat) : Int), c] ∈ ds) ↔ ∃ r, rs[u]? = some r ∧ c ∈ r := fun u c => by
    rw [u2, ← hmem u c]
    constructor
    · rintro ⟨p, hp, e⟩
      injection e with e1 e2
      injection e2 with e2 _
      exact ⟨p, (pmem p).mp hp, by omega, e2.symm⟩
    · rintro ⟨p, hp, e1, e2⟩
      exact ⟨p, (pmem p).mpr hp, by rw [e1, e2]⟩
  have g03 := (v3.trans g2).trans u4
  refine ⟨_, rfl, rs.length, rfl, by omega, by omega, fun D4 hD4 => ?_⟩
  have g4 := same_new hD4 (.lst [])
  refine lc_range (lo := 0) (n := rs.length) (fun i H' => ∃ acc : List V, H' D4 = some (.lst acc) ∧ RowsN (upd H3 D4 (.lst [])) H' acc (rs.take i) ∧ Same H3 H') ⟨[], upd_same, by rw [List.take_zero]; exact RowsN.nil', g4⟩ (fun i H' hi ⟨acc2, w1, w2, w3⟩ => ?_) ?_
  · obtain ⟨row, erow⟩ : ∃ row, rs[i]? = some row := ⟨rs[i], List.getElem?_eq_getElem hi⟩
    obtain ⟨pr, epr⟩ := hb row (List.mem_of_getElem? erow)
    have al : acc2.length ≤ i := by
      have := w2.1
      rw [List.length_take] at this
      omega
    refine ⟨rfl, kept ?_⟩
    refine ⟨_, rfl, n, rfl, by omega, by omega, fun D5 hD5 => ?_⟩
    have nD5 : D5 ≠ D4 := (ne_of_none w1 hD5).symm
    refine lc_it (walk_range (lo := 0) (n := n)) (InvF H' D5 V.int (fun c => decide (c ∈ row)) (iota n)) ⟨upd_same, same_new hD5 _⟩ (fun _ _ _ _ => trivial) (fun j y H5 H6 hj hv hy => ?_) ?_
    · obtain ⟨rfl, hy⟩ := hy
      have hy : y = .int (0 + (j : Int)) := hy
      rw [Int.zero_add] at hy
      subst hy
      have ej := iota_at hj
      refine ⟨rfl, _, rfl, _, rfl, (by show 2 ≤ sizeLine; decide), fun t ht => ?_⟩
      rw [Int.zero_add]
      have gt := same_new ht (.tup [.int ((i : Nat) : Int), .int ((j : Nat) : Int)])
      have hv3 : InvF H' D5 V.int (fun c => decide (c ∈ row)) (iota n) j (upd H6 t (.tup [.int ((i : Nat) : Int), .int ((j : Nat) : Int)])) := ⟨gt _ _ hv.1, hv.2.trans gt⟩
      have get := DGet.t (k := ([((i : Nat) : Int), ((j : Nat) : Int)] : List Int).map Sum.inl) (hv3.2 _ _ (w3 _ _ u1)) (b := t) (by rw [keyI]; exact upd_same)
      refine ⟨_, rfl, D3, _, rfl, get, _, rfl, ?_⟩
      rw [led_val]
      have em : [((i : Nat) : Int), ((j : Nat) : Int)] ∈ ds ↔ ((j : Nat) : Int) ∈ row := by
        rw [din]
        exact ⟨fun ⟨r, e1, e2⟩ => by rw [erow] at e1; cases e1; exact e2, fun h => ⟨row, erow, h⟩⟩
      by_cases hm : ((j : Nat) : Int) ∈ row
      · rw [decide_eq_true (em.mpr hm)]
        exact iteT ⟨_, rfl, _, hv3.1, InvF.len (by rw [iota_len]; omega), InvF.yes (f := V.int) (H := H') hD5 hv3.2 ej (decide_eq_true hm)⟩
      · rw [decide_eq_false (fun h => hm (em.mp h))]
        exact iteF (hv3.no ej (decide_eq_false hm))
    rintro H5 ⟨hd5, g5⟩
    rw [List.take_of_length_le (by rw [iota_len]; exact Nat.le_refl _), show (iota n).filter (fun c => decide (c ∈ row)) = row by rw [epr]; exact filter_mem] at hd5
    have hpD : upd H3 D4 (.lst []) D5 = none := by
      rw [upd_ne nD5]
      exact w3.free hD5
    refine ⟨acc2, g5 _ _ w1, small1000 (by omega), acc2 ++ [.ref D5], upd_same, ?_, same_over (w3.trans g5) hD4 _⟩
    rw [List.take_succ, erow, Option.toList_some]
    exact ((w2.same g5).snoc hpD hd5).upd upd_same
  rintro H4 ⟨acc2, w1, w2, w3⟩
  rw [List.take_length] at w2
  exact q D4 acc2 H4 (g03.trans w3) (g03.free hD4) w1 (w2.weak fun b hb => g03.free (g4.free hb))
end
end Lw
namespace Lw
open PySem L2 DcT
/-- the items of a line of a hashed level -/
def itsH (rs : List (List Int)) : List It3 := ((List.range 8).map fun b => (bktT (prsT rs rs.length) (prsT rs rs.length).length b).map some ++ [none]).flatten
/-- the words behind the kind -/
def wdsS (kind : Str) (rs : List (List Int)) : List V := if kind = "dense" then [] else if kind = "packed" then (halfS (stI rs) rs.flatten).map V.str else if kind = "bits" then (halfS (stI rs) (rs.map maskI)).map V.str else (itsH rs).map itW
theorem itsH_words (rs : List (List Int)) : (itsH rs).map itW = bksW rs 8 := by
  unfold itsH bksW
  rw [List.map_flatten, List.map_map]
  congr 1
  refine List.map_congr_left fun b _ => ?_
  show List.map itW (_ ++ [none]) = bkW rs b
  unfold bkW
  rw [List.map_append, List.map_map]
  rfl
theorem itsH_len {rs : List (List Int)} (h : FewR rs) : (itsH rs).length ≤ 10000 := by
  have e := congrArg List.length (itsH_words rs)
  rw [List.length_map] at e
  have := bksW_len h 8
  omega
theorem itsH_ok {rs : List (List Int)} (h : FewR rs) : ∀ p, some p ∈ itsH rs → p.1 ≤ 900 ∧ (0 ≤ p.2.1 ∧ p.2.1 ≤ 100) ∧ p.2.2 ≤ 900 := fun p hp => by
  unfold itsH at hp
  obtain ⟨l, hl, hpl⟩ := List.mem_flatten.mp hp
  obtain ⟨b, _, rfl⟩ := List.mem_map.mp hl
  rcases List.mem_append.mp hpl with h1 | h1
  · obtain ⟨p', hp', e⟩ := List.mem_map.mp h1
    cases e
    exact h.ent (Nat.le_refl _) hp'
  · cases List.mem_singleton.mp h1
theorem prsT_iff {rs : List (List Int)} {u : Nat} {c : Int} : ∀ i, i ≤ rs.length → ((u, c) ∈ prsT rs i ↔ u < i ∧ ∃ r, rs[u]? = some r ∧ c ∈ r)
  | 0, _ => ⟨fun h => (by cases h), fun h => absurd h.1 (Nat.not_lt_zero _)⟩
  | i + 1, hi => by
    have e := List.getElem?_eq_getElem (l := rs) (i := i) (by omega)
    rw [prsT_next e, List.mem_append, prsT_iff i (by omega)]
    constructor
    · rintro (⟨h1, h2⟩ | h)
      · exact ⟨by omega, h2⟩
      · obtain ⟨c', hc', eq⟩ := List.mem_map.mp h
        cases eq
        exact ⟨Nat.lt_succ_self _, _, e, hc'⟩
    · rintro ⟨h1, r, h2, h3⟩
      by_cases c : u = i
      · subst c
        rw [e] at h2
        cases h2
        exact .inr (List.mem_map.mpr ⟨_, h3, rfl⟩)
      · exact .inl ⟨by omega, r, h2, h3⟩
theorem itsH_mem {rs : List (List Int)} (h : FewR rs) (u : Nat) (c : Int) : (∃ p, some p ∈ itsH rs ∧ p.1 = u ∧ p.2.1 = c) ↔ ∃ r, rs[u]? = some r ∧ c ∈ r := by
  have key : (u, c) ∈ prsT rs rs.length ↔ ∃ r, rs[u]? = some r ∧ c ∈ r := by
    rw [prsT_iff rs.length (Nat.le_refl _)]
    exact ⟨fun q => q.2, fun ⟨r, h1, h2⟩ => ⟨(List.getElem?_eq_some_iff.mp h1).1, r, h1, h2⟩⟩
  rw [← key]
  constructor
  · rintro ⟨p, hp, e1, e2⟩
    unfold itsH at hp
    obtain ⟨l, hl, hpl⟩ := List.mem_flatten.mp hp
    obtain ⟨b, _, rfl⟩ := List.mem_map.mp hl
    rcases List.mem_append.mp hpl with h1 | h1
    · obtain ⟨p', hp', e⟩ := List.mem_map.mp h1
      cases e
      unfold bktT at hp'
      obtain ⟨m, hm, rfl⟩ := List.mem_map.mp hp'
      have hm := List.mem_range.mp (List.mem_filter.mp hm).1
      have em : (prsT rs rs.length).getD m (0, 0) = (prsT rs rs.length)[m] := by rw [List.getD_eq_getElem?_getD, List.getElem?_eq_getElem hm] <;> rfl
      unfold entP at e1 e2
      rw [em] at e1 e2
      have e : (prsT rs rs.length)[m] = (u, c) := Prod.ext e1 e2
      rw [← e]
      exact List.getElem_mem hm
    · cases List.mem_singleton.mp h1
  · intro hp
    obtain ⟨m, hm⟩ := List.getElem?_of_mem hp
    have hml := (List.getElem?_eq_some_iff.mp hm).1
    have em : (prsT rs rs.length).getD m (0, 0) = (u, c) := by rw [List.getD_eq_getElem?_getD, hm] <;> rfl
    have hc : 0 ≤ c := by
      obtain ⟨r, h1, h2⟩ := key.mp hp
      exact (h.c r (List.mem_of_getElem? h1) c h2).1
    refine ⟨entP (prsT rs rs.length) m, ?_, by unfold entP; rw [em], by unfold entP; rw [em]⟩
    unfold itsH
    refine List.mem_flatten.mpr ⟨_, List.mem_map.mpr ⟨((((u : Nat) : Int) * 3 + c) % 8).toNat, List.mem_range.mpr (by omega), rfl⟩, List.mem_append_left _ (List.mem_map.mpr ⟨_, ?_, rfl⟩)⟩
    unfold bktT
    refine List.mem_map.mpr ⟨m, List.mem_filter.mpr ⟨List.mem_range.mpr hml, ?_⟩, rfl⟩
    unfold inB
    rw [em]
    exact decide_eq_true (by show (((u : Nat) : Int) * 3 + c) % 8 = _; omega)
abbrev s_seeming_rows : Stmt := topS 49
abbrev n_seeming_rows : List Str := ["kind", "size", "upper_count", "words", "upper"]
theorem sc_seeming_rows : FnScope n_seeming_rows ["kind", "size", "upper_count", "words"] (defScope s_seeming_rows) := ⟨rfl, rfl, rfl, by decide +kernel, rfl, by decide +kernel, by decide +kernel⟩
theorem FewR.q {rs : List (List Int)} (h : FewR rs) : RowsQ rs := ⟨h.l1, h.l2, fun r hr c hc => by have := h.c r hr c hc; omega⟩
theorem mask_num {rs : List (List Int)} (h : FewR rs) : ∀ r ∈ rs, NumOk (maskI r) := fun r hr => by
  have h1 := mask_le r (h.c r hr)
  have h2 := h.w r hr
  exact numOk_few (by omega)
def spSmr (K : PySem.W.Frag) : Sp := fun vs H Q _ => ∃ (kind : Str) (n : Nat) (a : Addr) (rs : List (List Int)), vs = [.str kind, .int (n : Nat), .int ((rs.length : Nat) : Int), .ref a] ∧ kind ∈ KINDS ∧ SqL K H a (wdsS kind rs) ∧ FewR rs ∧ n ≤ 6 ∧ RowsBelow n rs ∧ (kind = "dense" → ∀ r ∈ rs, r = iota n) ∧ rOut H rs Q
section
variable {P : Program} {w : World} {K : PySem.W.Frag} {mg : Str → Option Value} {base : Heap} {f : Addr} {fd : FuncData}
theorem ok_seeming_rows (F : Fun K "seeming_rows" "seeming_rows" s_seeming_rows f fd) (B : Bt mg) (cP : Ca P w K mg base 4 "packed_rows" ["words", "upper_count"] (spPkd K)) (cB : Ca P w K mg base 4 "bits_rows" ["words", "size", "upper_count"] (spBtr K)) (cH : Ca P w K mg base 3 "hashed_rows" ["words", "size", "upper_count"] (spHsr K)) : FnOk P w K mg base CX0 5 f fd ["kind", "size", "upper_count", "words"] (spSmr K) := by
  refine F.ok sc_seeming_rows (fun vs H Q E h => ?_) (fun cdv A outer s H vs Q E hr h => ?_)
  · obtain ⟨kind, n, a, rs, rfl, _⟩ := h
    rfl
  obtain ⟨kind, n, a, rs, rfl, hk, ha, hf, hn, hb, hdn, q⟩ := h
  have l1 := hf.l1
  refine ⟨_, (pss_cons (ps_if (pt_cmpR op_eq (pv 0) pe_str (nomark _))
(pss_one (ps_ret (pe_lc (own := [("upper", 4)]) (g := (gName 4)) (tt := tYes) rfl sc_seeming_rows.nd (pi_range1 (by rfl) B.range (pa_cons (pv 2) pa_nil)) (blkOk_by (N := n_seeming_rows) (sc := defScope s_seeming_rows) (by decide +kernel)) (fun _ _ _ _ _ => (pg_name (i := 4) sc_seeming_rows.nd rfl (Or.inl rfl))) (fun _ _ _ _ _ => pts_nil) (fun _ _ _ _ _ => (pe_listRg rfl (by rfl) B.lst (prg_1 (by rfl) B.range (pv 1))))))) pss_nil)
(pss_cons (ps_if (pt_cmpR op_eq (pv 0) pe_str (nomark _))
(pss_one (ps_ret (pca cP hr (by decide) rfl (pa_cons (pv 3) (pa_cons (pv 2) pa_nil))))) pss_nil)
(pss_cons (ps_if (pt_cmpR op_eq (pv 0) pe_str (nomark _))
(pss_one (ps_ret (pca cB hr (by decide) rfl (pa_cons (pv 3) (pa_cons (pv 1) (pa_cons (pv 2) pa_nil)))))) pss_nil)
(pss_one (ps_ret (pca cH hr (by decide) rfl (pa_cons (pv 3) (pa_cons (pv 1) (pa_cons (pv 2) pa_nil))))))))), ?_⟩
  rcases kinds_four hk with rfl | rfl | rfl | rfl
  · refine ⟨_, rfl, rfl, _, rfl, iteC (decide_eq_true rfl) ?_⟩
    refine ⟨_, rfl, rs.length, rfl, by omega, by omega, fun D hD => ?_⟩
    have g3 := same_new hD (.lst [])
    refine lc_range (lo := 0) (n := rs.length) (fun i H' => ∃ acc : List V, H' D = some (.lst acc) ∧ RowsN (upd H D (.lst [])) H' acc (rs.take i) ∧ Same H H') ⟨[], upd_same, by rw [List.take_zero]; exact RowsN.nil', g3⟩ (fun i H' hi ⟨acc, v1, v2, v3⟩ => ?_) ?_
    · obtain ⟨row, erow⟩ : ∃ row, rs[i]? = some row := ⟨rs[i], List.getElem?_eq_getElem hi⟩
      have er := hdn rfl row (List.mem_of_getElem? erow)
      have al : acc.length ≤ i := by
        have := v2.1
        rw [List.length_take] at this
        omega
      refine ⟨rfl, kept ?_⟩
      refine ⟨_, rfl, (n : Int), rfl, RgOk.of_le (by decide) (by omega) (by decide) (by omega), fun t ht => ?_⟩
      rw [rg_iota, ← er]
      have g4 := same_new ht (.lst (row.map V.int))
      have htD : upd H D (.lst []) t = none := by
        rw [upd_ne (ne_of_none v1 ht).symm]
        exact v3.free ht
      refine ⟨acc, g4 _ _ v1, small1000 (by omega), acc ++ [.ref t], upd_same, ?_, same_over (v3.trans g4) hD _⟩
      rw [List.take_succ, erow, Option.toList_some]
      exact ((v2.same g4).snoc htD upd_same).upd upd_same
    rintro H3 ⟨acc, v1, v2, v3⟩
    rw [List.take_length] at v2
    exact q D acc H3 v3 hD v1 (v2.weak fun b hb => g3.free hb)
  · refine ⟨_, rfl, rfl, _, rfl, iteN (by decide +kernel) ?_⟩
    refine ⟨_, rfl, rfl, _, rfl, iteC (by decide +kernel) ?_⟩
    exact ⟨_, rfl, _, rfl, a, rs, rfl, ha, hf.q, q⟩
  · refine ⟨_, rfl, rfl, _, rfl, iteN (by decide +kernel) ?_⟩
    refine ⟨_, rfl, rfl, _, rfl, iteN (by decide +kernel) ?_⟩
    refine ⟨_, rfl, rfl, _, rfl, iteC (by decide +kernel) ?_⟩
    exact ⟨_, rfl, _, rfl, _, rfl, a, n, rs, rfl, ha, hf.q, hn, hb, mask_num hf, q⟩
  · refine ⟨_, rfl, rfl, _, rfl, iteN (by decide +kernel) ?_⟩
    refine ⟨_, rfl, rfl, _, rfl, iteN (by decide +kernel) ?_⟩
    refine ⟨_, rfl, rfl, _, rfl, iteN (by decide +kernel) ?_⟩
    exact ⟨_, rfl, _, rfl, _, rfl, a, n, itsH rs, rs, rfl, ha, itsH_len hf, itsH_ok hf, hf.q, hn, hb, itsH_mem hf, q⟩
end
end Lw
namespace Lw
open PySem L2 DcT
/-! the line of a level, word by word -/
def lnW (kind : Str) (rs : List (List Int)) : List V := .str kind :: (if kind = "dense" then [] else if kind = "hashed" then bksW rs 8 else startsV rs ++ .str "/" :: toldV kind rs)
theorem lineT_ln (kind : Str) (rs : List (List Int)) : lineT kind rs = joinW (lnW kind rs) := by
  unfold lineT lnW
  by_cases h1 : kind = "dense"
  · rw [if_pos h1, if_pos h1, h1]
    decide +kernel
  rw [if_neg h1, if_neg h1]
  by_cases h2 : kind = "hashed"
  · rw [if_pos h2, if_pos h2, h2]
    rfl
  · rw [if_neg h2, if_neg h2]
    rfl
theorem startsV_st (rs : List (List Int)) : startsV rs = (stI rs).map V.int := by
  unfold startsV stI
  rw [List.map_map]
  rfl
theorem wS_num (ns : List Int) : ((ns.map V.int).map wS).map V.str = ns.map numW := by
  rw [List.map_map, List.map_map]
  rfl
theorem lnW_str {kind : Str} (hk : kind ∈ KINDS) (rs : List (List Int)) : ((lnW kind rs).map wS).map V.str = .str kind :: wdsS kind rs := by
  have half : ∀ as bs : List Int, (((as.map V.int) ++ .str "/" :: bs.map V.int).map wS).map V.str = (halfS as bs).map V.str := fun as bs => by
    unfold halfS
    rw [List.map_append, List.map_cons, List.map_map, List.map_map]
    rfl
  unfold lnW wdsS
  rw [List.map_cons, List.map_cons]
  show V.str kind :: _ = _
  congr 1
  rcases kinds_four hk with rfl | rfl | rfl | rfl
  · rw [if_pos rfl, if_pos rfl]
    rfl
  · rw [if_neg (by decide +kernel), if_neg (by decide +kernel), if_neg (by decide +kernel), if_pos rfl, startsV_st]
    unfold toldV
    rw [if_neg (by decide +kernel)]
    exact half _ _
  · rw [if_neg (by decide +kernel), if_neg (by decide +kernel), if_neg (by decide +kernel), if_neg (by decide +kernel), if_pos rfl, startsV_st]
    unfold toldV
    rw [if_pos rfl]
    have e : masksV rs = (rs.map maskI).map V.int := by
      unfold masksV
      rw [List.map_map]
      rfl
    rw [e]
    exact half _ _
  · rw [if_neg (by decide +kernel), if_pos rfl, if_neg (by decide +kernel), if_neg (by decide +kernel), if_neg (by decide +kernel), ← itsH_words, List.map_map, List.map_map]
    refine List.map_congr_left fun o _ => ?_
    cases o <;> rfl
theorem trS_no {c : Nat} (h : c ≠ 45 ∧ ¬ (48 ≤ c ∧ c ≤ 57)) (h2 : c ≠ 58) (p : Nat × Int × Nat) : NoC c (trS p) := fun hc => by
  unfold trS at hc
  rw [TL.tl_append, TL.tl_append, TL.tl_append, TL.tl_append, TL.tl_append] at hc
  simp only [List.mem_append] at hc
  have e0 : TL.tl Str.empty = [] := rfl
  have e1 : TL.tl (":" : Str) = [58] := by decide +kernel
  rw [e0, e1] at hc
  rcases hc with ((((hc | hc) | hc) | hc) | hc) | hc
  · cases hc
  · exact no_num h _ hc
  · exact h2 (List.mem_singleton.mp hc)
  · exact no_num h _ hc
  · exact h2 (List.mem_singleton.mp hc)
  · exact no_num h _ hc
theorem lnW_no {c : Nat} (h : c ≠ 45 ∧ ¬ (48 ≤ c ∧ c ≤ 57)) (h2 : c ≠ 58 ∧ c ≠ 47) {kind : Str} (hk : NoC c kind) (rs : List (List Int)) : ∀ x ∈ lnW kind rs, NoC c (wS x) := fun x hx => by
  have sl : NoC c ("/" : Str) := fun q => by
    have e1 : TL.tl ("/" : Str) = [47] := by decide +kernel
    rw [e1] at q
    exact h2.2 (List.mem_singleton.mp q)
  unfold lnW at hx
  rcases List.mem_cons.mp hx with rfl | hx
  · exact hk
  split at hx
  · cases hx
  split at hx
  · rw [← itsH_words] at hx
    obtain ⟨o, _, rfl⟩ := List.mem_map.mp hx
    cases o with
    | none => exact sl
    | some p => exact trS_no h h2.1 p
  · rcases List.mem_append.mp hx with hx | hx
    · rw [startsV_st] at hx
      obtain ⟨n, _, rfl⟩ := List.mem_map.mp hx
      exact numS_no h n
    · rcases List.mem_cons.mp hx with rfl | hx
      · exact sl
      · unfold toldV at hx
        split at hx
        · unfold masksV at hx
          obtain ⟨n, _, rfl⟩ := List.mem_map.mp hx
          exact numS_no h _
        · obtain ⟨n, _, rfl⟩ := List.mem_map.mp hx
          exact numS_no h n
theorem kind_no : ∀ k ∈ KINDS, 32 ∉ TL.tl k ∧ 10 ∉ TL.tl k := by decide +kernel
theorem line_split {kind : Str} (hk : kind ∈ KINDS) (rs : List (List Int)) : (Txt.split (lineT kind rs) " ").map V.str = .str kind :: wdsS kind rs := by
  rw [lineT_ln, split_w (by unfold lnW; simp) (lnW_no (by decide) (by decide) (kind_no kind hk).1 rs), lnW_str hk]
abbrev s_rows_in : Stmt := topS 50
abbrev n_rows_in : List Str := ["line", "kind", "size", "upper_count", "rows", "c", "row"]
theorem sc_rows_in : FnScope n_rows_in ["line", "kind", "size", "upper_count"] (defScope s_rows_in) := ⟨rfl, rfl, rfl, by decide +kernel, rfl, by decide +kernel, by decide +kernel⟩
theorem flat_ints9 (ls : List Int) : (ls.map V.int).all flatV = true := by
  rw [List.all_eq_true]
  intro x hx
  obtain ⟨i, _, rfl⟩ := List.mem_map.mp hx
  rfl
theorem dpa_ints9 {K : PySem.W.Frag} {H : Hp} : ∀ ls : List Int, DpAll K H (ls.map V.int) (ls.map PyData.int)
  | [] => .nil
  | z :: r => .cons (.int z) (dpa_ints9 r)
theorem shaped_list9 (p : List Int) : SeqAt.shaped (.list (p.map PyData.int)) = true := by
  obtain ⟨a, b⟩ := lay_ints p
  unfold SeqAt.shaped
  rw [Bool.and_eq_true, decide_eq_true_eq]
  refine ⟨by simp only [PyData.canLay0]; exact a, ?_⟩
  simp only [PyData.depth]
  omega
theorem eqv_self9 (p : List Int) : PyData.eqv (.list (p.map PyData.int)) (.list (p.map PyData.int)) = true := by
  simp only [PyData.eqv]
  rw [eqv_ints, decide_eq_true rfl]
theorem all_true9 : ∀ l : List V, (l.map fun _ => true).all id = true
  | [] => rfl
  | x :: l => by
    rw [List.map_cons, List.all_cons, all_true9 l] <;> rfl
def spRin (K : PySem.W.Frag) : Sp := fun vs H Q _ => ∃ (kind : Str) (n : Nat) (rs : List (List Int)), vs = [.str (lineT kind rs), .str kind, .int (n : Nat), .int ((rs.length : Nat) : Int)] ∧ kind ∈ KINDS ∧ FewR rs ∧ n ≤ 6 ∧ RowsBelow n rs ∧ (kind = "dense" → ∀ r ∈ rs, r = iota n) ∧ rOut H rs Q
section
variable {P : Program} {w : World} {K : PySem.W.Frag} {mg : Str → Option Value} {base : Heap} {f : Addr} {fd : FuncData}
theorem ok_rows_in (F : Fun K "rows_in" "rows_in" s_rows_in f fd) (B : Bt mg) (cS : Ca P w K mg base 5 "seeming_rows" ["kind", "size", "upper_count", "words"] (spSmr K)) (cLv : Ca P w K mg base 3 "level_of" ["kind", "size", "rows"] (spLv K)) (cLn : Ca P w K mg base 2 "level_line" ["level"] (spLine K)) : FnOk P w K mg base CX0 6 f fd ["line", "kind", "size", "upper_count"] (spRin K) := by
  refine F.ok sc_rows_in (fun vs H Q E h => ?_) (fun cdv A outer s H vs Q E hr h => ?_)
  · obtain ⟨kind, n, rs, rfl, _⟩ := h
    rfl
  obtain ⟨kind, n, rs, rfl, hk, hf, hn, hb, hdn, q⟩ := h
  have l1 := hf.l1
  refine ⟨_, (pss_cons (ps_set (i := 4) sc_rows_in.nd rfl (Or.inl rfl) (pca cS hr (by decide) rfl (pa_cons (pv 1) (pa_cons (pv 2) (pa_cons (pv 3) (pa_cons (pe_slice sl_list (pe_split (pv 0) pe_str) (po_some pe_int) po_none) pa_nil))))))
(pss_cons (ps_if (pt_cmpR op_isN (pv 4) pe_non (nomark _))
(pss_one (ps_ret pe_non)) pss_nil)
(pss_cons (ps_if (pt_not (pt_val (pe_callB (cr_all rfl) (by rfl) B.all (by decide +kernel) (pa_cons (pe_lc (own := [("row", 6)]) (g := (gName 6)) (tt := tYes) (te := tOp (rEqD K) (tVar 6) (tLc (iRng1 (tCons (tVar 2) tNil)) (gName 5) (tTest (tOp (rIn K false) (tVar 5) (tVar 6))) (tVar 5) [5])) rfl sc_rows_in.nd (pi_list (pv 4)) (blkOk_by (N := n_rows_in) (sc := defScope s_rows_in) (by decide +kernel)) (fun _ _ _ _ _ => (pg_name (i := 6) sc_rows_in.nd rfl (Or.inr rfl))) (fun _ _ _ _ _ => pts_nil) (fun _ _ _ _ _ => (pe_cmpR (op_eqD hr.units) (pv 6) (pe_lc (own := [("c", 5)]) (g := (gName 5)) (tt := tTest (tOp (rIn K false) (tVar 5) (tVar 6))) (te := tVar 5) rfl sc_rows_in.nd (pi_range1 (by rfl) B.range (pa_cons (pv 2) pa_nil)) (blkOk_by (N := n_rows_in) (by with_unfolding_all rfl)) (fun _ _ _ _ _ => (pg_name (i := 5) sc_rows_in.nd rfl (Or.inl rfl))) (fun _ _ _ _ _ => (pts_one (pt_cmpR op_in_seq (pv 5) (pv 6) (by rfl)))) (fun _ _ _ _ _ => (pv 5))) (nomark _)))) pa_nil))))
(pss_one (ps_ret pe_non)) pss_nil)
(pss_cons (ps_if (pt_cmpR op_ne (pca cLn hr (by decide) rfl (pa_cons (pca cLv hr (by decide) rfl (pa_cons (pv 1) (pa_cons (pv 2) (pa_cons (pv 4) pa_nil)))) pa_nil)) (pv 0) (nomark _))
(pss_one (ps_ret pe_non)) pss_nil)
(pss_one (ps_ret (pv 4))))))), ?_⟩
  have hll : (lineT kind rs).length + 2 ≤ sizeLine := Nat.le_trans (Nat.add_le_add_right (lineT_len hf (kind_len kind hk)) 2) (by decide)
  refine ⟨_, rfl, _, rfl, _, rfl, _, rfl, ⟨_, rfl⟩, _, _, rfl, rfl, by decide +kernel, hll, fun p1 hp1 => ?_⟩
  rw [line_split hk]
  have g1 := same_new hp1 (.lst (.str kind :: wdsS kind rs))
  refine ⟨1, rfl, p1, _, rfl, SqL.of upd_same, fun p2 hp2 => ?_⟩
  rw [cut_1]
  have g2 := g1.trans (same_new hp2 (.lst (wdsS kind rs)))
  refine ⟨kind, n, p2, rs, rfl, hk, SqL.of upd_same, hf, hn, hb, hdn, fun r us H3 g3 nr hr3 hrows => ?_⟩
  have g03 := g2.trans g3
  refine ⟨_, rfl, rfl, _, rfl, iteN (decide_eq_false (fun e => by cases e)) ?_⟩
  refine ⟨_, rfl, r, rfl, ⟨_, SqL.of hr3⟩, fun D hD => ?_⟩
  refine lc_list (K := K) (a := r) (xs := us) (InvM H3 D (fun _ : V => V.bl true) us) ⟨upd_same, same_new hD _⟩ (fun i H' _ ⟨_, g⟩ => SqL.of (g _ _ hr3)) (fun i x H' hx hv => ?_) ?_
  · have hi := (List.getElem?_eq_some_iff.mp hx).1
    have hi2 : i < rs.length := by rw [← hrows.1]; exact hi
    have erow : rs[i]? = some rs[i] := List.getElem?_eq_getElem hi2
    obtain ⟨b, rfl, _, hb3⟩ := hrows.2 i x _ hx erow
    generalize rs[i] = row at erow hb3
    obtain ⟨pr, epr⟩ := hb row (List.mem_of_getElem? erow)
    have hb4 := hv.2 _ _ hb3
    refine ⟨rfl, kept ?_⟩
    refine ⟨_, rfl, _, rfl, n, rfl, by omega, by omega, fun D5 hD5 => ?_⟩
    refine lc_it (walk_range (lo := 0) (n := n)) (InvF H' D5 V.int (fun c => decide (c ∈ row)) (iota n)) ⟨upd_same, same_new hD5 _⟩ (fun _ _ _ _ => trivial) (fun j y H5 H6 hj hv5 hy => ?_) ?_
    · obtain ⟨rfl, hy⟩ := hy
      have hy : y = .int (0 + (j : Int)) := hy
      rw [Int.zero_add] at hy
      subst hy
      have ej := iota_at hj
      refine ⟨rfl, _, rfl, _, rfl, b, _, rfl, .inl (SqL.of (hv5.2 _ _ hb4)), rfl, flat_ints9 _, _, rfl, ?_⟩
      rw [if_neg Bool.false_ne_true, inV_int]
      by_cases hm : ((j : Nat) : Int) ∈ row
      · rw [decide_eq_true hm]
        exact iteT ⟨_, rfl, _, hv5.1, InvF.len (by rw [iota_len]; omega), InvF.yes (f := V.int) (H := H') hD5 hv5.2 ej (decide_eq_true hm)⟩
      · rw [decide_eq_false hm]
        exact iteF (hv5.no ej (decide_eq_false hm))
    rintro H5 ⟨hd5, g5⟩
    rw [List.take_of_length_le (by rw [iota_len]; exact Nat.le_refl _), show (iota n).filter (fun c => decide (c ∈ row)) = row by rw [epr]; exact filter_mem] at hd5
    refine ⟨_, _, .lst (SqL.of (g5 _ _ hb4)) (dpa_ints9 row), .lst (SqL.of hd5) (dpa_ints9 row), shaped_list9 row, shaped_list9 row, ?_⟩
    rw [eqv_self9]
    exact ⟨_, g5 _ _ hv.1, len_m4 (by rw [hrows.1]; omega), InvM.next (f := fun _ : V => V.bl true) hD (hv.2.trans g5) hx _ rfl⟩
  rintro H4 ⟨hd4, g4⟩
  rw [List.take_length] at hd4
  refine ⟨D, us.map (fun _ => true), rfl, SqL.of (by rw [hd4, List.map_map] <;> rfl), ?_⟩
  rw [all_true9]
  refine ⟨_, rfl, iteF ?_⟩
  have hr4 := g4 _ _ hr3
  have hrows4 := hrows.same g4
  refine ⟨_, rfl, _, rfl, _, rfl, kind, (n : Int), r, us, rs, rfl, hk, hr4, hrows4.rows, l1, hf.l2, hf.q.2.2, fun v H5 g5 hlv => ?_⟩
  refine ⟨v, kind, (n : Int), rs, rfl, hlv, hf, fun H6 g6 => ?_⟩
  have g46 := g5.trans g6
  refine ⟨_, rfl, rfl, _, rfl, iteN (by rw [decide_eq_true rfl] <;> rfl) ⟨_, rfl, ?_⟩⟩
  have g06 := (g03.trans g4).trans g46
  exact q r us H6 g06 (g2.free nr) (g46 _ _ hr4) ((hrows4.same g46).weak fun b hb => g2.free hb)
end
end Lw
/-! dict comprehensions whose keys are tuples of whole numbers, or None alone -/
namespace DuX
open PySem PySem.Spec PyProof.Rows L2 DcT
def RawU (P : Program) (w : World) (d : Addr) (h : Heap) : Prop := (d == sysModules) = false ∧ ∃ kvs : List (Leaf × Value), kvs.length ≤ 1 ∧ (∀ q ∈ kvs, q.1 = .none) ∧ h.DictOf (leafKind P w) d kvs
def UO (P : Program) (w : World) (d : Addr) : HO := .ext (RawU P w d)
/-- None put -/
def UPut (P : Program) (w : World) (H : Hp) (D : Addr) (y : V) (H' : Hp) : Prop := y = .non ∧ (H D = some (.dT []) ∨ H D = some (UO P w D)) ∧ H' = upd H D (UO P w D)
theorem raw_u {P : Program} {w : World} {H : Hp} {h : Heap} {d : Addr} (r : RawU P w d h) : ObjOk P w H h d (UO P w d) := by
  refine ⟨r, ?_, fun h1 h2 r1 k => ?_⟩
  · obtain ⟨_, _, _, _, o, _, _, ho, _⟩ := r
    exact ⟨o, ho⟩
  · obtain ⟨z, kvs, l, n, o, es, ep, ho, q⟩ := r1
    exact ⟨z, kvs, l, n, o, es, ep, k o ho, q⟩
theorem st_none {kvs : List (Leaf × Value)} {v : Value} (l : kvs.length ≤ 1) (n : ∀ q ∈ kvs, q.1 = .none) : (stored kvs .none v).length ≤ 1 ∧ ∀ q ∈ stored kvs .none v, q.1 = .none := by
  have one : ∀ L : List (Leaf × Value), L = [(.none, v)] → L.length ≤ 1 ∧ ∀ q ∈ L, q.1 = .none := fun L e => by
    subst e
    exact ⟨Nat.le_refl _, fun q hq => by rw [List.mem_singleton.mp hq]⟩
  cases kvs with
  | nil => exact one _ rfl
  | cons p r =>
    cases r with
    | nil =>
      obtain ⟨k, x⟩ := p
      have e : k = .none := n _ (List.mem_singleton.mpr rfl)
      subst e
      exact one _ rfl
    | cons q r =>
      exfalso
      rw [List.length_cons, List.length_cons] at l
      omega
section
variable {X : Cx} {pins : List (Addr × Obj)} {σ : L2.St} {H : Hp} {s : Shared}
theorem put_okU {H' : Hp} {E : Value → Shared → Prop} {D : Addr} {y v : V} {u r : Value} {Q : Unit → Shared → Prop} (I : Inv X pins σ H s) (g : UPut X.prog X.w H D y H') (ry : RelV y u) (rv : RelV v r) (h : ∀ s', Inv X pins σ H' s' → Q () s') : wpAny (model X.prog X.w) X.A (dictSet D u r) Q E s := by
  obtain ⟨rfl, hD, rfl⟩ := g
  cases (show u = Value.none from ry)
  have raw : RawU X.prog X.w D s.heap := by
    rcases hD with hD | hD
    · obtain ⟨z, hd, xs0, r0, dd⟩ := dt_of I.hok hD
      cases r0
      obtain ⟨o, es, ep, a1, a2, a3, a4, _, _⟩ := dd
      have e : es.toList = [] := by simpa using a4
      refine ⟨hd, [], Nat.zero_le _, fun q hq => (by cases hq), o, es, ep, a1, a2, a3, fun x hx => ?_, by rw [e]; exact .nil, List.nodup_nil⟩
      have : x ∈ es.toList := by simpa using hx
      rw [e] at this
      cases this
    · exact (I.hok D _ hD).1
  obtain ⟨hd, kvs, l1, hn, dd⟩ := raw
  have mu : Mut (H D) := by
    rcases hD with e | e <;> rw [e] <;> exact True.intro
  refine wpAny_dictSet_pairs (knd := leafKind X.prog X.w) (k := .none) (show (leafKind X.prog X.w).is .none .none = true from rfl) dd (fun h2 dd2 sb => h _ ?_) (Nat.le_trans l1 (by rw [sizeLine_eq]; omega))
  have dd3 := dd2
  obtain ⟨q, es, ep, hq, _⟩ := dd3
  refine d_write I mu sb ⟨q, hq⟩ (raw_u ⟨hd, _, ?_, ?_, dd2⟩)
  · exact (st_none l1 hn).1
  · exact (st_none l1 hn).2
end
section
variable {X : Cx} {pins : List (Addr × Obj)} {s : Shared} {σ : L2.St} {H : Hp} {Q : VK} {kx vx tg iter : Expr} {ifs : List Expr} {rest : List Comprehension} {scope : Scope} {own : List (Str × Nat)} {pos pos' : Pos} {wi : TI} {use : Option (Value → Sem Unit)} {Qf : Value → Shared → Prop}
def MPut (P : Program) (w : World) (H : Hp) (D : Addr) (y v : V) (H' : Hp) : Prop := DPut H D y v H' ∨ UPut P w H D y H'
def tDcU (P : Program) (w : World) (wi : TI) (g : TG) (tt : TT) (tk tv : TE) (vs : List Nat) : TE := fun σ H Q => wi σ H fun J H1 => ∀ D, H1 D = none → ∃ W : Nat → Nat → Hp → Prop, (∃ m, W 0 m (upd H1 D (.dT []))) ∧ ∀ i m H, W i m H →
  (J.stop i H ∧ Q (.ref D) H) ∨ (J.go i H ∧ ∃ Nx : Hp → Prop, (∀ H', Nx H' → ∃ m', m' < m ∧ W (i + 1) m' H') ∧ ∀ x H', J.yld i H x H' → g x (wipe σ vs) H' fun σ2 H2 => wipe σ2 vs = wipe σ vs ∧ tt σ2 H2 fun b H3 =>
    if b = true then tk σ2 H3 fun y H4 => tv σ2 H4 fun z H5 => ∃ H6, MPut P w H5 D y z H6 ∧ Nx H6 else Nx H3)
/-- as a value -/
theorem pe_dcU {g : TG} {tt : TT} {tk tv : TE} (hu : X.A.units < cLine) (hc : X.calm = true) (hN : X.N.Nodup) (hi : PI X tg iter wi) (ok : BlkOk X.N X.env.scope scope own)
    (hg : ∀ (s : Shared) (H : Hp) (C : Addr) (cl : List (Str × Addr)) (fp : List Addr), PG (X.blk s H scope (compEnvC scope cl C X.env) fp) tg g) (ht : ∀ (s : Shared) (H : Hp) (C : Addr) (cl : List (Str × Addr)) (fp : List Addr), PTs (X.blk s H scope (compEnvC scope cl C X.env) fp) ifs tt)
    (hk : ∀ (s : Shared) (H : Hp) (C : Addr) (cl : List (Str × Addr)) (fp : List Addr), PE (X.blk s H scope (compEnvC scope cl C X.env) fp) kx tk)
    (hv : ∀ (s : Shared) (H : Hp) (C : Addr) (cl : List (Str × Addr)) (fp : List Addr), PE (X.blk s H scope (compEnvC scope cl C X.env) fp) vx tv) (hs : ∀ x, foldedSetIterable iter X.env x = pure x := by intro _; rfl) :
    PE X (.DictComp kx vx [⟨tg, iter, ifs, 0⟩] scope pos) (tDcU X.prog X.w wi g tt tk tv (own.map (·.2))) := by
  refine ⟨fun pins s σ H Q I h => ?_⟩
  rw [arm_eval_DictComp]
  refine begin_dc hN I hi ok hs h fun D it C cl fp tn J H2 s3 s4 rd fresh nfp a => ?_
  obtain ⟨W, ⟨m0, w0⟩, turns⟩ := rd D fresh
  have pg := hg s3 (upd H2 D (.dT [])) C cl fp
  have pt := ht s3 (upd H2 D (.dT [])) C cl fp
  have pk := hk s3 (upd H2 D (.dT [])) C cl fp
  have pv := hv s3 (upd H2 D (.dT [])) C cl fp
  generalize hce : compEnvC scope cl C X.env = ce at a pg pt pk pv ⊢
  generalize hH3 : upd H2 D (.dT []) = H3 at a pg pt pk pv w0 nfp
  refine compLoop_anyD (fun n s' => ∃ i H', Inv (X.blk s3 H3 scope ce fp) [] (wipe σ (own.map (·.2))) H' s' ∧ tn i s'.heap ∧ (∀ b ∈ fp, H' b = none) ∧ W i n H') ?_ m0 ⟨0, H3, a.blk, a.now, nfp, w0⟩
  rintro n s5 ⟨i, H5, I5, now5, n5, w5⟩
  rcases turns i n H5 w5 with ⟨stop, done⟩ | ⟨more, Nx, hNx, step⟩
  · refine thnF (a.turn.done (X.blk s3 H3 scope ce fp) rfl rfl rfl hc i [] s5 _ H5 (fun _ _ => False) I5 (a.stat I5 n5) now5 stop) fun r s6 ⟨hr, I6⟩ => ?_
    subst hr
    obtain ⟨m, I7, hn, f0, f1, f2, f3, f4, f5⟩ := a.back I6
    exact ⟨m, hn, fun h2 sb => ⟨.ref D, H5, I7.turned (t' := s6.toks) (fun b o hb e => (sb.2 b hb).trans e) f0 f1 f3 f4 f5, rfl, done⟩⟩
  · refine thnF (a.turn.item (X.blk s3 H3 scope ce fp) rfl rfl rfl hc i [] s5 _ H5 (fun _ _ => False) I5 (a.stat I5 n5) now5 more) fun r s6 ⟨u, hr, h6⟩ => ?_
    subst hr
    refine thnF h6 fun _ s7 ⟨x, H7, I7, r7, y7, now7, n7⟩ => ?_
    refine thnF (pg.run _ s7 _ H7 x u _ (I7.pinned (a.stat I7 n7) (a.turn.obj _ _ now7)) r7 (step x H7 y7)) fun _ s8 ⟨σ8, H8, I8, w8, q8⟩ => ?_
    refine thnF (pt.run _ s8 σ8 H8 _ I8 q8) fun b s9 ⟨H9, I9, q9⟩ => ?_
    have len8 : (wipe σ (own.map (·.2))).length = σ8.length := by rw [← w8, wipe_length]
    have know8 : ∀ (j : Nat) v, (wipe σ (own.map (·.2)))[j]? = some (some v) → σ8[j]? = some (some v) := fun j v e => by
      rw [← w8] at e
      exact (wipe_some e).1
    cases b with
    | false =>
      simp only [Bool.false_eq_true, if_false] at q9 ⊢
      exact a.next hNx now7 I9 len8 know8 q9
    | true =>
      simp only [if_true] at q9 ⊢
      refine thnF (pk.run _ s9 σ8 H9 _ I9 q9) fun z s10 ⟨yk, H10, I10, r10, q10⟩ => ?_
      refine thnF (pv.run _ s10 σ8 H10 _ I10 q10) fun z2 s11 ⟨yv, H11, I11, r11, H12, put, nx⟩ => ?_
      rcases put with put | put
      · exact put_ok (X := X.blk s3 H3 scope ce fp) hu I11 put r10 r11 fun s12 I12 => a.next hNx now7 I12 len8 know8 nx
      · exact put_okU (X := X.blk s3 H3 scope ce fp) I11 put r10 r11 fun s12 I12 => a.next hNx now7 I12 len8 know8 nx
end
/-- over a walk -/
theorem dcU_it {P : Program} {w : World} {J : It} {n : Nat} {G : Hp → Prop} {Y : Nat → Hp → V → Hp → Prop} (wk : Walk J n G Y) {g : TG} {tt : TT} {tk tv : TE} {vs : List Nat} {σ : L2.St} {H1 : Hp} {D : Addr} {Qd : Hp → Prop} (Pv : Nat → Hp → Prop) (h0 : Pv 0 (upd H1 D (.dT []))) (hG : ∀ i H, i ≤ n → Pv i H → G H)
    (hs : ∀ i x H H', i < n → Pv i H → Y i H x H' → g x (wipe σ vs) H' fun σ2 H2 => wipe σ2 vs = wipe σ vs ∧ tt σ2 H2 fun b H3 =>
      if b = true then tk σ2 H3 fun y H4 => tv σ2 H4 fun z H5 => ∃ H6, MPut P w H5 D y z H6 ∧ Pv (i + 1) H6 else Pv (i + 1) H3) (hd : ∀ H, Pv n H → Qd H) :
    ∃ W : Nat → Nat → Hp → Prop, (∃ m, W 0 m (upd H1 D (.dT []))) ∧ ∀ i m H, W i m H →
      (J.stop i H ∧ Qd H) ∨ (J.go i H ∧ ∃ Nx : Hp → Prop, (∀ H', Nx H' → ∃ m', m' < m ∧ W (i + 1) m' H') ∧ ∀ x H', J.yld i H x H' → g x (wipe σ vs) H' fun σ2 H2 => wipe σ2 vs = wipe σ vs ∧ tt σ2 H2 fun b H3 =>
        if b = true then tk σ2 H3 fun y H4 => tv σ2 H4 fun z H5 => ∃ H6, MPut P w H5 D y z H6 ∧ Nx H6 else Nx H3) := by
  refine ⟨fun i m H => m = n - i ∧ i ≤ n ∧ Pv i H, ⟨n, by simp, Nat.zero_le _, h0⟩, ?_⟩
  rintro i m H ⟨rfl, hi, p⟩
  have q := hG i H hi p
  by_cases hlt : i < n
  · exact .inr ⟨wk.goes i H hlt q, Pv (i + 1), fun H' p' => ⟨n - (i + 1), by omega, rfl, hlt, p'⟩, fun x H' y => hs i x H H' hlt p (wk.yields i H x H' hlt q y)⟩
  · have e : i = n := by omega
    subst e
    exact .inl ⟨wk.stops H q, hd H p⟩
end DuX
namespace Lw
open PySem L2 DcT DuX
abbrev s_line_at : Stmt := topS 53
abbrev n_line_at : List Str := ["lines", "at"]
theorem sc_line_at : FnScope n_line_at ["lines", "at"] (defScope s_line_at) := ⟨rfl, rfl, rfl, by decide +kernel, rfl, by decide +kernel, by decide +kernel⟩
def spLa (K : PySem.W.Frag) : Sp := fun vs H Q _ => ∃ (a : Addr) (i : Nat) (xs : List V) (x : V), vs = [.ref a, .int (i : Nat)] ∧ SqL K H a xs ∧ xs[i]? = some x ∧ Q x H
abbrev s_all_lead : Stmt := topS 51
abbrev n_all_lead : List Str := ["origins", "leading", "led", "origin", "leads"]
theorem sc_all_lead : FnScope n_all_lead ["origins", "leading"] (defScope s_all_lead) := ⟨rfl, rfl, rfl, by decide +kernel, rfl, by decide +kernel, by decide +kernel⟩
/-- origins: None alone, or paths that each lead somewhere -/
def OrgAt (H : Hp) (os : List V) (bs : List Bool) : Prop := (∀ x ∈ os, x = .non) ∨ ∃ ks : List (List Int), ks.length = os.length ∧ (∀ (i : Nat) (x : V) (k : List Int), os[i]? = some x → ks[i]? = some k → ∃ b, x = .ref b ∧ H b = some (.tup (k.map V.int))) ∧ ∀ k ∈ ks, ∃ i : Nat, ks[i]? = some k ∧ bs[i]? = some true
def spAl (K : PySem.W.Frag) : Sp := fun vs H Q _ => ∃ (o l : Addr) (os : List V) (bs : List Bool), vs = [.ref o, .ref l] ∧ H o = some (.lst os) ∧ H l = some (.lst (bs.map V.bl)) ∧ os.length = bs.length ∧ os.length ≤ 1000 ∧ OrgAt H os bs ∧ ∀ H' : Hp, Same H H' → Q (.bl true) H'
section
variable {P : Program} {w : World} {K : PySem.W.Frag} {mg : Str → Option Value} {base : Heap} {f : Addr} {fd : FuncData}
theorem ok_line_at (F : Fun K "line_at" "line_at" s_line_at f fd) (B : Bt mg) : FnOk P w K mg base CX0 1 f fd ["lines", "at"] (spLa K) := by
  refine F.ok sc_line_at (fun vs H Q E h => ?_) (fun cdv A outer s H vs Q E hr h => ?_)
  · obtain ⟨a, i, xs, x, rfl, _⟩ := h
    rfl
  obtain ⟨a, i, xs, x, rfl, ha, ex, q⟩ := h
  refine ⟨_, (pss_cons (ps_if (pt_cmpR op_ge (pv 1) (pe_callB call_len_seq (by rfl) B.len PySem.boot_len (pa_cons (pv 0) pa_nil)) (nomark _))
(pss_one ps_never) pss_nil)
(pss_one (ps_ret (pe_ix ix_list (pv 0) (pv 1) (fun _ _ => rfl))))), ?_⟩
  have hi := (List.getElem?_eq_some_iff.mp ex).1
  refine ⟨_, rfl, _, rfl, a, _, rfl, .inl ha, _, _, rfl, rfl, _, rfl, iteN (by simpa using hi) ?_⟩
  exact ⟨_, rfl, _, rfl, a, _, _, x, rfl, rfl, ha, atI_nat ex, q⟩
theorem ok_all_lead (F : Fun K "all_lead" "all_lead" s_all_lead f fd) (B : Bt mg) : FnOk P w K mg base CX0 1 f fd ["origins", "leading"] (spAl K) := by
  refine F.ok sc_all_lead (fun vs H Q E h => ?_) (fun cdv A outer s H vs Q E hr h => ?_)
  · obtain ⟨o, l, os, bs, rfl, _⟩ := h
    rfl
  obtain ⟨o, l, os, bs, rfl, ho, hl, len, l1, horg, q⟩ := h
  refine ⟨_, (pss_cons (ps_set (i := 2) sc_all_lead.nd rfl (Or.inr rfl) (pe_dcU (own := [("origin", 3), ("leads", 4)]) (g := gTup K 2 (gCons (gName 3) (gCons (gName 4) gNil))) (tt := tB (tVar 4)) (tk := tVar 3) (tv := tC (.bl true)) (room0 hr) rfl sc_all_lead.nd (RZ.pi_zipA (by rfl) B.zip (pa_cons (pv 0) (pa_cons (pv 1) pa_nil))) (blkOk_by (N := n_all_lead) (sc := defScope s_all_lead) (by decide +kernel)) (fun _ _ _ _ _ => (pg_tup rfl (pgs_cons (pg_name (i := 3) sc_all_lead.nd rfl (Or.inl rfl)) (pgs_cons (pg_name (i := 4) sc_all_lead.nd rfl (Or.inl rfl)) pgs_nil)))) (fun _ _ _ _ _ => pts_one (pt_val (pv 4))) (fun _ _ _ _ _ => pv 3) (fun _ _ _ _ _ => pe_bl)))
(pss_one (ps_ret (pe_callB (cr_all rfl) (by rfl) B.all (by decide +kernel) (pa_cons (pe_lc (own := [("origin", 3)]) (g := (gName 3)) (tt := tYes) (te := tOrV (tOp rIsN (tVar 3) (tC .non)) (tDIn (tVar 3) (tVar 2))) rfl sc_all_lead.nd (pi_list (pv 0)) (blkOk_by (N := n_all_lead) (sc := defScope s_all_lead) (by decide +kernel)) (fun _ _ _ _ _ => (pg_name (i := 3) sc_all_lead.nd rfl (Or.inl rfl))) (fun _ _ _ _ _ => pts_nil) (fun _ _ _ _ _ => (pe_or (pe_cmpR op_isN (pv 3) pe_non (nomark _)) (pe_one (pe_cmp (pc_din (hu_of hr) (pv 3) (pv 2))))))) pa_nil))))), ?_⟩
  refine ⟨_, rfl, _, rfl, o, l, os, bs.map V.bl, rfl, .inl ⟨SqL.of ho, SqL.of hl, fun D hD => ?_⟩⟩
  have gD := same_new hD (.dT [])
  have bl_at : ∀ {i : Nat} {y : V}, (bs.map V.bl)[i]? = some y → ∃ b, bs[i]? = some b ∧ y = .bl b := fun h => at_map h
  rcases horg with hnon | ⟨ks, kl, hks, hlead⟩
  · refine dcU_it (P := P) (w := w) (walk_zip (K := K) (a := o) (b := l) (xs := os) (ys := bs.map V.bl) (n := os.length) (by rw [List.length_map, len, Nat.min_self])) (fun i H' => (H' D = some (.dT []) ∨ H' D = some (UO P w D)) ∧ Same H H') ⟨.inl upd_same, gD⟩ (fun i H' _ ⟨_, g⟩ => ⟨SqL.of (g _ _ ho), SqL.of (g _ _ hl)⟩) (fun i x H2 H3 hi ⟨v1, v2⟩ hy => ?_) ?_
    · obtain ⟨T, x1, y1, rfl, hT, rfl, ex, ey⟩ := hy
      obtain ⟨b, eb, rfl⟩ := bl_at ey
      have e1 := hnon x1 (List.mem_of_getElem? ex)
      subst e1
      have gT := same_new hT (.tup [.non, .bl b])
      refine ⟨T, _, rfl, SqT.of upd_same, rfl, _, _, rfl, _, _, rfl, rfl, ?_⟩
      refine ⟨rfl, _, rfl, b, rfl, ?_⟩
      have v1' := v1.imp (gT _ _) (gT _ _)
      cases b with
      | true => exact iteT ⟨_, rfl, _, .inr ⟨rfl, v1', rfl⟩, .inr upd_same, same_over (v2.trans gT) hD _⟩
      | false => exact iteF ⟨v1', v2.trans gT⟩
    rintro H2 ⟨v1, v2⟩
    refine ⟨_, rfl, o, rfl, ⟨_, SqL.of (v2 _ _ ho)⟩, fun D2 hD2 => ?_⟩
    refine lc_list (K := K) (a := o) (xs := os) (InvM H2 D2 (fun _ : V => V.bl true) os) ⟨upd_same, same_new hD2 _⟩ (fun i H' _ ⟨_, g⟩ => SqL.of (g _ _ (v2 _ _ ho))) (fun i x H' hx hv => ?_) ?_
    · have e1 := hnon x (List.mem_of_getElem? hx)
      subst e1
      exact ⟨rfl, kept ⟨_, rfl, rfl, _, rfl, iteC (decide_eq_true rfl) ⟨_, hv.1, len_m4 (by omega), InvM.next (f := fun _ : V => V.bl true) hD2 hv.2 hx _ rfl⟩⟩⟩
    rintro H3 ⟨hd, g⟩
    rw [List.take_length] at hd
    refine ⟨D2, os.map (fun _ => true), rfl, SqL.of (by rw [hd, List.map_map] <;> rfl), ?_⟩
    rw [all_true9]
    exact q H3 (v2.trans g)
  · refine dcU_it (P := P) (w := w) (walk_zip (K := K) (a := o) (b := l) (xs := os) (ys := bs.map V.bl) (n := os.length) (by rw [List.length_map, len, Nat.min_self])) (fun i H' => ∃ ds : List (List Int), H' D = some (.dT (ds.map ledK)) ∧ (∀ (j : Nat) (k : List Int), j < i → ks[j]? = some k → bs[j]? = some true → k ∈ ds) ∧ ds.length ≤ i ∧ Same H H') ⟨[], upd_same, fun j k h => absurd h (Nat.not_lt_zero _), Nat.le_refl _, gD⟩ (fun i H' _ ⟨_, _, _, _, g⟩ => ⟨SqL.of (g _ _ ho), SqL.of (g _ _ hl)⟩) (fun i x H2 H3 hi ⟨ds, v1, v2, v3, v4⟩ hy => ?_) ?_
    · obtain ⟨T, x1, y1, rfl, hT, rfl, ex, ey⟩ := hy
      obtain ⟨b, eb, rfl⟩ := bl_at ey
      have ek : ks[i]? = some (ks[i]'(by omega)) := List.getElem?_eq_getElem (by omega)
      generalize ks[i]'(by omega) = k at ek
      obtain ⟨kb, rfl, hkb⟩ := hks i x1 k ex ek
      have gT := same_new hT (.tup [.ref kb, .bl b])
      refine ⟨T, _, rfl, SqT.of upd_same, rfl, _, _, rfl, _, _, rfl, rfl, ?_⟩
      refine ⟨rfl, _, rfl, b, rfl, ?_⟩
      cases b with
      | true =>
        refine iteT ⟨_, rfl, _, .inl (DPut.t (k := k.map Sum.inl) (gT _ _ v1) (by rw [keyI]; exact gT _ _ (v4 _ _ hkb)) (by rw [List.length_map]; exact small1000 (by omega))), addP ds k, by rw [upd_same, put_led], fun j k' hj ej hb => ?_, ?_, same_over (v4.trans gT) hD _⟩
        · rw [addP_mem]
          by_cases c : j = i
          · subst c
            rw [ek] at ej
            cases ej
            exact .inr rfl
          · exact .inl (v2 j k' (by omega) ej hb)
        · have := addP_len ds k
          omega
      | false =>
        refine iteF ⟨ds, gT _ _ v1, fun j k' hj ej hb => ?_, by omega, v4.trans gT⟩
        by_cases c : j = i
        · subst c
          rw [eb] at hb
          cases hb
        · exact v2 j k' (by omega) ej hb
    rintro H2 ⟨ds, v1, v2, v3, v4⟩
    refine ⟨_, rfl, o, rfl, ⟨_, SqL.of (v4 _ _ ho)⟩, fun D2 hD2 => ?_⟩
    refine lc_list (K := K) (a := o) (xs := os) (InvM H2 D2 (fun _ : V => V.bl true) os) ⟨upd_same, same_new hD2 _⟩ (fun i H' _ ⟨_, g⟩ => SqL.of (g _ _ (v4 _ _ ho))) (fun i x H' hx hv => ?_) ?_
    · have hi := (List.getElem?_eq_some_iff.mp hx).1
      have ek : ks[i]? = some (ks[i]'(by omega)) := List.getElem?_eq_getElem (by omega)
      generalize ks[i]'(by omega) = k at ek
      obtain ⟨kb, rfl, hkb⟩ := hks i x k hx ek
      obtain ⟨j, ej, hj⟩ := hlead k (List.mem_of_getElem? ek)
      have hm : k ∈ ds := v2 j k (by rw [← kl]; exact (List.getElem?_eq_some_iff.mp ej).1) ej hj
      have get := DGet.t (k := k.map Sum.inl) (hv.2 _ _ v1) (b := kb) (by rw [keyI]; exact hv.2 _ _ (v4 _ _ hkb))
      refine ⟨rfl, kept ⟨_, rfl, rfl, _, rfl, iteN (decide_eq_false (fun e => by cases e)) ?_⟩⟩
      refine ⟨_, rfl, _, rfl, D, _, rfl, get, ?_⟩
      rw [led_val, decide_eq_true hm]
      exact ⟨_, hv.1, len_m4 (by omega), InvM.next (f := fun _ : V => V.bl true) hD2 hv.2 hx _ rfl⟩
    rintro H3 ⟨hd, g⟩
    rw [List.take_length] at hd
    refine ⟨D2, os.map (fun _ => true), rfl, SqL.of (by rw [hd, List.map_map] <;> rfl), ?_⟩
    rw [all_true9]
    exact q H3 (v4.trans g)
end
end Lw
namespace Lw
open PySem L2 DcT DuX
theorem OrgAt.same {H H' : Hp} {os : List V} {bs : List Bool} (g : Same H H') (h : OrgAt H os bs) : OrgAt H' os bs :=
  h.imp id fun ⟨ks, h1, h2, h3⟩ => ⟨ks, h1, fun i x k e1 e2 => (h2 i x k e1 e2).elim fun b q => ⟨b, q.1, g _ _ q.2⟩, h3⟩
abbrev s_values_in : Stmt := topS 52
abbrev n_values_in : List Str := ["line", "origins", "values", "value"]
theorem sc_values_in : FnScope n_values_in ["line", "origins"] (defScope s_values_in) := ⟨rfl, rfl, rfl, by decide +kernel, rfl, by decide +kernel, by decide +kernel⟩
def spVin : Sp := fun vs H Q _ => ∃ (o : Addr) (os : List V) (ns : List Int), vs = [.str (joinW (.str "values" :: ns.map V.int)), .ref o] ∧ (joinW (.str "values" :: ns.map V.int)).length + 2 ≤ sizeLine ∧ H o = some (.lst os) ∧ os.length = ns.length ∧ ns.length ≤ 1000 ∧ (∀ n ∈ ns, NumOk n) ∧ (∀ n ∈ ns, largeI n = false) ∧ OrgAt H os (ns.map fun n => decide (n ≠ 0)) ∧
  ∀ (r : Addr) (H' : Hp), Same H H' → H r = none → H' r = some (.lst (ns.map V.int)) → Q (.ref r) H'
section
variable {P : Program} {w : World} {K : PySem.W.Frag} {mg : Str → Option Value} {base : Heap} {f : Addr} {fd : FuncData}
theorem ok_values_in (F : Fun K "values_in" "values_in" s_values_in f fd) (B : Bt mg) (zAny : mg "any" = none) (cI : Ca P w K mg base 3 "integers_behind" ["line", "word"] spIbh) (cL : Ca P w K mg base 1 "is_large" ["value"] spLarge) (cA : Ca P w K mg base 1 "all_lead" ["origins", "leading"] (spAl K)) : FnOk P w K mg base CX0 4 f fd ["line", "origins"] spVin := by
  refine F.ok sc_values_in (fun vs H Q E h => ?_) (fun cdv A outer s H vs Q E hr h => ?_)
  · obtain ⟨o, os, ns, rfl, _⟩ := h
    rfl
  obtain ⟨o, os, ns, rfl, hlen, ho, len, l1, hok, hlg, horg, q⟩ := h
  refine ⟨_, (pss_cons (ps_set (i := 2) sc_values_in.nd rfl (Or.inl rfl) (pca cI hr (by decide) rfl (pa_cons (pv 0) (pa_cons pe_str pa_nil))))
(pss_cons (ps_if (PW.pt (pw_or (pt_cmpR op_isN (pv 2) pe_non (nomark _)) (pw_or1 (pt_cmpR op_ne (pe_callB call_len_seq (by rfl) B.len PySem.boot_len (pa_cons (pv 2) pa_nil)) (pe_callB call_len_seq (by rfl) B.len PySem.boot_len (pa_cons (pv 1) pa_nil)) (nomark _)))))
(pss_one (ps_ret pe_non)) pss_nil)
(pss_cons (ps_if (pt_val (pe_callB (cr_any rfl) (by rfl) zAny (by decide +kernel) (pa_cons (pe_lc (own := [("value", 3)]) (g := (gName 3)) (tt := tYes) (te := tCall spLarge [] E0 (tCons (tVar 3) tNil)) rfl sc_values_in.nd (pi_list (pv 2)) (blkOk_by (N := n_values_in) (sc := defScope s_values_in) (by decide +kernel)) (fun _ _ _ _ _ => (pg_name (i := 3) sc_values_in.nd rfl (Or.inl rfl))) (fun _ _ _ _ _ => pts_nil) (fun _ _ _ _ _ => (pca cL hr (by decide) rfl (pa_cons (pv 3) pa_nil)))) pa_nil)))
(pss_one (ps_ret pe_non)) pss_nil)
(pss_one (ps_ret (pe_ifExp (pt_val (pca cA hr (by decide) rfl (pa_cons (pv 1) (pa_cons (pe_lc (own := [("value", 3)]) (g := (gName 3)) (tt := tYes) (te := tOp rNe (tVar 3) (tC (.int 0))) rfl sc_values_in.nd (pi_list (pv 2)) (blkOk_by (N := n_values_in) (sc := defScope s_values_in) (by decide +kernel)) (fun _ _ _ _ _ => (pg_name (i := 3) sc_values_in.nd rfl (Or.inl rfl))) (fun _ _ _ _ _ => pts_nil) (fun _ _ _ _ _ => (pe_cmpR op_ne (pv 3) pe_int (nomark _)))) pa_nil)))) (pv 2) pe_non)))))), ?_⟩
  refine ⟨_, rfl, "values", ns, rfl, (by unfold NoC; decide +kernel), hlen, hok, by omega, fun r H1 g1 nr hr1 => ?_⟩
  refine ⟨_, rfl, rfl, _, rfl, iteN (decide_eq_false (fun e => by cases e)) ?_⟩
  refine ⟨_, rfl, r, _, rfl, .inl (SqL.of hr1), _, rfl, o, _, rfl, .inl (SqL.of (g1 _ _ ho)), rfl, _, rfl, iteN ?_ ?_⟩
  · rw [List.length_map, len, decide_eq_true rfl]
    rfl
  refine ⟨_, rfl, r, rfl, ⟨_, SqL.of hr1⟩, fun D hD => ?_⟩
  refine lc_list (K := K) (a := r) (xs := ns.map V.int) (InvM H1 D (fun _ : Int => V.bl false) ns) ⟨upd_same, same_new hD _⟩ (fun i H' _ ⟨_, g⟩ => SqL.of (g _ _ hr1)) (fun i x H' hx hv => ?_) ?_
  · obtain ⟨n, en, rfl⟩ := at_map hx
    refine ⟨rfl, kept ⟨_, rfl, n, rfl, ?_⟩⟩
    rw [hlg n (List.mem_of_getElem? en)]
    exact ⟨_, hv.1, len_m4 (by omega), InvM.next (f := fun _ : Int => V.bl false) hD hv.2 en _ rfl⟩
  rw [List.length_map]
  rintro H2 ⟨hd2, g2⟩
  rw [List.take_length] at hd2
  refine ⟨D, ns.map (fun _ => false), rfl, SqL.of (by rw [hd2, List.map_map] <;> rfl), ?_⟩
  rw [any_none]
  refine ⟨_, rfl, iteF ?_⟩
  have hr2 := g2 _ _ hr1
  refine ⟨_, rfl, _, rfl, r, rfl, ⟨_, SqL.of hr2⟩, fun D3 hD3 => ?_⟩
  refine lc_list (K := K) (a := r) (xs := ns.map V.int) (InvM H2 D3 (fun n : Int => V.bl (decide (n ≠ 0))) ns) ⟨upd_same, same_new hD3 _⟩ (fun i H' _ ⟨_, g⟩ => SqL.of (g _ _ hr2)) (fun i x H' hx hv => ?_) ?_
  · obtain ⟨n, en, rfl⟩ := at_map hx
    refine ⟨rfl, kept ⟨_, rfl, rfl, ?_⟩⟩
    have e0 : (!decide (V.int n = V.int 0)) = decide (n ≠ 0) := by
      by_cases h : n = 0
      · rw [h]; rfl
      · rw [decide_eq_true h, decide_eq_false (fun e => h (V.int.inj e))] <;> rfl
    rw [e0]
    exact ⟨_, hv.1, len_m4 (by omega), InvM.next (f := fun n : Int => V.bl (decide (n ≠ 0))) hD3 hv.2 en _ rfl⟩
  rw [List.length_map]
  rintro H3 ⟨hd3, g3⟩
  rw [List.take_length] at hd3
  have g13 := (g1.trans g2).trans g3
  refine ⟨o, D3, os, ns.map (fun n => decide (n ≠ 0)), rfl, g13 _ _ ho, by rw [hd3, List.map_map] <;> rfl, by rw [List.length_map]; exact len, by omega, horg.same g13, fun H4 g4 => ?_⟩
  exact ⟨_, rfl, iteT ⟨_, rfl, q r H4 (g13.trans g4) nr (g4 _ _ (g3 _ _ hr2))⟩⟩
end
end Lw
namespace L2
open PySem PySem.Spec PyProof.Rows
section
variable {X : Cx}
/-- t.index(x), whole numbers: the first place -/
theorem mt_tup_indexI : MtR X "tuple.index" (fun x xs H Q => ∃ p, ∃ ys : List Int, ∃ z j, x = .ref p ∧ xs = [.int z] ∧ SqT X.K H p (ys.map V.int) ∧ ys[j]? = some z ∧ (∀ m, m < j → ys[m]? ≠ some z) ∧ Q (.int (j : Nat)) H) := by
  intro pins s σ H x xs v us Q I rx rs h
  obtain ⟨p, ys, z, j, rfl, rfl, hq, hy, hno, q⟩ := h
  cases rx
  obtain ⟨u, rfl, t, rfl⟩ := vals1 rs
  obtain ⟨its, r, pl, hz⟩ := I.tuple hq
  obtain ⟨⟨cls, dd, dt, sl⟩, ho, hc, n, hd⟩ := pl
  simp only at hc hd
  subst hc
  subst hd
  have hl : its.toArray.size = ys.length := by rw [List.size_toArray, ← r.length, List.length_map]
  have hj : j < its.toArray.size := by rw [hl]; exact (List.getElem?_eq_some_iff.mp hy).1
  have at' : ∀ (m : Nat) (hm : m < its.toArray.size), ∃ y t', ys[m]? = some y ∧ its.toArray[m] = Value.int y t' := fun m hm => by
    have hm' : m < ys.length := by rw [← hl]; exact hm
    obtain ⟨w, hw, t', hw'⟩ := r.get (i := m) (x := .int ys[m]) (by simp [hm'])
    refine ⟨ys[m], t', List.getElem?_eq_getElem hm', ?_⟩
    have e := (List.getElem?_eq_some_iff.mp hw).2
    rw [← hw', ← e]
    simp
  refine call_meets PySem.F.slot_tuple_index ⟨_, ho, rfl⟩ PySem.F.entry_tuple_index (PySem.F.args_tuple_index_2 _ _) (TI.tuple_indexAt p its.toArray n dd sl (.int z t) (eqU (.int z)) j hj ?_ ?_)
    ⟨ho, fun w hw => mem_eqAt (x := .int z) ⟨t, rfl⟩ rfl r (Lw.flat_ints9 ys) w (by simpa using hw), ⟨.int (j : Nat), H, I.tok _, ⟨_, rfl⟩, q⟩⟩
  · obtain ⟨y, t', h1, h2⟩ := at' j hj
    rw [hy] at h1
    cases h1
    rw [h2]
    show (z == z) = true
    exact beq_self_eq_true z
  · intro m hm hmj
    obtain ⟨y, t', h1, h2⟩ := at' m hm
    rw [h2]
    show (y == z) = false
    exact beq_eq_false_iff_ne.mpr fun e => hno m hmj (by rw [h1, e])
end
end L2
namespace Lw
open PySem L2 DcT DuX
abbrev s_coordinates_of : Stmt := topS 55
abbrev n_coordinates_of : List Str := ["form", "path", "axis"]
theorem sc_coordinates_of : FnScope n_coordinates_of ["form", "path"] (defScope s_coordinates_of) := ⟨rfl, rfl, rfl, by decide +kernel, rfl, by decide +kernel, by decide +kernel⟩
def spCo (K : PySem.W.Frag) (C : Addr) : Sp := fun vs H Q _ => ∃ (q a : Addr) (ks : List Str) (fx is : List Int), vs = [.ref q, .ref a] ∧ FormAt K C q ks fx H ∧ SqT K H a ((pathI fx is).map V.int) ∧ fx.Perm (iota is.length) ∧ is.length ≤ 3 ∧
  ∀ (t : Addr) (H' : Hp), Same H H' → H' t = some (.tup (is.map V.int)) → Q (.ref t) H'
theorem first_at {c : Int} : ∀ fx : List Int, c ∈ fx → ∃ j : Nat, fx[j]? = some c ∧ ∀ m, m < j → fx[m]? ≠ some c
  | [], h => by cases h
  | x :: r, h => by
    by_cases e : x = c
    · exact ⟨0, by rw [e] <;> rfl, fun m hm => absurd hm (Nat.not_lt_zero _)⟩
    · obtain ⟨j, h1, h2⟩ := first_at r ((List.mem_cons.mp h).resolve_left fun z => e z.symm)
      refine ⟨j + 1, h1, fun m hm => ?_⟩
      cases m with
      | zero => exact fun z => e (Option.some.inj z)
      | succ m => exact h2 m (by omega)
open TzR
/-- t.index(x) of whole numbers -/
def tIxI (K : PySem.W.Frag) (to : TE) (t : TA) : TE := tMG (fun x H => ∃ (p : Addr) (xs : List V), x = .ref p ∧ TzAt H p xs) (fun x xs H Q => ∃ p, ∃ ys : List Int, ∃ z j, x = .ref p ∧ xs = [.int z] ∧ SqT K H p (ys.map V.int) ∧ ys[j]? = some z ∧ (∀ m, m < j → ys[m]? ≠ some z) ∧ Q (.int (j : Nat)) H) to t
theorem pe_ixI {X : Cx} {o e : Expr} {to : TE} {t : TA} {apos cpos : Pos} (ho : PE X o to) (ha : PA X [e] t)
    (hbase : attributeBase o "index" X.env (eval o X.env) = eval o X.env := by rfl)
    (hfew : ((backTo cpos (starEach [e] X.env)).all (fun x => !x.1) && (backToKw cpos (keywordEach [] X.env)).all (fun x => x.1.isSome)
      && decide (([e] : List Expr).length + ([] : List Keyword).length + (if ([] : List Keyword).isEmpty then 0 else 1) < 30)) = true := by rfl)
    (hline : (apos.endLine == cpos.line) = true := by rfl) (hs : starEach [e] X.env = (false, eval e X.env) :: starEach [] X.env := by rfl) :
    PE X (.Call (.Attribute o "index" apos) [e] [] cpos) (tIxI X.K to t) :=
  pe_mG ty_tz PySem.F.plainAttrs_tuple PySem.F.slot_tuple_index PySem.F.type_tuple_index mt_tup_indexI ho ha hbase hfew hline hs
section
variable {P : Program} {w : World} {K : PySem.W.Frag} {mg : Str → Option Value} {base : Heap} {C fI BF AW KD f : Addr} {MC : Value} {fd : FuncData}
theorem ok_coordinates_of (F : Fun K "coordinates_of" "coordinates_of" s_coordinates_of f fd) (T : Fm K mg C fI BF AW KD MC) (B : Bt mg) : FnOk P w K mg base CX0 1 f fd ["form", "path"] (spCo K C) := by
  refine F.ok sc_coordinates_of (fun vs H Q E h => ?_) (fun cdv A outer s H vs Q E hr h => ?_)
  · obtain ⟨q, a, ks, fx, is, rfl, _⟩ := h
    rfl
  obtain ⟨q, a, ks, fx, is, rfl, ⟨dx, tk, ta, hp, hpk, hpa⟩, ha, hperm, hl, k⟩ := h
  refine ⟨_, (pss_one (ps_ret (pe_callTy call_tuple_of (by rfl) B.tup (by decide +kernel) (pa_cons (pe_lc (own := [("axis", 2)]) (g := (gName 2)) (tt := tYes) (te := tOp (rIxT K) (tVar 1) (tIxI K (tFld K (tVar 0) "axes") (tCons (tVar 2) tNil))) rfl sc_coordinates_of.nd (pi_range1 (by rfl) B.range (pa_cons (pe_callB call_len_seq (by rfl) B.len PySem.boot_len (pa_cons (pe_fld (pv 0) rfl) pa_nil)) pa_nil)) (blkOk_by (N := n_coordinates_of) (sc := defScope s_coordinates_of) (by decide +kernel)) (fun _ _ _ _ _ => (pg_name (i := 2) sc_coordinates_of.nd rfl (Or.inl rfl))) (fun _ _ _ _ _ => pts_nil)
      (fun _ _ _ _ _ => (pe_ix ix_tup (pv 1) (pe_ixI (pe_fld (pv 0) rfl) (pa_cons (pv 2) pa_nil)) (fun _ _ => rfl)))) pa_nil)))), ?_⟩
  have hfl : fx.length = is.length := by rw [hperm.length_eq, iota_len]
  have eln : (fx.map V.int).length = is.length := by rw [List.length_map, hfl]
  refine ⟨_, rfl, q, C, dx, _, _, rfl, hp, T.cl, T.nA, flds_a _ _, ta, _, rfl, .inr hpa.seq, _, rfl, by omega, by omega, fun D hD => ?_⟩
  rw [eln]
  refine lc_range (lo := 0) (n := is.length) (InvI H D is) ⟨by rw [upd_same, List.take_zero] <;> rfl, same_new hD _⟩ (fun i H2 hi hv => ⟨rfl, kept ?_⟩) ?_
  · have ei := List.getElem?_eq_getElem hi
    generalize hy : is[i] = y at ei
    obtain ⟨j, hj, hno⟩ := first_at (c := 0 + (i : Int)) fx (hperm.mem_iff.mpr (iota_mem.mpr ⟨by omega, by omega⟩))
    have ep : (pathI fx is)[j]? = some y := by
      unfold pathI
      rw [List.getElem?_map, hj]
      show some (is.getD (0 + (i : Int)).toNat 0) = _
      rw [show (0 + (i : Int)).toNat = i by omega, List.getD_eq_getElem?_getD, ei] <;> rfl
    have ea : atI ((pathI fx is).map V.int) ((j : Nat) : Int) = some (.int y) := atI_nat (by rw [List.getElem?_map, ep] <;> rfl)
    refine ⟨_, rfl, _, rfl, q, C, dx, _, _, rfl, hv.2 _ _ hp, T.cl, T.nA, flds_a _ _, ⟨ta, _, rfl, tzS hv.2 hpa⟩, _, rfl, ta, fx, _, j, rfl, rfl, (tzS hv.2 hpa).seq, hj, hno, ?_⟩
    refine ⟨a, _, _, _, rfl, rfl, seqT hv.2 ha, ea, _, hv.1, ?_, ?_, same_over hv.2 hD _⟩
    · rw [List.length_map]
      exact small1000 (by rw [List.length_take]; omega)
    · rw [upd_same, List.take_succ, ei, List.map_append] <;> rfl
  rintro H' ⟨hd, g⟩
  rw [List.take_length] at hd
  refine ⟨D, _, rfl, .inl ⟨SqL.of hd, fun t ht => ?_⟩⟩
  exact k t _ (g.trans (same_new ht _)) upd_same
end
end Lw
namespace Lw
open PySem L2 TL DcT DuX L2.DX
theorem takes_len9 {X : Cx} {W : WX} (t : Takes X W) : Takes X (fun cls d σ H => σ.length = X.N.length → W cls d σ H) := fun u s' ⟨a, B, sI, pins, σ, H, cls, d, e, I, nb, up, sky, na, os, ag, w⟩ =>
  t u s' ⟨a, B, sI, pins, σ, H, cls, d, e, I, nb, up, sky, na, os, ag, w I.len⟩
theorem part_form (z : Str) : Txt.partition ("form " ++ z) " " = (("form" : Str), (" " : Str), z) := by
  have e : ("form " : Str) = ("form" : Str) ++ " " := by decide +kernel
  rw [e]
  exact TL.partition_app (y := " ") (s := 32) (S := []) (by decide +kernel) (by decide +kernel)
abbrev s_form_in : Stmt := topS 44
abbrev n_form_in : List Str := ["line", "level_count", "start", "blank", "told", "form"]
theorem sc_form_in : FnScope n_form_in ["line", "level_count"] (defScope s_form_in) := ⟨rfl, rfl, rfl, by decide +kernel, rfl, by decide +kernel, by decide +kernel⟩
def spFin (K : PySem.W.Frag) (C : Addr) : Sp := fun vs H Q _ => ∃ (ks : List Str) (is : List Int), vs = [.str ("form " ++ ftext ks is), .int ((ks.length : Nat) : Int)] ∧ valid ks is = true ∧ (ftext ks is).length ≤ 900 ∧ ∀ (p : Addr) (H' : Hp), Same H H' → FormAt K C p ks is H' → Q (.ref p) H'
section
variable {P : Program} {w : World} {K : PySem.W.Frag} {mg : Str → Option Value} {base : Heap} {f C fI BF AW KD gR pR : Addr} {MC : Value} {fd : FuncData}
theorem ok_form_in (F : Fun K "form_in" "form_in" s_form_in f fd) (Tf : Fm K mg C fI BF AW KD MC) (B : Bt mg) (GR : FnR P w K mg base (L2.CX P w) 5 gR (spRead K C BF)) (cRd : ClX.CMet K C MC "read" pR gR) : FnOk P w K mg base CX0 6 f fd ["line", "level_count"] (spFin K C) := by
  refine F.ok sc_form_in (fun vs H Q E h => ?_) (fun cdv A outer s H vs Q E hr h => ?_)
  · obtain ⟨ks, is, rfl, _⟩ := h
    rfl
  obtain ⟨ks, is, rfl, hv, hl, q⟩ := h
  refine ⟨_, (pss_cons (ps_asg (pe_partition (pv 0) pe_str) (pg_tup rfl (pgs_cons (pg_name (i := 2) sc_form_in.nd rfl (Or.inl rfl)) (pgs_cons (pg_name (i := 3) sc_form_in.nd rfl (Or.inl rfl)) (pgs_cons (pg_name (i := 4) sc_form_in.nd rfl (Or.inl rfl)) pgs_nil)))))
(pss_cons (ps_if (pt_cmpR op_ne (pv 2) pe_str (nomark _))
(pss_one (ps_ret pe_non)) pss_nil)
(pss_cons (ps_try_only (X := (cxOf CX0 P w K mg base n_form_in "form_in" (defScope s_form_in) f cdv A outer s H E).nox) (c := .ref BF)
      (tb := fun W D σ H => ∃ Ech : XK, (∀ cls d σ' H', σ'.length = 6 → Ech cls d H' → W cls d σ' H') ∧ (tAsg (ClX.tCMeth C (spRead K C BF) Ech (tC (.ref C)) (tCons (tVar 4) tNil)) (gName 5)) D σ H)
      (ts := fun _ _ _ D σ H => D.rt .non H)
      rfl rfl ⟨rfl, by decide, .inl Tf.mB⟩ L2.takes0 (fun W pn xe tk _ => ?_) (fun a oe cls d pn _ _ => pss_one (ps_ret pe_non)))
(pss_one (ps_ret (pe_ifExp (pt_cmpR op_eq (pe_callB call_len_seq (by rfl) B.len PySem.boot_len (pa_cons (pe_fld (pv 5) rfl) pa_nil)) (pv 1) (nomark _)) (pv 5) pe_non)))))), ?_⟩
  · refine ⟨fun pins s' σ H' D I h' => ?_⟩
    obtain ⟨Ech, hW, h1⟩ := h'
    exact (pss_one (ps_set (i := 5) sc_form_in.nd rfl (Or.inl rfl) (ClX.pe_cmeth (E := Ech) (pe_glob (v := .ref C) (by rfl) Tf.mC rfl) Tf.cr cRd GR (hr.mono (by decide)) (passes_call (takes_len9 tk) (fun cls d σ' H' e l => hW cls d σ' H' l e)) (pa_cons (pv 4) pa_nil)))).run pins s' σ H' D I h1
  have l5 : ("form " : Str).length = 5 := by decide +kernel
  refine ⟨_, rfl, ⟨_, rfl⟩, _, _, rfl, rfl, by decide +kernel, Nat.le_trans (show ("form " ++ ftext ks is).length ≤ 905 by rw [Str.length_append, l5]; omega) (by decide), fun p hp => ?_⟩
  rw [part_form]
  have g1 := same_new hp (.tup [.str "form", .str " ", .str (ftext ks is)])
  refine ⟨p, _, rfl, SqT.of upd_same, rfl, _, _, rfl, _, _, rfl, _, _, rfl, rfl, ?_⟩
  refine ⟨_, rfl, rfl, _, rfl, iteN (by rw [decide_eq_true rfl] <;> rfl) ?_⟩
  refine ⟨fun _ _ _ => False, fun _ _ _ _ _ z => z.elim, rfl, _, rfl, ftext ks is, rfl, hl, fun ks' is' er pf H2 g2 hpf => ?_, fun z => by rw [rd_ftext hv] at z; cases z⟩
  rw [rd_ftext hv] at er
  cases er
  obtain ⟨dx, tk, ta, h1, h2, h3⟩ := id hpf
  refine ⟨_, rfl, pf, C, dx, _, _, rfl, h1, Tf.cl, Tf.nK, flds_k _ _, tk, _, rfl, .inr h2, _, rfl, rfl, _, rfl, iteC ?_ ⟨_, rfl, q pf H2 (g1.trans g2) hpf⟩⟩
  rw [List.length_map, decide_eq_true rfl]
end
end Lw
namespace Lw
open PySem L2
/-! a table's text, line by line -/
theorem joinL_mem {c : Nat} {S : List Nat} : ∀ {l : List (List Nat)}, c ∈ TL.joinL S l → c ∈ S ∨ ∃ p ∈ l, c ∈ p
  | [], h => by cases h
  | [p], h => .inr ⟨p, List.mem_singleton.mpr rfl, h⟩
  | p :: q :: r, h => by
    have h : c ∈ p ++ (S ++ TL.joinL S (q :: r)) := h
    rcases List.mem_append.mp h with h | h
    · exact .inr ⟨p, List.mem_cons_self .., h⟩
    · rcases List.mem_append.mp h with h | h
      · exact .inl h
      · rcases joinL_mem h with h | ⟨z, hz, hc⟩
        · exact .inl h
        · exact .inr ⟨z, List.mem_cons_of_mem _ hz, hc⟩
theorem join_no {c : Nat} {y : Str} {ys : List Str} (h1 : NoC c y) (h : ∀ x ∈ ys, NoC c x) : NoC c (Txt.join y ys) := fun hc => by
  rw [TL.join_eq, TL.tl_join] at hc
  rcases joinL_mem hc with hc | ⟨p, hp, hc⟩
  · exact h1 hc
  · obtain ⟨x, hx, rfl⟩ := List.mem_map.mp hp
    exact h x hx hc
theorem no10_sp : NoC 10 (" " : Str) := by unfold NoC; decide +kernel
theorem joinW_no {xs : List V} (h : ∀ x ∈ xs, NoC 10 (wS x)) : NoC 10 (joinW xs) := join_no no10_sp fun y hy => by
  obtain ⟨x, hx, rfl⟩ := List.mem_map.mp hy
  exact h x hx
theorem app_no {c : Nat} {a b : Str} (h1 : NoC c a) (h2 : NoC c b) : NoC c (a ++ b) := fun hc => by
  rw [TL.tl_append] at hc
  exact (List.mem_append.mp hc).elim h1 h2
theorem kind_no10 {k : Str} (h : k ∈ KINDS) : NoC 10 k := (kind_no k h).2
theorem ftext_no {ks : List Str} {is : List Int} (h : ∀ k ∈ ks, k ∈ KINDS) : NoC 10 (ftext ks is) := by
  unfold ftext
  split
  · unfold NoC; decide +kernel
  · refine join_no (by unfold NoC; decide +kernel) fun x hx => ?_
    obtain ⟨p, hp, rfl⟩ := List.mem_map.mp hx
    unfold itm
    refine app_no (app_no (app_no (by unfold NoC; decide +kernel) (kind_no10 (h _ (List.of_mem_zip hp).1))) no10_sp) (numS_no (by decide) _)
theorem lines_no {zs : List Int} {ds : List (List Int)} {l : List (Str × Int)} {cs : List (List Int × Int)} (h : ∀ q ∈ l, q.1 ∈ KINDS) : ∀ x ∈ linesT zs ds l cs, NoC 10 x := fun x hx => by
  have nums : ∀ (k : Str) (ns : List V), NoC 10 k → (∀ v ∈ ns, ∃ n : Int, v = .int n) → NoC 10 (joinW (.str k :: ns)) := fun k ns hk hn => joinW_no fun y hy => by
    rcases List.mem_cons.mp hy with rfl | hy
    · exact hk
    · obtain ⟨n, rfl⟩ := hn y hy
      exact numS_no (by decide) n
  unfold linesT at hx
  rcases List.mem_cons.mp hx with rfl | hx
  · exact nums _ _ (by unfold NoC; decide +kernel) fun v hv => (List.mem_map.mp hv).elim fun n q => ⟨n, q.2.symm⟩
  rcases List.mem_cons.mp hx with rfl | hx
  · refine joinW_no fun y hy => ?_
    simp only [List.mem_cons, List.not_mem_nil, or_false] at hy
    rcases hy with rfl | rfl
    · show NoC 10 "form"
      unfold NoC; decide +kernel
    · exact ftext_no fun k hk => (List.mem_map.mp hk).elim fun q z => z.2 ▸ h q z.1
  rcases List.mem_append.mp hx with hx | hx
  · obtain ⟨i, hi, rfl⟩ := List.mem_map.mp hx
    have hi := List.mem_range.mp hi
    have eq := lvQ_at (List.getElem?_eq_getElem hi)
    unfold lvL
    rw [eq, lineT_ln]
    exact joinW_no (lnW_no (by decide) (by decide) (kind_no10 (h _ (List.getElem_mem hi))) _)
  · rw [List.mem_singleton.mp hx]
    exact nums _ _ (by unfold NoC; decide +kernel) fun v hv => by
      unfold dataV at hv
      obtain ⟨x, _, rfl⟩ := List.mem_map.mp hv
      exact ⟨_, rfl⟩
theorem text_split {zs : List Int} {ds : List (List Int)} {l : List (Str × Int)} {cs : List (List Int × Int)} (h : ∀ q ∈ l, q.1 ∈ KINDS) : Txt.split (tableT zs ds l cs) "\n" = linesT zs ds l cs :=
  TL.split_join (y := "\n") (s := 10) (S := []) (by decide +kernel) (by decide +kernel) (by unfold linesT; simp) (lines_no h)
end Lw
namespace Lw
open PySem L2 TL DcT
/-! what the paths of a table tell -/
theorem idxI_at {r : List Int} {c : Int} (h : c ∈ r) : r[r.idxOf c]? = some c := by
  have lt := List.idxOf_lt_length_iff.mpr h
  rw [List.getElem?_eq_getElem lt, List.getElem_idxOf lt]
theorem iota_nd (n : Nat) : (iota n).Nodup := by
  unfold iota
  exact List.pairwise_map.mpr (List.nodup_range.imp fun h e => h (by omega))
theorem rowD_nd (kind : Str) (n : Nat) (p : List Int) (ds : List (List Int)) : (rowD kind n p ds).Nodup := by
  rw [rowD_eq]
  exact (iota_nd n).sublist List.filter_sublist
/-- each path below the levels has a coordinate of its axis at each level -/
theorem paths_rng {zs : List Int} {ds : List (List Int)} {l : List (Str × Int)} : ∀ i, i ≤ l.length → ∀ p ∈ pathsL zs ds (l.take i), ∀ (j : Nat) (c : Int) (q : Str × Int), p[j]? = some c → l[j]? = some q → 0 ≤ c ∧ c < (szN zs q.2 : Nat)
  | 0, _, p, hp, j, c, q, h, _ => by
    rw [List.take_zero] at hp
    rw [List.mem_singleton.mp hp] at h
    cases h
  | i + 1, hi, p, hp, j, c, q, h, eq => by
    have e := List.getElem?_eq_getElem (l := l) (i := i) (by omega)
    generalize l[i] = q' at e
    rw [pathsL_next e] at hp
    unfold stepP at hp
    obtain ⟨g, hg, hpg⟩ := List.mem_flatten.mp hp
    obtain ⟨p0, hp0, rfl⟩ := List.mem_map.mp hg
    unfold goOn at hpg
    obtain ⟨x, hx, rfl⟩ := List.mem_map.mp hpg
    have l0 := paths_len i (by omega) p0 hp0
    by_cases cj : j < p0.length
    · rw [List.getElem?_append_left cj] at h
      exact paths_rng i (by omega) p0 hp0 j c q h eq
    · rw [List.getElem?_append_right (by omega)] at h
      have z : j - p0.length = 0 := by
        by_cases z : j - p0.length = 0
        · exact z
        · obtain ⟨m, hm⟩ := Nat.exists_eq_succ_of_ne_zero z
          rw [hm] at h
          cases h
      rw [z] at h
      cases h
      have ej : j = i := by omega
      subst ej
      rw [e] at eq
      cases eq
      exact rowD_mem hx
/-- the paths are unlike -/
theorem paths_nd {zs : List Int} {ds : List (List Int)} {l : List (Str × Int)} : ∀ i, i ≤ l.length → (pathsL zs ds (l.take i)).Nodup
  | 0, _ => by
    rw [List.take_zero]
    exact List.pairwise_singleton _ _
  | i + 1, hi => by
    have e := List.getElem?_eq_getElem (l := l) (i := i) (by omega)
    generalize l[i] = q' at e
    rw [pathsL_next e]
    unfold stepP
    refine List.pairwise_flatten.mpr ⟨fun g hg => ?_, List.pairwise_map.mpr ((paths_nd i (by omega)).imp_of_mem fun {p p'} hp hp' ne x hx y hy e => ?_)⟩
    · obtain ⟨p0, hp0, rfl⟩ := List.mem_map.mp hg
      unfold goOn
      exact List.pairwise_map.mpr ((rowD_nd _ _ _ _).imp fun ne e => ne (by
        have z := List.append_cancel_left e
        injection z))
    · unfold goOn at hx hy
      obtain ⟨c, _, rfl⟩ := List.mem_map.mp hx
      obtain ⟨c', _, rfl⟩ := List.mem_map.mp hy
      exact ne (List.append_inj_left' e rfl)
/-- the coordinates of a path -/
def invI (l : List (Str × Int)) (n : Nat) (p : List Int) : List Int := (iota n).map fun x => p.getD ((l.map (·.2)).idxOf x) 0
theorem invI_len (l : List (Str × Int)) (n : Nat) (p : List Int) : (invI l n p).length = n := by
  unfold invI iota
  rw [List.length_map, List.length_map, List.length_range]
theorem invI_back {zs : List Int} {l : List (Str × Int)} {p : List Int} (hp : (l.map (·.2)).Perm (iota zs.length)) (hl : p.length = l.length) (hz : ∀ x ∈ zs, 1 ≤ x) (hr : ∀ (j : Nat) (c : Int) (q : Str × Int), p[j]? = some c → l[j]? = some q → 0 ≤ c ∧ c < (szN zs q.2 : Nat)) :
    InAt zs (invI l zs.length p) ∧ pathI (l.map (·.2)) (invI l zs.length p) = p := by
  have nd : (l.map (·.2)).Nodup := hp.nodup_iff.mpr (iota_nd _)
  have ll : (l.map (·.2)).length = zs.length := by
    rw [hp.length_eq, iota_len]
  have la := invI_len l zs.length p
  have ia : ∀ (k : Nat), k < zs.length → (invI l zs.length p)[k]? = some (p.getD ((l.map (·.2)).idxOf (k : Int)) 0) := fun k hk => by
    unfold invI
    rw [List.getElem?_map, iota_at hk] <;> rfl
  refine ⟨⟨la, fun k x y ex ey => ?_⟩, ?_⟩
  · have hk : k < zs.length := by rw [← la]; exact (List.getElem?_eq_some_iff.mp ex).1
    rw [ia k hk] at ex
    cases ex
    have m : (k : Int) ∈ l.map (·.2) := hp.mem_iff.mpr (iota_mem.mpr ⟨by omega, by omega⟩)
    have lt := List.idxOf_lt_length_iff.mpr m
    have ltp : (l.map (·.2)).idxOf (k : Int) < p.length := by rw [hl, ← List.length_map (f := (·.2))]; exact lt
    have ej := idxI_at m
    rw [List.getElem?_map] at ej
    cases eq : l[(l.map (·.2)).idxOf (k : Int)]? with
    | none => rw [eq] at ej; cases ej
    | some q =>
      rw [eq] at ej
      have ej2 : q.2 = (k : Int) := Option.some.inj ej
      have z := hr _ _ q (List.getElem?_eq_getElem ltp) eq
      rw [List.getD_eq_getElem?_getD, List.getElem?_eq_getElem ltp]
      have es : szN zs q.2 = y.toNat := by
        unfold szN
        rw [ej2, List.getD_eq_getElem?_getD, show (k : Int).toNat = k from rfl, ey] <;> rfl
      rw [es] at z
      have hy := hz y (List.mem_of_getElem? ey)
      show 0 ≤ p[(l.map (·.2)).idxOf (k : Int)] ∧ p[(l.map (·.2)).idxOf (k : Int)] < y
      omega
  · unfold pathI
    refine List.ext_getElem? fun j => ?_
    rw [List.getElem?_map]
    by_cases hj : j < (l.map (·.2)).length
    · have ej := List.getElem?_eq_getElem hj
      generalize hx : (l.map (·.2))[j] = x at ej
      rw [ej]
      have mx : x ∈ l.map (·.2) := List.mem_of_getElem? ej
      obtain ⟨x0, x1⟩ := iota_mem.mp (hp.mem_iff.mp mx)
      obtain ⟨k, rfl⟩ : ∃ k : Nat, x = k := ⟨x.toNat, by omega⟩
      have lt := List.idxOf_lt_length_iff.mpr mx
      have ij : (l.map (·.2)).idxOf (k : Int) = j := (List.getElem_inj nd (h₀ := lt) (h₁ := hj)).mp (by rw [List.getElem_idxOf lt, hx])
      show some ((invI l zs.length p).getD (k : Int).toNat 0) = p[j]?
      rw [List.getD_eq_getElem?_getD, show (k : Int).toNat = k from rfl, ia k (by omega), ij, List.getD_eq_getElem?_getD]
      have lj : j < p.length := by rw [hl, ← List.length_map (f := (·.2))]; exact hj
      rw [List.getElem?_eq_getElem lj] <;> rfl
    · rw [List.getElem?_eq_none (by omega), List.getElem?_eq_none (by rw [hl, ← List.length_map (f := (·.2))]; omega)] <;> rfl
/-- a path that is known goes on -/
theorem take_snoc {p : List Int} {i : Nat} {c : Int} (e : p[i]? = some c) : p.take (i + 1) = p.take i ++ [c] := by
  rw [List.take_succ, e] <;> rfl
section
variable {zs : List Int} {ds : List (List Int)} {l : List (Str × Int)} {cs : List (List Int × Int)}
theorem TabOk.plen (T : TabOk zs ds l cs) {c : List Int × Int} : (pathI (l.map (·.2)) c.1).length = l.length := by rw [path_len, List.length_map]
theorem TabOk.go (T : TabOk zs ds l cs) {c : List Int × Int} (hc : c ∈ real cs) {i : Nat} {q : Str × Int} (e : l[i]? = some q) : ∃ x : Int, (pathI (l.map (·.2)) c.1)[i]? = some x ∧ x ∈ rowD q.1 (szN zs q.2) ((pathI (l.map (·.2)) c.1).take i) ds := by
  have hi := (List.getElem?_eq_some_iff.mp e).1
  have ep : (pathI (l.map (·.2)) c.1)[i]? = some (c.1.getD q.2.toNat 0) := by
    unfold pathI
    rw [List.getElem?_map, List.getElem?_map, e] <;> rfl
  refine ⟨_, ep, ?_⟩
  have hcs := (List.mem_filter.mp hc).1
  obtain ⟨il, ir⟩ := (T.gc.2 c hcs).1
  have hq : q.2 ∈ l.map (·.2) := List.mem_map_of_mem (List.mem_of_getElem? e)
  obtain ⟨q0, q1⟩ := iota_mem.mp (T.gl.2.2.mem_iff.mp hq)
  have lt : q.2.toNat < c.1.length := by omega
  have ltz : q.2.toNat < zs.length := by omega
  have r := ir q.2.toNat _ _ (List.getElem?_eq_getElem lt) (List.getElem?_eq_getElem ltz)
  have es : c.1.getD q.2.toNat 0 = c.1[q.2.toNat] := by rw [List.getD_eq_getElem?_getD, List.getElem?_eq_getElem lt] <;> rfl
  have ez : szN zs q.2 = zs[q.2.toNat].toNat := by
    unfold szN
    rw [List.getD_eq_getElem?_getD, List.getElem?_eq_getElem ltz] <;> rfl
  rw [rowD_eq]
  refine List.mem_filter.mpr ⟨iota_mem.mpr ?_, ?_⟩
  · rw [es, ez]
    omega
  · unfold tstR
    rw [← take_snoc ep]
    have m : (pathI (l.map (·.2)) c.1).take (i + 1) ∈ ds := (T.ld _).mpr ⟨_, List.mem_map_of_mem (f := fun c : List Int × Int => pathI (l.map (·.2)) c.1) hc, i + 1, by omega, by rw [T.plen]; omega, rfl⟩
    rw [decide_eq_true m, Bool.or_true]
theorem TabOk.on (T : TabOk zs ds l cs) {c : List Int × Int} (hc : c ∈ real cs) : ∀ i, i ≤ l.length → (pathI (l.map (·.2)) c.1).take i ∈ pathsL zs ds (l.take i)
  | 0, _ => by
    rw [List.take_zero, List.take_zero]
    exact List.mem_singleton.mpr rfl
  | i + 1, hi => by
    have e := List.getElem?_eq_getElem (l := l) (i := i) (by omega)
    generalize l[i] = q at e
    obtain ⟨x, ex, hx⟩ := T.go hc e
    rw [pathsL_next e, take_snoc ex]
    unfold stepP
    refine List.mem_flatten.mpr ⟨_, List.mem_map_of_mem (T.on hc i (by omega)), ?_⟩
    unfold goOn
    exact List.mem_map_of_mem hx
theorem TabOk.all (T : TabOk zs ds l cs) {c : List Int × Int} (hc : c ∈ real cs) : pathI (l.map (·.2)) c.1 ∈ pathsL zs ds l := by
  have z := T.on hc l.length (Nat.le_refl _)
  rwa [List.take_length, List.take_of_length_le (by rw [T.plen]; exact Nat.le_refl _)] at z
/-- a leading path is the beginning of a known one -/
theorem TabOk.lead (T : TabOk zs ds l cs) {k : List Int} (hk : k ∈ ds) : ∃ c ∈ real cs, (pathI (l.map (·.2)) c.1).take k.length = k := by
  obtain ⟨p, hp, m, m1, m2, rfl⟩ := (T.ld k).mp hk
  obtain ⟨c, hc, rfl⟩ := List.mem_map.mp hp
  exact ⟨c, hc, by rw [List.length_take, Nat.min_eq_left m2]⟩
theorem at_of_mem {α : Type} {l : List α} {a : α} (h : a ∈ l) : ∃ i : Nat, l[i]? = some a := by
  obtain ⟨i, hi, e⟩ := List.mem_iff_getElem.mp h
  exact ⟨i, by rw [List.getElem?_eq_getElem hi, e]⟩
/-! origins -/
/-- an origin: None, or the beginning of a path -/
def OrV (H : Hp) (m : Nat) (x : V) (p : List Int) : Prop := (m = 0 ∧ x = .non) ∨ (1 ≤ m ∧ ∃ b, x = .ref b ∧ H b = some (.tup ((p.take m).map V.int)))
def OrR (H : Hp) (m : Nat) (os : List V) (ps : List (List Int)) : Prop := os.length = ps.length ∧ ∀ (i : Nat) (x : V) (p : List Int), os[i]? = some x → ps[i]? = some p → OrV H m x p
theorem OrV.same {H H' : Hp} {m : Nat} {x : V} {p : List Int} (g : Same H H') : OrV H m x p → OrV H' m x p
  | .inl h => .inl h
  | .inr ⟨h1, b, h2, h3⟩ => .inr ⟨h1, b, h2, g _ _ h3⟩
theorem OrR.same {H H' : Hp} {m : Nat} {os : List V} {ps : List (List Int)} (g : Same H H') (h : OrR H m os ps) : OrR H' m os ps := ⟨h.1, fun i x p e1 e2 => (h.2 i x p e1 e2).same g⟩
theorem OrR.lst {H : Hp} {m : Nat} {os : List V} {ps : List (List Int)} {D : Addr} {xs : List V} {o : HO} (h : OrR H m os ps) (hD : H D = some (.lst xs)) : OrR (upd H D o) m os ps := ⟨h.1, fun i x p e1 e2 => by
  rcases h.2 i x p e1 e2 with z | ⟨z1, b, z2, z3⟩
  · exact .inl z
  · exact .inr ⟨z1, b, z2, by rw [upd_ne (fun e => by rw [e, hD] at z3; cases z3)]; exact z3⟩⟩
theorem OrR.snoc {H : Hp} {m : Nat} {os : List V} {ps : List (List Int)} (h : OrR H m os ps) {x : V} {p : List Int} (hx : OrV H m x p) : OrR H m (os ++ [x]) (ps ++ [p]) :=
  ⟨by rw [List.length_append, List.length_append, h.1] <;> rfl, snoc2 (R := fun _ x p => OrV H m x p) h.1 h.2 hx⟩
theorem OrR.nil {H : Hp} {m : Nat} : OrR H m [] [] := ⟨rfl, fun i u p e _ => by cases e⟩
/-- the paths themselves -/
theorem OrR.of {H : Hp} {m : Nat} {us : List V} {ps : List (List Int)} (hm : 1 ≤ m) (h : PathsAt H us ps) (hl : ∀ p ∈ ps, p.length = m) : OrR H m us ps := ⟨h.1, fun i x p e1 e2 => by
  obtain ⟨b, e, hb⟩ := h.2 i x p e1 e2
  exact .inr ⟨hm, b, e, by rw [List.take_of_length_le (by rw [hl p (List.mem_of_getElem? e2)]; exact Nat.le_refl _)]; exact hb⟩⟩
/-- all the origins lead, if the known paths do -/
theorem OrR.org (T : TabOk zs ds l cs) {H : Hp} {m i : Nat} {os : List V} {bs : List Bool} (h : OrR H m os (pathsL zs ds (l.take i))) (hi : i ≤ l.length) (hm : m ≤ i) (hd : 1 ≤ m → ∀ p ∈ pathsL zs ds (l.take i), p.take m ∈ ds)
    (hb : ∀ c ∈ real cs, ∀ j : Nat, (pathsL zs ds (l.take i))[j]? = some ((pathI (l.map (·.2)) c.1).take i) → bs[j]? = some true) : OrgAt H os bs := by
  by_cases z : m = 0
  · refine .inl fun x hx => ?_
    obtain ⟨j, ej⟩ := at_of_mem hx
    have hj := (List.getElem?_eq_some_iff.mp ej).1
    rw [h.1] at hj
    rcases h.2 j x _ ej (List.getElem?_eq_getElem hj) with ⟨_, e⟩ | ⟨e, _⟩
    · exact e
    · omega
  · refine .inr ⟨(pathsL zs ds (l.take i)).map (·.take m), by rw [List.length_map, h.1], fun j x k ex ek => ?_, fun k hk => ?_⟩
    · rw [List.getElem?_map] at ek
      cases ep : (pathsL zs ds (l.take i))[j]? with
      | none => rw [ep] at ek; cases ek
      | some p =>
        rw [ep] at ek
        cases ek
        rcases h.2 j x p ex ep with ⟨e, _⟩ | ⟨_, b, e, hb⟩
        · exact absurd e z
        · exact ⟨b, e, hb⟩
    · obtain ⟨p, hp, rfl⟩ := List.mem_map.mp hk
      have pl := paths_len i hi p hp
      obtain ⟨c, hc, e⟩ := T.lead (hd (by omega) p hp)
      rw [List.length_take, pl, Nat.min_eq_left hm] at e
      obtain ⟨j, ej⟩ := at_of_mem (T.on hc i hi)
      refine ⟨j, ?_, hb c hc j ej⟩
      rw [List.getElem?_map, ej]
      show some (List.take m (List.take i _)) = _
      rw [List.take_take, Nat.min_eq_left hm, e]
/-- the next level's -/
theorem next_ds {i m : Nat} {q : Str × Int} (e : l[i]? = some q) (hm : m ≤ i) (hd : ∀ p ∈ pathsL zs ds (l.take i), p.take m ∈ ds) : ∀ p ∈ pathsL zs ds (l.take (i + 1)), p.take m ∈ ds := fun p hp => by
  have hi := (List.getElem?_eq_some_iff.mp e).1
  rw [pathsL_next e] at hp
  unfold stepP at hp
  obtain ⟨g, hg, hp⟩ := List.mem_flatten.mp hp
  obtain ⟨p0, hp0, rfl⟩ := List.mem_map.mp hg
  unfold goOn at hp
  obtain ⟨c, _, rfl⟩ := List.mem_map.mp hp
  rw [List.take_append_of_le_length (by rw [paths_len i (by omega) p0 hp0]; exact hm)]
  exact hd p0 hp0
theorem next_own {i : Nat} {q : Str × Int} (e : l[i]? = some q) (hk : q.1 ≠ "dense") : ∀ p ∈ pathsL zs ds (l.take (i + 1)), p.take (i + 1) ∈ ds := fun p hp => by
  have hi := (List.getElem?_eq_some_iff.mp e).1
  have pl := paths_len (i + 1) (by omega) p hp
  rw [List.take_of_length_le (by omega)]
  rw [pathsL_next e] at hp
  unfold stepP at hp
  obtain ⟨g, hg, hp⟩ := List.mem_flatten.mp hp
  obtain ⟨p0, hp0, rfl⟩ := List.mem_map.mp hg
  unfold goOn at hp
  obtain ⟨c, hc, rfl⟩ := List.mem_map.mp hp
  unfold rowD at hc
  rw [if_neg hk] at hc
  exact of_decide_eq_true (List.mem_filter.mp hc).2
/-! the cells of all the paths -/
def fullC (zs : List Int) (ds : List (List Int)) (l : List (Str × Int)) (cs : List (List Int × Int)) : List (List Int × Int) := (pathsL zs ds l).map fun p => (invI l zs.length p, vOf (cs.map (pkv (l.map (·.2)))) p)
theorem TabOk.inv (T : TabOk zs ds l cs) {p : List Int} (hp : p ∈ pathsL zs ds l) : InAt zs (invI l zs.length p) ∧ pathI (l.map (·.2)) (invI l zs.length p) = p := by
  have hp' := hp
  rw [← List.take_length (l := l)] at hp'
  exact invI_back T.gl.2.2 (paths_len l.length (Nat.le_refl _) p hp') (fun x hx => (T.z6 x hx).1) (paths_rng l.length (Nat.le_refl _) p hp')
theorem TabOk.nd (T : TabOk zs ds l cs) : (pathsL zs ds l).Nodup := by
  have z := paths_nd (zs := zs) (ds := ds) (l := l) l.length (Nat.le_refl _)
  rwa [List.take_length] at z
theorem TabOk.full (T : TabOk zs ds l cs) : GoodC zs (fullC zs ds l cs) := by
  refine ⟨?_, fun p hp => ?_⟩
  · unfold fullC
    rw [List.map_map]
    refine List.pairwise_map.mpr (T.nd.imp_of_mem fun {a b} ha hb ne e => ne ?_)
    have e' : invI l zs.length a = invI l zs.length b := e
    rw [← (T.inv ha).2, ← (T.inv hb).2, e']
  · obtain ⟨x, hx, rfl⟩ := List.mem_map.mp hp
    have v := vOf_small (cs := cs.map (pkv (l.map (·.2)))) (fun q hq => by
      obtain ⟨c, hc, rfl⟩ := List.mem_map.mp hq
      exact (T.gc.2 c hc).2) x
    refine ⟨(T.inv hx).1, ?_⟩
    show vOf _ x < 10 ^ 60 ∧ - 10 ^ 60 < vOf _ x
    omega
theorem TabOk.pnd (T : TabOk zs ds l cs) : ((cs.map (pkv (l.map (·.2)))).map (·.1)).Nodup := pkv_nodup T.gl.2.2 (fun p hp => ((T.gc.2 p hp).1).1) T.gc.1
theorem real_nd {cs : List (List Int × Int)} (h : (cs.map (·.1)).Nodup) : (real cs).Nodup := ((List.pairwise_map.mp h).imp fun {a b} ne e => ne (congrArg Prod.fst e)).sublist List.filter_sublist
theorem TabOk.fullR (T : TabOk zs ds l cs) : (real (fullC zs ds l cs)).Perm (real cs) := by
  refine (List.perm_ext_iff_of_nodup (real_nd T.full.1) (real_nd T.gc.1)).mpr fun c => ?_
  constructor
  · intro h
    obtain ⟨h1, h2⟩ := List.mem_filter.mp h
    obtain ⟨p, hp, rfl⟩ := List.mem_map.mp h1
    have nz : vOf (cs.map (pkv (l.map (·.2)))) p ≠ 0 := of_decide_eq_true h2
    have m : p ∈ (cs.map (pkv (l.map (·.2)))).map (·.1) := by
      by_cases m : p ∈ (cs.map (pkv (l.map (·.2)))).map (·.1)
      · exact m
      · exact absurd (vOf_out m) nz
    have m2 := vOf_mem m
    obtain ⟨c, hc, e⟩ := List.mem_map.mp m2
    have e1 : pathI (l.map (·.2)) c.1 = p := congrArg Prod.fst e
    have e2 : c.2 = vOf (cs.map (pkv (l.map (·.2)))) p := congrArg Prod.snd e
    have e3 : invI l zs.length p = c.1 := path_inj T.gl.2.2 (invI_len _ _ _) ((T.gc.2 c hc).1).1 (by rw [(T.inv hp).2, e1])
    have e4 : (invI l zs.length p, vOf (cs.map (pkv (l.map (·.2)))) p) = c := by rw [e3, ← e2]
    rw [e4]
    exact List.mem_filter.mpr ⟨hc, decide_eq_true (by rw [e2]; exact nz)⟩
  · intro h
    obtain ⟨h1, h2⟩ := List.mem_filter.mp h
    have ha := T.all h
    have ev : vOf (cs.map (pkv (l.map (·.2)))) (pathI (l.map (·.2)) c.1) = c.2 := vOf_in T.pnd (List.mem_map_of_mem (f := pkv (l.map (·.2))) h1)
    have e3 : invI l zs.length (pathI (l.map (·.2)) c.1) = c.1 := path_inj T.gl.2.2 (invI_len _ _ _) ((T.gc.2 c h1).1).1 (T.inv ha).2
    refine List.mem_filter.mpr ⟨List.mem_map.mpr ⟨_, ha, ?_⟩, h2⟩
    show (invI l zs.length (pathI (l.map (·.2)) c.1), vOf (cs.map (pkv (l.map (·.2)))) (pathI (l.map (·.2)) c.1)) = c
    rw [ev, e3]
end
/-! a table by cells that are the same but for zeros -/
theorem vOf_pk {zs fx : List Int} (hl : fx.Perm (iota zs.length)) {A B : List (List Int × Int)} (lA : ∀ c ∈ A, c.1.length = zs.length) (lB : ∀ c ∈ B, c.1.length = zs.length) (nA : (A.map (·.1)).Nodup) (nB : (B.map (·.1)).Nodup) (hp : (real A).Perm (real B)) (x : List Int) :
    vOf (A.map (pkv fx)) x = vOf (B.map (pkv fx)) x := by
  have sub : ∀ {D : List (List Int × Int)}, ∀ c ∈ real D, c ∈ D := fun c hc => (List.mem_filter.mp hc).1
  have nr : ∀ {D : List (List Int × Int)}, (D.map (·.1)).Nodup → ((real D).map (·.1)).Nodup := fun h => h.sublist ((List.filter_sublist).map _)
  have one : ∀ {D : List (List Int × Int)}, (∀ c ∈ D, c.1.length = zs.length) → (D.map (·.1)).Nodup → vOf ((real D).map (pkv fx)) x = vOf (D.map (pkv fx)) x := fun {D} lD nD => by
    refine vOf_same (pkv_nodup hl (fun c hc => lD c (sub c hc)) (nr nD)) (pkv_nodup hl lD nD) (fun y hy => ?_) (fun y hy ny => ?_) x
    · obtain ⟨c, hc, rfl⟩ := List.mem_map.mp hy
      exact List.mem_map_of_mem (sub c hc)
    · obtain ⟨c, hc, rfl⟩ := List.mem_map.mp hy
      exact List.mem_map_of_mem (List.mem_filter.mpr ⟨hc, decide_eq_true ny⟩)
  rw [← one lA nA, ← one lB nB]
  refine vOf_same (pkv_nodup hl (fun c hc => lA c (sub c hc)) (nr nA)) (pkv_nodup hl (fun c hc => lB c (sub c hc)) (nr nB)) (fun y hy => ?_) (fun y hy ny => ?_) x
  · obtain ⟨c, hc, rfl⟩ := List.mem_map.mp hy
    exact List.mem_map_of_mem (hp.mem_iff.mp hc)
  · obtain ⟨c, hc, rfl⟩ := List.mem_map.mp hy
    exact List.mem_map_of_mem (hp.mem_iff.mpr hc)
theorem StoredAt.real {K : PySem.W.Frag} {S : Addr} {H : Hp} {p q : Addr} {zs : List Int} {l : List (Str × Int)} {A B : List (List Int × Int)} (hl : (l.map (·.2)).Perm (iota zs.length)) (lA : ∀ c ∈ A, c.1.length = zs.length) (lB : ∀ c ∈ B, c.1.length = zs.length) (nA : (A.map (·.1)).Nodup) (nB : (B.map (·.1)).Nodup) (hp : (Lw.real A).Perm (Lw.real B)) :
    StoredAt K S H p q zs l A → StoredAt K S H p q zs l B
  | ⟨dx, ts, tc, tl, td, us, ds, c2, h1, h2, h3, h4, h5, h6, h7, h8, h9⟩ => by
    refine ⟨dx, ts, tc, tl, td, us, ds, c2, h1, h2, h3, h4.trans hp, h5, h6, h7, ?_, h9.perm (hp.map _)⟩
    have e : (pathsL zs ds l).map (fun x => V.int (vOf (A.map (pkv (l.map (·.2)))) x)) = (pathsL zs ds l).map fun x => V.int (vOf (B.map (pkv (l.map (·.2)))) x) := List.map_congr_left fun x _ => by rw [vOf_pk hl lA lB nA nB hp x]
    rw [e] at h8
    exact h8
/-- few paths of small sizes -/
theorem paths_five {zs : List Int} {ds : List (List Int)} {l : List (Str × Int)} (h : ∀ q ∈ l, szN zs q.2 ≤ 5) : ∀ i, i ≤ l.length → (pathsL zs ds (l.take i)).length ≤ 5 ^ i
  | 0, _ => by rw [List.take_zero]; exact Nat.le_refl _
  | i + 1, hi => by
    have e := List.getElem?_eq_getElem (l := l) (i := i) (by omega)
    rw [pathsL_next e]
    have a := paths_five (ds := ds) h i (by omega)
    have s5 := h _ (List.mem_of_getElem? e)
    generalize l[i] = q at s5
    have sum5 : ∀ ls : List Nat, (∀ x ∈ ls, x ≤ 5) → ls.sum ≤ 5 * ls.length := fun ls hls => by
      induction ls with
      | nil => exact Nat.le_refl _
      | cons x r ih =>
        have h1 := hls x (List.mem_cons_self ..)
        have h2 := ih fun y hy => hls y (List.mem_cons_of_mem _ hy)
        rw [List.sum_cons, List.length_cons]
        omega
    have b := sum5 (((pathsL zs ds (l.take i)).map (goOn zs ds q)).map List.length) fun x hx => by
      obtain ⟨r, hr, rfl⟩ := List.mem_map.mp hx
      obtain ⟨p, hp, rfl⟩ := List.mem_map.mp hr
      unfold goOn
      rw [List.length_map]
      exact Nat.le_trans (rowD_len _ _ _ _) s5
    unfold stepP
    rw [List.length_flatten, Nat.pow_succ]
    rw [List.length_map, List.length_map] at b
    omega
end Lw
namespace Lw
open PySem L2 TL DcT DuX
abbrev s_read_paths : Stmt := topS 54
abbrev n_read_paths : List Str := ["lines", "sizes", "form", "paths", "origins", "level", "at", "kind", "rows", "row", "origin", "c", "path"]
theorem sc_read_paths : FnScope n_read_paths ["lines", "sizes", "form"] (defScope s_read_paths) := ⟨rfl, rfl, rfl, by decide +kernel, rfl, by decide +kernel, by decide +kernel⟩
def spRp (K : PySem.W.Frag) (C : Addr) : Sp := fun vs H Q _ => ∃ (a z q : Addr) (zs : List Int) (ds : List (List Int)) (l : List (Str × Int)) (cs : List (List Int × Int)), vs = [.ref a, .ref z, .ref q] ∧ SqL K H a ((linesT zs ds l cs).map V.str) ∧ SqL K H z (zs.map V.int) ∧ FormAt K C q (l.map (·.1)) (l.map (·.2)) H ∧ TabOk zs ds l cs ∧
  ∀ (t b o : Addr) (vs os : List V) (m : Nat) (H' : Hp), Same H H' → SqT K H' t [.ref b, .ref o] → H' b = some (.lst vs) → PathsAt H' vs (pathsL zs ds l) → H' o = some (.lst os) → OrR H' m os (pathsL zs ds l) → m ≤ l.length → (1 ≤ m → ∀ p ∈ pathsL zs ds l, p.take m ∈ ds) → Q (.ref t) H'
theorem rows_below (zs : List Int) (ds ps : List (List Int)) (q : Str × Int) : RowsBelow (szN zs q.2) (rowsL zs ds ps q) := fun r hr => by
  obtain ⟨p, _, rfl⟩ := List.mem_map.mp hr
  exact ⟨_, rowD_eq _ _ _ _⟩
theorem line_lv (zs : List Int) (ds : List (List Int)) (l : List (Str × Int)) (cs : List (List Int × Int)) {i : Nat} (h : i < l.length) : ((linesT zs ds l cs).map V.str)[2 + i]? = some (.str (lvL zs ds l i)) := by
  rw [List.getElem?_map]
  have e : (linesT zs ds l cs)[2 + i]? = some (lvL zs ds l i) := by
    unfold linesT
    rw [Nat.add_comm 2 i, List.getElem?_cons_succ, List.getElem?_cons_succ, List.getElem?_append_left (by rw [List.length_map, List.length_range]; exact h), List.getElem?_map, List.getElem?_range h] <;> rfl
  rw [e] <;> rfl
section
variable {P : Program} {w : World} {K : PySem.W.Frag} {mg : Str → Option Value} {base : Heap} {C fI BF AW KD f : Addr} {MC : Value} {fd : FuncData}
theorem ok_read_paths {tH : Tok} (F : Fun K "read_paths" "read_paths" s_read_paths f fd) (T : Fm K mg C fI BF AW KD MC) (B : Bt mg) (mH : mg "HEAD_LINES" = some (.int 2 tH)) (cR : Ca P w K mg base 6 "rows_in" ["line", "kind", "size", "upper_count"] (spRin K)) (cL : Ca P w K mg base 1 "line_at" ["lines", "at"] (spLa K)) (cA : Ca P w K mg base 1 "all_lead" ["origins", "leading"] (spAl K)) : FnOk P w K mg base CX0 7 f fd ["lines", "sizes", "form"] (spRp K C) := by
  refine F.ok sc_read_paths (fun vs H Q E h => ?_) (fun cdv A outer s H vs Q E hr h => ?_)
  · obtain ⟨a, z, q, zs, ds, l, cs, rfl, _⟩ := h
    rfl
  obtain ⟨a, z, q, zs, ds, l, cs, rfl, ha, hz, ⟨dx, tk, ta, hq, htk, hta⟩, tb, k⟩ := h
  refine ⟨_, (pss_cons (ps_set (i := 3) sc_read_paths.nd rfl (Or.inl rfl) (pe_lst (pa_cons (pe_tup pa_nil) pa_nil)))
(pss_cons (ps_set (i := 4) sc_read_paths.nd rfl (Or.inl rfl) (pe_lst (pa_cons pe_non pa_nil)))
(pss_cons (ps_for PassesOwn.never rfl (pi_range1 (by rfl) B.range (pa_cons (pe_callB call_len_seq (by rfl) B.len PySem.boot_len (pa_cons (pe_fld (pv 2) rfl) pa_nil)) pa_nil)) (pg_name (i := 5) sc_read_paths.nd rfl (Or.inl rfl))
(pss_cons (ps_set (i := 6) sc_read_paths.nd rfl (Or.inl rfl) (pe_op op_add (pe_glob (v := .int 2) (by rfl) mH ⟨_, rfl⟩) (pv 5)))
(pss_cons (ps_set (i := 7) sc_read_paths.nd rfl (Or.inl rfl) (pe_ix ix_tup (pe_fld (pv 2) rfl) (pv 5) (fun _ _ => rfl)))
(pss_cons (ps_set (i := 8) sc_read_paths.nd rfl (Or.inl rfl) (pca cR hr (by decide) rfl (pa_cons (pca cL hr (by decide) rfl (pa_cons (pv 0) (pa_cons (pv 6) pa_nil))) (pa_cons (pv 7) (pa_cons (pe_ix ix_list (pv 1) (pe_ix ix_tup (pe_fld (pv 2) rfl) (pv 5) (fun _ _ => rfl)) (fun _ _ => rfl)) (pa_cons (pe_callB call_len_seq (by rfl) B.len PySem.boot_len (pa_cons (pv 3) pa_nil)) pa_nil))))))
(pss_cons (ps_if (PW.pt (pw_or (pt_cmpR op_isN (pv 8) pe_non (nomark _)) (pw_or1 (pt_not (pt_val (pca cA hr (by decide) rfl (pa_cons (pv 4) (pa_cons (pe_lc (own := [("row", 9)]) (g := (gName 9)) (tt := tYes) (te := tOp rGt (tCB (rLen K) (tCons (tVar 9) tNil)) (tC (.int 0))) rfl sc_read_paths.nd (pi_list (pv 8)) (blkOk_by (N := n_read_paths) (sc := defScope s_read_paths) (by decide +kernel)) (fun _ _ _ _ _ => (pg_name (i := 9) sc_read_paths.nd rfl (Or.inl rfl))) (fun _ _ _ _ _ => pts_nil) (fun _ _ _ _ _ => (pe_cmpR op_gt (pe_callB call_len_seq (by rfl) B.len PySem.boot_len (pa_cons (pv 9) pa_nil)) pe_int (nomark _)))) pa_nil))))))))
(pss_one ps_never) pss_nil)
(pss_cons (ps_setLc2 (i := 4) (own := [("origin", 10), ("row", 9), ("c", 11)]) (vs1 := [11]) (g := (gTup K 2 (gCons (gName 10) (gCons (gName 9) gNil)))) (g1 := (gName 11)) (tt := tYes) (tt1 := tYes) (wi1 := iList K (tVar 9)) (te := tVar 10) rfl sc_read_paths.nd rfl rfl (sw_true rfl rfl rfl (by decide +kernel)) (pi_zip (by rfl) B.zip (pa_cons (pv 4) (pa_cons (pv 8) pa_nil))) (blkOk_by (N := n_read_paths) (sc := defScope s_read_paths) (by decide +kernel)) (by decide) (fun _ _ _ _ _ => (pg_tup rfl (pgs_cons (pg_name (i := 10) sc_read_paths.nd rfl (Or.inl rfl)) (pgs_cons (pg_name (i := 9) sc_read_paths.nd rfl (Or.inl rfl)) pgs_nil)))) (fun _ _ _ _ _ => pts_nil) (fun _ _ _ _ _ => (pi_list (pv 9))) (fun _ _ _ _ _ => (pg_name (i := 11) sc_read_paths.nd rfl (Or.inl rfl))) (fun _ _ _ _ _ => pts_nil) (fun _ _ _ _ _ => (pv 10)))
(pss_cons (ps_setLc2 (i := 3) (own := [("path", 12), ("row", 9), ("c", 11)]) (vs1 := [11]) (g := (gTup K 2 (gCons (gName 12) (gCons (gName 9) gNil)))) (g1 := (gName 11)) (tt := tYes) (tt1 := tYes) (wi1 := iList K (tVar 9)) (te := tTup (StX.tStar K (tVar 12) (tCons (tVar 11) tNil))) rfl sc_read_paths.nd rfl rfl (sw_true rfl rfl rfl (by decide +kernel)) (pi_zip (by rfl) B.zip (pa_cons (pv 3) (pa_cons (pv 8) pa_nil))) (blkOk_by (N := n_read_paths) (sc := defScope s_read_paths) (by decide +kernel)) (by decide) (fun _ _ _ _ _ => (pg_tup rfl (pgs_cons (pg_name (i := 12) sc_read_paths.nd rfl (Or.inl rfl)) (pgs_cons (pg_name (i := 9) sc_read_paths.nd rfl (Or.inl rfl)) pgs_nil)))) (fun _ _ _ _ _ => pts_nil) (fun _ _ _ _ _ => (pi_list (pv 9))) (fun _ _ _ _ _ => (pg_name (i := 11) sc_read_paths.nd rfl (Or.inl rfl))) (fun _ _ _ _ _ => pts_nil) (fun _ _ _ _ _ => (pe_tup (StX.pa_star (pv 12) (pa_cons (pv 11) pa_nil)))))
(pss_one (ps_if (pt_cmpR op_ne (pv 7) pe_str (nomark _))
(pss_one (ps_set (i := 4) sc_read_paths.nd rfl (Or.inl rfl) (pe_callTy call_list_of (by rfl) B.lst (by decide +kernel) (pa_cons (pv 3) pa_nil)))) pss_nil)))))))))
(pss_one (ps_ret (pe_tup (pa_cons (pv 3) (pa_cons (pv 4) pa_nil)))))))), ?_⟩
  have six := sz_six tb.gl.2.2 tb.z6
  have l3 := tb.l3
  have ln : ((l.map (·.1)).map V.str).length = l.length := by simp only [List.length_map]
  refine ⟨(by show 0 ≤ sizeLine; decide), fun e0 he0 => ?_⟩
  have ge := same_new he0 (.tup [])
  refine ⟨(by show 1 ≤ sizeLine; decide), fun Pp hPp => ?_⟩
  have gP := same_new hPp (.lst [.ref e0])
  refine ⟨(by show 1 ≤ sizeLine; decide), fun Op hOp => ?_⟩
  have gO := same_new hOp (.lst [.non])
  have hPp0 : upd (upd (upd H e0 (.tup [])) Pp (.lst [.ref e0])) Op (.lst [.non]) Pp = some (.lst [.ref e0]) := gO _ _ upd_same
  have hOp0 : upd (upd (upd H e0 (.tup [])) Pp (.lst [.ref e0])) Op (.lst [.non]) Op = some (.lst [.non]) := upd_same
  have hpe0 : PathsAt (upd (upd (upd H e0 (.tup [])) Pp (.lst [.ref e0])) Op (.lst [.non])) [.ref e0] [[]] := PathsAt.nil.snoc (p := []) (gO _ _ (gP _ _ upd_same))
  have g0 := ge.trans (gP.trans gO)
  generalize upd (upd (upd H e0 (.tup [])) Pp (.lst [.ref e0])) Op (.lst [.non]) = H1 at hPp0 hOp0 hpe0 g0 ⊢
  refine ⟨_, rfl, q, C, dx, _, _, rfl, g0 _ _ hq, T.cl, T.nK, flds_k _ _, tk, _, rfl, .inr (seqT g0 htk), _, rfl, by rw [ln]; omega, by rw [ln]; omega, ?_⟩
  rw [ln]
  refine for_range (lo := 0) (n := l.length) (fun i σ' H' => ∃ (u5 u6 u7 u8 u9 u10 u11 u12 : Option V) (vs os : List V) (Pa Oa : Addr) (m : Nat), σ' = [some (.ref a), some (.ref z), some (.ref q), some (.ref Pa), some (.ref Oa), u5, u6, u7, u8, u9, u10, u11, u12] ∧
      H' Pa = some (.lst vs) ∧ PathsAt H' vs (pathsL zs ds (l.take i)) ∧ H' Oa = some (.lst os) ∧ OrR H' m os (pathsL zs ds (l.take i)) ∧ m ≤ i ∧ (1 ≤ m → ∀ p ∈ pathsL zs ds (l.take i), p.take m ∈ ds) ∧ Same H H')
    ⟨_, _, _, _, _, _, _, _, [.ref e0], [.non], Pp, Op, 0, rfl, hPp0, hpe0, hOp0, OrR.nil.snoc (.inl ⟨rfl, rfl⟩), Nat.le_refl _, (fun h => absurd h (by decide)), g0⟩ ?_ ?_
  · rintro i σ' H2 hi ⟨u5, u6, u7, u8, u9, u10, u11, u12, vs, os, Pa, Oa, m, rfl, v1, v2, v3, v4, v5, v6, v7⟩
    have eq := List.getElem?_eq_getElem hi
    obtain ⟨kd, j, eqq⟩ : ∃ kd j, l[i] = (kd, j) := ⟨_, _, rfl⟩
    rw [eqq] at eq
    have hqm := List.mem_of_getElem? eq
    obtain ⟨s6, sat⟩ := six _ hqm
    have s6 : szN zs j ≤ 6 := s6
    have hkd : kd ∈ KINDS := tb.gl.2.1 _ hqm
    have pf : (pathsL zs ds (l.take i)).length ≤ 36 := by
      have a := paths_few (ds := ds) (fun q hq => (six q hq).1) i (by omega)
      have b : 6 ^ i ≤ 6 ^ 2 := Nat.pow_le_pow_right (by decide) (by omega)
      omega
    have plen := paths_len (zs := zs) (ds := ds) (l := l) i (by omega)
    have enext := pathsL_next (zs := zs) (ds := ds) eq
    have fr := tb.rows eq
    have ek : ((l.map (·.1)).map V.str)[i]? = some (.str kd) := by rw [List.getElem?_map, List.getElem?_map, eq] <;> rfl
    have ea : ((l.map (·.2)).map V.int)[i]? = some (.int j) := by rw [List.getElem?_map, List.getElem?_map, eq] <;> rfl
    have ak : atI ((l.map (·.1)).map V.str) (0 + (i : Int)) = some (.str kd) := by rw [Int.zero_add]; exact atI_nat ek
    have aa : atI ((l.map (·.2)).map V.int) (0 + (i : Int)) = some (.int j) := by rw [Int.zero_add]; exact atI_nat ea
    -- at, kind
    refine ⟨_, rfl, _, _, rfl, rfl, ?_⟩
    refine ⟨_, rfl, q, C, dx, _, _, rfl, v7 _ _ hq, T.cl, T.nK, flds_k _ _, _, rfl, tk, _, _, _, rfl, rfl, seqT v7 htk, ak, ?_⟩
    -- rows
    have lv : lvL zs ds l i = lineT kd (rowsL zs ds (pathsL zs ds (l.take i)) (kd, j)) := by
      unfold lvL lvR
      rw [lvQ_at eq]
    have el := line_lv zs ds l cs hi
    rw [lv] at el
    have rl : (rowsL zs ds (pathsL zs ds (l.take i)) (kd, j)).length = (pathsL zs ds (l.take i)).length := by
      unfold rowsL
      rw [List.length_map]
    have vl : vs.length = (pathsL zs ds (l.take i)).length := v2.1
    refine ⟨_, rfl, _, rfl, a, 2 + i, _, _, congrArg (fun x => [V.ref a, V.int x]) (by omega), v7.seq ha, el, ?_⟩
    refine ⟨_, rfl, _, rfl, _, rfl, q, C, dx, _, _, rfl, v7 _ _ hq, T.cl, T.nA, flds_a _ _, _, rfl, ta, _, _, _, rfl, rfl, (tzS v7 hta).seq, aa, z, _, _, _, rfl, rfl, v7.seq hz, sat, _, rfl, Pa, vs, rfl, .inl (SqL.of v1), ?_⟩
    refine ⟨kd, szN zs j, rowsL zs ds (pathsL zs ds (l.take i)) (kd, j), by rw [vl, ← rl]; rfl, hkd, fr, s6, rows_below _ _ _ _, fun e r hr => ?_, fun R us H3 g3 nR hR hrows => ?_⟩
    · obtain ⟨p, _, rfl⟩ := List.mem_map.mp hr
      unfold rowD
      rw [if_pos e]
    have g13 := v7.trans g3
    have w1 := g3 _ _ v1
    have w2 := v2.same g3
    have w3 := g3 _ _ v3
    have w4 := v4.same g3
    have hN := hrows.rows
    -- whether all lead
    refine ⟨_, rfl, rfl, _, rfl, iteN (decide_eq_false (fun e => by cases e)) ?_⟩
    refine ⟨_, rfl, _, rfl, R, rfl, ⟨_, SqL.of hR⟩, fun D hD => ?_⟩
    have usl : us.length = (rowsL zs ds (pathsL zs ds (l.take i)) (kd, j)).length := hN.1
    refine lc_list (K := K) (a := R) (xs := us) (InvM H3 D (fun r : List Int => V.bl (decide (0 < r.length))) (rowsL zs ds (pathsL zs ds (l.take i)) (kd, j))) ⟨upd_same, same_new hD _⟩ (fun n H' _ ⟨_, g⟩ => SqL.of (g _ _ hR)) (fun n x H' hx hv => ?_) ?_
    · have hn := (List.getElem?_eq_some_iff.mp hx).1
      rw [usl] at hn
      have er := List.getElem?_eq_getElem hn
      generalize (rowsL zs ds (pathsL zs ds (l.take i)) (kd, j))[n] = row at er
      obtain ⟨b, rfl, hb⟩ := hN.2 n x row hx er
      refine ⟨rfl, kept ⟨_, rfl, b, _, rfl, .inl (SqL.of (hv.2 _ _ hb)), _, _, rfl, rfl, ?_⟩⟩
      have e0 : decide ((0 : Int) < (((row.map V.int).length : Nat) : Int)) = decide (0 < row.length) := by
        rw [List.length_map]
        exact decide_eq_decide.mpr (by omega)
      dsimp only
      rw [e0]
      exact ⟨_, hv.1, len_m4 (by omega), InvM.next (f := fun r : List Int => V.bl (decide (0 < r.length))) hD hv.2 er _ rfl⟩
    rw [usl]
    rintro H4 ⟨hd4, g4⟩
    rw [List.take_length] at hd4
    have x1 := g4 _ _ w1
    have x2 := w2.same g4
    have x3 := g4 _ _ w3
    have x4 := w4.same g4
    have xR := g4 _ _ hR
    have xrows := hrows.same g4
    have horg : OrgAt H4 os ((rowsL zs ds (pathsL zs ds (l.take i)) (kd, j)).map fun r => decide (0 < r.length)) := by
      refine x4.org tb (by omega) v5 v6 fun c hc n en => ?_
      obtain ⟨x, _, hx⟩ := tb.go hc eq
      unfold rowsL
      rw [List.map_map, List.getElem?_map, en]
      show some (decide (0 < (rowD kd (szN zs j) _ ds).length)) = some true
      rw [decide_eq_true (List.length_pos_of_mem hx)]
    refine ⟨Oa, D, os, _, rfl, x3, by rw [hd4, List.map_map] <;> rfl, by rw [List.length_map, rl]; exact x4.1, by rw [x4.1]; omega, horg, fun H5 g5 => ?_⟩
    refine ⟨_, rfl, iteF ?_⟩
    have y1 := g5 _ _ x1
    have y2 := x2.same g5
    have y3 := g5 _ _ x3
    have y4 := x4.same g5
    have yR := g5 _ _ xR
    have yrows := xrows.same g5
    have g15 := (g13.trans g4).trans g5
    have yN := yrows.rows
    generalize eps : pathsL zs ds (l.take i) = ps at pf plen enext rl vl usl y2 y4 yN v6
    have osl : os.length = ps.length := y4.1
    -- origins
    refine ⟨_, rfl, _, rfl, Oa, R, os, us, rfl, SqL.of y3, SqL.of yR, fun N hN0 => ?_⟩
    have gN := same_new hN0 (.lst [])
    refine out2_it (walk_zip (K := K) (a := Oa) (b := R) (xs := os) (ys := us) (n := ps.length) (by omega)) (fun n H' => ∃ ws : List V, H' N = some (.lst ws) ∧ OrR H' m ws (((ps.take n).map (goOn zs ds (kd, j))).flatten) ∧ Same H5 H') ⟨[], upd_same, OrR.nil, gN⟩ (fun n H' _ ⟨_, _, _, g⟩ => ⟨SqL.of (g _ _ y3), SqL.of (g _ _ yR)⟩) (fun n y H9 H10 hm hv hy => ?_) ?_
    · obtain ⟨ws', n1, n2, n3⟩ := hv
      obtain ⟨U2, x2', y2', rfl, hU2, rfl, ex2, ey2⟩ := hy
      have ep := List.getElem?_eq_getElem hm
      generalize ps[n] = pm at ep
      have pml := plen pm (List.mem_of_getElem? ep)
      have er : (rowsL zs ds ps (kd, j))[n]? = some (rowD kd (szN zs j) pm ds) := by
        unfold rowsL
        rw [List.getElem?_map, ep] <;> rfl
      have hov := y4.2 n x2' pm ex2 ep
      obtain ⟨ra, rfl, hra⟩ := yN.2 n y2' _ ey2 er
      have gU2 := same_new hU2 (.tup [x2', .ref ra])
      have step : goOn zs ds (kd, j) pm = (rowD kd (szN zs j) pm ds).map fun c => pm ++ [c] := rfl
      have flm : ((ps.take (n + 1)).map (goOn zs ds (kd, j))).flatten = ((ps.take n).map (goOn zs ds (kd, j))).flatten ++ (rowD kd (szN zs j) pm ds).map fun c => pm ++ [c] := by
        rw [List.take_succ, ep, List.map_append, List.flatten_append, ← step]
        show _ ++ List.flatten [goOn zs ds (kd, j) pm] = _
        rw [List.flatten_cons, List.flatten_nil, List.append_nil]
      have few : (((ps.take n).map (goOn zs ds (kd, j))).flatten).length ≤ 216 := by
        have a := step_few (zs := zs) (ds := ds) (ps := ps.take n) (q := (kd, j)) s6
        have b : (ps.take n).length ≤ ps.length := by rw [List.length_take]; omega
        unfold stepP at a
        omega
      have rl6 := rowD_len kd (szN zs j) pm ds
      generalize hrow : rowD kd (szN zs j) pm ds = row at hra flm rl6
      generalize ((ps.take n).map (goOn zs ds (kd, j))).flatten = fl at n2 flm few
      refine ⟨U2, [x2', .ref ra], rfl, SqT.of upd_same, rfl, _, _, rfl, _, _, rfl, rfl, rfl, keptP ?_⟩
      have m1 := gU2 _ _ n1
      have m2 := n2.same gU2
      have m3 := n3.trans gU2
      generalize upd H9 U2 (.tup [x2', .ref ra]) = H11 at m1 m2 m3 ⊢
      refine ⟨_, rfl, ra, rfl, ⟨_, SqL.of (m3 _ _ hra)⟩, in2_it (walk_list (K := K) (a := ra) (xs := row.map V.int)) (fun n H' => ∃ ws : List V, H' N = some (.lst ws) ∧ OrR H' m ws (fl ++ (row.take n).map fun c => pm ++ [c]) ∧ Same H5 H') ⟨ws', m1, by rw [List.take_zero, List.map_nil, List.append_nil]; exact m2, m3⟩ (fun n H' _ ⟨_, _, _, g⟩ => SqL.of (g _ _ hra)) (fun n c H12 H13 hn hv3 hy3 => ?_) ?_⟩
      · obtain ⟨rfl, hy3⟩ := hy3
        obtain ⟨c, ec, rfl⟩ := at_map hy3
        obtain ⟨ws2, u1, u2, u3⟩ := hv3
        rw [List.length_map] at hn
        refine ⟨rfl, kept ⟨_, rfl, ws2, u1, ?_, ws2 ++ [x2'], upd_same, ?_, same_over u3 hN0 _⟩⟩
        · have z := u2.1
          rw [List.length_append, List.length_map, List.length_take] at z
          exact small1000 (by omega)
        · rw [List.take_succ, ec, List.map_append, ← List.append_assoc]
          refine (OrR.snoc u2 (p := pm ++ [c]) ?_).lst u1
          rcases hov with ⟨e1, e2⟩ | ⟨e1, b, e2, e3⟩
          · exact .inl ⟨e1, e2⟩
          · refine .inr ⟨e1, b, e2, ?_⟩
            rw [List.take_append_of_le_length (by omega)]
            exact u3 _ _ e3
      · rintro H12 ⟨ws2, u1, u2, u3⟩
        rw [List.length_map, List.take_length] at u2
        exact ⟨ws2, u1, by rw [flm]; exact u2, u3⟩
    rintro H9 ⟨os', n1, n2, n3⟩
    rw [List.take_length] at n2
    have n2 : OrR H9 m os' (stepP zs ds ps (kd, j)) := n2
    rw [← enext] at n2
    have y1 := n3 _ _ y1
    have y2 := y2.same n3
    have yR := n3 _ _ yR
    have yN : RowsAt H9 us (rowsL zs ds ps (kd, j)) := by rw [← eps]; exact (yrows.same n3).rows
    have g19 := g15.trans n3
    -- paths
    refine ⟨_, rfl, _, rfl, Pa, R, vs, us, rfl, SqL.of y1, SqL.of yR, fun M hM0 => ?_⟩
    have gM := same_new hM0 (.lst [])
    refine out2_it (walk_zip (K := K) (a := Pa) (b := R) (xs := vs) (ys := us) (n := ps.length) (by omega)) (fun n H' => ∃ ws : List V, H' M = some (.lst ws) ∧ PathsAt H' ws (((ps.take n).map (goOn zs ds (kd, j))).flatten) ∧ Same H9 H') ⟨[], upd_same, PathsAt.nil, gM⟩ (fun n H' _ ⟨_, _, _, g⟩ => ⟨SqL.of (g _ _ y1), SqL.of (g _ _ yR)⟩) (fun n y H10 H10' hm hv hy => ?_) ?_
    · obtain ⟨ws', p1, p2, p3⟩ := hv
      obtain ⟨U2, x2', y2', rfl, hU2, rfl, ex2, ey2⟩ := hy
      have ep := List.getElem?_eq_getElem hm
      generalize ps[n] = pm at ep
      have pml := plen pm (List.mem_of_getElem? ep)
      have er : (rowsL zs ds ps (kd, j))[n]? = some (rowD kd (szN zs j) pm ds) := by
        unfold rowsL
        rw [List.getElem?_map, ep] <;> rfl
      obtain ⟨b, rfl, hb⟩ := y2.2 n x2' pm ex2 ep
      obtain ⟨ra, rfl, hra⟩ := yN.2 n y2' _ ey2 er
      have gU2 := same_new hU2 (.tup [.ref b, .ref ra])
      have step : goOn zs ds (kd, j) pm = (rowD kd (szN zs j) pm ds).map fun c => pm ++ [c] := rfl
      have flm : ((ps.take (n + 1)).map (goOn zs ds (kd, j))).flatten = ((ps.take n).map (goOn zs ds (kd, j))).flatten ++ (rowD kd (szN zs j) pm ds).map fun c => pm ++ [c] := by
        rw [List.take_succ, ep, List.map_append, List.flatten_append, ← step]
        show _ ++ List.flatten [goOn zs ds (kd, j) pm] = _
        rw [List.flatten_cons, List.flatten_nil, List.append_nil]
      have few : (((ps.take n).map (goOn zs ds (kd, j))).flatten).length ≤ 216 := by
        have a := step_few (zs := zs) (ds := ds) (ps := ps.take n) (q := (kd, j)) s6
        have b : (ps.take n).length ≤ ps.length := by rw [List.length_take]; omega
        unfold stepP at a
        omega
      have rl6 := rowD_len kd (szN zs j) pm ds
      generalize hrow : rowD kd (szN zs j) pm ds = row at hra flm rl6
      generalize ((ps.take n).map (goOn zs ds (kd, j))).flatten = fl at p2 flm few
      refine ⟨U2, [.ref b, .ref ra], rfl, SqT.of upd_same, rfl, _, _, rfl, _, _, rfl, rfl, rfl, keptP ?_⟩
      have m1 := gU2 _ _ p1
      have m2 := p2.same gU2
      have m3 := p3.trans gU2
      generalize upd H10 U2 (.tup [.ref b, .ref ra]) = H11 at m1 m2 m3 ⊢
      refine ⟨_, rfl, ra, rfl, ⟨_, SqL.of (m3 _ _ hra)⟩, in2_it (walk_list (K := K) (a := ra) (xs := row.map V.int)) (fun n H' => ∃ ws : List V, H' M = some (.lst ws) ∧ PathsAt H' ws (fl ++ (row.take n).map fun c => pm ++ [c]) ∧ Same H9 H') ⟨ws', m1, by rw [List.take_zero, List.map_nil, List.append_nil]; exact m2, m3⟩ (fun n H' _ ⟨_, _, _, g⟩ => SqL.of (g _ _ hra)) (fun n c H12 H13 hn hv3 hy3 => ?_) ?_⟩
      · obtain ⟨rfl, hy3⟩ := hy3
        obtain ⟨c, ec, rfl⟩ := at_map hy3
        obtain ⟨ws2, u1, u2, u3⟩ := hv3
        rw [List.length_map] at hn
        refine ⟨rfl, kept ⟨_, rfl, b, _, rfl, .inl (SqT.of (u3 _ _ hb)), _, rfl, ?_, fun t ht => ?_⟩⟩
        · rw [List.length_append, List.length_map]
          exact Nat.le_trans (show _ ≤ 1000 by show pm.length + 1 ≤ 1000; omega) (by decide)
        have gt := same_new ht (.tup (pm.map V.int ++ [.int c]))
        have u1t := gt _ _ u1
        refine ⟨ws2, u1t, ?_, ws2 ++ [.ref t], upd_same, ?_, same_over (u3.trans gt) hM0 _⟩
        · have z := u2.1
          rw [List.length_append, List.length_map, List.length_take] at z
          exact small1000 (by omega)
        · rw [List.take_succ, ec, List.map_append, ← List.append_assoc]
          refine (PathsAt.snoc (u2.same gt) (p := pm ++ [c]) (b := t) ?_).lst u1t
          rw [List.map_append]
          exact upd_same
      · rintro H12 ⟨ws2, u1, u2, u3⟩
        rw [List.length_map, List.take_length] at u2
        exact ⟨ws2, u1, by rw [flm]; exact u2, u3⟩
    rintro H10 ⟨vs', p1, p2, p3⟩
    rw [List.take_length] at p2
    have p2' : PathsAt H10 vs' (stepP zs ds ps (kd, j)) := p2
    rw [← enext] at p2'
    have z1 := p3 _ _ n1
    have z2 := n2.same p3
    have gA := g19.trans p3
    subst eps
    -- the next origins
    by_cases hden : kd = "dense"
    · refine ⟨_, rfl, rfl, _, rfl, iteN (by rw [hden, decide_eq_true rfl] <;> rfl) ?_⟩
      exact ⟨_, _, _, _, _, _, _, _, vs', os', M, N, m, rfl, p1, p2', z1, z2, by omega, fun h1 => next_ds eq v5 (v6 h1), gA⟩
    · refine ⟨_, rfl, rfl, _, rfl, iteC (by rw [decide_eq_false (fun e => hden (by injection e))] <;> rfl) ?_⟩
      refine ⟨_, rfl, M, vs', rfl, .inl (SqL.of p1), fun L hL => ?_⟩
      have gL := same_new hL (.lst vs')
      exact ⟨_, _, _, _, _, _, _, _, vs', vs', M, L, i + 1, rfl, gL _ _ p1, p2'.same gL, upd_same, OrR.of (by omega) (p2'.same gL) (paths_len (i + 1) (by omega)), Nat.le_refl _, fun _ => next_own eq hden, gA.trans gL⟩
  · rintro σ' H2 ⟨u5, u6, u7, u8, u9, u10, u11, u12, vs, os, Pa, Oa, m, rfl, v1, v2, v3, v4, v5, v6, v7⟩
    rw [List.take_length] at v2 v4 v6
    refine ⟨_, rfl, _, rfl, (by show 2 ≤ sizeLine; decide), fun t ht => ?_⟩
    have gt := same_new ht (.tup [.ref Pa, .ref Oa])
    exact k t Pa Oa vs os m _ (v7.trans gt) (SqT.of upd_same) (gt _ _ v1) (v2.same gt) (gt _ _ v3) (v4.same gt) v5 v6
end
end Lw
namespace Lw
open PySem L2 TL DcT DuX
section
variable {zs : List Int} {ds : List (List Int)} {l : List (Str × Int)} {cs : List (List Int × Int)}
theorem tableT_len (T : TabOk zs ds l cs) : (tableT zs ds l cs).length ≤ 13000000 := by
  obtain ⟨a, b⟩ := T.lines
  have z := sum_le' b
  have h := joinL_len (tl "\n") ((linesT zs ds l cs).map tl)
  have e : (tl "\n").length = 1 := by decide +kernel
  have e2 : (((linesT zs ds l cs).map tl).map (·.length)).sum = ((linesT zs ds l cs).map (·.length)).sum := by
    rw [List.map_map]
    exact congrArg List.sum (List.map_congr_left fun x _ => (len_tl x).symm)
  rw [e, e2, List.length_map, Nat.mul_one] at h
  have m := Nat.mul_le_mul_right 2010000 a
  rw [len_tl, show tl (tableT zs ds l cs) = joinL (tl "\n") ((linesT zs ds l cs).map tl) by unfold tableT; rw [join_eq, tl_join]]
  omega
theorem form_head (x : Str) : joinW [.str "form", .str x] = "form " ++ x := by
  refine ext_tl ?_
  unfold joinW
  rw [join_eq, tl_join, tl_append]
  show tl "form" ++ (tl " " ++ tl x) = _
  rw [← List.append_assoc]
  congr 1
theorem line_0 : ((linesT zs ds l cs).map V.str)[0]? = some (.str (joinW (.str "sizes" :: zs.map V.int))) := rfl
theorem line_1 : ((linesT zs ds l cs).map V.str)[1]? = some (.str (joinW [.str "form", .str (ftext (l.map (·.1)) (l.map (·.2)))])) := rfl
theorem line_last : ((linesT zs ds l cs).map V.str)[2 + l.length]? = some (.str (joinW (.str "values" :: dataV zs ds l cs))) := by
  rw [List.getElem?_map]
  have e : (linesT zs ds l cs)[2 + l.length]? = some (joinW (.str "values" :: dataV zs ds l cs)) := by
    unfold linesT
    rw [Nat.add_comm 2 l.length, List.getElem?_cons_succ, List.getElem?_cons_succ, List.getElem?_append_right (by rw [List.length_map, List.length_range]; exact Nat.le_refl _), List.length_map, List.length_range, Nat.sub_self] <;> rfl
  rw [e] <;> rfl
theorem lines_len : ((linesT zs ds l cs).map V.str).length = l.length + 3 := by
  rw [List.length_map]
  unfold linesT
  rw [List.length_cons, List.length_cons, List.length_append, List.length_map, List.length_range, List.length_singleton]
def dataN (zs : List Int) (ds : List (List Int)) (l : List (Str × Int)) (cs : List (List Int × Int)) : List Int := (pathsL zs ds l).map fun x => vOf (cs.map (pkv (l.map (·.2)))) x
theorem dataV_eq : dataV zs ds l cs = (dataN zs ds l cs).map V.int := by
  unfold dataV dataN
  rw [List.map_map] <;> rfl
theorem TabOk.val (T : TabOk zs ds l cs) (x : List Int) : (vOf (cs.map (pkv (l.map (·.2)))) x).natAbs < 10 ^ 60 := vOf_small (fun q hq => by
  obtain ⟨c, hc, rfl⟩ := List.mem_map.mp hq
  exact (T.gc.2 c hc).2) x
end
abbrev s_read_table : Stmt := topS 56
abbrev n_read_table : List Str := ["text", "lines", "sizes", "form", "paths", "origins", "last", "values", "cells", "path", "value"]
theorem sc_read_table : FnScope n_read_table ["text"] (defScope s_read_table) := ⟨rfl, rfl, rfl, by decide +kernel, rfl, by decide +kernel, by decide +kernel⟩
def spRT (K : PySem.W.Frag) (S C : Addr) : Sp := fun vs H Q _ => ∃ (zs : List Int) (ds : List (List Int)) (l : List (Str × Int)) (cs : List (List Int × Int)), vs = [.str (tableT zs ds l cs)] ∧ TabOk zs ds l cs ∧ (∀ x ∈ zs, x ≤ 5) ∧
  ∀ (x q : Addr) (H' : Hp), Same H H' → StoredAt K S H' x q zs l cs → FormAt K C q (l.map (·.1)) (l.map (·.2)) H' → Q (.ref x) H'
section
variable {P : Program} {w : World} {K : PySem.W.Frag} {mg : Str → Option Value} {base : Heap} {S fS C fI BF AW KD f : Addr} {MC : Value} {dS fd : FuncData}
theorem ok_read_table {tH : Tok} (F : Fun K "read_table" "read_table" s_read_table f fd) (T : Sd K S C) (Tf : Fm K mg C fI BF AW KD MC) (B : Bt mg) (mH : mg "HEAD_LINES" = some (.int 2 tH)) (MS : Mk K S fS) (GS : FnOk P w K mg base (L2.CX P w) 5 fS dS ["self", "sizes", "form", "cells"] (spStI K S C BF)) (bS : Binds K dS ["self", "sizes", "form", "cells"] []) (mS : mg "Stored" = some (.ref S))
    (cZ : Ca P w K mg base 4 "sizes_in" ["line"] spSzin) (cF : Ca P w K mg base 6 "form_in" ["line", "level_count"] (spFin K C)) (cL : Ca P w K mg base 1 "line_at" ["lines", "at"] (spLa K)) (cP : Ca P w K mg base 7 "read_paths" ["lines", "sizes", "form"] (spRp K C)) (cV : Ca P w K mg base 4 "values_in" ["line", "origins"] spVin) (cC : Ca P w K mg base 1 "coordinates_of" ["form", "path"] (spCo K C)) :
    FnOk P w K mg base CX0 8 f fd ["text"] (spRT K S C) := by
  refine F.ok sc_read_table (fun vs H Q E h => ?_) (fun cdv A outer s H vs Q E hr h => ?_)
  · obtain ⟨zs, ds, l, cs, rfl, _⟩ := h
    rfl
  obtain ⟨zs, ds, l, cs, rfl, tb, z5, k⟩ := h
  refine ⟨_, (pss_cons (ps_set (i := 1) sc_read_table.nd rfl (Or.inl rfl) (pe_split (pv 0) pe_str))
(pss_cons (ps_set (i := 2) sc_read_table.nd rfl (Or.inl rfl) (pca cZ hr (by decide) rfl (pa_cons (pe_ix ix_list (pv 1) pe_int (fun _ _ => rfl)) pa_nil)))
(pss_cons (ps_if (pt_cmpR op_isN (pv 2) pe_non (nomark _))
(pss_one ps_never) pss_nil)
(pss_cons (ps_set (i := 3) sc_read_table.nd rfl (Or.inr rfl) (pca cF hr (by decide) rfl (pa_cons (pca cL hr (by decide) rfl (pa_cons (pv 1) (pa_cons pe_int pa_nil))) (pa_cons (pe_callB call_len_seq (by rfl) B.len PySem.boot_len (pa_cons (pv 2) pa_nil)) pa_nil))))
(pss_cons (ps_if (pt_cmpR op_isN (pv 3) pe_non (nomark _))
(pss_one ps_never) pss_nil)
(pss_cons (ps_asg (pca cP hr (by decide) rfl (pa_cons (pv 1) (pa_cons (pv 2) (pa_cons (pv 3) pa_nil)))) (pg_tup rfl (pgs_cons (pg_name (i := 4) sc_read_table.nd rfl (Or.inl rfl)) (pgs_cons (pg_name (i := 5) sc_read_table.nd rfl (Or.inl rfl)) pgs_nil))))
(pss_cons (ps_set (i := 6) sc_read_table.nd rfl (Or.inl rfl) (pe_op op_add (pe_glob (v := .int 2) (by rfl) mH ⟨_, rfl⟩) (pe_callB call_len_seq (by rfl) B.len PySem.boot_len (pa_cons (pv 2) pa_nil))))
(pss_cons (ps_set (i := 7) sc_read_table.nd rfl (Or.inl rfl) (pca cV hr (by decide) rfl (pa_cons (pca cL hr (by decide) rfl (pa_cons (pv 1) (pa_cons (pv 6) pa_nil))) (pa_cons (pv 5) pa_nil))))
(pss_cons (ps_if (pt_cmpR op_isN (pv 7) pe_non (nomark _))
(pss_one ps_never) pss_nil)
(pss_cons (ps_if (pt_cmpR op_gt (pe_callB call_len_seq (by rfl) B.len PySem.boot_len (pa_cons (pv 1) pa_nil)) (pe_op op_add (pv 6) pe_int) (nomark _))
(pss_one ps_never) pss_nil)
(pss_cons (DcT.ps_setDcT (i := 8) (own := [("path", 9), ("value", 10)]) (g := gTup K 2 (gCons (gName 9) (gCons (gName 10) gNil))) (tt := tYes) (tk := tCall (spCo K C) [] E0 (tCons (tVar 3) (tCons (tVar 9) tNil))) (tv := tVar 10) (room0 hr) rfl sc_read_table.nd rfl rfl (DcT.sw_trueD rfl rfl rfl (by decide +kernel)) (pi_zip (by rfl) B.zip (pa_cons (pv 4) (pa_cons (pv 7) pa_nil))) (blkOk_by (N := n_read_table) (sc := defScope s_read_table) (by decide +kernel)) (fun _ _ _ _ _ => (pg_tup rfl (pgs_cons (pg_name (i := 9) sc_read_table.nd rfl (Or.inl rfl)) (pgs_cons (pg_name (i := 10) sc_read_table.nd rfl (Or.inl rfl)) pgs_nil)))) (fun _ _ _ _ _ => pts_nil) (fun _ _ _ _ _ => pca cC hr (by decide) rfl (pa_cons (pv 3) (pa_cons (pv 9) pa_nil))) (fun _ _ _ _ _ => pv 10))
(pss_one (ps_ret (pe_make MS GS (hr.mono (by decide)) (by rfl) mS bS .nil (passL (X := (cxOf CX0 P w K mg base n_read_table "read_table" (defScope s_read_table) f cdv A outer s H E).nox)) (pa_cons (pv 2) (pa_cons (pv 3) (pa_cons (pv 8) pa_nil))))))))))))))))), ?_⟩
  have z3 := tb.z3
  have l3 := tb.l3
  have hv := tb.valid
  have ll : l.length = zs.length := tb.gl.1
  have six := sz_six tb.gl.2.2 tb.z6
  have pf : (pathsL zs ds l).length ≤ 125 := by
    have a := paths_five (zs := zs) (ds := ds) (l := l) (fun q hq => by
      have hq2 : q.2 ∈ l.map (·.2) := List.mem_map_of_mem hq
      obtain ⟨q0, q1⟩ := iota_mem.mp (tb.gl.2.2.mem_iff.mp hq2)
      have lt : q.2.toNat < zs.length := by omega
      unfold szN
      rw [List.getD_eq_getElem?_getD, List.getElem?_eq_getElem lt]
      have := z5 _ (List.getElem_mem lt)
      show (zs[q.2.toNat]).toNat ≤ 5
      omega) l.length (Nat.le_refl _)
    rw [List.take_length] at a
    exact Nat.le_trans a (Nat.le_trans (Nat.pow_le_pow_right (by decide) l3) (by decide))
  have hsz : sizesOk zs = true := by
    unfold sizesOk
    rw [decide_eq_true z3, Bool.true_and, List.all_eq_true]
    intro x hx
    obtain ⟨a, b⟩ := tb.z6 x hx
    rw [decide_eq_true a, decide_eq_true b] <;> rfl
  have jl : ∀ {xs : List V}, WordsOk xs → (joinW xs).length + 2 ≤ sizeLine := fun h => Nat.le_trans (Nat.add_le_add_right h.jl 2) (by decide)
  -- lines
  refine ⟨_, rfl, ⟨_, rfl⟩, _, _, rfl, rfl, by decide +kernel, Nat.le_trans (Nat.add_le_add_right (tableT_len tb) 2) (by decide), fun p1 hp1 => ?_⟩
  rw [text_split tb.gl.2.1]
  have g1 := same_new hp1 (.lst ((linesT zs ds l cs).map V.str))
  have ep1 : upd H p1 (.lst ((linesT zs ds l cs).map V.str)) p1 = some (.lst ((linesT zs ds l cs).map V.str)) := upd_same
  generalize upd H p1 (.lst ((linesT zs ds l cs).map V.str)) = H1 at g1 ep1 ⊢
  -- sizes
  refine ⟨_, rfl, p1, _, (0 : Int), _, rfl, rfl, SqL.of ep1, atI_nat (j := 0) line_0, zs, rfl, jl tb.w1, fun n hn => ?_, z3, hsz, fun r H2 g2 nr hr2 => ?_⟩
  · have := tb.z6 n hn
    exact numOk_few (by omega)
  refine ⟨_, rfl, rfl, _, rfl, iteN (decide_eq_false (fun e => by cases e)) ?_⟩
  have ep2 := g2 _ _ ep1
  -- form
  refine ⟨_, rfl, p1, 1, _, _, rfl, SqL.of ep2, line_1, _, rfl, r, _, rfl, .inl (SqL.of hr2), l.map (·.1), l.map (·.2), by rw [form_head, List.length_map, List.length_map, ll] <;> rfl, hv, by have := (ftext_small hv).1; omega, fun pf' H3 g3 hpf => ?_⟩
  refine ⟨_, rfl, rfl, _, rfl, iteN (decide_eq_false (fun e => by cases e)) ?_⟩
  have ep3 := g3 _ _ ep2
  have hr3 := g3 _ _ hr2
  -- paths
  refine ⟨_, rfl, _, rfl, _, rfl, p1, r, pf', zs, ds, l, cs, rfl, SqL.of ep3, SqL.of hr3, hpf, tb, fun t b o vs os m H4 g4 ht hb hp ho hor hm hmd => ?_⟩
  refine ⟨t, _, rfl, ht, rfl, _, _, rfl, _, _, rfl, rfl, ?_⟩
  have ep4 := g4 _ _ ep3
  have hr4 := g4 _ _ hr3
  have hpf4 := hpf.same g4
  -- last
  refine ⟨_, rfl, r, _, rfl, .inl (SqL.of hr4), _, _, rfl, rfl, ?_⟩
  -- values
  have pl : (dataN zs ds l cs).length = (pathsL zs ds l).length := by
    unfold dataN
    rw [List.length_map]
  have hor' : OrR H4 m os (pathsL zs ds (l.take l.length)) := by rw [List.take_length]; exact hor
  have horg : OrgAt H4 os ((dataN zs ds l cs).map fun n => decide (n ≠ 0)) := by
    refine hor'.org tb (Nat.le_refl _) hm (by rw [List.take_length]; exact hmd) fun c hc j ej => ?_
    rw [List.take_length, List.take_of_length_le (by rw [tb.plen]; exact Nat.le_refl _)] at ej
    obtain ⟨h1, h2⟩ := List.mem_filter.mp hc
    unfold dataN
    rw [List.map_map, List.getElem?_map, ej]
    show some (decide (vOf (cs.map (pkv (l.map (·.2)))) (pathI (l.map (·.2)) c.1) ≠ 0)) = some true
    rw [show vOf (cs.map (pkv (l.map (·.2)))) (pathI (l.map (·.2)) c.1) = c.2 from vOf_in tb.pnd (List.mem_map_of_mem (f := pkv (l.map (·.2))) h1), h2]
  have w3 := jl tb.w3
  have elast := line_last (zs := zs) (ds := ds) (l := l) (cs := cs)
  rw [dataV_eq] at w3 elast
  refine ⟨_, rfl, _, rfl, p1, 2 + l.length, _, _, congrArg (fun x => [V.ref p1, V.int x]) (by rw [List.length_map]; omega), SqL.of ep4, elast, _, rfl, o, os, dataN zs ds l cs, rfl, w3, ho, by rw [pl]; exact hor.1, by omega, fun n hn => ?_, fun n hn => ?_, horg, fun rv H5 g5 nrv hrv => ?_⟩
  · obtain ⟨x, _, rfl⟩ := List.mem_map.mp hn
    exact ⟨log_val (tb.val x), Nat.le_trans (numS_val (tb.val x)) (by decide)⟩
  · obtain ⟨x, _, rfl⟩ := List.mem_map.mp hn
    have := tb.val x
    unfold largeI
    refine decide_eq_false ?_
    generalize vOf (cs.map (pkv (l.map (·.2)))) x = v at this
    split <;> omega
  refine ⟨_, rfl, rfl, _, rfl, iteN (decide_eq_false (fun e => by cases e)) ?_⟩
  have ep5 := g5 _ _ ep4
  refine ⟨_, rfl, p1, _, rfl, .inl (SqL.of ep5), _, rfl, _, _, rfl, rfl, _, _, rfl, rfl, _, rfl, iteN (decide_eq_false (by rw [lines_len, List.length_map]; omega)) ?_⟩
  have hr5 := g5 _ _ hr4
  have hpf5 := hpf4.same g5
  have hb5 := g5 _ _ hb
  have hp5 := hp.same g5
  have vl : vs.length = (pathsL zs ds l).length := hp5.1
  -- cells
  refine ⟨_, rfl, _, rfl, b, rv, vs, _, rfl, SqL.of hb5, SqL.of hrv, fun D hD => ?_⟩
  have gD := same_new hD (.dT [])
  have fl : (fullC zs ds l cs).length = (pathsL zs ds l).length := by
    unfold fullC
    rw [List.length_map]
  have fnd := tb.full.1
  refine DcT.dcT_it (walk_zip (K := K) (a := b) (b := rv) (xs := vs) (ys := (dataN zs ds l cs).map V.int) (n := (pathsL zs ds l).length) (by rw [List.length_map]; omega)) (fun i H' => H' D = some (.dT (((fullC zs ds l cs).take i).map cell)) ∧ Same H5 H') ⟨upd_same, gD⟩ (fun i H' _ ⟨_, g⟩ => ⟨SqL.of (g _ _ hb5), SqL.of (g _ _ hrv)⟩) (fun i y H6 H7 hi hv6 hy => ?_) ?_
  · obtain ⟨v1, v2⟩ := hv6
    obtain ⟨U2, x1, y1, rfl, hU2, rfl, ex, ey⟩ := hy
    have ep := List.getElem?_eq_getElem hi
    generalize hpm : (pathsL zs ds l)[i] = pm at ep
    have pmem := List.mem_of_getElem? ep
    obtain ⟨pb, rfl, hpb⟩ := hp5.2 i x1 pm ex ep
    obtain ⟨n, en, rfl⟩ := at_map ey
    have en2 : n = vOf (cs.map (pkv (l.map (·.2)))) pm := by
      unfold dataN at en
      rw [List.getElem?_map, ep] at en
      exact (Option.some.inj en).symm
    have ec : (fullC zs ds l cs)[i]? = some (invI l zs.length pm, n) := by
      unfold fullC
      rw [List.getElem?_map, ep, en2] <;> rfl
    have gU2 := same_new hU2 (.tup [.ref pb, .int n])
    obtain ⟨i1, i2⟩ := tb.inv pmem
    refine ⟨U2, [.ref pb, .int n], rfl, SqT.of upd_same, rfl, _, _, rfl, _, _, rfl, rfl, ?_⟩
    have w1 := gU2 _ _ v1
    have w2 := v2.trans gU2
    generalize upd H6 U2 (.tup [.ref pb, .int n]) = H8 at w1 w2 ⊢
    refine ⟨rfl, kept ⟨_, rfl, _, rfl, pf', pb, _, _, invI l zs.length pm, rfl, hpf5.same w2, by rw [i2]; exact SqT.of (w2 _ _ hpb), by rw [invI_len]; exact tb.gl.2.2, by rw [invI_len]; exact z3, fun t0 H9 g9 ht0 => ?_⟩⟩
    have g := w2.trans g9
    refine ⟨_, rfl, ?_⟩
    refine ⟨_, DPut.t (k := (invI l zs.length pm).map Sum.inl) (g9 _ _ w1) (by rw [keyI]; exact ht0) (by rw [List.length_map, List.length_take]; exact small1000 (by omega)), ?_, same_over g hD _⟩
    have et : (fullC zs ds l cs).take (i + 1) = (fullC zs ds l cs).take i ++ [(invI l zs.length pm, n)] := by rw [List.take_succ, ec] <;> rfl
    rw [upd_same, putK_cells, putC_new, et]
    intro hm
    obtain ⟨y, hy, e⟩ := List.mem_map.mp hm
    obtain ⟨j, hj, ej⟩ := List.mem_iff_getElem.mp hy
    rw [List.length_take] at hj
    rw [List.getElem_take] at ej
    obtain ⟨l1, l2⟩ := List.getElem?_eq_some_iff.mp ec
    have := (List.getElem_inj fnd (h₀ := by rw [List.length_map]; omega) (h₁ := by rw [List.length_map]; exact l1)).mp (show ((fullC zs ds l cs).map (·.1))[j]'(by rw [List.length_map]; omega) = ((fullC zs ds l cs).map (·.1))[i]'(by rw [List.length_map]; exact l1) by rw [List.getElem_map, List.getElem_map, ej, l2]; exact e)
    omega
  rintro H6 ⟨v1, v2⟩
  rw [List.take_of_length_le (by rw [fl]; exact Nat.le_refl _)] at v1
  have g16 := (((g1.trans g2).trans g3).trans g4).trans (g5.trans v2)
  have hr6 := v2 _ _ hr5
  have hpf6 := hpf5.same v2
  -- the table
  refine ⟨_, rfl, _, rfl, _, rfl, ?_⟩
  intro x dx nx ndx ne
  have g17 : Same H6 (upd (upd H6 dx (.own x)) x (.ins S dx [])) := fun b o e => by rw [upd_ne (ne_of_none e nx), upd_ne (ne_of_none e ndx)]; exact e
  refine ⟨x, dx, r, pf', D, zs, l, fullC zs ds l cs, rfl, upd_same, .inl (SqL.of (g17 _ _ hr6)), hpf6.same g17, g17 _ _ v1, z3, tb.gl.2.1, fun _ => tb.gl.2.2, tb.z6, tb.full, by omega, fun _ H18 kp hSt _ => ⟨rfl, ?_⟩, fun e => absurd ll e⟩
  have g18 : Same H6 H18 := fun b o e => kp b o (ne_of_none e nx) (g17 _ _ e)
  exact k x pf' H18 (g16.trans g18) (hSt.real tb.gl.2.2 (fun c hc => ((tb.full.2 c hc).1).1) (fun c hc => ((tb.gc.2 c hc).1).1) tb.full.1 tb.gc.1 tb.fullR) (hpf6.same g18)
end
end Lw
namespace Lw
open PySem L2 TL DcT L2.DX
theorem SX.keep {st q : Addr} {H H' : Hp} {b : Int} (s : Spr H st q b) (g : SX st q H H') {a : Addr} {o : HO} (h : H a = some o) (n : ∀ xs, o ≠ .lst xs) : H' a = some o := by
  obtain ⟨ns, x, c, h1, h2, _⟩ := s
  exact g _ _ (fun e => by rw [e, h1] at h; cases h; exact n _ rfl) (fun e => by rw [e, h2] at h; cases h; exact n _ rfl) h
abbrev s_law : Stmt := topS 77
abbrev n_law : List Str := ["_law_script", "_law_stream", "_law_turn", "_law_sizes_here", "_law_cells_here", "_law_k", "_law_form_here", "_law_text", "_law_back", "_law_due"]
theorem sc_law : FnScope n_law ["_law_script"] (defScope s_law) := ⟨rfl, rfl, rfl, by decide +kernel, rfl, by decide +kernel, by decide +kernel⟩
def spLaw (K : PySem.W.Frag) : Sp := fun vs H Q _ => ∃ (a : Addr) (ns : List Int), vs = [.ref a] ∧ SqL K H a (ns.map V.int) ∧ ns.length ≤ 63 ∧ ∀ H' : Hp, Q (.bl true) H'
section
variable {P : Program} {w : World} {K : PySem.W.Frag} {mg : Str → Option Value} {base : Heap} {S C f : Addr} {fd : FuncData}
theorem ok_law (F : Fun K "law" "law" s_law f fd) (B : Bt mg)
    (cS : Ca P w K mg base 1 "_law_start" ["_law_script"] (spStart K)) (cD : Ca P w K mg base 1 "_law_draw" ["_law_stream", "_law_many"] spDraw)
    (cZ : Ca P w K mg base 2 "_law_sizes" ["_law_stream", "_law_rank", "_law_most"] (spSizes K)) (cC : Ca P w K mg base 3 "_law_cells" ["_law_stream", "_law_sizes_here", "_law_most", "_law_is_small"] (spCells K)) (cF : Ca P w K mg base 3 "_law_form" ["_law_stream", "_law_rank"] (spForm K))
    (cSt : Ca P w K mg base 7 "_law_stored" ["_law_table", "_law_form_here"] (spLSt K S C)) (cT : Ca P w K mg base 2 "_law_told" ["_law_stored_here"] (spTold K S C)) (cE : Ca P w K mg base 7 "_law_same" ["_law_found", "_law_due"] (spSame K 7))
    (cTT : Ca P w K mg base 3 "table_text" ["stored"] (spTT K S C)) (cL : Ca P w K mg base 3 "_law_table_text" ["_law_sizes_here", "_law_form_here", "_law_cells_here"] (spLTT K)) (cR : Ca P w K mg base 8 "read_table" ["text"] (spRT K S C)) :
    FnOk P w K mg base CX0 9 f fd ["_law_script"] (spLaw K) := by
  refine F.ok sc_law (fun vs H Q E h => ?_) (fun cdv A0 outer s H vs Q E hr h => ?_)
  · obtain ⟨a, ns, rfl, _⟩ := h
    rfl
  obtain ⟨a, ns, rfl, hS, hn, k⟩ := h
  refine ⟨_, (pss_cons (ps_set (i := 1) sc_law.nd rfl (Or.inl rfl) (pca cS hr (by decide) rfl (pa_cons (pv 0) pa_nil)))
(pss_cons (ps_for PassesOwn.never rfl (pi_range1 (by rfl) B.range (pa_cons pe_int pa_nil)) (pg_name (i := 2) sc_law.nd rfl (Or.inl rfl))
(pss_cons (ps_set (i := 3) sc_law.nd rfl (Or.inl rfl) (pca cZ hr (by decide) rfl (pa_cons (pv 1) (pa_cons (pca cD hr (by decide) rfl (pa_cons (pv 1) (pa_cons pe_int pa_nil))) (pa_cons pe_int pa_nil)))))
(pss_cons (ps_set (i := 4) sc_law.nd rfl (Or.inl rfl) (pca cC hr (by decide) rfl (pa_cons (pv 1) (pa_cons (pv 3) (pa_cons pe_int (pa_cons pe_bl pa_nil))))))
(pss_one (ps_for PassesOwn.never rfl (pi_range1 (by rfl) B.range (pa_cons pe_int pa_nil)) (pg_name (i := 5) sc_law.nd rfl (Or.inl rfl))
(pss_cons (ps_set (i := 6) sc_law.nd rfl (Or.inl rfl) (pca cF hr (by decide) rfl (pa_cons (pv 1) (pa_cons (pe_callB call_len_seq (by rfl) B.len PySem.boot_len (pa_cons (pv 3) pa_nil)) pa_nil))))
(pss_cons (ps_set (i := 7) sc_law.nd rfl (Or.inl rfl) (pca cL hr (by decide) rfl (pa_cons (pv 3) (pa_cons (pv 6) (pa_cons (pv 4) pa_nil)))))
(pss_cons (ps_set (i := 8) sc_law.nd rfl (Or.inl rfl) (pca cR hr (by decide) rfl (pa_cons (pv 7) pa_nil)))
(pss_cons (ps_set (i := 9) sc_law.nd rfl (Or.inl rfl) (pca cT hr (by decide) rfl (pa_cons (pca cSt hr (by decide) rfl (pa_cons (pe_tup (pa_cons (pv 3) (pa_cons (pv 4) pa_nil))) (pa_cons (pv 6) pa_nil))) pa_nil)))
(pss_one (ps_if (PW.pt (pw_or (pt_not (pt_val (pca cE hr (by decide) rfl (pa_cons (pca cT hr (by decide) rfl (pa_cons (pv 8) pa_nil)) (pa_cons (pv 9) pa_nil))))) (pw_or1 (pt_cmpR op_ne (pca cTT hr (by decide) rfl (pa_cons (pv 8) pa_nil)) (pv 7) (nomark _)))))
(pss_one (ps_ret pe_bl)) pss_nil)))))))))))
(pss_one (ps_ret pe_bl)))), ?_⟩
  refine ⟨_, rfl, a, ns, rfl, hS, hn, fun st q H1 g1 hs1 => ?_⟩
  refine ⟨5, rfl, by decide, by decide, for_range (lo := 0) (n := 5) (fun i σ' H' => ∃ (b : Int) (u2 u3 u4 u5 u6 u7 u8 u9 : Option V), σ' = [some (.ref a), some (.ref st), u2, u3, u4, u5, u6, u7, u8, u9] ∧ Spr H' st q b ∧ 0 ≤ b ∧ b ≤ 100 * i)
    ⟨0, _, _, _, _, _, _, _, _, rfl, hs1, by decide, by decide⟩ ?_ (fun σ' H' h => ?_)⟩
  · rintro i σ' H2 hi ⟨b, u2, u3, u4, u5, u6, u7, u8, u9, rfl, hs2, hb0, hb1⟩
    -- sizes
    refine ⟨_, rfl, _, rfl, st, q, b, 4, rfl, hs2, hb0, by omega, by decide, by decide, fun r H3 r0 r1 hs3 g3 => ?_⟩
    obtain ⟨n, rfl⟩ : ∃ n : Nat, r = n := ⟨r.toNat, by omega⟩
    refine ⟨st, q, b + 1, n, 5, rfl, hs3, by omega, by omega, by omega, by decide, by decide, fun z zs b4 H4 hzl hzb hz hb4 hb4' hs4 g4 => ?_⟩
    have n3 : zs.length ≤ 3 := by omega
    have hz6 : ∀ x ∈ zs, 1 ≤ x ∧ x ≤ 6 := fun x hx => ⟨(hzb x hx).1, by have := (hzb x hx).2; omega⟩
    have hz5' : ∀ x ∈ zs, x ≤ 5 := fun x hx => (hzb x hx).2
    have lz : (zs.map V.int).length = zs.length := List.length_map _
    -- cells
    refine ⟨_, rfl, _, rfl, st, q, z, b4, zs, 9, false, rfl, hs4, by omega, by omega, n3, (fun x hx => ⟨(hz6 x hx).1, by have := (hz6 x hx).2; omega⟩), SqT.of hz, by decide, fun d cs b5 H5 hgood hcl hd5 hb5 hb5' hs5 g5 => ?_⟩
    have c64 : cs.length < 64 := by omega
    have hz5 : SqT K H5 z (zs.map V.int) := TK.sx hs4 g5 _ _ (SqT.of hz)
    -- two forms
    refine ⟨2, rfl, by decide, by decide, for_range (lo := 0) (n := 2) (fun j σ' H' => ∃ (b' : Int) (y5 y6 y7 y8 y9 : Option V), σ' = [some (.ref a), some (.ref st), some (.int (0 + (i : Int))), some (.ref z), some (.ref d), y5, y6, y7, y8, y9] ∧ Spr H' st q b' ∧ 0 ≤ b' ∧ b' ≤ b + 76 + 6 * (j : Int) ∧ SX st q H5 H')
      ⟨b5, _, _, _, _, _, rfl, hs5, by omega, by omega, SX.refl⟩ ?_ ?_⟩
    · rintro j σ' H9 hj ⟨b9, y5, y6, y7, y8, y9, rfl, hs9, hb90, hb91, gx9⟩
      have hz9 := TK.sx hs5 gx9 _ _ hz5
      have hd9 := gx9.keep hs5 hd5 (fun _ e => by cases e)
      refine ⟨_, rfl, _, rfl, z, _, rfl, .inr hz9, st, q, b9, (zs.map V.int).length, rfl, hs9, by omega, by omega, by omega, fun tf us l b10 H10 hgl hT htu hb10 hb10' hs10 g10 => ?_⟩
      rw [lz] at hgl
      have hz10 := TK.sx hs9 g10 _ _ hz9
      have hd10 := g10.keep hs9 hd9 (fun _ e => by cases e)
      have tb : TabOk zs (ledOf (known (l.map (·.2)) cs)) l cs := ⟨n3, hgl, hz6, hgood, by omega, led_of _⟩
      -- the text
      refine ⟨_, rfl, _, rfl, _, rfl, z, tf, d, zs, us, l, cs, _, rfl, hz10, hT, htu, hd10, tb, c64, fun H11 g11 => ?_⟩
      -- the table read back
      refine ⟨_, rfl, zs, _, l, cs, rfl, tb, hz5', fun x q5 H12 g12 hSt hF => ?_⟩
      have gA := g11.trans g12
      -- due
      refine ⟨_, rfl, _, rfl, (by show 2 ≤ sizeLine; decide), fun t2 ht2 => ?_⟩
      have gt2 := same_new ht2 (.tup [.ref z, .ref d])
      have gB := gA.trans gt2
      refine ⟨_, rfl, t2, z, d, tf, zs, us, l, cs, rfl, SqT.of upd_same, seqT gB hz10, seqT gB hT, htu.mono (.of gB), hgl, gB _ _ hd10, n3, hz6, hgood, by omega, fun x9 q9 H15 g15 hSt15 hF15 _ => ?_⟩
      refine ⟨x9, q9, zs, l, cs, rfl, hSt15, hF15, c64, fun vb H16 g16 hvb => ?_⟩
      have gC := (gt2.trans g15).trans g16
      -- compared
      refine ⟨_, rfl, x, q5, zs, l, cs, rfl, hSt.same gC, hF.same gC, c64, fun va H17 g17 hva => ?_⟩
      refine ⟨_, rfl, va, vb, rfl, told_sm hva (hvb.same g17) n3 hgl hz6 hgood c64, fun H18 g18 => ⟨_, rfl, iteF ?_⟩⟩
      have gD := (gC.trans g17).trans g18
      refine ⟨_, rfl, x, q5, zs, l, cs, _, rfl, hSt.same gD, hF.same gD, tb, fun H19 g19 => ?_⟩
      refine ⟨_, rfl, rfl, _, rfl, iteN (by simp) ?_⟩
      have gE := gA.trans (gD.trans g19)
      exact ⟨b10, _, _, _, _, _, rfl, hs10.same gE, by omega, by omega, (gx9.trans g10).trans (.of gE)⟩
    · rintro σ' H9 ⟨b9, y5, y6, y7, y8, y9, rfl, hs9, hb90, hb91, gx9⟩
      exact ⟨b9, _, _, _, _, _, _, _, _, rfl, hs9, by omega, by omega⟩
  · exact k H'
end
end Lw
namespace Lw
open PySem L2 TL DcT
/-- a def of the text, as the top leaves it -/
structure Dx (K : PySem.W.Frag) (mg : Str → Option Value) (x : Str) (st : Stmt) (f : Addr) (fd : FuncData) : Prop where
  F : Fun K x x st f fd
  m : mg x = some (.ref f)
theorem dx_mk {K : PySem.W.Frag} {h : Heap} {mg : Str → Option Value} {x : Str} {st : Stmt} {f : Addr} (X : K.In h) (G : h.Ns mainGlobals mg) {od an : Option Addr} {sl : Array (Option Value)} {oc kV dc pm cd ct : Value}
    (a : PySem.W.nsIn K mainGlobals x = some (some (.ref f))) (l : K.lookup f = some ⟨oc, od, .func (PySem.W.fnOf x x (defArgs st) (defBody st) (defScope st) .none kV dc pm an cd ct), sl⟩) (c : PySem.W.codeIn K cd x = true) (k : PySem.W.keepIn K (.ref f) = true) :
    Dx K mg x st f (PySem.W.fnOf x x (defArgs st) (defBody st) (defScope st) .none kV dc pm an cd ct) := ⟨fun_mk l c k, PySem.W.mg_of X G a⟩
theorem sq_const {K : PySem.W.Frag} {H : Hp} {a : Addr} {xs : List V} {od : Option Addr} {its : Array Value} {n : Nat} {sl : Array (Option Value)} (l : K.lookup a = some ⟨.type "tuple", od, .seq its n, sl⟩) (h : its.size ≤ sizeLine) (v : Vals xs its.toList) : SqT K H a xs :=
  .inr ⟨_, its, n, l, rfl, rfl, h, v⟩
theorem ok_sames {P : Program} {w : World} {K : PySem.W.Frag} {mg : Str → Option Value} {base : Heap} {f : Addr} {fd : FuncData} (F : Fun K "_law_same" "_law_same" sSame f fd) (bF : Binds K fd ["_law_found", "_law_due"] []) (mF : mg "_law_same" = some (.ref f)) (B : Bt mg) :
    ∀ n : Nat, FnOk P w K mg base CX0 n f fd ["_law_found", "_law_due"] (spSame K n)
  | 0 => none_left fun vs H Q E ⟨_, _, _, h, _⟩ => h
  | n + 1 => ok_same F (ok_sames F bF mF B n) bF F.kp mF B
theorem ca_of {P : Program} {w : World} {K : PySem.W.Frag} {mg : Str → Option Value} {base : Heap} {x : Str} {s : Stmt} {f : Addr} {fd : FuncData} {n : Nat} {ps : List Str} {sp : Sp} (D : Dx K mg x s f fd) (b : Binds K fd ps []) (G : FnOk P w K mg base CX0 n f fd ps sp) : Ca P w K mg base n x ps sp := ⟨f, fd, G, b, D.F.kp, D.m⟩
theorem all_mk {l : PySem.W.OpenLaw} {w : World} {K : PySem.W.Frag} {h : Heap} {mg : Str → Option Value} {fa : Addr} (X : K.In h) (G : h.Ns mainGlobals mg) (hfa : mg "law" = some (.ref fa))
    {fL C U fI fU BF AW KD Dk pR gR pT gT gEn f_is_whole f_frozen f_are_axes f_are_sizes f_are_coordinates f_is_large f_path_of f_checked_cells f_in_path_order f_bucket_number f_buckets_of f_starts_of f_level_of f_row_below f_leading_paths f_laid_out f__law_draw f__law_start f__law_pick f__law_mixed f__law_same f__law_worth f__law_small f__law_sizes f__law_at f__law_cells f__law_form_text f__law_form f__law_stored f__law_real f__law_path f__law_rows f_spaced f_level_line f_table_text f__law_level_line f__law_table_text f__law_told f_whole_in f_integers_in f_integers_behind f_sizes_in f_form_in f_halves_of f_packed_rows f_bits_rows f_hashed_rows f_seeming_rows f_rows_in f_all_lead f_values_in f_line_at f_read_paths f_coordinates_of f_read_table : Addr} {d_is_whole d_frozen d_are_axes d_are_sizes d_are_coordinates d_is_large d_path_of d_checked_cells d_in_path_order d_bucket_number d_buckets_of d_starts_of d_level_of d_row_below d_leading_paths d_laid_out d__law_draw d__law_start d__law_pick d__law_mixed d__law_same d__law_worth d__law_small d__law_sizes d__law_at d__law_cells d__law_form_text d__law_form d__law_stored d__law_real d__law_path d__law_rows d_spaced d_level_line d_table_text d__law_level_line d__law_table_text d__law_told d_whole_in d_integers_in d_integers_behind d_sizes_in d_form_in d_halves_of d_packed_rows d_bits_rows d_hashed_rows d_seeming_rows d_rows_in d_all_lead d_values_in d_line_at d_read_paths d_coordinates_of d_read_table : FuncData} {cd0 cd1 cd2 cd3 cd6 cd7 ct0 ct1 ct2 ct3 ct6 ct7 dc0 dc1 dc2 dc3 dc6 dc7 kV0 kV1 kV2 kV6 kV7 oc0 oc1 oc2 oc3 oc6 oc7 pm0 pm1 pm2 pm3 pm6 pm7 : Value} {an0 an1 an2 an3 an6 an7 od0 od1 od2 od3 od4 od5 od6 od7 : Option Addr} {sl0 sl1 sl2 sl3 sl4 sl5 sl6 sl7 : Array (Option Value)} {its4 its5 : Array Value} {n4 n5 : Nat} {rest6 rest7 : List Value} {t3 t31 t6 t8 tL tH : Tok}
    (lA : PySem.W.nsIn K mainGlobals "law" = some (some (.ref fL)))
    (lL : K.lookup fL = some ⟨oc0, od0, .func (PySem.W.fnOf "law" "law" (defArgs s_law) (defBody s_law) (defScope s_law) .none kV0 dc0 pm0 an0 cd0 ct0), sl0⟩)
    (lC : PySem.W.codeIn K cd0 "law" = true)
    (lk : PySem.W.keepIn K (.ref fL) = true)
    (aC : PySem.W.nsIn K mainGlobals "Form" = some (some (.ref C)))
    (aB : PySem.W.nsIn K mainGlobals "BadForm" = some (some (.ref BF)))
    (aM : PySem.W.nsIn K mainGlobals "MOST_LEVELS" = some (some (.int 3 t3)))
    (aA : PySem.W.nsIn K mainGlobals "AXIS_WORDS" = some (some (.ref AW)))
    (a1 : PySem.W.findIn K (.ref C) "__init__" = some (some (.ref fI)))
    (i1 : PySem.W.isFn K (.ref fI) = true)
    (l1 : K.lookup fI = some ⟨oc3, od3, .func (PySem.W.fnOf "__init__" "Form.__init__" (defArgs sInit) (defBody sInit) (defScope sInit) .none (.ref Dk) dc3 pm3 an3 cd3 ct3), sl3⟩)
    (c1 : PySem.W.codeIn K cd3 "Form.__init__" = true)
    (n1 : PySem.W.nsIn K Dk "axes" = some (some .none))
    (mk : PySem.W.makesIn K C = true)
    (kC : PySem.W.keepIn K (.ref C) = true)
    (pg : PySem.W.plainGet K C Str.empty = true)
    (hd : PySem.W.hasDictIn K C = true)
    (po : PySem.W.plainOver K C = true)
    (sa : PySem.W.findIn K (.ref C) "__setattr__" = some (some (.builtin "object.__setattr__")))
    (nK : PySem.W.findIn K (.ref C) "kinds" = some none)
    (nA : PySem.W.findIn K (.ref C) "axes" = some none)
    (r1 : PySem.W.readsIn K C (.type "type") = true)
    (r2 : PySem.W.specialIn K (.ref C) "__getattribute__" = some (some (.builtin "type.__getattribute__")))
    (kd : PySem.W.findCls K (.ref C) (.type "type") "KINDS" = some (.val (.ref KD)))
    (kl : K.lookup KD = some ⟨.type "tuple", od4, .seq its4 n4, sl4⟩)
    (kz : its4.size ≤ sizeLine)
    (kv : Vals (KINDS.map V.str) its4.toList)
    (al : K.lookup AW = some ⟨.type "tuple", od5, .seq its5 n5, sl5⟩)
    (az : its5.size ≤ sizeLine)
    (av : Vals (AWORDS.map V.str) its5.toList)
    (m1 : PySem.W.findCls K (.ref C) (.type "type") "read" = some (.get (.builtin "classmethod.__get__") (.ref pR) .none (.ref C)))
    (m2 : PySem.W.recIn K pR "classmethod" = some (.ref gR :: rest6))
    (m3 : PySem.W.fnIn K gR = true)
    (m4 : K.lookup gR = some ⟨oc6, od6, .func (PySem.W.fnOf "read" "Form.read" (defArgs sRead) (defBody sRead) (defScope sRead) .none kV6 dc6 pm6 an6 cd6 ct6), sl6⟩)
    (m5 : PySem.W.codeIn K cd6 "Form.read" = true)
    (m6 : PySem.W.keepIn K (.ref gR) = true)
    (xB : PySem.W.excIn K BF veB "ValueError.__new__" = true)
    (kB : PySem.W.keepIn K (.ref BF) = true)
    (rB : PySem.W.subIn K (.ref BF) (.type "BaseException") = some true)
    (tB : PySem.W.typeIn K (.ref BF) = some (.type "type"))
    (vA : PySem.W.nsIn K mainGlobals "Stored" = some (some (.ref U)))
    (v1 : PySem.W.findIn K (.ref U) "__init__" = some (some (.ref fU)))
    (v2 : PySem.W.isFn K (.ref fU) = true)
    (v3 : K.lookup fU = some ⟨oc1, od1, .func (PySem.W.fnOf "__init__" "Stored.__init__" (defArgs s_st_init) (defBody s_st_init) (defScope s_st_init) .none kV1 dc1 pm1 an1 cd1 ct1), sl1⟩)
    (v4 : PySem.W.codeIn K cd1 "Stored.__init__" = true)
    (v5 : PySem.W.keepIn K (.ref fU) = true)
    (vmk : PySem.W.makesIn K U = true)
    (vk : PySem.W.keepIn K (.ref U) = true)
    (vpg : PySem.W.plainGet K U Str.empty = true)
    (vhd : PySem.W.hasDictIn K U = true)
    (vpo : PySem.W.plainOver K U = true)
    (vsa : PySem.W.findIn K (.ref U) "__setattr__" = some (some (.builtin "object.__setattr__")))
    (vS : PySem.W.findIn K (.ref U) "sizes" = some none)
    (vF : PySem.W.findIn K (.ref U) "form" = some none)
    (vC : PySem.W.findIn K (.ref U) "cells" = some none)
    (vL : PySem.W.findIn K (.ref U) "levels" = some none)
    (vD : PySem.W.findIn K (.ref U) "data" = some none)
    (g3 : PySem.W.nsIn K mainGlobals "MOST_AXES" = some (some (.int 3 t31)))
    (g8 : PySem.W.nsIn K mainGlobals "BUCKETS" = some (some (.int 8 t8)))
    (g6 : PySem.W.nsIn K mainGlobals "LARGEST_SIZE" = some (some (.int 6 t6)))
    (gL : PySem.W.nsIn K mainGlobals "LARGE" = some (some (.int 1000000000000000000000000000000000000000000000000000000000000 tL)))
    (tx1 : PySem.W.findIn K (.ref C) "text" = some (some (.ref pT)))
    (tx2 : PySem.W.specialIn K (.ref pT) "__get__" = some (some (.builtin "property.__get__")))
    (tx4 : PySem.W.takesIn K (.ref pT) = some true)
    (tx5 : PySem.W.recIn K pT "property" = some (.ref gT :: rest7))
    (tx6 : K.lookup gT = some ⟨oc2, od2, .func (PySem.W.fnOf "text" "Form.text" (defArgs sText) (defBody sText) (defScope sText) .none kV2 dc2 pm2 an2 cd2 ct2), sl2⟩)
    (tx7 : PySem.W.codeIn K cd2 "Form.text" = true)
    (tx8 : PySem.W.keepIn K (.ref gT) = true)
    (qe1 : PySem.W.findIn K (.ref U) "entries" = some (some (.ref gEn)))
    (qe2 : PySem.W.isFn K (.ref gEn) = true)
    (qe3 : K.lookup gEn = some ⟨oc7, od7, .func (PySem.W.fnOf "entries" "Stored.entries" (defArgs s_entries) (defBody s_entries) (defScope s_entries) .none kV7 dc7 pm7 an7 cd7 ct7), sl7⟩)
    (qe4 : PySem.W.codeIn K cd7 "Stored.entries" = true)
    (qe5 : PySem.W.keepIn K (.ref gEn) = true)
    (gH : PySem.W.nsIn K mainGlobals "HEAD_LINES" = some (some (.int 2 tH)))
    (z_isinstance : PySem.W.nsIn K mainGlobals "isinstance" = some none)
    (z_list : PySem.W.nsIn K mainGlobals "list" = some none)
    (z_tuple : PySem.W.nsIn K mainGlobals "tuple" = some none)
    (z_len : PySem.W.nsIn K mainGlobals "len" = some none)
    (z_all : PySem.W.nsIn K mainGlobals "all" = some none)
    (z_zip : PySem.W.nsIn K mainGlobals "zip" = some none)
    (z_dict : PySem.W.nsIn K mainGlobals "dict" = some none)
    (z_int : PySem.W.nsIn K mainGlobals "int" = some none)
    (z_bool : PySem.W.nsIn K mainGlobals "bool" = some none)
    (z_range : PySem.W.nsIn K mainGlobals "range" = some none)
    (z_str : PySem.W.nsIn K mainGlobals "str" = some none)
    (z_any : PySem.W.nsIn K mainGlobals "any" = some none)
    (z_sorted : PySem.W.nsIn K mainGlobals "sorted" = some none)
    (z_ValueError : PySem.W.nsIn K mainGlobals "ValueError" = some none)
    (z_abs : PySem.W.nsIn K mainGlobals "abs" = some none)
    (z_enumerate : PySem.W.nsIn K mainGlobals "enumerate" = some none)
    (z_sum : PySem.W.nsIn K mainGlobals "sum" = some none)
    (D_is_whole : Dx K mg "is_whole" sWhole f_is_whole d_is_whole)
    (D_frozen : Dx K mg "frozen" sFrozen f_frozen d_frozen)
    (D_are_axes : Dx K mg "are_axes" sAxes f_are_axes d_are_axes)
    (D_are_sizes : Dx K mg "are_sizes" sASizes f_are_sizes d_are_sizes)
    (D_are_coordinates : Dx K mg "are_coordinates" sACoord f_are_coordinates d_are_coordinates)
    (D_is_large : Dx K mg "is_large" sLarge f_is_large d_is_large)
    (D_path_of : Dx K mg "path_of" sPath f_path_of d_path_of)
    (D_checked_cells : Dx K mg "checked_cells" sChk f_checked_cells d_checked_cells)
    (D_in_path_order : Dx K mg "in_path_order" s_in_path_order f_in_path_order d_in_path_order)
    (D_bucket_number : Dx K mg "bucket_number" sBuck f_bucket_number d_bucket_number)
    (D_buckets_of : Dx K mg "buckets_of" s_buckets_of f_buckets_of d_buckets_of)
    (D_starts_of : Dx K mg "starts_of" sStarts f_starts_of d_starts_of)
    (D_level_of : Dx K mg "level_of" s_level_of f_level_of d_level_of)
    (D_row_below : Dx K mg "row_below" s_row_below f_row_below d_row_below)
    (D_leading_paths : Dx K mg "leading_paths" s_leading_paths f_leading_paths d_leading_paths)
    (D_laid_out : Dx K mg "laid_out" s_laid_out f_laid_out d_laid_out)
    (D__law_draw : Dx K mg "_law_draw" sDraw f__law_draw d__law_draw)
    (D__law_start : Dx K mg "_law_start" sStart f__law_start d__law_start)
    (D__law_pick : Dx K mg "_law_pick" sPick f__law_pick d__law_pick)
    (D__law_mixed : Dx K mg "_law_mixed" sMixed f__law_mixed d__law_mixed)
    (D__law_same : Dx K mg "_law_same" sSame f__law_same d__law_same)
    (D__law_worth : Dx K mg "_law_worth" sWorth f__law_worth d__law_worth)
    (D__law_small : Dx K mg "_law_small" sSmall f__law_small d__law_small)
    (D__law_sizes : Dx K mg "_law_sizes" sSizes f__law_sizes d__law_sizes)
    (D__law_at : Dx K mg "_law_at" sAt f__law_at d__law_at)
    (D__law_cells : Dx K mg "_law_cells" sCells f__law_cells d__law_cells)
    (D__law_form_text : Dx K mg "_law_form_text" sFtext f__law_form_text d__law_form_text)
    (D__law_form : Dx K mg "_law_form" sForm f__law_form d__law_form)
    (D__law_stored : Dx K mg "_law_stored" s_l_stored f__law_stored d__law_stored)
    (D__law_real : Dx K mg "_law_real" s_l_real f__law_real d__law_real)
    (D__law_path : Dx K mg "_law_path" s_l_path f__law_path d__law_path)
    (D__law_rows : Dx K mg "_law_rows" s_l_rows f__law_rows d__law_rows)
    (D_spaced : Dx K mg "spaced" s_spaced f_spaced d_spaced)
    (D_level_line : Dx K mg "level_line" s_level_line f_level_line d_level_line)
    (D_table_text : Dx K mg "table_text" s_table_text f_table_text d_table_text)
    (D__law_level_line : Dx K mg "_law_level_line" s_l_level_line f__law_level_line d__law_level_line)
    (D__law_table_text : Dx K mg "_law_table_text" s_l_table_text f__law_table_text d__law_table_text)
    (D__law_told : Dx K mg "_law_told" s_l_told f__law_told d__law_told)
    (D_whole_in : Dx K mg "whole_in" s_whole_in f_whole_in d_whole_in)
    (D_integers_in : Dx K mg "integers_in" s_integers_in f_integers_in d_integers_in)
    (D_integers_behind : Dx K mg "integers_behind" s_integers_behind f_integers_behind d_integers_behind)
    (D_sizes_in : Dx K mg "sizes_in" s_sizes_in f_sizes_in d_sizes_in)
    (D_form_in : Dx K mg "form_in" s_form_in f_form_in d_form_in)
    (D_halves_of : Dx K mg "halves_of" s_halves_of f_halves_of d_halves_of)
    (D_packed_rows : Dx K mg "packed_rows" s_packed_rows f_packed_rows d_packed_rows)
    (D_bits_rows : Dx K mg "bits_rows" s_bits_rows f_bits_rows d_bits_rows)
    (D_hashed_rows : Dx K mg "hashed_rows" s_hashed_rows f_hashed_rows d_hashed_rows)
    (D_seeming_rows : Dx K mg "seeming_rows" s_seeming_rows f_seeming_rows d_seeming_rows)
    (D_rows_in : Dx K mg "rows_in" s_rows_in f_rows_in d_rows_in)
    (D_all_lead : Dx K mg "all_lead" s_all_lead f_all_lead d_all_lead)
    (D_values_in : Dx K mg "values_in" s_values_in f_values_in d_values_in)
    (D_line_at : Dx K mg "line_at" s_line_at f_line_at d_line_at)
    (D_read_paths : Dx K mg "read_paths" s_read_paths f_read_paths d_read_paths)
    (D_coordinates_of : Dx K mg "coordinates_of" s_coordinates_of f_coordinates_of d_coordinates_of)
    (D_read_table : Dx K mg "read_table" s_read_table f_read_table d_read_table)
    : ∃ fd : FuncData, (∀ (s : Shared) (v : Value), BindsTo s fd ⟨[v], []⟩ [("_law_script", v)]) ∧ ∀ base : Heap, K.In base → base.Ns mainGlobals mg → FnOk l.prog w K mg base CX0 9 fa fd ["_law_script"] (spLaw K) := by
  have e := hfa.symm.trans (PySem.W.mg_of X G lA)
  cases e
  have B : Bt mg := ⟨PySem.W.mg_none_of X G z_isinstance, PySem.W.mg_none_of X G z_list, PySem.W.mg_none_of X G z_tuple, PySem.W.mg_none_of X G z_len, PySem.W.mg_none_of X G z_all, PySem.W.mg_none_of X G z_zip, PySem.W.mg_none_of X G z_dict, PySem.W.mg_none_of X G z_int, PySem.W.mg_none_of X G z_bool, PySem.W.mg_none_of X G z_range⟩
  have S : Bs mg := ⟨PySem.W.mg_none_of X G z_str, PySem.W.mg_none_of X G z_any, PySem.W.mg_none_of X G z_sorted, PySem.W.mg_none_of X G z_ValueError⟩
  have T : Fm K mg C fI BF AW KD (.type "type") := { cl := ⟨pg, hd, po, sa⟩, nK := nK, nA := nA, mkC := ⟨mk, a1, i1, kC⟩, mC := PySem.W.mg_of X G aC, mB := PySem.W.mg_of X G aB, xB := xB, kB := kB, rB := rB, tB := tB, most := ⟨t3, PySem.W.mg_of X G aM⟩, cr := ⟨r1, r2⟩, kd := ⟨kd, rfl⟩, kdT := fun H => sq_const kl kz kv, mAW := PySem.W.mg_of X G aA, awT := fun H => sq_const al az av }
  have Uc : Sd K U C := ⟨⟨vpg, vhd, vpo, vsa⟩, vS, vF, vC, vL, vD, ⟨pg, hd, po, sa⟩, nK⟩
  have MU : Mk K U fU := ⟨vmk, v1, v2, vk⟩
  have mU := PySem.W.mg_of X G vA
  have Fu : Fun K "__init__" "Stored.__init__" s_st_init fU _ := fun_mk v3 v4 v5
  have bU := Fu.binds (ps := ["self", "sizes", "form", "cells"]) fun _ _ _ _ _ _ us hl => match us, hl with | [_, _, _, _], _ => rfl
  have zS := PySem.W.mg_none_of X G z_sorted
  have zA := PySem.W.mg_none_of X G z_abs
  have zE := PySem.W.mg_none_of X G z_enumerate
  have zSum := PySem.W.mg_none_of X G z_sum
  have big : (1000000000000000000000000000000000000000000000000000000000000 : Int) = 10 ^ 60 := by decide +kernel
  have mL := PySem.W.mg_of X G gL
  rw [big] at mL
  have Frd : Fun K "read" "Form.read" sRead gR _ := fun_mk m4 m5 m6
  have bRd := Frd.binds (ps := ["cls", "text"]) fun _ _ _ _ _ _ us hl => match us, hl with | [_, _], _ => rfl
  have Fl : Fun K "law" "law" s_law fa _ := fun_mk lL lC lk
  have b_is_whole := D_is_whole.F.binds (ps := ["n"]) fun _ _ _ _ _ _ us hl => match us, hl with | [_], _ => rfl
  have b_frozen := D_frozen.F.binds (ps := ["worth"]) fun _ _ _ _ _ _ us hl => match us, hl with | [_], _ => rfl
  have b_are_axes := D_are_axes.F.binds (ps := ["axes", "many"]) fun _ _ _ _ _ _ us hl => match us, hl with | [_, _], _ => rfl
  have b_are_sizes := D_are_sizes.F.binds (ps := ["sizes"]) fun _ _ _ _ _ _ us hl => match us, hl with | [_], _ => rfl
  have b_are_coordinates := D_are_coordinates.F.binds (ps := ["at", "sizes"]) fun _ _ _ _ _ _ us hl => match us, hl with | [_, _], _ => rfl
  have b_is_large := D_is_large.F.binds (ps := ["value"]) fun _ _ _ _ _ _ us hl => match us, hl with | [_], _ => rfl
  have b_path_of := D_path_of.F.binds (ps := ["form", "at"]) fun _ _ _ _ _ _ us hl => match us, hl with | [_, _], _ => rfl
  have b_checked_cells := D_checked_cells.F.binds (ps := ["sizes", "cells"]) fun _ _ _ _ _ _ us hl => match us, hl with | [_, _], _ => rfl
  have b_in_path_order := D_in_path_order.F.binds (ps := ["form", "cells"]) fun _ _ _ _ _ _ us hl => match us, hl with | [_, _], _ => rfl
  have b_bucket_number := D_bucket_number.F.binds (ps := ["upper", "coordinate"]) fun _ _ _ _ _ _ us hl => match us, hl with | [_, _], _ => rfl
  have b_buckets_of := D_buckets_of.F.binds (ps := ["rows"]) fun _ _ _ _ _ _ us hl => match us, hl with | [_], _ => rfl
  have b_starts_of := D_starts_of.F.binds (ps := ["rows"]) fun _ _ _ _ _ _ us hl => match us, hl with | [_], _ => rfl
  have b_level_of := D_level_of.F.binds (ps := ["kind", "size", "rows"]) fun _ _ _ _ _ _ us hl => match us, hl with | [_, _, _], _ => rfl
  have b_row_below := D_row_below.F.binds (ps := ["kind", "size", "path", "leading"]) fun _ _ _ _ _ _ us hl => match us, hl with | [_, _, _, _], _ => rfl
  have b_leading_paths := D_leading_paths.F.binds (ps := ["paths"]) fun _ _ _ _ _ _ us hl => match us, hl with | [_], _ => rfl
  have b_laid_out := D_laid_out.F.binds (ps := ["sizes", "form", "worths"]) fun _ _ _ _ _ _ us hl => match us, hl with | [_, _, _], _ => rfl
  have b__law_draw := D__law_draw.F.binds (ps := ["_law_stream", "_law_many"]) fun _ _ _ _ _ _ us hl => match us, hl with | [_, _], _ => rfl
  have b__law_start := D__law_start.F.binds (ps := ["_law_script"]) fun _ _ _ _ _ _ us hl => match us, hl with | [_], _ => rfl
  have b__law_pick := D__law_pick.F.binds (ps := ["_law_stream", "_law_some"]) fun _ _ _ _ _ _ us hl => match us, hl with | [_, _], _ => rfl
  have b__law_mixed := D__law_mixed.F.binds (ps := ["_law_stream", "_law_some"]) fun _ _ _ _ _ _ us hl => match us, hl with | [_, _], _ => rfl
  have b__law_same := D__law_same.F.binds (ps := ["_law_found", "_law_due"]) fun _ _ _ _ _ _ us hl => match us, hl with | [_, _], _ => rfl
  have b__law_worth := D__law_worth.F.binds (ps := ["_law_stream"]) fun _ _ _ _ _ _ us hl => match us, hl with | [_], _ => rfl
  have b__law_small := D__law_small.F.binds (ps := ["_law_stream"]) fun _ _ _ _ _ _ us hl => match us, hl with | [_], _ => rfl
  have b__law_sizes := D__law_sizes.F.binds (ps := ["_law_stream", "_law_rank", "_law_most"]) fun _ _ _ _ _ _ us hl => match us, hl with | [_, _, _], _ => rfl
  have b__law_at := D__law_at.F.binds (ps := ["_law_stream", "_law_sizes_here"]) fun _ _ _ _ _ _ us hl => match us, hl with | [_, _], _ => rfl
  have b__law_cells := D__law_cells.F.binds (ps := ["_law_stream", "_law_sizes_here", "_law_most", "_law_is_small"]) fun _ _ _ _ _ _ us hl => match us, hl with | [_, _, _, _], _ => rfl
  have b__law_form_text := D__law_form_text.F.binds (ps := ["_law_form_here"]) fun _ _ _ _ _ _ us hl => match us, hl with | [_], _ => rfl
  have b__law_form := D__law_form.F.binds (ps := ["_law_stream", "_law_rank"]) fun _ _ _ _ _ _ us hl => match us, hl with | [_, _], _ => rfl
  have b__law_stored := D__law_stored.F.binds (ps := ["_law_table", "_law_form_here"]) fun _ _ _ _ _ _ us hl => match us, hl with | [_, _], _ => rfl
  have b__law_real := D__law_real.F.binds (ps := ["_law_cells_here"]) fun _ _ _ _ _ _ us hl => match us, hl with | [_], _ => rfl
  have b__law_path := D__law_path.F.binds (ps := ["_law_form_here", "_law_at_here"]) fun _ _ _ _ _ _ us hl => match us, hl with | [_, _], _ => rfl
  have b__law_rows := D__law_rows.F.binds (ps := ["_law_sizes_here", "_law_form_here", "_law_cells_here"]) fun _ _ _ _ _ _ us hl => match us, hl with | [_, _, _], _ => rfl
  have b_spaced := D_spaced.F.binds (ps := ["words"]) fun _ _ _ _ _ _ us hl => match us, hl with | [_], _ => rfl
  have b_level_line := D_level_line.F.binds (ps := ["level"]) fun _ _ _ _ _ _ us hl => match us, hl with | [_], _ => rfl
  have b_table_text := D_table_text.F.binds (ps := ["stored"]) fun _ _ _ _ _ _ us hl => match us, hl with | [_], _ => rfl
  have b__law_level_line := D__law_level_line.F.binds (ps := ["_law_kind", "_law_rows_here"]) fun _ _ _ _ _ _ us hl => match us, hl with | [_, _], _ => rfl
  have b__law_table_text := D__law_table_text.F.binds (ps := ["_law_sizes_here", "_law_form_here", "_law_cells_here"]) fun _ _ _ _ _ _ us hl => match us, hl with | [_, _, _], _ => rfl
  have b__law_told := D__law_told.F.binds (ps := ["_law_stored_here"]) fun _ _ _ _ _ _ us hl => match us, hl with | [_], _ => rfl
  have b_whole_in := D_whole_in.F.binds (ps := ["word"]) fun _ _ _ _ _ _ us hl => match us, hl with | [_], _ => rfl
  have b_integers_in := D_integers_in.F.binds (ps := ["words"]) fun _ _ _ _ _ _ us hl => match us, hl with | [_], _ => rfl
  have b_integers_behind := D_integers_behind.F.binds (ps := ["line", "word"]) fun _ _ _ _ _ _ us hl => match us, hl with | [_, _], _ => rfl
  have b_sizes_in := D_sizes_in.F.binds (ps := ["line"]) fun _ _ _ _ _ _ us hl => match us, hl with | [_], _ => rfl
  have b_form_in := D_form_in.F.binds (ps := ["line", "level_count"]) fun _ _ _ _ _ _ us hl => match us, hl with | [_, _], _ => rfl
  have b_halves_of := D_halves_of.F.binds (ps := ["words"]) fun _ _ _ _ _ _ us hl => match us, hl with | [_], _ => rfl
  have b_packed_rows := D_packed_rows.F.binds (ps := ["words", "upper_count"]) fun _ _ _ _ _ _ us hl => match us, hl with | [_, _], _ => rfl
  have b_bits_rows := D_bits_rows.F.binds (ps := ["words", "size", "upper_count"]) fun _ _ _ _ _ _ us hl => match us, hl with | [_, _, _], _ => rfl
  have b_hashed_rows := D_hashed_rows.F.binds (ps := ["words", "size", "upper_count"]) fun _ _ _ _ _ _ us hl => match us, hl with | [_, _, _], _ => rfl
  have b_seeming_rows := D_seeming_rows.F.binds (ps := ["kind", "size", "upper_count", "words"]) fun _ _ _ _ _ _ us hl => match us, hl with | [_, _, _, _], _ => rfl
  have b_rows_in := D_rows_in.F.binds (ps := ["line", "kind", "size", "upper_count"]) fun _ _ _ _ _ _ us hl => match us, hl with | [_, _, _, _], _ => rfl
  have b_all_lead := D_all_lead.F.binds (ps := ["origins", "leading"]) fun _ _ _ _ _ _ us hl => match us, hl with | [_, _], _ => rfl
  have b_values_in := D_values_in.F.binds (ps := ["line", "origins"]) fun _ _ _ _ _ _ us hl => match us, hl with | [_, _], _ => rfl
  have b_line_at := D_line_at.F.binds (ps := ["lines", "at"]) fun _ _ _ _ _ _ us hl => match us, hl with | [_, _], _ => rfl
  have b_read_paths := D_read_paths.F.binds (ps := ["lines", "sizes", "form"]) fun _ _ _ _ _ _ us hl => match us, hl with | [_, _, _], _ => rfl
  have b_coordinates_of := D_coordinates_of.F.binds (ps := ["form", "path"]) fun _ _ _ _ _ _ us hl => match us, hl with | [_, _], _ => rfl
  have b_read_table := D_read_table.F.binds (ps := ["text"]) fun _ _ _ _ _ _ us hl => match us, hl with | [_], _ => rfl
  refine ⟨_, fun s v => .of_eq (fd := PySem.W.fnOf "law" "law" (defArgs s_law) (defBody s_law) (defScope s_law) .none kV0 dc0 pm0 an0 cd0 ct0) rfl, fun base _ _ => ?_⟩
  have GD := ok_draw (P := l.prog) (w := w) (base := base) D__law_draw.F B
  have CD := ca_of D__law_draw b__law_draw GD
  have CS := ca_of D__law_start b__law_start (ok_start (P := l.prog) (w := w) (base := base) D__law_start.F B)
  have CP := ca_of D__law_pick b__law_pick (ok_pick D__law_pick.F GD b__law_draw D__law_draw.F.kp D__law_draw.m B)
  have CMi := ca_of D__law_mixed b__law_mixed (ok_mixed D__law_mixed.F GD b__law_draw D__law_draw.F.kp D__law_draw.m B)
  have CZ := ca_of D__law_sizes b__law_sizes (ok_sizes D__law_sizes.F GD b__law_draw D__law_draw.F.kp D__law_draw.m B)
  have GAt := ok_at D__law_at.F GD b__law_draw D__law_draw.F.kp D__law_draw.m B
  have GWo := ok_worth D__law_worth.F GD b__law_draw D__law_draw.F.kp D__law_draw.m
  have GSm := ok_small D__law_small.F GD b__law_draw D__law_draw.F.kp D__law_draw.m
  have CC := ca_of D__law_cells b__law_cells (ok_cells D__law_cells.F GD b__law_draw D__law_draw.F.kp D__law_draw.m GAt b__law_at D__law_at.F.kp D__law_at.m GWo b__law_worth D__law_worth.F.kp D__law_worth.m GSm b__law_small D__law_small.F.kp D__law_small.m B)
  have CX := ca_of D__law_form_text b__law_form_text (ok_ftext (P := l.prog) (w := w) (base := base) D__law_form_text.F B S)
  have CFm := ca_of D__law_form b__law_form (ok_form D__law_form.F (ok_mixed D__law_mixed.F GD b__law_draw D__law_draw.F.kp D__law_draw.m B) b__law_mixed D__law_mixed.F.kp D__law_mixed.m (ok_pick D__law_pick.F GD b__law_draw D__law_draw.F.kp D__law_draw.m B) b__law_pick D__law_pick.F.kp D__law_pick.m B)
  have GW := ok_whole (P := l.prog) (w := w) (base := base) D_is_whole.F B
  have GZ := ok_frz (P := l.prog) (w := w) (base := base) D_frozen.F b_frozen D_frozen.m B
  have CFr := ca_of D_frozen b_frozen GZ
  have GA := ok_axes D_are_axes.F GW b_is_whole D_is_whole.F.kp D_is_whole.m B
  have FI := ok_init (P := l.prog) (w := w) (base := base) (du := .none) l1 c1 n1 T B GZ b_frozen D_frozen.F.kp D_frozen.m GA b_are_axes D_are_axes.F.kp D_are_axes.m
  have GR := fnR_of (ok_read Frd T B FI) bRd
  have CAs := ca_of D_are_sizes b_are_sizes (ok_asizes D_are_sizes.F GW b_is_whole D_is_whole.F.kp D_is_whole.m B (PySem.W.mg_of X G g3) (PySem.W.mg_of X G g6))
  have GAc := ok_acoord D_are_coordinates.F GW b_is_whole D_is_whole.F.kp D_is_whole.m B
  have GLa := ok_large (P := l.prog) (w := w) (K := K) (base := base) D_is_large.F mL zA
  have CCh := ca_of D_checked_cells b_checked_cells (ok_chk D_checked_cells.F GAc b_are_coordinates D_are_coordinates.F.kp D_are_coordinates.m GLa b_is_large D_is_large.F.kp D_is_large.m zS)
  have CPa := ca_of D_path_of b_path_of (ok_path (P := l.prog) (w := w) (base := base) D_path_of.F T B)
  have CIp := ca_of D_in_path_order b_in_path_order (ok_in_path_order D_in_path_order.F CPa zS)
  have CSo := ca_of D_starts_of b_starts_of (ok_starts (P := l.prog) (w := w) (base := base) D_starts_of.F B)
  have CBn := ca_of D_bucket_number b_bucket_number (ok_buck (P := l.prog) (w := w) (K := K) (base := base) D_bucket_number.F (PySem.W.mg_of X G g8))
  have CBk := ca_of D_buckets_of b_buckets_of (ok_buckets_of D_buckets_of.F B zE (PySem.W.mg_of X G g8) CBn)
  have CLv := ca_of D_level_of b_level_of (ok_level_of D_level_of.F B zSum CSo CBk)
  have CRb := ca_of D_row_below b_row_below (ok_row_below (P := l.prog) (w := w) (base := base) D_row_below.F B)
  have CLp := ca_of D_leading_paths b_leading_paths (ok_leading_paths (P := l.prog) (w := w) (base := base) D_leading_paths.F B)
  have CLd := ca_of D_laid_out b_laid_out (ok_laid_out D_laid_out.F T B CLp CRb CLv)
  have GSt := ok_st_init Fu Uc T B CFr CAs CCh CIp CPa CLd
  have Ftx : Fun K "text" "Form.text" sText gT _ := fun_mk tx6 tx7 tx8
  have bTx := Ftx.binds (ps := ["self"]) fun _ _ _ _ _ _ us hl => match us, hl with | [_], _ => rfl
  have GTx := ok_text (P := l.prog) (w := w) (base := base) Ftx T B
  have CSt := ca_of D__law_stored b__law_stored (ok_l_stored D__law_stored.F B Uc T MU GSt bU mU GR ⟨m1, ⟨_, m2⟩, m3⟩ CX)
  have zStr := PySem.W.mg_none_of X G z_str
  have CRl := ca_of D__law_real b__law_real (ok_l_real (P := l.prog) (w := w) (mg := mg) (base := base) D__law_real.F)
  have CPt := ca_of D__law_path b__law_path (ok_l_path (P := l.prog) (w := w) (base := base) D__law_path.F B)
  have CRw := ca_of D__law_rows b__law_rows (ok_l_rows D__law_rows.F B CRl CPt)
  have CSp := ca_of D_spaced b_spaced (ok_spaced (P := l.prog) (w := w) (base := base) D_spaced.F zStr)
  have CLl := ca_of D_level_line b_level_line (ok_level_line D_level_line.F CSp)
  have CTt := ca_of D_table_text b_table_text (ok_table_text D_table_text.F Uc CSp CLl ⟨tx1, tx2, tx4, ⟨_, tx5⟩⟩ GTx bTx)
  have CLL := ca_of D__law_level_line b__law_level_line (ok_l_level_line (P := l.prog) (w := w) (base := base) D__law_level_line.F B zE zStr zSum)
  have CLT := ca_of D__law_table_text b__law_table_text (ok_l_table_text D__law_table_text.F B zStr CRw CPt CX CLL)
  have zAny := PySem.W.mg_none_of X G z_any
  have Fen : Fun K "entries" "Stored.entries" s_entries gEn _ := fun_mk qe3 qe4 qe5
  have bEn := Fen.binds (ps := ["self"]) fun _ _ _ _ _ _ us hl => match us, hl with | [_], _ => rfl
  have GEn := ok_entries (P := l.prog) (w := w) (base := base) Fen Uc B
  have CTo := ca_of D__law_told b__law_told (ok_l_told D__law_told.F Uc nA ⟨qe1, qe2, qe5⟩ GEn bEn)
  have CWi := ca_of D_whole_in b_whole_in (ok_whole_in (P := l.prog) (w := w) (K := K) (base := base) D_whole_in.F B zStr)
  have CIi := ca_of D_integers_in b_integers_in (ok_integers_in D_integers_in.F zAny CWi)
  have CIb := ca_of D_integers_behind b_integers_behind (ok_integers_behind D_integers_behind.F CIi)
  have CSz := ca_of D_sizes_in b_sizes_in (ok_sizes_in D_sizes_in.F B CIb CAs)
  have CFi := ca_of D_form_in b_form_in (ok_form_in D_form_in.F T B GR ⟨m1, ⟨_, m2⟩, m3⟩)
  have CHf := ca_of D_halves_of b_halves_of (ok_halves_of D_halves_of.F CIi)
  have CPk := ca_of D_packed_rows b_packed_rows (ok_packed_rows D_packed_rows.F B CHf)
  have CBi := ca_of D_bits_rows b_bits_rows (ok_bits_rows D_bits_rows.F B CHf)
  have CHs := ca_of D_hashed_rows b_hashed_rows (ok_hashed_rows D_hashed_rows.F B zAny CIi)
  have CSe := ca_of D_seeming_rows b_seeming_rows (ok_seeming_rows D_seeming_rows.F B CPk CBi CHs)
  have CRi := ca_of D_rows_in b_rows_in (ok_rows_in D_rows_in.F B CSe CLv CLl)
  have CLa := ca_of D_line_at b_line_at (ok_line_at (P := l.prog) (w := w) (K := K) (base := base) D_line_at.F B)
  have CAl := ca_of D_all_lead b_all_lead (ok_all_lead (P := l.prog) (w := w) (K := K) (base := base) D_all_lead.F B)
  have CLg := ca_of D_is_large b_is_large GLa
  have CVi := ca_of D_values_in b_values_in (ok_values_in D_values_in.F B zAny CIb CLg CAl)
  have CCo := ca_of D_coordinates_of b_coordinates_of (ok_coordinates_of (P := l.prog) (w := w) (base := base) D_coordinates_of.F T B)
  have CRp := ca_of D_read_paths b_read_paths (ok_read_paths D_read_paths.F T B (PySem.W.mg_of X G gH) CRi CLa CAl)
  have CRt := ca_of D_read_table b_read_table (ok_read_table D_read_table.F Uc T B (PySem.W.mg_of X G gH) MU GSt bU mU CSz CFi CLa CRp CVi CCo)
  have CE := ca_of D__law_same b__law_same (ok_sames (P := l.prog) (w := w) (base := base) D__law_same.F b__law_same D__law_same.m B 7)
  exact ok_law Fl B CS CD CZ CC CFm CSt CTo CE CTt CLT CRt
theorem walk {l : PySem.W.OpenLaw} {q : Program} {loose : List Str} {XP : (Str → Option Value) → Heap → Prop} {YP : World → Heap → Prop} {d : DefRec} {K : Params → PySem.W.Frag} (hn : l.most = some 63) (hdf : d.params.defaults = [])
    (hY : ∀ (w : World) (h : Heap), YP w h → (K w.params).In h)
    (F : ∀ (w : World) (mg : Str → Option Value) (fa : Addr) (h : Heap), (K w.params).In h → h.Ns mainGlobals mg → mg d.name = some (.ref fa) →
      ∃ fd : FuncData, (∀ (s : Shared) (u : Value), BindsTo s fd ⟨[u], []⟩ [("_law_script", u)]) ∧ ∀ base : Heap, (K w.params).In base → base.Ns mainGlobals mg → FnOk l.prog w (K w.params) mg base CX0 9 fa fd ["_law_script"] (spLaw (K w.params))) :
    PySem.W.WalkO q loose XP YP l.row.toRowW d [] (fun f vs => PySem.call f vs) :=
  L2.walk_of (n := 63) (k := 9) (x := "_law_script") (CX := fun _ => CX0) (sp := fun w => spLaw (K w.params)) hn (by decide) hdf ⟨rfl, by decide, by decide⟩ hY F (fun _ _ a ns hl _ hS => ⟨a, ns, rfl, hS, hl, fun _ => rfl⟩) fun _ _ _ _ _ z => z
end Lw
open PySem PySem.W PyProof.Rows
set_option maxRecDepth 100000 in
set_option maxHeartbeats 0 in
theorem PySem.Challenge.cw_levelwalks_k11_table_read_back_holds : PySem.Challenge.rw_levelwalks_k11_table_read_back.Holds := by
  w_on; o_law; k_head; (case hw => w_witness2)
  k_fill
  refine Lw.walk (l := PySem.Challenge.rw_levelwalks_k11_table_read_back) rfl rfl (fun w h Y => PySem.W.kIn_of Y) ?F
  case F =>
    intro w mg fa h KX G hmg
    refine' Lw.all_mk KX G hmg ?lA ?lL ?lC ?lk ?aC ?aB ?aM ?aA ?a1 ?i1 ?l1 ?c1 ?n1 ?mk ?kC ?pg ?hd ?po ?sa ?nK ?nA ?r1 ?r2 ?kd ?kl ?kz ?kv ?al ?az ?av ?m1 ?m2 ?m3 ?m4 ?m5 ?m6 ?xB ?kB ?rB ?tB ?vA ?v1 ?v2 ?v3 ?v4 ?v5 ?vmk ?vk ?vpg ?vhd ?vpo ?vsa ?vS ?vF ?vC ?vL ?vD ?g3 ?g8 ?g6 ?gL ?tx1 ?tx2 ?tx4 ?tx5 ?tx6 ?tx7 ?tx8 ?qe1 ?qe2 ?qe3 ?qe4 ?qe5 ?gH ?z_isinstance ?z_list ?z_tuple ?z_len ?z_all ?z_zip ?z_dict ?z_int ?z_bool ?z_range ?z_str ?z_any ?z_sorted ?z_ValueError ?z_abs ?z_enumerate ?z_sum ?D_is_whole ?D_frozen ?D_are_axes ?D_are_sizes ?D_are_coordinates ?D_is_large ?D_path_of ?D_checked_cells ?D_in_path_order ?D_bucket_number ?D_buckets_of ?D_starts_of ?D_level_of ?D_row_below ?D_leading_paths ?D_laid_out ?D__law_draw ?D__law_start ?D__law_pick ?D__law_mixed ?D__law_same ?D__law_worth ?D__law_small ?D__law_sizes ?D__law_at ?D__law_cells ?D__law_form_text ?D__law_form ?D__law_stored ?D__law_real ?D__law_path ?D__law_rows ?D_spaced ?D_level_line ?D_table_text ?D__law_level_line ?D__law_table_text ?D__law_told ?D_whole_in ?D_integers_in ?D_integers_behind ?D_sizes_in ?D_form_in ?D_halves_of ?D_packed_rows ?D_bits_rows ?D_hashed_rows ?D_seeming_rows ?D_rows_in ?D_all_lead ?D_values_in ?D_line_at ?D_read_paths ?D_coordinates_of ?D_read_table
    (case lA => k_is)
    (case lL => k_is)
    (case lC => k_is)
    (case lk => k_is)
    (case aC => k_is)
    (case aB => k_is)
    (case aM => k_is)
    (case aA => k_is)
    (case a1 => k_is)
    (case i1 => k_is)
    (case l1 => k_is)
    (case c1 => k_is)
    (case n1 => k_is)
    (case mk => k_is)
    (case kC => k_is)
    (case pg => k_is)
    (case hd => k_is)
    (case po => k_is)
    (case sa => k_is)
    (case nK => k_is)
    (case nA => k_is)
    (case r1 => k_is)
    (case r2 => k_is)
    (case kd => k_is)
    (case kl => k_is)
    (case kz => decide)
    (case kv => exact .cons ⟨_, rfl⟩ (.cons ⟨_, rfl⟩ (.cons ⟨_, rfl⟩ (.cons ⟨_, rfl⟩ (.nil)))))
    (case al => k_is)
    (case az => decide)
    (case av => exact .cons ⟨_, rfl⟩ (.cons ⟨_, rfl⟩ (.cons ⟨_, rfl⟩ (.nil))))
    (case m1 => k_is)
    (case m2 => k_is)
    (case m3 => k_is)
    (case m4 => k_is)
    (case m5 => k_is)
    (case m6 => k_is)
    (case xB => k_exc)
    (case kB => k_is)
    (case rB => k_is)
    (case tB => k_is)
    (case vA => k_is)
    (case v1 => k_is)
    (case v2 => k_is)
    (case v3 => k_is)
    (case v4 => k_is)
    (case v5 => k_is)
    (case vmk => k_is)
    (case vk => k_is)
    (case vpg => k_is)
    (case vhd => k_is)
    (case vpo => k_is)
    (case vsa => k_is)
    (case vS => k_is)
    (case vF => k_is)
    (case vC => k_is)
    (case vL => k_is)
    (case vD => k_is)
    (case g3 => k_is)
    (case g8 => k_is)
    (case g6 => k_is)
    (case gL => k_is)
    (case tx1 => k_is)
    (case tx2 => k_is)
    (case tx4 => k_is)
    (case tx5 => k_is)
    (case tx6 => k_is)
    (case tx7 => k_is)
    (case tx8 => k_is)
    (case qe1 => k_is)
    (case qe2 => k_is)
    (case qe3 => k_is)
    (case qe4 => k_is)
    (case qe5 => k_is)
    (case gH => k_is)
    (case z_isinstance => k_is)
    (case z_list => k_is)
    (case z_tuple => k_is)
    (case z_len => k_is)
    (case z_all => k_is)
    (case z_zip => k_is)
    (case z_dict => k_is)
    (case z_int => k_is)
    (case z_bool => k_is)
    (case z_range => k_is)
    (case z_str => k_is)
    (case z_any => k_is)
    (case z_sorted => k_is)
    (case z_ValueError => k_is)
    (case z_abs => k_is)
    (case z_enumerate => k_is)
    (case z_sum => k_is)
    (case D_is_whole => (refine' Lw.dx_mk KX G ?a ?l ?c ?k; (case a => k_is); (case l => k_is); (case c => k_is); (case k => k_is)))
    (case D_frozen => (refine' Lw.dx_mk KX G ?a ?l ?c ?k; (case a => k_is); (case l => k_is); (case c => k_is); (case k => k_is)))
    (case D_are_axes => (refine' Lw.dx_mk KX G ?a ?l ?c ?k; (case a => k_is); (case l => k_is); (case c => k_is); (case k => k_is)))
    (case D_are_sizes => (refine' Lw.dx_mk KX G ?a ?l ?c ?k; (case a => k_is); (case l => k_is); (case c => k_is); (case k => k_is)))
    (case D_are_coordinates => (refine' Lw.dx_mk KX G ?a ?l ?c ?k; (case a => k_is); (case l => k_is); (case c => k_is); (case k => k_is)))
    (case D_is_large => (refine' Lw.dx_mk KX G ?a ?l ?c ?k; (case a => k_is); (case l => k_is); (case c => k_is); (case k => k_is)))
    (case D_path_of => (refine' Lw.dx_mk KX G ?a ?l ?c ?k; (case a => k_is); (case l => k_is); (case c => k_is); (case k => k_is)))
    (case D_checked_cells => (refine' Lw.dx_mk KX G ?a ?l ?c ?k; (case a => k_is); (case l => k_is); (case c => k_is); (case k => k_is)))
    (case D_in_path_order => (refine' Lw.dx_mk KX G ?a ?l ?c ?k; (case a => k_is); (case l => k_is); (case c => k_is); (case k => k_is)))
    (case D_bucket_number => (refine' Lw.dx_mk KX G ?a ?l ?c ?k; (case a => k_is); (case l => k_is); (case c => k_is); (case k => k_is)))
    (case D_buckets_of => (refine' Lw.dx_mk KX G ?a ?l ?c ?k; (case a => k_is); (case l => k_is); (case c => k_is); (case k => k_is)))
    (case D_starts_of => (refine' Lw.dx_mk KX G ?a ?l ?c ?k; (case a => k_is); (case l => k_is); (case c => k_is); (case k => k_is)))
    (case D_level_of => (refine' Lw.dx_mk KX G ?a ?l ?c ?k; (case a => k_is); (case l => k_is); (case c => k_is); (case k => k_is)))
    (case D_row_below => (refine' Lw.dx_mk KX G ?a ?l ?c ?k; (case a => k_is); (case l => k_is); (case c => k_is); (case k => k_is)))
    (case D_leading_paths => (refine' Lw.dx_mk KX G ?a ?l ?c ?k; (case a => k_is); (case l => k_is); (case c => k_is); (case k => k_is)))
    (case D_laid_out => (refine' Lw.dx_mk KX G ?a ?l ?c ?k; (case a => k_is); (case l => k_is); (case c => k_is); (case k => k_is)))
    (case D__law_draw => (refine' Lw.dx_mk KX G ?a ?l ?c ?k; (case a => k_is); (case l => k_is); (case c => k_is); (case k => k_is)))
    (case D__law_start => (refine' Lw.dx_mk KX G ?a ?l ?c ?k; (case a => k_is); (case l => k_is); (case c => k_is); (case k => k_is)))
    (case D__law_pick => (refine' Lw.dx_mk KX G ?a ?l ?c ?k; (case a => k_is); (case l => k_is); (case c => k_is); (case k => k_is)))
    (case D__law_mixed => (refine' Lw.dx_mk KX G ?a ?l ?c ?k; (case a => k_is); (case l => k_is); (case c => k_is); (case k => k_is)))
    (case D__law_same => (refine' Lw.dx_mk KX G ?a ?l ?c ?k; (case a => k_is); (case l => k_is); (case c => k_is); (case k => k_is)))
    (case D__law_worth => (refine' Lw.dx_mk KX G ?a ?l ?c ?k; (case a => k_is); (case l => k_is); (case c => k_is); (case k => k_is)))
    (case D__law_small => (refine' Lw.dx_mk KX G ?a ?l ?c ?k; (case a => k_is); (case l => k_is); (case c => k_is); (case k => k_is)))
    (case D__law_sizes => (refine' Lw.dx_mk KX G ?a ?l ?c ?k; (case a => k_is); (case l => k_is); (case c => k_is); (case k => k_is)))
    (case D__law_at => (refine' Lw.dx_mk KX G ?a ?l ?c ?k; (case a => k_is); (case l => k_is); (case c => k_is); (case k => k_is)))
    (case D__law_cells => (refine' Lw.dx_mk KX G ?a ?l ?c ?k; (case a => k_is); (case l => k_is); (case c => k_is); (case k => k_is)))
    (case D__law_form_text => (refine' Lw.dx_mk KX G ?a ?l ?c ?k; (case a => k_is); (case l => k_is); (case c => k_is); (case k => k_is)))
    (case D__law_form => (refine' Lw.dx_mk KX G ?a ?l ?c ?k; (case a => k_is); (case l => k_is); (case c => k_is); (case k => k_is)))
    (case D__law_stored => (refine' Lw.dx_mk KX G ?a ?l ?c ?k; (case a => k_is); (case l => k_is); (case c => k_is); (case k => k_is)))
    (case D__law_real => (refine' Lw.dx_mk KX G ?a ?l ?c ?k; (case a => k_is); (case l => k_is); (case c => k_is); (case k => k_is)))
    (case D__law_path => (refine' Lw.dx_mk KX G ?a ?l ?c ?k; (case a => k_is); (case l => k_is); (case c => k_is); (case k => k_is)))
    (case D__law_rows => (refine' Lw.dx_mk KX G ?a ?l ?c ?k; (case a => k_is); (case l => k_is); (case c => k_is); (case k => k_is)))
    (case D_spaced => (refine' Lw.dx_mk KX G ?a ?l ?c ?k; (case a => k_is); (case l => k_is); (case c => k_is); (case k => k_is)))
    (case D_level_line => (refine' Lw.dx_mk KX G ?a ?l ?c ?k; (case a => k_is); (case l => k_is); (case c => k_is); (case k => k_is)))
    (case D_table_text => (refine' Lw.dx_mk KX G ?a ?l ?c ?k; (case a => k_is); (case l => k_is); (case c => k_is); (case k => k_is)))
    (case D__law_level_line => (refine' Lw.dx_mk KX G ?a ?l ?c ?k; (case a => k_is); (case l => k_is); (case c => k_is); (case k => k_is)))
    (case D__law_table_text => (refine' Lw.dx_mk KX G ?a ?l ?c ?k; (case a => k_is); (case l => k_is); (case c => k_is); (case k => k_is)))
    (case D__law_told => (refine' Lw.dx_mk KX G ?a ?l ?c ?k; (case a => k_is); (case l => k_is); (case c => k_is); (case k => k_is)))
    (case D_whole_in => (refine' Lw.dx_mk KX G ?a ?l ?c ?k; (case a => k_is); (case l => k_is); (case c => k_is); (case k => k_is)))
    (case D_integers_in => (refine' Lw.dx_mk KX G ?a ?l ?c ?k; (case a => k_is); (case l => k_is); (case c => k_is); (case k => k_is)))
    (case D_integers_behind => (refine' Lw.dx_mk KX G ?a ?l ?c ?k; (case a => k_is); (case l => k_is); (case c => k_is); (case k => k_is)))
    (case D_sizes_in => (refine' Lw.dx_mk KX G ?a ?l ?c ?k; (case a => k_is); (case l => k_is); (case c => k_is); (case k => k_is)))
    (case D_form_in => (refine' Lw.dx_mk KX G ?a ?l ?c ?k; (case a => k_is); (case l => k_is); (case c => k_is); (case k => k_is)))
    (case D_halves_of => (refine' Lw.dx_mk KX G ?a ?l ?c ?k; (case a => k_is); (case l => k_is); (case c => k_is); (case k => k_is)))
    (case D_packed_rows => (refine' Lw.dx_mk KX G ?a ?l ?c ?k; (case a => k_is); (case l => k_is); (case c => k_is); (case k => k_is)))
    (case D_bits_rows => (refine' Lw.dx_mk KX G ?a ?l ?c ?k; (case a => k_is); (case l => k_is); (case c => k_is); (case k => k_is)))
    (case D_hashed_rows => (refine' Lw.dx_mk KX G ?a ?l ?c ?k; (case a => k_is); (case l => k_is); (case c => k_is); (case k => k_is)))
    (case D_seeming_rows => (refine' Lw.dx_mk KX G ?a ?l ?c ?k; (case a => k_is); (case l => k_is); (case c => k_is); (case k => k_is)))
    (case D_rows_in => (refine' Lw.dx_mk KX G ?a ?l ?c ?k; (case a => k_is); (case l => k_is); (case c => k_is); (case k => k_is)))
    (case D_all_lead => (refine' Lw.dx_mk KX G ?a ?l ?c ?k; (case a => k_is); (case l => k_is); (case c => k_is); (case k => k_is)))
    (case D_values_in => (refine' Lw.dx_mk KX G ?a ?l ?c ?k; (case a => k_is); (case l => k_is); (case c => k_is); (case k => k_is)))
    (case D_line_at => (refine' Lw.dx_mk KX G ?a ?l ?c ?k; (case a => k_is); (case l => k_is); (case c => k_is); (case k => k_is)))
    (case D_read_paths => (refine' Lw.dx_mk KX G ?a ?l ?c ?k; (case a => k_is); (case l => k_is); (case c => k_is); (case k => k_is)))
    (case D_coordinates_of => (refine' Lw.dx_mk KX G ?a ?l ?c ?k; (case a => k_is); (case l => k_is); (case c => k_is); (case k => k_is)))
    (case D_read_table => (refine' Lw.dx_mk KX G ?a ?l ?c ?k; (case a => k_is); (case l => k_is); (case c => k_is); (case k => k_is)))
