import PyProof.Rows.All
import Wide.All
import OpenK.AllK
import Wide.FinOn
import HandS.ForExc
import HandS.ForMost
import HandS.Wide
import HandS.IsInst
import HandS.Walk
import HandS.Zip
import HandS.Style
import HandS.Codes
import HandS.Conv
import HandS.FStr
import HandS.Property
import HandS.ClsMeth
import HandS.Text
import HandS.Strs
import HandS.SortKw
import HandS.RaiseMore
import HandS.ExcIs
import HandS.TryMany
import HandS.Lambda
import HandS.EndTab
import HandS.EndBits
import HandS.TupAny
import HandS.Star
import HandS.MakeKw
import HandS.MakeKwOnly
import HandS.ReCall
import HandS.Zip0
import HandS.Iter
import HandS.SlotsOwn
import KE.KOpsOwn
import KE.DataCmp
import KE.KDictList
import PyProof.StrWalks
import HandS.SetTxt0
import HandS.Set
import HandS.SetFor
import KE.GoesZip
import KE.GoesMore
import HandS.DictComp
import HandS.ExcField
import HandS.ExcInit
import HandS.WordsExc
import HandS.WordsDict
import HandS.EndOwn
import KE.KNestM
import PySem.Challenge.RW_levelwalks_k62_fitting_order
set_option Elab.async false
set_option linter.all false
set_option maxRecDepth 100000
set_option maxHeartbeats 8000000
namespace Lw
open PySem L2
def topS (i : Nat) : Stmt := PySem.Challenge.pw_levelwalks_k62_fitting_order.main.body.getD i (.Pass ⟨0, 0, 0, 0⟩)
theorem seqT {K : PySem.W.Frag} {H H' : Hp} (g : Same H H') {a : Addr} {xs : List V} (h : SqT K H a xs) : SqT K H' a xs := by
  rcases h with (h | ⟨o, h⟩) | h
  · exact .inl (.inl (g _ _ h))
  · exact .inl (.inr ⟨o, g _ _ h⟩)
  · exact .inr h
theorem tyT {K : PySem.W.Frag} {H : Hp} {a : Addr} {xs : List V} (h : SqT K H a xs) : TyX K H (.ref a) (.type "tuple") := by
  rcases h with (h | ⟨o, h⟩) | ⟨o, its, n, h, c, _⟩
  · exact .base (.tup h)
  · exact .fTuple h
  · exact .kTuple h c
theorem tyL {K : PySem.W.Frag} {H : Hp} {a : Addr} {xs : List V} (h : SqL K H a xs) : TyX K H (.ref a) (.type "list") := by
  rcases h with (h | ⟨o, h⟩) | ⟨o, its, n, h, c, _⟩
  · exact .base (.lst h)
  · exact .base (.frz h)
  · exact .kList h c
/-! two values that show the same data: ints, texts, truth values, tuples and lists of such; at most n deep -/
def Sm (K : PySem.W.Frag) (H : Hp) : Nat → V → V → Prop
  | 0, _, _ => False
  | n + 1, v, w => (∃ i : Int, v = .int i ∧ w = .int i) ∨ (∃ s : Str, v = .str s ∧ w = .str s) ∨ (∃ b : Bool, v = .bl b ∧ w = .bl b) ∨
    (∃ (a b : Addr) (xs ys : List V), v = .ref a ∧ w = .ref b ∧ SqT K H a xs ∧ SqT K H b ys ∧ xs.length = ys.length ∧ xs.length ≤ 1000 ∧ ∀ (i : Nat) (x y : V), xs[i]? = some x → ys[i]? = some y → Sm K H n x y) ∨
    (∃ (a b : Addr) (xs ys : List V), v = .ref a ∧ w = .ref b ∧ H a = some (.lst xs) ∧ H b = some (.lst ys) ∧ xs.length = ys.length ∧ xs.length ≤ 1000 ∧ ∀ (i : Nat) (x y : V), xs[i]? = some x → ys[i]? = some y → Sm K H n x y)
theorem Sm.mono {K : PySem.W.Frag} {H H' : Hp} (g : Same H H') : ∀ {n : Nat} {v w : V}, Sm K H n v w → Sm K H' n v w
  | 0, _, _, h => h
  | n + 1, v, w, h => by
    rcases h with h | h | h | ⟨a, b, xs, ys, e1, e2, h1, h2, h3, h4, h5⟩ | ⟨a, b, xs, ys, e1, e2, h1, h2, h3, h4, h5⟩
    · exact .inl h
    · exact .inr (.inl h)
    · exact .inr (.inr (.inl h))
    · exact .inr (.inr (.inr (.inl ⟨a, b, xs, ys, e1, e2, seqT g h1, seqT g h2, h3, h4, fun i x y p q => Sm.mono g (h5 i x y p q)⟩)))
    · exact .inr (.inr (.inr (.inr ⟨a, b, xs, ys, e1, e2, g _ _ h1, g _ _ h2, h3, h4, fun i x y p q => Sm.mono g (h5 i x y p q)⟩)))
theorem Sm.int {K : PySem.W.Frag} {H : Hp} {n : Nat} (i : Int) : Sm K H (n + 1) (.int i) (.int i) := .inl ⟨i, rfl, rfl⟩
theorem Sm.str {K : PySem.W.Frag} {H : Hp} {n : Nat} (z : Str) : Sm K H (n + 1) (.str z) (.str z) := .inr (.inl ⟨z, rfl, rfl⟩)
theorem Sm.bl {K : PySem.W.Frag} {H : Hp} {n : Nat} (b : Bool) : Sm K H (n + 1) (.bl b) (.bl b) := .inr (.inr (.inl ⟨b, rfl, rfl⟩))
/-- place by place -/
def SmAll (K : PySem.W.Frag) (H : Hp) (n : Nat) (xs ys : List V) : Prop := xs.length = ys.length ∧ ∀ (i : Nat) (x y : V), xs[i]? = some x → ys[i]? = some y → Sm K H n x y
theorem SmAll.nil {K : PySem.W.Frag} {H : Hp} {n : Nat} : SmAll K H n [] [] := ⟨rfl, fun i x y e => by cases e⟩
theorem SmAll.cons {K : PySem.W.Frag} {H : Hp} {n : Nat} {x y : V} {xs ys : List V} (h : Sm K H n x y) (t : SmAll K H n xs ys) : SmAll K H n (x :: xs) (y :: ys) :=
  ⟨congrArg Nat.succ t.1, fun i a b e1 e2 => by
    cases i with
    | zero => cases e1; cases e2; exact h
    | succ i => exact t.2 i a b e1 e2⟩
theorem Sm.tup {K : PySem.W.Frag} {H : Hp} {n : Nat} {a b : Addr} {xs ys : List V} (h1 : SqT K H a xs) (h2 : SqT K H b ys) (hl : xs.length ≤ 1000) (t : SmAll K H n xs ys) : Sm K H (n + 1) (.ref a) (.ref b) :=
  .inr (.inr (.inr (.inl ⟨a, b, xs, ys, rfl, rfl, h1, h2, t.1, hl, t.2⟩)))
theorem Sm.lst {K : PySem.W.Frag} {H : Hp} {n : Nat} {a b : Addr} {xs ys : List V} (h1 : H a = some (.lst xs)) (h2 : H b = some (.lst ys)) (hl : xs.length ≤ 1000) (t : SmAll K H n xs ys) : Sm K H (n + 1) (.ref a) (.ref b) :=
  .inr (.inr (.inr (.inr ⟨a, b, xs, ys, rfl, rfl, h1, h2, t.1, hl, t.2⟩)))
def TK (K : PySem.W.Frag) (H H' : Hp) : Prop := ∀ (b : Addr) (xs : List V), SqT K H b xs → SqT K H' b xs
theorem TK.of {K : PySem.W.Frag} {H H' : Hp} (g : Same H H') : TK K H H' := fun b xs h => seqT g h
theorem TK.trans {K : PySem.W.Frag} {H H1 H2 : Hp} (g : TK K H H1) (g' : TK K H1 H2) : TK K H H2 := fun b xs h => g' b xs (g b xs h)
theorem TK.but {K : PySem.W.Frag} {H H' : Hp} (h : ∀ (b : Addr) (o : HO), (∀ xs, o ≠ .lst xs) → H b = some o → H' b = some o) : TK K H H' := fun b xs q => by
  rcases q with (q | ⟨o, q⟩) | q
  · exact .inl (.inl (h _ _ (by intro z e; cases e) q))
  · exact .inl (.inr ⟨o, h _ _ (by intro z e; cases e) q⟩)
  · exact .inr q
theorem TK.lst {K : PySem.W.Frag} {H : Hp} {D : Addr} {xs ys : List V} (h : H D = some (.lst xs)) : TK K H (upd H D (.lst ys)) := .but fun b o no q => by
  rw [upd_ne (fun e => by rw [e, h] at q; exact no _ (Option.some.inj q).symm)]
  exact q
theorem same_new {H : Hp} {p : Addr} (h : H p = none) (o : HO) : Same H (upd H p o) := fun b u q => by rw [upd_ne (ne_of_none q h)]; exact q
theorem same_over {H H' : Hp} {p : Addr} (g : Same H H') (h : H p = none) (o : HO) : Same H (upd H' p o) := fun b u q => by rw [upd_ne (ne_of_none q h)]; exact g _ _ q
/-- a comprehension's turn without a test -/
theorem kept {te : TE} {σ : St} {H : Hp} {R : V → Hp → Prop} {S : Hp → Prop} (h : te σ H R) : tYes σ H fun b H3 => if b = true then te σ H3 R else S H3 := iteT (A := te σ H R) (B := S H) h
/-- the built-in names that the program's text does not make its own -/
structure Bt (mg : Str → Option Value) : Prop where
  isi : mg "isinstance" = none
  lst : mg "list" = none
  tup : mg "tuple" = none
  len : mg "len" = none
  all : mg "all" = none
  zip : mg "zip" = none
  dict : mg "dict" = none
  int : mg "int" = none
  bool : mg "bool" = none
  range : mg "range" = none
section
variable {P : Program} {w : World} {K : PySem.W.Frag} {mg : Str → Option Value} {base : Heap} {f : Addr} {fd : FuncData}
theorem none_left {sp : Sp} {ps : List Str} {CX : CXT} (no : ∀ vs H Q E, ¬ sp vs H Q E) : FnOk P w K mg base CX 0 f fd ps sp :=
  ⟨fun vs H Q E h => absurd h (no vs H Q E), fun A outer s H args us vs Q E _ _ _ _ h => absurd h (no vs H Q E)⟩
theorem is_seq {K : PySem.W.Frag} {t : String} {b : Bool} (h1 : kitB t "list" = some false) (h2 : kitB t "tuple" = some b) : PySem.W.kitAny K (.type t) [.type "list", .type "tuple"] = some b :=
  kitAny_cons (kit_ty h1) (fun _ => kitAny_cons (kit_ty h2) (fun e => by rw [e]; exact kitAny_nil) (fun e => e)) (fun e => by cases e)
abbrev sSame : Stmt := topS 39
/-! zip of two tuples, as a walk -/
theorem walk_zipT {K : PySem.W.Frag} {a b : Addr} {xs ys : List V} (e : xs.length = ys.length) : Walk (RZ.ItzT K a b) xs.length (fun H => SqT K H a xs ∧ SqT K H b ys) (YPair (fun i => xs[i]?) (fun i => ys[i]?)) :=
  ⟨fun i _ hi q => ⟨xs, ys, xs[i], ys[i]'(by omega), q.1, q.2, List.getElem?_eq_getElem hi, List.getElem?_eq_getElem (by omega)⟩, fun _ q => ⟨xs, ys, q.1, q.2, .inl (Nat.le_refl _)⟩,
    fun i H v H' _ q ⟨T, x, y, h1, h2, h3, h4, h5⟩ => ⟨T, x, y, h1, h2, h3, h4 xs q.1, h5 ys q.2⟩⟩
def spSame (K : PySem.W.Frag) (n : Nat) : Sp := fun vs H Q _ => ∃ v u : V, vs = [v, u] ∧ Sm K H n v u ∧ ∀ H' : Hp, Same H H' → Q (.bl true) H'
abbrev namesS : List Str := ["_law_found", "_law_due", "_law_one", "_law_other"]
theorem scS : FnScope namesS ["_law_found", "_law_due"] (defScope sSame) := ⟨rfl, rfl, rfl, by decide +kernel, rfl, by decide +kernel, by decide +kernel⟩
theorem is_four {K : PySem.W.Frag} {t : String} (h1 : kitB t "int" = some false) (h2 : kitB t "list" = some false) (h3 : kitB t "tuple" = some false) (h4 : kitB t "dict" = some false) :
    PySem.W.kitAny K (.type t) [.type "int", .type "list", .type "tuple", .type "dict"] = some false :=
  kitAny_cons (kit_ty h1) (fun _ => kitAny_cons (kit_ty h2) (fun _ => kitAny_cons (kit_ty h3) (fun _ => kitAny_cons (kit_ty h4) (fun _ => kitAny_nil) (fun e => by cases e)) (fun e => by cases e)) (fun e => by cases e)) (fun e => by cases e)
theorem is_seqL {K : PySem.W.Frag} : PySem.W.kitAny K (.type "list") [.type "list", .type "tuple"] = some true :=
  kitAny_cons (kit_ty (r := true) (by decide +kernel)) (fun e => by cases e) (fun _ => rfl)
theorem iteC {c : Bool} {A B : Prop} (hc : c = true) (h : A) : if c = true then A else B := by
  rw [if_pos hc]
  exact h
theorem iteN {c : Bool} {A B : Prop} (hc : c = false) (h : B) : if c = true then A else B := by
  rw [if_neg (by rw [hc]; decide)]
  exact h
theorem all_true {n : Nat} : (List.replicate n true).all id = true := by
  rw [List.all_eq_true]
  intro x hx
  rw [(List.mem_replicate.mp hx).2]
  rfl
/-- the list of answers so far -/
def InvS (H0 : Hp) (D : Addr) (i : Nat) (H : Hp) : Prop := H D = some (.lst (List.replicate i (.bl true))) ∧ Same H0 H
theorem ok_same {n : Nat} (F : Fun K "_law_same" "_law_same" sSame f fd) (G : FnOk P w K mg base CX0 n f fd ["_law_found", "_law_due"] (spSame K n)) (bF : Binds K fd ["_law_found", "_law_due"] []) (kF : PySem.W.keepIn K (.ref f) = true) (mF : mg "_law_same" = some (.ref f)) (B : Bt mg) :
    FnOk P w K mg base CX0 (n + 1) f fd ["_law_found", "_law_due"] (spSame K (n + 1)) := by
  refine F.ok scS (fun vs H Q E h => ?_) (fun cdv A outer s H vs Q E hr h => ?_)
  · obtain ⟨v, u, rfl, _⟩ := h
    rfl
  obtain ⟨v, u, rfl, hA, q⟩ := h
  refine ⟨_, pss_cons (ps_if (pt_val (pe_callB call_isiT (by rfl) B.isi (by decide +kernel) (pa_cons (pv 1) (pa_cons (pe_tup (pa_cons (pe_bltn (v := .ty "list") (by rfl) B.lst (by decide +kernel) rfl) (pa_cons (pe_bltn (v := .ty "tuple") (by rfl) B.tup (by decide +kernel) rfl) pa_nil))) pa_nil))))
      (pss_cons (ps_if (PW.pt (pw_or (pt_cmpR op_ne (pe_callB call_isi (by rfl) B.isi (by decide +kernel) (pa_cons (pv 0) (pa_cons (pe_bltn (v := .ty "list") (by rfl) B.lst (by decide +kernel) rfl) pa_nil))) (pe_callB call_isi (by rfl) B.isi (by decide +kernel) (pa_cons (pv 1) (pa_cons (pe_bltn (v := .ty "list") (by rfl) B.lst (by decide +kernel) rfl) pa_nil))) (nomark _)) (pw_or1 (pt_cmpR op_ne (pe_callB call_isi (by rfl) B.isi (by decide +kernel) (pa_cons (pv 0) (pa_cons (pe_bltn (v := .ty "tuple") (by rfl) B.tup (by decide +kernel) rfl) pa_nil))) (pe_callB call_isi (by rfl) B.isi (by decide +kernel) (pa_cons (pv 1) (pa_cons (pe_bltn (v := .ty "tuple") (by rfl) B.tup (by decide +kernel) rfl) pa_nil))) (nomark _))))) (pss_one (ps_ret pe_bl)) pss_nil)
        (pss_one (ps_ret (pe_and (pe_cmpR op_eq (pe_callB call_len_seq (by rfl) B.len PySem.boot_len (pa_cons (pv 0) pa_nil)) (pe_callB call_len_seq (by rfl) B.len PySem.boot_len (pa_cons (pv 1) pa_nil)) (nomark _)) (pe_one (pe_callB (cr_all rfl) (by rfl) B.all (by decide +kernel) (pa_cons
          (pe_lc (own := [("_law_one", 2), ("_law_other", 3)]) (g := gTup K 2 (gCons (gName 2) (gCons (gName 3) gNil))) (tt := tYes) rfl scS.nd (RZ.pi_zipA (by rfl) B.zip (pa_cons (pv 0) (pa_cons (pv 1) pa_nil))) (blkOk_by (N := namesS) (sc := defScope sSame) (by decide +kernel))
            (fun _ _ _ _ _ => pg_tup rfl (pgs_cons (pg_name (i := 2) scS.nd rfl (Or.inl rfl)) (pgs_cons (pg_name (i := 3) scS.nd rfl (Or.inl rfl)) pgs_nil))) (fun _ _ _ _ _ => pts_nil)
            (fun _ _ _ _ _ => pe_call G hr rfl mF kF bF .nil pass0 (pa_cons (pv 2) (pa_cons (pv 3) pa_nil)))) pa_nil))))))) pss_nil)
    (pss_cons (ps_if (pt_val (pe_callB call_isi (by rfl) B.isi (by decide +kernel) (pa_cons (pv 1) (pa_cons (pe_bltn (v := .ty "dict") (by rfl) B.dict (by decide +kernel) rfl) pa_nil)))) (pss_cons ps_never (pss_one ps_never)) pss_nil)
    (pss_cons (ps_if (pt_val (pe_callB call_isi (by rfl) B.isi (by decide +kernel) (pa_cons (pv 1) (pa_cons (pe_bltn (v := .ty "int") (by rfl) B.int (by decide +kernel) rfl) pa_nil)))) (pss_one (ps_ret (pe_and (pe_callB call_isi (by rfl) B.isi (by decide +kernel) (pa_cons (pv 0) (pa_cons (pe_bltn (v := .ty "int") (by rfl) B.int (by decide +kernel) rfl) pa_nil))) (pe_and (pe_cmpR op_eq (pe_callB call_isi (by rfl) B.isi (by decide +kernel) (pa_cons (pv 0) (pa_cons (pe_bltn (v := .ty "bool") (by rfl) B.bool (by decide +kernel) rfl) pa_nil))) (pe_callB call_isi (by rfl) B.isi (by decide +kernel) (pa_cons (pv 1) (pa_cons (pe_bltn (v := .ty "bool") (by rfl) B.bool (by decide +kernel) rfl) pa_nil))) (nomark _)) (pe_one (pe_cmpR op_eq (pv 0) (pv 1) (nomark _))))))) pss_nil)
    (pss_one (ps_ret (pe_and (pe_cmpR op_eq (pv 0) (pv 1) (nomark _)) (pe_one (pe_cmpR op_isBl (pe_callB call_isiT (by rfl) B.isi (by decide +kernel) (pa_cons (pv 0) (pa_cons (pe_tup (pa_cons (pe_bltn (v := .ty "int") (by rfl) B.int (by decide +kernel) rfl) (pa_cons (pe_bltn (v := .ty "list") (by rfl) B.lst (by decide +kernel) rfl) (pa_cons (pe_bltn (v := .ty "tuple") (by rfl) B.tup (by decide +kernel) rfl) (pa_cons (pe_bltn (v := .ty "dict") (by rfl) B.dict (by decide +kernel) rfl) pa_nil))))) pa_nil))) pe_bl (nomark _)))))))), ?_⟩
  refine ⟨_, rfl, (by show 2 ≤ sizeLine; decide), fun t ht => ?_⟩
  have g1 : Same H (upd H t (.tup [.ty "list", .ty "tuple"])) := same_new ht _
  rcases hA with ⟨i, rfl, rfl⟩ | ⟨z, rfl, rfl⟩ | ⟨bb, rfl, rfl⟩ | ⟨a, b, xs, ys, rfl, rfl, h1, h2, h3, h4, h5⟩ | ⟨a, b, xs, ys, rfl, rfl, h1, h2, h3, h4, h5⟩
  · refine ⟨_, t, _, .type "int", [.type "list", .type "tuple"], false, rfl, upd_same, .cons (.ty _) (.cons (.ty _) .nil), .base (.int i), is_seq (by decide +kernel) (by decide +kernel), _, rfl, ?_⟩
    refine iteF ?_
    refine ⟨_, rfl, _, _, .type "int", .type "dict", false, rfl, .ty _, .base (.int i), kit_ty (by decide +kernel), _, rfl, ?_⟩
    refine iteF ?_
    refine ⟨_, rfl, _, _, .type "int", .type "int", true, rfl, .ty _, .base (.int i), kit_ty (by decide +kernel), _, rfl, ?_⟩
    refine iteT ?_
    refine ⟨_, rfl, _, _, .type "int", .type "int", true, rfl, .ty _, .base (.int i), kit_ty (by decide +kernel), _, rfl, ?_⟩
    refine iteT ?_
    refine ⟨_, rfl, _, _, .type "int", .type "bool", false, rfl, .ty _, .base (.int i), kit_ty (by decide +kernel), ?_⟩
    refine ⟨_, rfl, _, _, .type "int", .type "bool", false, rfl, .ty _, .base (.int i), kit_ty (by decide +kernel), ?_⟩
    refine ⟨rfl, _, rfl, iteC (decide_eq_true rfl) ?_⟩
    refine ⟨_, rfl, _, rfl, rfl, ?_⟩
    show Q (.bl (decide (V.int i = V.int i))) _
    rw [decide_eq_true rfl]
    exact q _ g1
  · refine ⟨_, t, _, .type "str", [.type "list", .type "tuple"], false, rfl, upd_same, .cons (.ty _) (.cons (.ty _) .nil), .base (.str z), is_seq (by decide +kernel) (by decide +kernel), _, rfl, ?_⟩
    refine iteF ?_
    refine ⟨_, rfl, _, _, .type "str", .type "dict", false, rfl, .ty _, .base (.str z), kit_ty (by decide +kernel), _, rfl, ?_⟩
    refine iteF ?_
    refine ⟨_, rfl, _, _, .type "str", .type "int", false, rfl, .ty _, .base (.str z), kit_ty (by decide +kernel), _, rfl, ?_⟩
    refine iteF ?_
    refine ⟨_, rfl, _, rfl, rfl, _, rfl, iteC (decide_eq_true rfl) ?_⟩
    refine ⟨_, rfl, (by show 4 ≤ sizeLine; decide), fun t2 ht2 => ?_⟩
    refine ⟨_, t2, _, .type "str", [.type "int", .type "list", .type "tuple", .type "dict"], false, rfl, upd_same, .cons (.ty _) (.cons (.ty _) (.cons (.ty _) (.cons (.ty _) .nil))), .base (.str z), is_four (by decide +kernel) (by decide +kernel) (by decide +kernel) (by decide +kernel), _, _, rfl, rfl, ?_⟩
    exact q _ (g1.trans (same_new ht2 _))
  · refine ⟨_, t, _, .type "bool", [.type "list", .type "tuple"], false, rfl, upd_same, .cons (.ty _) (.cons (.ty _) .nil), .base (.bl bb), is_seq (by decide +kernel) (by decide +kernel), _, rfl, ?_⟩
    refine iteF ?_
    refine ⟨_, rfl, _, _, .type "bool", .type "dict", false, rfl, .ty _, .base (.bl bb), kit_ty (by decide +kernel), _, rfl, ?_⟩
    refine iteF ?_
    refine ⟨_, rfl, _, _, .type "bool", .type "int", true, rfl, .ty _, .base (.bl bb), kit_ty (by decide +kernel), _, rfl, ?_⟩
    refine iteT ?_
    refine ⟨_, rfl, _, _, .type "bool", .type "int", true, rfl, .ty _, .base (.bl bb), kit_ty (by decide +kernel), _, rfl, ?_⟩
    refine iteT ?_
    refine ⟨_, rfl, _, _, .type "bool", .type "bool", true, rfl, .ty _, .base (.bl bb), kit_ty (by decide +kernel), ?_⟩
    refine ⟨_, rfl, _, _, .type "bool", .type "bool", true, rfl, .ty _, .base (.bl bb), kit_ty (by decide +kernel), ?_⟩
    refine ⟨rfl, _, rfl, iteC (decide_eq_true rfl) ?_⟩
    refine ⟨_, rfl, _, rfl, rfl, ?_⟩
    show Q (.bl (decide (V.bl bb = V.bl bb))) _
    rw [decide_eq_true rfl]
    exact q _ g1
  · refine ⟨_, t, _, .type "tuple", [.type "list", .type "tuple"], true, rfl, upd_same, .cons (.ty _) (.cons (.ty _) .nil), tyT (seqT g1 h2), is_seq (by decide +kernel) (by decide +kernel), _, rfl, ?_⟩
    refine iteT ?_
    have ka := seqT g1 h1
    have kb := seqT g1 h2
    refine ⟨_, rfl, _, _, .type "tuple", .type "list", false, rfl, .ty _, tyT ka, kit_ty (by decide +kernel), _, rfl, _, _, .type "tuple", .type "list", false, rfl, .ty _, tyT kb, kit_ty (by decide +kernel), rfl, _, rfl, ?_⟩
    refine iteN rfl ?_
    refine ⟨_, rfl, _, _, .type "tuple", .type "tuple", true, rfl, .ty _, tyT ka, kit_ty (by decide +kernel), _, rfl, _, _, .type "tuple", .type "tuple", true, rfl, .ty _, tyT kb, kit_ty (by decide +kernel), rfl, _, rfl, ?_⟩
    refine iteN rfl ?_
    refine ⟨_, rfl, a, xs, rfl, .inr (ka), _, rfl, b, ys, rfl, .inr (kb), rfl, _, rfl, iteC (decide_eq_true (by rw [h3])) ?_⟩
    refine ⟨_, rfl, _, rfl, a, b, xs, ys, rfl, .inr ⟨ka, kb, fun D hD => ?_⟩⟩
    have hD0 : H D = none := g1.free hD
    refine lc_it (walk_zipT (K := K) (a := a) (b := b) h3) (InvS H D) ⟨upd_same, same_over g1 hD0 _⟩ (fun i H' _ ⟨_, g⟩ => ⟨seqT g h1, seqT g h2⟩) ?_ ?_
    · rintro i v H' H'' hi ⟨hd, g⟩ ⟨T, x, y, rfl, hT, rfl, ex, ey⟩
      have gT : Same H' (upd H' T (.tup [x, y])) := same_new hT _
      have hi1 : i < 1001 := by omega
      refine ⟨T, [x, y], rfl, SqT.of upd_same, rfl, x, [y], rfl, y, [], rfl, rfl, ?_⟩
      refine ⟨rfl, kept ?_⟩
      refine ⟨_, rfl, _, rfl, x, y, rfl, (h5 i x y ex ey).mono (g.trans gT), fun H2 g2 => ?_⟩
      refine ⟨_, g2 _ _ (gT _ _ hd), by rw [List.length_replicate]; exact small1000 (by omega), by rw [upd_same, List.replicate_succ'], same_over ((g.trans gT).trans g2) hD0 _⟩
    · rintro H' ⟨hd, g⟩
      exact ⟨D, List.replicate xs.length true, rfl, SqL.of (by rw [hd, List.map_replicate]), by rw [all_true]; exact q _ g⟩
  · refine ⟨_, t, _, .type "list", [.type "list", .type "tuple"], true, rfl, upd_same, .cons (.ty _) (.cons (.ty _) .nil), .base (.lst (g1 _ _ h2)), is_seqL, _, rfl, ?_⟩
    refine iteT ?_
    have ka := g1 _ _ h1
    have kb := g1 _ _ h2
    refine ⟨_, rfl, _, _, .type "list", .type "list", true, rfl, .ty _, .base (.lst ka), kit_ty (by decide +kernel), _, rfl, _, _, .type "list", .type "list", true, rfl, .ty _, .base (.lst kb), kit_ty (by decide +kernel), rfl, _, rfl, ?_⟩
    refine iteN rfl ?_
    refine ⟨_, rfl, _, _, .type "list", .type "tuple", false, rfl, .ty _, .base (.lst ka), kit_ty (by decide +kernel), _, rfl, _, _, .type "list", .type "tuple", false, rfl, .ty _, .base (.lst kb), kit_ty (by decide +kernel), rfl, _, rfl, ?_⟩
    refine iteN rfl ?_
    refine ⟨_, rfl, a, xs, rfl, .inl (SqL.of ka), _, rfl, b, ys, rfl, .inl (SqL.of kb), rfl, _, rfl, iteC (decide_eq_true (by rw [h3])) ?_⟩
    refine ⟨_, rfl, _, rfl, a, b, xs, ys, rfl, .inl ⟨SqL.of ka, SqL.of kb, fun D hD => ?_⟩⟩
    have hD0 : H D = none := g1.free hD
    refine lc_it (walk_zip (K := K) (a := a) (b := b) (n := xs.length) (by omega)) (InvS H D) ⟨upd_same, same_over g1 hD0 _⟩ (fun i H' _ ⟨_, g⟩ => ⟨SqL.of (g _ _ h1), SqL.of (g _ _ h2)⟩) ?_ ?_
    · rintro i v H' H'' hi ⟨hd, g⟩ ⟨T, x, y, rfl, hT, rfl, ex, ey⟩
      have gT : Same H' (upd H' T (.tup [x, y])) := same_new hT _
      have hi1 : i < 1001 := by omega
      refine ⟨T, [x, y], rfl, SqT.of upd_same, rfl, x, [y], rfl, y, [], rfl, rfl, ?_⟩
      refine ⟨rfl, kept ?_⟩
      refine ⟨_, rfl, _, rfl, x, y, rfl, (h5 i x y ex ey).mono (g.trans gT), fun H2 g2 => ?_⟩
      refine ⟨_, g2 _ _ (gT _ _ hd), by rw [List.length_replicate]; exact small1000 (by omega), by rw [upd_same, List.replicate_succ'], same_over ((g.trans gT).trans g2) hD0 _⟩
    · rintro H' ⟨hd, g⟩
      exact ⟨D, List.replicate xs.length true, rfl, SqL.of (by rw [hd, List.map_replicate]), by rw [all_true]; exact q _ g⟩
abbrev sDraw : Stmt := topS 35
/-! the spring of numbers: a list of four, its first one a list of ints -/
def Spr (H : Hp) (st q : Addr) (b : Int) : Prop := ∃ (ns : List Int) (a c : Int), H st = some (.lst [.ref q, .int a, .int b, .int c]) ∧ H q = some (.lst (ns.map V.int)) ∧ 0 ≤ a ∧ 0 ≤ c ∧ c < 2147483647 ∧ ns.length ≤ 63
/-! all else is as it was -/
def SX (st q : Addr) (H H' : Hp) : Prop := ∀ (x : Addr) (o : HO), x ≠ st → x ≠ q → H x = some o → H' x = some o
theorem SX.refl {st q : Addr} {H : Hp} : SX st q H H := fun _ _ _ _ h => h
theorem SX.trans {st q : Addr} {H H1 H2 : Hp} (g : SX st q H H1) (g' : SX st q H1 H2) : SX st q H H2 := fun x o h1 h2 h => g' x o h1 h2 (g x o h1 h2 h)
theorem SX.of {st q : Addr} {H H' : Hp} (g : Same H H') : SX st q H H' := fun x o _ _ h => g x o h
theorem SX.st {st q : Addr} {H : Hp} {o : HO} : SX st q H (upd H st o) := fun x u h1 _ h => by rw [upd_ne h1]; exact h
theorem SX.q {st q : Addr} {H : Hp} {o : HO} : SX st q H (upd H q o) := fun x u _ h2 h => by rw [upd_ne h2]; exact h
theorem Spr.ne {H : Hp} {st q : Addr} {a b c : Int} {ns : List Int} (h1 : H st = some (.lst [.ref q, .int a, .int b, .int c])) (h2 : H q = some (.lst (ns.map V.int))) : q ≠ st := fun e => by
  rw [e, h1] at h2
  cases ns with
  | nil => cases h2
  | cons n r => cases h2
def spDraw : Sp := fun vs H Q _ => ∃ (st q : Addr) (b m : Int), vs = [.ref st, .int m] ∧ Spr H st q b ∧ 0 ≤ b ∧ b ≤ 1000 ∧ 0 < m ∧ m < 1073741824 ∧
  ∀ (r : Int) (H' : Hp), 0 ≤ r → r < m → Spr H' st q (b + 1) → SX st q H H' → Q (.int r) H'
theorem scD : FnScope ["_law_stream", "_law_many", "_law_digit", "_law_mixed_here"] ["_law_stream", "_law_many"] (defScope sDraw) := ⟨rfl, rfl, rfl, by decide +kernel, rfl, by decide +kernel, by decide +kernel⟩
theorem dp_ints {H : Hp} : ∀ ns : List Int, DpAll K H (ns.map V.int) (ns.map PyData.int)
  | [] => .nil
  | n :: r => .cons (.int n) (dp_ints r)
theorem first_ix {n : Nat} (h : 0 < n) : seqIndex? 0 n = some 0 := (ixN_seq (n := n) (i := 0) (j := 0) (by unfold ixN; rw [if_pos (by decide), if_pos (by omega)]; rfl)).1
theorem ok_draw (F : Fun K "_law_draw" "_law_draw" sDraw f fd) (B : Bt mg) : FnOk P w K mg base CX0 1 f fd ["_law_stream", "_law_many"] spDraw := by
  refine F.ok scD (fun vs H Q E h => ?_) (fun cdv A outer s H vs Q E hr h => ?_)
  · obtain ⟨st, q, b, m, rfl, _⟩ := h
    rfl
  obtain ⟨st, q, b, m, rfl, ⟨ns, a, c, h1, h2, ha, hc, hc2, hns⟩, hb0, hb1, hm0, hm1, k⟩ := h
  refine ⟨_, pss_cons (ps_asg (pe_op op_add (pe_ix ix_list (pv 0) pe_int (fun _ _ => rfl)) pe_int) (pg_sub (pv 0) pe_int set_list))
    (C8.pss_cut (ps_if (PW.pt (pw_and (pt_cmpR op_eq (pe_ix ix_list (pv 0) pe_int (fun _ _ => rfl)) pe_int (nomark _)) (pw_and1 (pt_cmpR (op_neD hr.units) (pe_ix ix_list (pv 0) pe_int (fun _ _ => rfl)) (pe_lst pa_nil) (nomark _))))) (pss_cons (ps_asg (pe_bm PySem.F.plainAttrs_list PySem.F.slot_list_pop PySem.F.type_list_pop mt_popAt (pe_ix ix_list (pv 0) pe_int (fun _ _ => rfl)) (pa_cons pe_int pa_nil)) (pg_sub (pv 0) pe_int set_list)) (pss_one (ps_if (pt_cmpR op_lt (pe_ix ix_list (pv 0) pe_int (fun _ _ => rfl)) (pe_op op_pow pe_int pe_int) (nomark _)) (pss_cons (ps_asg (pe_op op_mod (pe_callTy call_int1 (by rfl) B.int (by decide +kernel) (pa_cons (pe_op op_add (pe_op op_add (pe_op op_mul (pe_ix ix_list (pv 0) pe_int (fun _ _ => rfl)) pe_int) (pe_ix ix_list (pv 0) pe_int (fun _ _ => rfl))) pe_int) pa_nil)) pe_int) (pg_sub (pv 0) pe_int set_list)) (pss_one (ps_asg pe_int (pg_sub (pv 0) pe_int set_list)))) pss_nil))) pss_nil)
    (pss_cons (ps_if (pt_cmpR op_gt (pe_ix ix_list (pv 0) pe_int (fun _ _ => rfl)) pe_int (nomark _)) (pss_cons (ps_set (i := 2) scD.nd rfl (Or.inl rfl) (pe_op op_mod (pe_callTy call_int1 (by rfl) B.int (by decide +kernel) (pa_cons (pe_ix ix_list (pv 0) pe_int (fun _ _ => rfl)) pa_nil)) (pv 1))) (pss_cons (ps_asg (pe_op op_fdiv (pe_ix ix_list (pv 0) pe_int (fun _ _ => rfl)) (pv 1)) (pg_sub (pv 0) pe_int set_list)) (pss_one (ps_ret (pv 2))))) pss_nil)
    (pss_cons (ps_set (i := 3) scD.nd rfl (Or.inl rfl) (pe_op op_mod (pe_op op_pow (pe_op op_add (pe_op op_add (pe_ix ix_list (pv 0) pe_int (fun _ _ => rfl)) (pe_op op_mul pe_int (pe_ix ix_list (pv 0) pe_int (fun _ _ => rfl)))) pe_int) pe_int) pe_int))
    (pss_one (ps_ret (pe_op op_mod (pe_op op_mod (pe_op op_pow (pe_op op_add (pe_op op_add (pe_op op_mul (pv 3) pe_int) (pe_op op_mul (pe_op op_mul pe_int (pe_ix ix_list (pv 0) pe_int (fun _ _ => rfl))) (pe_ix ix_list (pv 0) pe_int (fun _ _ => rfl)))) pe_int) pe_int) pe_int) (pv 1))))))), ?_⟩
  have nqs : q ≠ st := Spr.ne h1 h2
  refine ⟨_, rfl, st, _, _, _, rfl, rfl, SqL.of h1, rfl, _, _, rfl, rfl, _, rfl, st, _, _, _, rfl, rfl, h1, rfl, ?_⟩
  have e1 : upd H st (.lst [.ref q, .int a, .int (b + 1), .int c]) st = some (.lst [.ref q, .int a, .int (b + 1), .int c]) := upd_same
  have e2 : upd H st (.lst [.ref q, .int a, .int (b + 1), .int c]) q = some (.lst (ns.map V.int)) := by rw [upd_ne nqs]; exact h2
  have gx : SX st q H (upd H st (.lst [.ref q, .int a, .int (b + 1), .int c])) := SX.st
  refine ⟨fun σ' H' => σ' = [some (.ref st), some (.int m), none, none] ∧ Spr H' st q (b + 1) ∧ SX st q H H', ?_, ?_⟩
  · refine ⟨_, rfl, st, _, _, _, rfl, rfl, SqL.of e1, rfl, rfl, _, rfl, ?_⟩
    refine ite2 (fun ca => ?_) (fun _ => ⟨rfl, ⟨ns, a, c, e1, e2, ha, hc, hc2, hns⟩, gx⟩)
    have ca0 : a = 0 := by
      have z := of_decide_eq_true ca
      cases z
      rfl
    refine ⟨_, rfl, st, _, _, _, rfl, rfl, SqL.of e1, rfl, Nat.zero_le _, fun l hl => ?_⟩
    have g2 := same_new hl (.lst [])
    have f1 := g2 _ _ e1
    have f2 := g2 _ _ e2
    have gx2 := gx.trans (.of g2)
    cases ns with
    | nil =>
      refine ⟨.list [], .list [], .lst (SqL.of f2) .nil, .lst (SqL.of upd_same) .nil, by decide +kernel, by decide +kernel, _, rfl, ?_⟩
      refine iteN (by decide +kernel) ⟨rfl, ⟨[], a, c, f1, f2, ha, hc, hc2, hns⟩, gx2⟩
    | cons n r =>
      refine ⟨.list ((n :: r).map PyData.int), .list [], .lst (SqL.of f2) (dp_ints _), .lst (SqL.of upd_same) .nil, PySem.W.ke_shaped_ints _, by decide +kernel, _, rfl, ?_⟩
      refine iteC rfl ?_
      refine ⟨_, rfl, st, _, _, _, rfl, rfl, SqL.of f1, rfl, .inl ⟨rfl, _, SqL.of f2⟩, q, _, 0, 0, _, rfl, rfl, f2, by decide, by decide, first_ix (by simp), rfl, ?_⟩
      have p1 := (upd_ne (o := .lst (r.map V.int)) nqs.symm).trans f1
      have gx3 := gx2.trans (SX.q (o := .lst (r.map V.int)))
      refine ⟨_, rfl, st, _, _, _, rfl, rfl, p1, rfl, ?_⟩
      have gx4 := gx3.trans (SX.st (o := .lst [.ref q, .int n, .int (b + 1), .int c]))
      refine ⟨_, rfl, st, _, _, _, rfl, rfl, SqL.of upd_same, rfl, _, _, rfl, rfl, ⟨by decide, by decide, by decide⟩, _, _, rfl, rfl, _, rfl, ?_⟩
      refine ite2 (fun cn => ?_) (fun cn => ?_)
      · refine ⟨_, rfl, st, _, _, _, rfl, rfl, SqL.of upd_same, rfl, _, _, rfl, rfl, .inr ⟨by decide, by decide⟩, _, rfl, st, _, _, _, rfl, rfl, SqL.of upd_same, rfl, _, _, rfl, rfl, _, _, rfl, rfl, .inl ⟨_, rfl, ?_⟩⟩
        refine ⟨_, _, rfl, rfl, (by show (0 : Int) < 2147483647; decide), _, rfl, st, _, _, _, rfl, rfl, upd_same, rfl, _, rfl, st, _, _, _, rfl, rfl, upd_same, rfl, ?_⟩
        refine ⟨rfl, ⟨r, 0, (c * 31 + n + 7) % 2147483647, upd_same, ?_, by decide, Int.emod_nonneg _ (by decide), Int.emod_lt_of_pos _ (by decide), by simp at hns; omega⟩, (gx4.trans SX.st).trans SX.st⟩
        rw [upd_ne nqs, upd_ne nqs, upd_ne nqs, upd_same]
        rfl
      · have cn1 : ¬ n < (10 : Int) ^ 18 := of_decide_eq_false (Bool.eq_false_iff.mpr cn)
        refine ⟨rfl, ⟨r, n, c, upd_same, ?_, by omega, hc, hc2, by simp at hns; omega⟩, gx4⟩
        rw [upd_ne nqs, upd_same]
        rfl
  · rintro σ' H' ⟨rfl, ⟨ns', a', c', d1, d2, ha', hc', hc2', hns'⟩, g'⟩
    refine ⟨_, rfl, st, _, _, _, rfl, rfl, SqL.of d1, rfl, _, _, rfl, rfl, _, rfl, ?_⟩
    refine ite2 (fun cp => ?_) (fun cp => ?_)
    · have cp1 : a' > 0 := of_decide_eq_true cp
      refine ⟨_, rfl, st, _, _, _, rfl, rfl, SqL.of d1, rfl, .inl ⟨_, rfl, ?_⟩⟩
      refine ⟨_, rfl, _, _, rfl, rfl, hm0, _, rfl, st, _, _, _, rfl, rfl, SqL.of d1, rfl, _, rfl, _, _, rfl, rfl, ⟨hm0, hm1⟩, _, rfl, st, _, _, _, rfl, rfl, d1, rfl, _, rfl, ?_⟩
      exact k _ _ (Int.emod_nonneg _ (by omega)) (Int.emod_lt_of_pos _ hm0) ⟨ns', a' / m, c', upd_same, by rw [upd_ne nqs]; exact d2, Int.ediv_nonneg ha' (by omega), hc', hc2', hns'⟩ (g'.trans SX.st)
    · refine ⟨_, rfl, st, _, _, _, rfl, rfl, SqL.of d1, rfl, _, rfl, st, _, _, _, rfl, rfl, SqL.of d1, rfl, _, _, rfl, rfl, .inl ⟨by decide, by decide⟩, _, _, rfl, rfl, _, _, rfl, rfl, _, _, rfl, rfl, ⟨by decide, by decide, ?_⟩, _, _, rfl, rfl, (by show (0 : Int) < 2147483629; decide), ?_⟩
      · show (c' + 104729 * (b + 1) + 17).natAbs < 18446744073709551616
        omega
      have x0 : 0 ≤ (c' + 104729 * (b + 1) + 17) ^ (5 : Int).toNat % 2147483629 := Int.emod_nonneg _ (by decide)
      have x1 : (c' + 104729 * (b + 1) + 17) ^ (5 : Int).toNat % 2147483629 < 2147483629 := Int.emod_lt_of_pos _ (by decide)
      refine ⟨_, rfl, _, _, rfl, rfl, .inr ⟨by decide, by decide⟩, _, rfl, st, _, _, _, rfl, rfl, SqL.of d1, rfl, _, _, rfl, rfl, .inl ⟨by decide, by decide⟩, _, rfl, st, _, _, _, rfl, rfl, SqL.of d1, rfl, _, _, rfl, rfl, .inr ⟨?_, ?_⟩, _, _, rfl, rfl, _, _, rfl, rfl, _, _, rfl, rfl, ⟨by decide, by decide, ?_⟩, _, _, rfl, rfl, (by show (0 : Int) < 1000000007; decide), _, rfl, _, _, rfl, rfl, hm0, ?_⟩
      · show -(18446744073709551616 : Int) < b + 1
        omega
      · show b + 1 < (18446744073709551616 : Int)
        omega
      · show ((c' + 104729 * (b + 1) + 17) ^ (5 : Int).toNat % 2147483629 * 48271 + 40503 * (b + 1) * (b + 1) + 13).natAbs < 18446744073709551616
        have y0 : 0 ≤ 40503 * (b + 1) * (b + 1) := Int.mul_nonneg (by omega) (by omega)
        have y1 : 40503 * (b + 1) * (b + 1) ≤ 40543503 * 1001 := Int.mul_le_mul (by omega) (by omega) (by omega) (by omega)
        revert x0 x1 y0 y1
        generalize (c' + 104729 * (b + 1) + 17) ^ (5 : Int).toNat % 2147483629 = x
        generalize 40503 * (b + 1) * (b + 1) = y
        intro x0 x1 y0 y1
        omega
      · exact k _ _ (Int.emod_nonneg _ (by omega)) (Int.emod_lt_of_pos _ hm0) ⟨ns', a', c', d1, d2, ha', hc', hc2', hns'⟩ g'
theorem Spr.same {H H' : Hp} {st q : Addr} {b : Int} (g : Same H H') : Spr H st q b → Spr H' st q b
  | ⟨ns, a, c, h1, h2, r⟩ => ⟨ns, a, c, g _ _ h1, g _ _ h2, r⟩
theorem TK.sx {H H' : Hp} {st q : Addr} {b : Int} (s : Spr H st q b) (g : SX st q H H') : TK K H H' := by
  obtain ⟨ns, a, c, h1, h2, _⟩ := s
  exact .but fun t o no h => g _ _ (fun e => by rw [e, h1] at h; exact no _ (Option.some.inj h).symm) (fun e => by rw [e, h2] at h; exact no _ (Option.some.inj h).symm) h
abbrev sStart : Stmt := topS 36
abbrev sPick : Stmt := topS 37
def spStart (K : PySem.W.Frag) : Sp := fun vs H Q _ => ∃ (a : Addr) (ns : List Int), vs = [.ref a] ∧ SqL K H a (ns.map V.int) ∧ ns.length ≤ 63 ∧
  ∀ (st q : Addr) (H' : Hp), Same H H' → Spr H' st q 0 → Q (.ref st) H'
theorem scT : FnScope ["_law_script"] ["_law_script"] (defScope sStart) := ⟨rfl, rfl, rfl, by decide +kernel, rfl, by decide +kernel, by decide +kernel⟩
theorem ok_start (F : Fun K "_law_start" "_law_start" sStart f fd) (B : Bt mg) : FnOk P w K mg base CX0 1 f fd ["_law_script"] (spStart K) := by
  refine F.ok scT (fun vs H Q E h => ?_) (fun cdv A outer s H vs Q E hr h => ?_)
  · obtain ⟨a, ns, rfl, _⟩ := h
    rfl
  obtain ⟨a, ns, rfl, hS, hn, k⟩ := h
  refine ⟨_, pss_one (ps_ret (pe_lst (pa_cons (pe_callTy call_list_of (by rfl) B.lst (by decide +kernel) (pa_cons (pv 0) pa_nil)) (pa_cons pe_int (pa_cons pe_int (pa_cons pe_int pa_nil)))))), ?_⟩
  refine ⟨_, rfl, a, _, rfl, .inl hS, fun l hl => ?_⟩
  have g1 := same_new hl (.lst (ns.map V.int))
  refine ⟨(by show 4 ≤ sizeLine; decide), fun t ht => ?_⟩
  have g2 := same_new ht (.lst [.ref l, .int 0, .int 0, .int 0])
  exact k t l _ (g1.trans g2) ⟨ns, 0, 0, upd_same, g2 _ _ upd_same, by decide, by decide, by decide, hn⟩
def spPick (K : PySem.W.Frag) : Sp := fun vs H Q _ => ∃ (st q p : Addr) (b : Int) (xs : List V), vs = [.ref st, .ref p] ∧ Spr H st q b ∧ 0 ≤ b ∧ b ≤ 1000 ∧ H p = some (.lst xs) ∧ p ≠ st ∧ p ≠ q ∧ 0 < xs.length ∧ xs.length ≤ 1000 ∧
  ∀ (v : V) (H' : Hp), v ∈ xs → Spr H' st q (b + 1) → SX st q H H' → Q v H'
theorem scP : FnScope ["_law_stream", "_law_some"] ["_law_stream", "_law_some"] (defScope sPick) := ⟨rfl, rfl, rfl, by decide +kernel, rfl, by decide +kernel, by decide +kernel⟩
theorem at_int {xs : List V} {r : Int} (h0 : 0 ≤ r) (h1 : r < (xs.length : Int)) : ∃ v, v ∈ xs ∧ atI xs r = some v := by
  have hk : r.toNat < xs.length := by omega
  refine ⟨xs[r.toNat], List.getElem_mem hk, ?_⟩
  have q := atI_nat (xs := xs) (j := r.toNat) (v := xs[r.toNat]) (List.getElem?_eq_getElem hk)
  rwa [show ((r.toNat : Nat) : Int) = r by omega] at q
theorem ok_pick (F : Fun K "_law_pick" "_law_pick" sPick f fd) {g : Addr} {gd : FuncData} (G : FnOk P w K mg base CX0 1 g gd ["_law_stream", "_law_many"] spDraw) (bG : Binds K gd ["_law_stream", "_law_many"] []) (kG : PySem.W.keepIn K (.ref g) = true) (mG : mg "_law_draw" = some (.ref g)) (B : Bt mg) :
    FnOk P w K mg base CX0 2 f fd ["_law_stream", "_law_some"] (spPick K) := by
  refine F.ok scP (fun vs H Q E h => ?_) (fun cdv A outer s H vs Q E hr h => ?_)
  · obtain ⟨st, q, p, b, xs, rfl, _⟩ := h
    rfl
  obtain ⟨st, q, p, b, xs, rfl, hs, hb0, hb1, hp, n1, n2, hx0, hx1, k⟩ := h
  refine ⟨_, pss_one (ps_ret (pe_ix ix_list (pv 1) (pe_call G hr rfl mG kG bG .nil pass0 (pa_cons (pv 0) (pa_cons (pe_callB call_len_seq (by rfl) B.len PySem.boot_len (pa_cons (pv 1) pa_nil)) pa_nil))) (fun _ _ => rfl))), ?_⟩
  refine ⟨_, rfl, _, rfl, _, rfl, p, xs, rfl, .inl (SqL.of hp), st, q, b, _, rfl, hs, hb0, hb1, by omega, by omega, fun r H' r0 r1 hs' gx => ?_⟩
  obtain ⟨v, hv, ev⟩ := at_int r0 r1
  exact ⟨p, xs, r, v, rfl, rfl, SqL.of (gx _ _ n1 n2 hp), ev, k v H' hv hs' gx⟩
theorem all_nil {p : V → Prop} : ∀ x ∈ ([] : List V), p x := fun x h => by cases h
theorem all_cons {p : V → Prop} {a : V} {l : List V} (h : p a) (t : ∀ x ∈ l, p x) : ∀ x ∈ a :: l, p x := fun x q => by
  cases q with
  | head => exact h
  | tail _ q => exact t x q
end
end Lw
namespace PySem.W
open PySem PySem.Calls PyProof.Rows
section
variable {M : Model} {A : Around} {E : Value → Shared → Prop} {s : Shared} {K : Frag} {env : Env} {pos p : Pos} {f : Value} {first : List Value} {Q : Value → Shared → Prop} {h₀ : Heap} {e : Expr} {rest : List Expr}
/-- f(*x, k = v): the starred one is read last -/
theorem lone_kw {x : Sem Value} {kw : List (Option Str × Sem Value)} {R : Args → Shared → Prop} (hall : kw.all (·.1.isSome) = true)
    (h : wpAny M A x (fun v s1 => wpAny M A (evalAll (kw.map (·.2))) (fun ks s2 => StarOf M A E v (fun vs s3 => R ⟨vs, (kw.filterMap (·.1)).zip ks⟩ s3) s2) E s1) E s) :
    wpAny M A (evalArgs f true [(true, (do let v ← x; standAt pos; pure v))] kw) R E s := by
  unfold evalArgs
  first
    | refine wpAny_bind (wpAny_bind (wpAny_mono h (fun v s1 h1 => wpAny_bind (wpAny_standAt (wpAny_pure ?_))) fun _ _ x => x))
    | refine wpAny_bind (wpAny_bind (wpAny_bind (wpAny_mono h (fun v s1 h1 => wpAny_bind (wpAny_standAt (wpAny_pure (wpAny_pure ?_)))) fun _ _ x => x)))
  refine wpAny_holding ?_
  simp only [hall, if_true]
  refine wpAny_bind (wpAny_mono h1 (fun ks s2 h2 => ?_) fun _ _ x => x)
  unfold StarOf at h2
  refine wpAny_bind (wpAny_bind (wpAny_mono h2 (fun b s3 h3 => ?_) fun _ _ x => x))
  obtain ⟨rfl, h3⟩ := h3
  have z := wpAny_holding (vs := ((kw.filterMap (·.1)).zip ks).map (·.2)) (wpAny_mono h3 (fun vs s4 h4 => (wpAny_pure h4 : wpAny M A (pure (⟨vs, (kw.filterMap (·.1)).zip ks⟩ : Args)) R E s4)) fun _ _ x => x)
  try simp only [Bool.false_eq_true, if_false]
  first
    | exact z
    | exact wpAny_bind (wpAny_pure z)
    | exact wpAny_bind z
theorem call_star_kw {P : Heap → Prop} {args : List (Bool × Sem Value)} {kw : List (Option Str × Sem Value)} (hst : args.any (·.1) = true)
    (hk : ∀ h, P h → ∃ k, (k = Keeper.frame ∨ k = Keeper.machine ∨ k = Keeper.boundFrame) ∧ Looks M h (keeperOf f) k)
    (h : wpAny M A (evalArgs f true args kw) (fun a s1 => P s1.heap ∧ wpAny M A (call f (first ++ a.pos) a.kw) Q E s1) E s) : wpAny M A (callWith pos f first args kw) Q E s := by
  unfold callWith
  refine wpAny_bind (wpAny_holding (wpAny_mono h (fun a s1 h1 => wpAny_bind (wpAny_standAt ?_)) fun _ _ x => x))
  obtain ⟨k, hk', L⟩ := hk _ h1.1
  simp only [hst, Bool.true_or]
  refine wpAny_bind (L.here ?_)
  have fin : ∀ {t : Sem Value}, wpAny M A t Q E s1 → wpAny M A (t >>= fun r => holding [r] point >>= fun _ => pure r) Q E s1 :=
    fun ht => wpAny_bind (wpAny_mono ht (fun r s2 hr => wpAny_bind (wpAny_holding (wpAny_point (wpAny_pure hr)))) fun _ _ x => x)
  have mrk (mk : Value) : wpAny M A (callMarked mk f (first ++ a.pos) a.kw) Q E s1 := by unfold callMarked; exact Calls.wpAny_keep h1.2
  rcases hk' with rfl | rfl | rfl <;> dsimp only <;> first | exact fin (mrk _) | exact fin h1.2 | exact fin (wpAny_operating h1.2)
end
end PySem.W
namespace L2
open PySem PySem.Spec PyProof.Rows
/-- raise C(): an own class without an __init__ of its own -/
theorem pmk_own0 {X : Cx} {C : Addr} {bmB : List Value} {B newId initId : String} {x : Str} {p pos : Pos} (F : ExcBaseFacts B newId initId bmB) (q : PySem.W.excIn X.K C bmB newId = true) (gC : X.mg x = some (.ref C))
    (kC : PySem.W.keepIn X.K (.ref C) = true) (r : Raises X (.ref C)) (hg : Gl X x) (hdb : (x == ("__debug__" : Str)) = false := by decide) : PMk X (.Call (.Name x p) [] [] pos) (fun _ H Q => Q (.ref C) none H) := by
  intro pins s σ H Q I h
  refine wpAny_Call_Name_kw (ld_glob I hg gC ?_ hdb)
  refine PySem.W.callWith_KW0 (h₀ := X.base) (kws := []) I.ok.mod.kin kC rfl ?_ rfl
  refine wpAny_evalAll_nil ⟨I.kIn, ?_⟩
  show wpAny _ _ (call (.ref C) []) _ _ _
  obtain ⟨bm, N, nm, qn, bs, hdct, sn, sub, ab, col, dd, k0, k1, k2, k3, k5, mN, hC, hN, hni, T⟩ := exc_obj I.kIn q
  refine wpAny_call_exc_subT F T hC hN hni (fun h' e hm => ?_) (by show 0 ≤ sizeLine; decide)
  exact mk_of I hm r h (I.hok.gone hm.new)
/-! a class whose __init__ is (self, *v, k=d): what it promises, by the items of v and the value of k -/
/-- self, the positional items, the keyword's value -/
abbrev SpF := V → List V → V → Hp → VK → XK → Prop
/-- how such a call is written: the keyword there (its value), or not -/
def KwOf (kn : Str) : Option Value → List (Str × Value)
  | some u => [(kn, u)]
  | none => []
def FnF (P : Program) (w : World) (K : PySem.W.Frag) (mg : Str → Option Value) (base : Heap) (CX : CXT) (k : Nat) (f : Addr) (kn : Str) (d : V) (sp : SpF) : Prop :=
  ∀ (A : Around) (outer : List Env) (s : Shared) (H : Hp) (x : V) (xu : Value) (us : List Value) (vs : List V) (ku : Option Value) (kv : V) (Q : VK) (E : XK), Room k A → Env0 P w K mg base A outer s H → RelV x xu → Vals vs us → vs.length ≤ sizeLine →
    (∀ u, ku = some u → RelV kv u) → (ku = none → kv = d) → sp x vs kv H Q E → codeAny (model P w) A (.call (.ref f) ⟨xu :: us, KwOf kn ku⟩) (CR CX outer P w H s Q E) s
section
variable {CX : CXT} {P : Program} {w : World} {K : PySem.W.Frag} {mg : Str → Option Value} {base : Heap} {k : Nat} {f D : Addr} {name qual : Str} {params : Arguments} {body : List Stmt} {scope : Scope} {doc pm cdv ct oc : Value} {an od : Option Addr}
  {osl : Array (Option Value)} {N : List Str}
theorem fn_F {p1 kn pv : Str} {d : V} {du : Value} {sp : SpF} (lk : K.lookup f = some ⟨oc, od, .func (PySem.W.fnOf name qual params body scope .none (.ref D) doc pm an cdv ct), osl⟩) (hcd : PySem.W.codeIn K cdv qual = true) (S : FnScope N [p1, kn, pv] scope) (hCX : StX.CXUp CX)
    (hd : PySem.W.nsIn K D kn = some (some du)) (rd : RelV d du)
    (hb1 : ∀ (x u : Value) (us : List Value), bindArgs (PySem.W.fnOf name qual params body scope .none (.ref D) doc pm an cdv ct) ⟨x :: us, [(kn, u)]⟩ = (newTuple us >>= fun t => pure [(p1, x), (kn, u), (pv, t)]))
    (hb0 : ∀ (x : Value) (us : List Value), ∃ (β γ : Type) (k1 : Option Value → Sem β) (k2 : β → Sem γ) (k3 : γ → Sem (List (Str × Value))) (a : β), bindArgs (PySem.W.fnOf name qual params body scope .none (.ref D) doc pm an cdv ct) ⟨x :: us, []⟩ = ((nsGet D kn >>= k1) >>= k2) >>= k3 ∧
      k1 (some du) = pure a ∧ (k2 a >>= k3) = (newTuple us >>= fun t => pure [(p1, x), (kn, du), (pv, t)]))
    (hbody : ∀ (A : Around) (outer : List Env) (s : Shared) (H : Hp) (x : V) (vs : List V) (kv : V) (p : Addr) (H0 : Hp) (Q : VK) (E : XK), Room k (A.deeper (envOfC qual scope s.heap.objs.size f cdv)) → H0 p = none → H = upd H0 p (.tup vs) → sp x vs kv H0 Q E →
      ∃ t, PSs (cxOf CX P w K mg base N qual scope f cdv A outer s H E) body t ∧ t { nx := fun _ H' => Q .non H', rt := Q } (start N [x, kv, .ref p]) H) :
    FnF P w K mg base CX (k + 1) f kn d sp := by
  intro A outer s H x xu us vs ku kv Q E hr e0 rx rv hz hk1 hk0 hsp
  have hn : H s.heap.objs.size = Option.none := e0.hok.fresh (Nat.le_refl _)
  have hl2 : us.length ≤ sizeLine := by rw [← rv.length]; exact hz
  have KX : K.In s.heap := e0.mod.kin.keeps fun b o e => (e0.bs b o e).1
  refine StX.run_bnd lk hcd S hr e0 (G := fun xs H2 => ∃ p, H p = Option.none ∧ xs = [x, kv, V.ref p] ∧ H2 = upd H p (.tup vs)) (fun A' Ex Q' h => ?_) fun s2 H2 xs ⟨p, hp, ex, eH⟩ hr' => ?_
  · have fin : ∀ ku', RelV kv ku' → wpAny (model P w) A' (newTuple us >>= fun t => pure [(p1, xu), (kn, ku'), (pv, t)]) Q' Ex s := fun ku' rk => by
      refine wpAny_bind (wpAny_newTuple (wpAny_pure ?_) hl2)
      have new : ObjOk P w (upd H s.heap.objs.size (.tup vs)) (s.heap.push ({ cls := .type "tuple", data := .seq us.toArray } : Obj)) s.heap.objs.size (.tup vs) := ⟨hz, us, rv, ⟨_, Heap.get?_push_size _ rfl, rfl, _, rfl⟩⟩
      have un := StX.un_laid (fs := frs outer) (s := s) (o := ({ cls := .type "tuple", data := .seq us.toArray } : Obj)) (u := .tup vs) hn
      exact h _ _ [x, kv, V.ref s.heap.objs.size] [xu, ku', Value.ref s.heap.objs.size] (StX.env0_laid e0 new) un rfl (fun e s' => hCX outer s H _ _ E e s' un (fun b o q => Heap.get?_push_of_some _ q) rfl) (.cons rx (.cons rk (.cons rfl .nil))) rfl ⟨_, hn, rfl, rfl⟩
    cases ku with
    | some u =>
      show wpAny _ _ (bindArgs _ ⟨xu :: us, [(kn, u)]⟩) _ _ _
      rw [hb1]
      exact fin u (hk1 u rfl)
    | none =>
      obtain ⟨β, γ, k1, k2, k3, a, e1, e2, e3⟩ := hb0 xu us
      show wpAny _ _ (bindArgs _ ⟨xu :: us, []⟩) _ _ _
      rw [e1, bind_assoc]
      refine wpAny_bind (((PySem.W.looks_nsIn KX hd).andThen (PySem.W.Looks.of_pure e2)).here ?_)
      rw [e3]
      exact fin du (by rw [hk0 rfl]; exact rd)
  · subst ex
    exact hbody A outer s2 H2 x vs kv p H Q E hr' hp eH hsp
end
/-- C(..): a new instance and its dict, then the promise of its __init__ -/
def mkF (C : Addr) (sp : SpF) (E : XK) (vs : List V) (kv : V) (H : Hp) (Q : VK) : Prop := ∀ x dx, H x = none → H dx = none → dx ≠ x → sp (.ref x) vs kv (upd (upd H dx (.own x)) x (.ins C dx [])) (fun v H2 => v = .non ∧ Q (.ref x) H2) E
section
variable {X : Cx} {CX : CXT} {k : Nat} {f C : Addr} {kn x : Str} {d : V} {sp : SpF} {E : XK} {e : Expr} {es : List Expr} {te tk : TE} {t : TA} {p pos kpos sp_ : Pos}
theorem run_makeF {pins : List (Addr × Obj)} {σ : St} {H : Hp} {s : Shared} {Q : VK} {us : List Value} {vs : List V} {ku : Option Value} {kv : V} (M : Mk X.K C f) (F : FnF X.prog X.w X.K X.mg X.base CX k f kn d sp) (hr : Room (k + 1) X.A) (hx : Passes CX X E)
    (I : Inv X pins σ H s) (r : Vals vs us) (hz : vs.length ≤ sizeLine) (hk1 : ∀ u, ku = some u → RelV kv u) (hk0 : ku = none → kv = d) (h : mkF C sp E vs kv H Q) :
    wpAny (model X.prog X.w) X.A (call (.ref C) us (KwOf kn ku)) (EP X pins σ Q) X.xe s := by
  have hq := h (s.heap.objs.size + 1) s.heap.objs.size (I.hok.fresh (Nat.le_succ _)) (I.hok.fresh (Nat.le_refl _)) (Nat.ne_of_lt (Nat.lt_succ_self _))
  have I2 := Inv.made (C := C) I
  refine wpAny_call (make_map (f := f) I.kIn M.makes M.init (beq_iff_eq.mp M.fn) (codeAny_mono (F _ X.stack _ _ (.ref (s.heap.objs.size + 1)) (.ref (s.heap.objs.size + 1)) us vs ku kv _ E (hr.make C us (KwOf kn ku)) (I2.env0.make C us (KwOf kn ku)) rfl r hz hk1 hk0 hq) fun r s' hq' => ?_))
  cases r with
  | error e => exact hx pins σ _ _ e s' I2 hq'
  | ok fl =>
    cases fl with
    | ret u =>
      obtain ⟨v, H', I3, rv, ev, q3⟩ := I2.after hq'
      subst ev
      exact ⟨rv, ⟨V.ref (s.heap.objs.size + 1), H', I3, rfl, q3⟩⟩
    | next => exact False.elim hq'
    | brk => exact False.elim hq'
    | cont => exact False.elim hq'
/-- C() -/
theorem pe_F0 (M : Mk X.K C f) (F : FnF X.prog X.w X.K X.mg X.base CX k f kn d sp) (hr : Room (k + 1) X.A) (hg : Gl X x) (hm : X.mg x = some (.ref C)) (hx : Passes CX X E) (hdb : (x == ("__debug__" : Str)) = false := by decide) :
    PE X (.Call (.Name x p) [] [] pos) (fun _ H Q => mkF C sp E [] d H Q) := by
  refine ⟨fun pins s σ H Q I h => ?_⟩
  refine wpAny_Call_Name_kw (ld_glob I hg hm ?_ hdb)
  refine PySem.W.callWith_KW0 (h₀ := X.base) (kws := []) I.ok.mod.kin M.kp rfl ?_ rfl
  refine wpAny_evalAll_nil ⟨I.kIn, ?_⟩
  exact run_makeF (us := []) (ku := none) M F hr hx I .nil (Nat.zero_le _) (fun u z => nomatch z) (fun _ => rfl) h
/-- C(kn = e) -/
theorem pe_Fk (M : Mk X.K C f) (F : FnF X.prog X.w X.K X.mg X.base CX k f kn d sp) (hr : Room (k + 1) X.A) (hg : Gl X x) (hm : X.mg x = some (.ref C)) (hx : Passes CX X E) (hk : PE X e tk) (hdb : (x == ("__debug__" : Str)) = false := by decide) :
    PE X (.Call (.Name x p) [] [⟨some kn, e, kpos⟩] pos) (fun σ H Q => tk σ H fun kv H1 => mkF C sp E [] kv H1 Q) := by
  refine ⟨fun pins s σ H Q I h => ?_⟩
  refine wpAny_Call_Name_kw (ld_glob I hg hm ?_ hdb)
  refine PySem.W.callWith_KW0 (h₀ := X.base) I.ok.mod.kin M.kp rfl ?_ rfl
  refine kwAll_cons (thn (hk.run pins s σ H _ I h) fun u s1 ⟨kv, H1, I1, rk, q1⟩ => ?_)
  refine wpAny_evalAll_nil ⟨I1.kIn, ?_⟩
  exact run_makeF (us := []) (ku := some u) M F hr hx I1 .nil (Nat.zero_le _) (fun u' z => by cases z; exact rk) (fun z => nomatch z) q1
/-- C(e, .., kn = e) -/
theorem pe_Fpk (M : Mk X.K C f) (F : FnF X.prog X.w X.K X.mg X.base CX k f kn d sp) (hr : Room (k + 1) X.A) (hg : Gl X x) (hm : X.mg x = some (.ref C)) (hx : Passes CX X E) {a : Expr} {as : List Expr} (ha : PA X (a :: as) t) (hk : PE X e tk) (hdb : (x == ("__debug__" : Str)) = false := by decide)
    (he : starEach (a :: as) X.env = (false, eval a X.env) :: starEach as X.env := by rfl) (hpl : ((backTo pos (starEach (a :: as) X.env)).any (·.1) || (backToKw pos (keywordEach [⟨some kn, e, kpos⟩] X.env)).any (·.1.isNone)) = false := by rfl) :
    PE X (.Call (.Name x p) (a :: as) [⟨some kn, e, kpos⟩] pos) (fun σ H Q => t σ H fun vs H1 => tk σ H1 fun kv H2 => vs.length ≤ sizeLine ∧ mkF C sp E vs kv H2 Q) := by
  refine ⟨fun pins s σ H Q I h => ?_⟩
  refine wpAny_Call_Name_kw (ld_glob I hg hm ?_ hdb)
  refine PySem.W.callWith_KW (h₀ := X.base) I.ok.mod.kin M.kp rfl (thn (ha.run pos pins s σ H _ I h) fun us s1 ⟨vs, H1, I1, r, q⟩ => ?_) hpl he
  refine kwAll_cons (thn (hk.run pins s1 σ H1 _ I1 q) fun u s2 ⟨kv, H2, I2, rk, hz, q2⟩ => ?_)
  refine wpAny_evalAll_nil ⟨I2.kIn, ?_⟩
  exact run_makeF (ku := some u) M F hr hx I2 r hz (fun u' z => by cases z; exact rk) (fun z => nomatch z) q2
/-- C(*e, kn = e) -/
theorem pe_Fsk (M : Mk X.K C f) (F : FnF X.prog X.w X.K X.mg X.base CX k f kn d sp) (hr : Room (k + 1) X.A) (hg : Gl X x) (hm : X.mg x = some (.ref C)) (hx : Passes CX X E) {a : Expr} (ha : PE X a te) (hk : PE X e tk) (hdb : (x == ("__debug__" : Str)) = false := by decide)
    (he : starEach [.Starred a sp_] X.env = [(true, eval a X.env)] := by rfl) :
    PE X (.Call (.Name x p) [.Starred a sp_] [⟨some kn, e, kpos⟩] pos) (fun σ H Q => te σ H fun y H1 => tk σ H1 fun kv H2 => ∃ q xs, y = .ref q ∧ (SqT X.K H2 q xs ∨ SqL X.K H2 q xs) ∧ xs.length ≤ sizeLine ∧ mkF C sp E xs kv H2 Q) := by
  refine ⟨fun pins s σ H Q I h => ?_⟩
  refine wpAny_Call_Name_kw (ld_glob I hg hm ?_ hdb)
  rw [he]
  refine PySem.W.call_star_kw rfl (PySem.W.keeps_K M.kp) ?_
  refine PySem.W.lone_kw rfl (thn (ha.run pins s σ H _ I h) fun yv s1 ⟨y, H1, I1, ry, q⟩ => ?_)
  refine kwAll_cons (thn (hk.run pins s1 σ H1 _ I1 q) fun u s2 ⟨kv, H2, I2, rk, q0, xs, ey, hs, hz, q2⟩ => ?_)
  subst ey
  obtain rfl : yv = Value.ref q0 := ry
  refine wpAny_evalAll_nil (StX.star_any I2 hs fun us s3 I3 rv => ⟨I3.kIn, ?_⟩)
  exact run_makeF (ku := some u) M F hr hx I3 rv hz (fun u' z => by cases z; exact rk) (fun z => nomatch z) q2
end
end L2
namespace Lw
open PySem L2
abbrev sWhole : Stmt := topS 1
abbrev sFrozen : Stmt := topS 2
abbrev sAxes : Stmt := topS 12
/-! the mathematics of forms -/
def axesOk (is : List Int) (n : Nat) : Bool := decide (is.length = n) && (List.range n).all fun j => decide ((j : Int) ∈ is)
theorem inV_int (k : Int) : ∀ is : List Int, inV (.int k) (is.map V.int) = decide (k ∈ is)
  | [] => by simp [inV]
  | i :: r => by
    have q := inV_int k r
    unfold inV at q ⊢
    rw [List.map_cons, List.any_cons, q]
    show ((i == k) || decide (k ∈ r)) = decide (k ∈ i :: r)
    by_cases h : i = k
    · subst h
      simp
    · have h2 : ¬ k = i := fun e => h e.symm
      simp [h, h2]
theorem flat_ints (is : List Int) : (is.map V.int).all flatV = true := by
  rw [List.all_eq_true]
  intro x hx
  obtain ⟨i, _, rfl⟩ := List.mem_map.mp hx
  rfl
theorem flat_strs (ss : List Str) : (ss.map V.str).all flatV = true := by
  rw [List.all_eq_true]
  intro x hx
  obtain ⟨i, _, rfl⟩ := List.mem_map.mp hx
  rfl
theorem inV_str (k : Str) : ∀ ss : List Str, inV (.str k) (ss.map V.str) = decide (k ∈ ss)
  | [] => by simp [inV]
  | i :: r => by
    have q := inV_str k r
    unfold inV at q ⊢
    rw [List.map_cons, List.any_cons, q]
    show ((i == k) || decide (k ∈ r)) = decide (k ∈ i :: r)
    by_cases h : i = k
    · subst h
      simp
    · have h2 : ¬ k = i := fun e => h e.symm
      simp [h, h2]
/-- the list of answers so far -/
def InvB (H0 : Hp) (D : Addr) (f : Nat → Bool) (i : Nat) (H : Hp) : Prop := H D = some (.lst (((List.range i).map f).map V.bl)) ∧ Same H0 H
theorem InvB.next {H0 H : Hp} {D : Addr} {f : Nat → Bool} {i : Nat} (hd0 : H0 D = none) (h : InvB H0 D f i H) : InvB H0 D f (i + 1) (upd H D (.lst (((List.range i).map f).map V.bl ++ [.bl (f i)]))) :=
  ⟨by rw [upd_same, List.range_succ, List.map_append, List.map_append] <;> rfl, same_over h.2 hd0 _⟩
theorem len_b {f : Nat → Bool} {i : Nat} (h : i ≤ 1000) : (((List.range i).map f).map V.bl).length < sizeLine := by
  rw [List.length_map, List.length_map, List.length_range]
  exact small1000 h
section
variable {P : Program} {w : World} {K : PySem.W.Frag} {mg : Str → Option Value} {base : Heap} {f : Addr} {fd : FuncData}
def spWhole : Sp := fun vs H Q _ => ∃ i : Int, vs = [.int i] ∧ Q (.bl true) H
theorem scW : FnScope ["n"] ["n"] (defScope sWhole) := ⟨rfl, rfl, rfl, by decide +kernel, rfl, by decide +kernel, by decide +kernel⟩
theorem ok_whole (F : Fun K "is_whole" "is_whole" sWhole f fd) (B : Bt mg) : FnOk P w K mg base CX0 1 f fd ["n"] spWhole := by
  refine F.ok scW (fun vs H Q E h => ?_) (fun cdv A outer s H vs Q E hr h => ?_)
  · obtain ⟨i, rfl, _⟩ := h
    rfl
  obtain ⟨i, rfl, q⟩ := h
  refine ⟨_, pss_one (ps_ret (pe_and (pe_callB call_isi (by rfl) B.isi (by decide +kernel) (pa_cons (pv 0) (pa_cons (pe_bltn (v := .ty "int") (by rfl) B.int (by decide +kernel) rfl) pa_nil)))
    (pe_one (pe_not (pe_callB call_isi (by rfl) B.isi (by decide +kernel) (pa_cons (pv 0) (pa_cons (pe_bltn (v := .ty "bool") (by rfl) B.bool (by decide +kernel) rfl) pa_nil))))))), ?_⟩
  refine ⟨_, rfl, _, _, .type "int", .type "int", true, rfl, .ty _, .base (.int i), kit_ty (by decide +kernel), _, rfl, ?_⟩
  refine iteT ?_
  exact ⟨_, rfl, _, _, .type "int", .type "bool", false, rfl, .ty _, .base (.int i), kit_ty (by decide +kernel), _, rfl, q⟩
def spFrI : Sp := fun vs H Q _ => ∃ i : Int, vs = [.int i] ∧ ∀ H' : Hp, Same H H' → Q (.int i) H'
def spFrz (K : PySem.W.Frag) : Sp := fun vs H Q _ => ∃ (a : Addr) (is : List Int), vs = [.ref a] ∧ (SqL K H a (is.map V.int) ∨ SqT K H a (is.map V.int)) ∧ is.length ≤ 1000 ∧
  ∀ (p : Addr) (H' : Hp), Same H H' → H p = none → H' p = some (.tup (is.map V.int)) → Q (.ref p) H'
theorem scF : FnScope ["worth", "part"] ["worth"] (defScope sFrozen) := ⟨rfl, rfl, rfl, by decide +kernel, rfl, by decide +kernel, by decide +kernel⟩
theorem ok_frI (F : Fun K "frozen" "frozen" sFrozen f fd) (B : Bt mg) : FnOk P w K mg base CX0 1 f fd ["worth"] spFrI := by
  refine F.ok scF (fun vs H Q E h => ?_) (fun cdv A outer s H vs Q E hr h => ?_)
  · obtain ⟨i, rfl, _⟩ := h
    rfl
  obtain ⟨i, rfl, q⟩ := h
  refine ⟨_, pss_cons (ps_if (pt_val (pe_callB call_isiT (by rfl) B.isi (by decide +kernel) (pa_cons (pv 0) (pa_cons (pe_tup (pa_cons (pe_bltn (v := .ty "list") (by rfl) B.lst (by decide +kernel) rfl) (pa_cons (pe_bltn (v := .ty "tuple") (by rfl) B.tup (by decide +kernel) rfl) pa_nil))) pa_nil)))) (pss_one ps_never) pss_nil)
    (pss_one (ps_ret (pv 0))), ?_⟩
  refine ⟨_, rfl, (by show 2 ≤ sizeLine; decide), fun t ht => ?_⟩
  refine ⟨_, t, _, .type "int", [.type "list", .type "tuple"], false, rfl, upd_same, .cons (.ty _) (.cons (.ty _) .nil), .base (.int i), is_seq (by decide +kernel) (by decide +kernel), _, rfl, ?_⟩
  exact iteF ⟨_, rfl, q _ (same_new ht _)⟩
/-- the ints so far -/
def InvI (H0 : Hp) (D : Addr) (is : List Int) (i : Nat) (H : Hp) : Prop := H D = some (.lst ((is.take i).map V.int)) ∧ Same H0 H
theorem take_map_succ {is : List Int} {i : Nat} {x : V} (h : (is.map V.int)[i]? = some x) : ∃ n, x = .int n ∧ (is.take (i + 1)).map V.int = (is.take i).map V.int ++ [.int n] := by
  rw [List.getElem?_map] at h
  cases e : is[i]? with
  | none => rw [e] at h; cases h
  | some n =>
    rw [e] at h
    refine ⟨n, (Option.some.inj h).symm, ?_⟩
    rw [List.take_succ, e, List.map_append] <;> rfl
theorem ok_frz (F : Fun K "frozen" "frozen" sFrozen f fd) (bF : Binds K fd ["worth"] []) (mF : mg "frozen" = some (.ref f)) (B : Bt mg) : FnOk P w K mg base CX0 2 f fd ["worth"] (spFrz K) := by
  have G : FnOk P w K mg base CX0 1 f fd ["worth"] spFrI := ok_frI F B
  refine F.ok scF (fun vs H Q E h => ?_) (fun cdv A outer s H vs Q E hr h => ?_)
  · obtain ⟨a, is, rfl, _⟩ := h
    rfl
  obtain ⟨a, is, rfl, hS, hl, q⟩ := h
  have turn : ∀ {te : TE} {D : Addr}, H D = none → ∀ i x H', (is.map V.int)[i]? = some x → InvI H D is i H' → tCall spFrI [] E0 (tCons (tVar 1) tNil) [some (.ref a), some x] H' fun y H4 => ∃ acc, H4 D = some (.lst acc) ∧ acc.length < sizeLine ∧ InvI H D is (i + 1) (upd H4 D (.lst (acc ++ [y]))) := by
    rintro te D hD i x H' hx ⟨hd, g⟩
    obtain ⟨n, rfl, en⟩ := take_map_succ hx
    refine ⟨_, rfl, n, rfl, fun H2 g2 => ⟨_, g2 _ _ hd, ?_, by rw [upd_same, en], same_over (g.trans g2) hD _⟩⟩
    rw [List.length_map]
    exact small1000 (by rw [List.length_take]; omega)
  rcases hS with hS | hS
  · refine ⟨_, pss_cons (ps_if (pt_val (pe_callB call_isiT (by rfl) B.isi (by decide +kernel) (pa_cons (pv 0) (pa_cons (pe_tup (pa_cons (pe_bltn (v := .ty "list") (by rfl) B.lst (by decide +kernel) rfl) (pa_cons (pe_bltn (v := .ty "tuple") (by rfl) B.tup (by decide +kernel) rfl) pa_nil))) pa_nil))))
        (pss_one (ps_ret (pe_callTy call_tuple_of (by rfl) B.tup (by decide +kernel) (pa_cons (pe_lc (own := [("part", 1)]) (g := gName 1) (tt := tYes) rfl scF.nd (pi_list (pv 0)) (blkOk_by (N := ["worth", "part"]) (sc := defScope sFrozen) (by decide +kernel))
          (fun _ _ _ _ _ => pg_name (i := 1) scF.nd rfl (Or.inl rfl)) (fun _ _ _ _ _ => pts_nil) (fun _ _ _ _ _ => pe_call G hr rfl mF F.kp bF .nil pass0 (pa_cons (pv 1) pa_nil))) pa_nil)))) pss_nil)
      (pss_one (ps_ret (pv 0))), ?_⟩
    refine ⟨_, rfl, (by show 2 ≤ sizeLine; decide), fun t ht => ?_⟩
    have g1 : Same H (upd H t (.tup [.ty "list", .ty "tuple"])) := same_new ht _
    refine ⟨_, t, _, .type "list", [.type "list", .type "tuple"], true, rfl, upd_same, .cons (.ty _) (.cons (.ty _) .nil), tyL (g1.seq hS), is_seqL, _, rfl, ?_⟩
    refine iteT ?_
    refine ⟨_, rfl, a, rfl, ⟨_, g1.seq hS⟩, fun D hD => ?_⟩
    have hD0 : H D = none := g1.free hD
    refine lc_list (K := K) (a := a) (xs := is.map V.int) (InvI H D is) ⟨upd_same, same_over g1 hD0 _⟩ (fun i H' _ ⟨_, g⟩ => g.seq hS) (fun i x H' hx hi => ⟨rfl, kept (turn (te := fun _ _ _ => True) hD0 i x H' hx hi)⟩) ?_
    rintro H' ⟨hd, g⟩
    rw [List.length_map, List.take_length] at hd
    refine ⟨D, _, rfl, .inl ⟨SqL.of hd, fun l hl0 => ?_⟩⟩
    exact q l _ (g.trans (same_new hl0 _)) (g.free hl0) upd_same
  · refine ⟨_, pss_cons (ps_if (pt_val (pe_callB call_isiT (by rfl) B.isi (by decide +kernel) (pa_cons (pv 0) (pa_cons (pe_tup (pa_cons (pe_bltn (v := .ty "list") (by rfl) B.lst (by decide +kernel) rfl) (pa_cons (pe_bltn (v := .ty "tuple") (by rfl) B.tup (by decide +kernel) rfl) pa_nil))) pa_nil))))
        (pss_one (ps_ret (pe_callTy call_tuple_of (by rfl) B.tup (by decide +kernel) (pa_cons (pe_lc (own := [("part", 1)]) (g := gName 1) (tt := tYes) rfl scF.nd (pi_tup (pv 0)) (blkOk_by (N := ["worth", "part"]) (sc := defScope sFrozen) (by decide +kernel))
          (fun _ _ _ _ _ => pg_name (i := 1) scF.nd rfl (Or.inl rfl)) (fun _ _ _ _ _ => pts_nil) (fun _ _ _ _ _ => pe_call G hr rfl mF F.kp bF .nil pass0 (pa_cons (pv 1) pa_nil))) pa_nil)))) pss_nil)
      (pss_one (ps_ret (pv 0))), ?_⟩
    refine ⟨_, rfl, (by show 2 ≤ sizeLine; decide), fun t ht => ?_⟩
    have g1 : Same H (upd H t (.tup [.ty "list", .ty "tuple"])) := same_new ht _
    refine ⟨_, t, _, .type "tuple", [.type "list", .type "tuple"], true, rfl, upd_same, .cons (.ty _) (.cons (.ty _) .nil), tyT (seqT g1 hS), is_seq (by decide +kernel) (by decide +kernel), _, rfl, ?_⟩
    refine iteT ?_
    refine ⟨_, rfl, a, rfl, ⟨_, seqT g1 hS⟩, fun D hD => ?_⟩
    have hD0 : H D = none := g1.free hD
    refine lc_tup (K := K) (a := a) (xs := is.map V.int) (InvI H D is) ⟨upd_same, same_over g1 hD0 _⟩ (fun i H' _ ⟨_, g⟩ => seqT g hS) (fun i x H' hx hi => ⟨rfl, kept (turn (te := fun _ _ _ => True) hD0 i x H' hx hi)⟩) ?_
    rintro H' ⟨hd, g⟩
    rw [List.length_map, List.take_length] at hd
    refine ⟨D, _, rfl, .inl ⟨SqL.of hd, fun l hl0 => ?_⟩⟩
    exact q l _ (g.trans (same_new hl0 _)) (g.free hl0) upd_same
def spAxes (K : PySem.W.Frag) : Sp := fun vs H Q _ => ∃ (a : Addr) (is : List Int) (n : Nat), vs = [.ref a, .int n] ∧ SqT K H a (is.map V.int) ∧ is.length ≤ 1000 ∧ n ≤ 1000 ∧ ∀ H' : Hp, Same H H' → Q (.bl (axesOk is n)) H'
theorem scA : FnScope ["axes", "many", "axis"] ["axes", "many"] (defScope sAxes) := ⟨rfl, rfl, rfl, by decide +kernel, rfl, by decide +kernel, by decide +kernel⟩
theorem ok_axes {g : Addr} {gd : FuncData} (F : Fun K "are_axes" "are_axes" sAxes f fd) (G : FnOk P w K mg base CX0 1 g gd ["n"] spWhole) (bG : Binds K gd ["n"] []) (kG : PySem.W.keepIn K (.ref g) = true) (mG : mg "is_whole" = some (.ref g)) (B : Bt mg) :
    FnOk P w K mg base CX0 2 f fd ["axes", "many"] (spAxes K) := by
  refine F.ok scA (fun vs H Q E h => ?_) (fun cdv A outer s H vs Q E hr h => ?_)
  · obtain ⟨a, is, n, rfl, _⟩ := h
    rfl
  obtain ⟨a, is, n, rfl, hS, hl, hn, q⟩ := h
  refine ⟨_, pss_cons (ps_if (PW.pt (pw_or (pt_not (pt_val (pe_callB call_isi (by rfl) B.isi (by decide +kernel) (pa_cons (pv 0) (pa_cons (pe_bltn (v := .ty "tuple") (by rfl) B.tup (by decide +kernel) rfl) pa_nil)))))
        (pw_or1 (pt_cmpR op_ne (pe_callB call_len_seq (by rfl) B.len PySem.boot_len (pa_cons (pv 0) pa_nil)) (pv 1) (nomark _))))) (pss_one (ps_ret pe_bl)) pss_nil)
    (pss_cons (ps_if (pt_not (pt_val (pe_callB (cr_all rfl) (by rfl) B.all (by decide +kernel) (pa_cons (pe_lc (own := [("axis", 2)]) (g := gName 2) (tt := tYes) rfl scA.nd (pi_tup (pv 0)) (blkOk_by (N := ["axes", "many", "axis"]) (sc := defScope sAxes) (by decide +kernel))
        (fun _ _ _ _ _ => pg_name (i := 2) scA.nd rfl (Or.inl rfl)) (fun _ _ _ _ _ => pts_nil) (fun _ _ _ _ _ => pe_call G hr rfl mG kG bG .nil pass0 (pa_cons (pv 2) pa_nil))) pa_nil)))) (pss_one (ps_ret pe_bl)) pss_nil)
    (pss_one (ps_ret (pe_callB (cr_all rfl) (by rfl) B.all (by decide +kernel) (pa_cons (pe_lc (own := [("axis", 2)]) (g := gName 2) (tt := tYes) rfl scA.nd (pi_range1 (by rfl) B.range (pa_cons (pv 1) pa_nil)) (blkOk_by (N := ["axes", "many", "axis"]) (sc := defScope sAxes) (by decide +kernel))
        (fun _ _ _ _ _ => pg_name (i := 2) scA.nd rfl (Or.inl rfl)) (fun _ _ _ _ _ => pts_nil) (fun _ _ _ _ _ => pe_cmpR (r := rIn K false) op_in_seq (pv 2) (pv 0) (by rfl))) pa_nil))))), ?_⟩
  refine ⟨_, rfl, _, _, .type "tuple", .type "tuple", true, rfl, .ty _, tyT hS, kit_ty (by decide +kernel), _, rfl, ?_⟩
  refine iteF ?_
  refine ⟨_, rfl, a, _, rfl, .inr hS, _, rfl, rfl, _, rfl, ?_⟩
  refine ite2 (fun c => ?_) (fun c => ?_)
  · have e : axesOk is n = false := by
      rw [List.length_map] at c
      have c2 : ¬ is.length = n := fun e => by
        rw [e, decide_eq_true rfl] at c
        cases c
      unfold axesOk
      rw [decide_eq_false c2]
      rfl
    have z := q H (Same.refl H)
    rw [e] at z
    exact z
  · have e : is.length = n := by
      rw [List.length_map] at c
      by_cases z : is.length = n
      · exact z
      · exact absurd (by rw [decide_eq_false (fun y => z (by cases y; rfl))]; rfl) c
    refine ⟨_, rfl, a, rfl, ⟨_, hS⟩, fun D hD => ?_⟩
    refine lc_tup (K := K) (a := a) (xs := is.map V.int) (InvB H D fun _ => true) ⟨upd_same, same_new hD _⟩ (fun i H' _ ⟨_, g⟩ => seqT g hS) (fun i x H' hx hi => ⟨rfl, kept ?_⟩) ?_
    · obtain ⟨m, rfl, _⟩ := take_map_succ hx
      have hi2 : i < is.length := by
        have z := (List.getElem?_eq_some_iff.mp hx).1
        rwa [List.length_map] at z
      exact ⟨_, rfl, m, rfl, _, hi.1, len_b (by omega), hi.next hD⟩
    rintro H' ⟨hd, g⟩
    refine ⟨D, _, rfl, SqL.of hd, _, rfl, ?_⟩
    have ea : (((List.range (is.map V.int).length).map fun _ => true)).all id = true := by simp
    rw [ea]
    refine iteF ?_
    refine ⟨_, rfl, n, rfl, by omega, by omega, fun D2 hD2 => ?_⟩
    have hD20 : H D2 = none := g.free hD2
    refine lc_range (lo := 0) (n := n) (InvB H D2 fun j => decide ((j : Int) ∈ is)) ⟨upd_same, same_over g hD20 _⟩ (fun i H2 hi hv => ⟨rfl, kept ?_⟩) ?_
    · refine ⟨_, rfl, _, rfl, a, _, rfl, .inr (seqT hv.2 hS), rfl, flat_ints is, _, hv.1, len_b (by omega), ?_⟩
      have z := hv.next hD20
      rw [show inV (.int (0 + (i : Int))) (is.map V.int) = decide ((i : Int) ∈ is) by rw [Int.zero_add, inV_int]]
      exact z
    rintro H2 ⟨hd2, g2⟩
    refine ⟨D2, _, rfl, SqL.of hd2, ?_⟩
    have ez : axesOk is n = ((List.range n).map fun j : Nat => decide ((j : Int) ∈ is)).all id := by
      unfold axesOk
      rw [decide_eq_true e, Bool.true_and, List.all_map] <;> rfl
    rw [← ez]
    exact q _ g2
end
end Lw
namespace Lw
open PySem L2
abbrev sInit : Stmt := inClass (topS 13) 1
abbrev sText : Stmt := inClass (topS 13) 2
abbrev sRead : Stmt := inClass (topS 13) 3
def KINDS : List Str := ["dense", "packed", "bits", "hashed"]
def AWORDS : List Str := ["0", "1", "2"]
def valid (ks : List Str) (is : List Int) : Bool := decide (ks.length ≤ 3) && (ks.all (fun k => decide (k ∈ KINDS)) && axesOk is ks.length)
def iota (n : Nat) : List Int := (List.range n).map fun i : Nat => (i : Int)
theorem rg_iota (n : Nat) : rgV 0 (n : Int) = (iota n).map V.int := by
  unfold rgV iota
  rw [List.map_map, show ((n : Int) - 0).toNat = n by omega]
  refine List.map_congr_left fun i _ => ?_
  show V.int (0 + (i : Int)) = V.int (i : Int)
  rw [Int.zero_add]
theorem iota_len (n : Nat) : (iota n).length = n := by unfold iota; rw [List.length_map, List.length_range]
/-- the chain of a class over ValueError, behind its own ones -/
abbrev veB : List Value := [.type "ValueError", .type "Exception", .type "BaseException", .type "object"]
structure Fm (K : PySem.W.Frag) (mg : Str → Option Value) (C fI BF AW KD : Addr) (MC : Value) : Prop where
  cl : Cls K C
  nK : NoAttr K C "kinds"
  nA : NoAttr K C "axes"
  mkC : Mk K C fI
  mC : mg "Form" = some (.ref C)
  mB : mg "BadForm" = some (.ref BF)
  xB : PySem.W.excIn K BF veB "ValueError.__new__" = true
  kB : PySem.W.keepIn K (.ref BF) = true
  rB : PySem.W.subIn K (.ref BF) (.type "BaseException") = some true
  tB : PySem.W.typeIn K (.ref BF) = some (.type "type")
  most : ∃ t, mg "MOST_LEVELS" = some (.int 3 t)
  cr : ClX.CRead K C MC
  kd : ClX.CVal K C MC "KINDS" (.ref KD) (.ref KD)
  kdT : ∀ H : Hp, SqT K H KD (KINDS.map V.str)
  mAW : mg "AXIS_WORDS" = some (.ref AW)
  awT : ∀ H : Hp, SqT K H AW (AWORDS.map V.str)
theorem ka_ : ¬ (("kinds" : Str) = "axes") := by decide +kernel
theorem ak_ : ¬ (("axes" : Str) = "kinds") := by decide +kernel
def flds (tk ta : Addr) : List (Str × V) := putF "axes" (.ref ta) (putF "kinds" (.ref tk) [])
theorem flds_k (tk ta : Addr) : (flds tk ta).lookup ("kinds" : Str) = some (.ref tk) := by
  unfold flds
  rw [lookup_putF, if_neg ka_, lookup_putF, if_pos rfl]
theorem flds_a (tk ta : Addr) : (flds tk ta).lookup ("axes" : Str) = some (.ref ta) := by
  unfold flds
  rw [lookup_putF, if_pos rfl]
theorem fld1_k (tk : Addr) : (putF "kinds" (V.ref tk) []).lookup ("kinds" : Str) = some (.ref tk) := by
  rw [lookup_putF, if_pos rfl]
/-- what a comprehension without a test has made so far -/
def InvM {α : Type} (H0 : Hp) (D : Addr) (f : α → V) (l : List α) (i : Nat) (H : Hp) : Prop := H D = some (.lst ((l.take i).map f)) ∧ Same H0 H
theorem InvM.next {α : Type} {H0 H : Hp} {D : Addr} {f : α → V} {l : List α} {i : Nat} {a : α} (hd0 : H0 D = none) (hH : Same H0 H) (e : l[i]? = some a) (acc : List V) (ea : acc = (l.take i).map f) : InvM H0 D f l (i + 1) (upd H D (.lst (acc ++ [f a]))) :=
  ⟨by rw [upd_same, ea, List.take_succ, e, List.map_append] <;> rfl, same_over hH hd0 _⟩
theorem at_map {α : Type} {g : α → V} {l : List α} {i : Nat} {x : V} (h : (l.map g)[i]? = some x) : ∃ a, l[i]? = some a ∧ x = g a := by
  rw [List.getElem?_map] at h
  cases e : l[i]? with
  | none => rw [e] at h; cases h
  | some a =>
    rw [e] at h
    exact ⟨a, rfl, (Option.some.inj h).symm⟩
theorem len_m {α : Type} {f : α → V} {l : List α} {i : Nat} (h : l.length ≤ 1000) : ((l.take i).map f).length < sizeLine := by
  rw [List.length_map, List.length_take]
  exact small1000 (by omega)
def Kp (p : Addr) (H H' : Hp) : Prop := ∀ b o, b ≠ p → H b = some o → H' b = some o
theorem Kp.same {p : Addr} {H H1 H2 : Hp} (k : Kp p H H1) (g : Same H1 H2) : Kp p H H2 := fun b o n e => g _ _ (k b o n e)
theorem Kp.seq {K : PySem.W.Frag} {p a : Addr} {H H' : Hp} {xs : List V} {C dx : Addr} {fs : List (Str × V)} (k : Kp p H H') (hp : H p = some (.ins C dx fs)) (h : SqT K H a xs) : SqT K H' a xs := by
  rcases h with (h | ⟨o, h⟩) | h
  · exact .inl (.inl (k _ _ (fun e => by rw [e, hp] at h; cases h) h))
  · exact .inl (.inr ⟨o, k _ _ (fun e => by rw [e, hp] at h; cases h) h⟩)
  · exact .inr h
theorem Kp.seqL {K : PySem.W.Frag} {p a : Addr} {H H' : Hp} {xs : List V} {C dx : Addr} {fs : List (Str × V)} (k : Kp p H H') (hp : H p = some (.ins C dx fs)) (h : SqL K H a xs) : SqL K H' a xs := by
  rcases h with (h | ⟨o, h⟩) | h
  · exact .inl (.inl (k _ _ (fun e => by rw [e, hp] at h; cases h) h))
  · exact .inl (.inr ⟨o, k _ _ (fun e => by rw [e, hp] at h; cases h) h⟩)
  · exact .inr h
/-- the promise of Form.__init__ -/
def spInit (K : PySem.W.Frag) (C BF : Addr) : SpF := fun x vs kv H Q E => ∃ (p dx : Addr) (ks : List Str) (is : List Int), x = .ref p ∧ vs = ks.map V.str ∧ H p = some (.ins C dx []) ∧ ks.length ≤ 1000 ∧ is.length ≤ 1000 ∧
  ((kv = .non ∧ is = iota ks.length) ∨ ∃ a, kv = .ref a ∧ (SqL K H a (is.map V.int) ∨ SqT K H a (is.map V.int))) ∧
  (∀ (H' : Hp) (tk ta : Addr), valid ks is = true → Kp p H H' → H' p = some (.ins C dx (flds tk ta)) → SqT K H' tk (ks.map V.str) → SqT K H' ta (is.map V.int) → Q .non H') ∧
  (∀ H' : Hp, valid ks is = false → Kp p H H' → E (.ref BF) none H')
section
variable {P : Program} {w : World} {K : PySem.W.Frag} {mg : Str → Option Value} {base : Heap} {C fI BF AW KD gF gA : Addr} {MC : Value} {dF dA : FuncData}
theorem pe_kinds {X : Cx} {p pos : PySem.Pos} (hg : Gl X "Form") (hm : X.mg "Form" = some (.ref C)) : PE X (.Attribute (.Name "Form" p) "KINDS" pos) (ClX.tCVal X.K (tC (.ref C)) "KINDS") := ClX.pe_cval (pe_glob hg hm rfl)
abbrev namesI : List Str := ["self", "axes", "kinds", "kind"]
theorem scI : FnScope namesI ["self", "axes", "kinds"] (defScope sInit) := ⟨rfl, rfl, rfl, by decide +kernel, rfl, by decide +kernel, by decide +kernel⟩
theorem ok_init {oc cdv ct dc pm du : Value} {od an : Option Addr} {osl : Array (Option Value)} {D : Addr} (lk : K.lookup fI = some ⟨oc, od, .func (PySem.W.fnOf "__init__" "Form.__init__" (defArgs sInit) (defBody sInit) (defScope sInit) .none (.ref D) dc pm an cdv ct), osl⟩) (hcd : PySem.W.codeIn K cdv "Form.__init__" = true)
    (hD : PySem.W.nsIn K D "axes" = some (some .none)) (T : Fm K mg C fI BF AW KD MC) (B : Bt mg)
    (GF : FnOk P w K mg base CX0 2 gF dF ["worth"] (spFrz K)) (bF : Binds K dF ["worth"] []) (kF : PySem.W.keepIn K (.ref gF) = true) (mF : mg "frozen" = some (.ref gF))
    (GA : FnOk P w K mg base CX0 2 gA dA ["axes", "many"] (spAxes K)) (bA : Binds K dA ["axes", "many"] []) (kA : PySem.W.keepIn K (.ref gA) = true) (mA : mg "are_axes" = some (.ref gA)) :
    FnF P w K mg base (L2.CX P w) 3 fI "axes" .non (spInit K C BF) := by
  obtain ⟨tm, hmost⟩ := T.most
  refine fn_F (N := namesI) (p1 := "self") (kn := "axes") (pv := "kinds") lk hcd scI StX.cxUp hD rfl (fun x u us => ?_) (fun x us => ?_) (fun A outer s H x vs kv tk H0 Q E hr htk eH h => ?_)
  · cases us <;> rfl
  · cases us <;> exact ⟨_, _, _, _, _, _, rfl, rfl, rfl⟩
  obtain ⟨p, dx, ks, is, rfl, rfl, hp, hk, hi, hkv, q, qe⟩ := h
  subst eH
  refine ⟨_, C8.pss_cut (ps_if (pt_cmpR op_isN (pv 1) pe_non (nomark _)) (pss_one (ps_set (i := 1) scI.nd rfl (Or.inl rfl) (pe_listRg rfl (by rfl) B.lst (prg_1 (by rfl) B.range (pe_callB call_len_seq (by rfl) B.len PySem.boot_len (pa_cons (pv 2) pa_nil)))))) pss_nil)
    (pss_cons (ps_fld (pv 0) (pe_callTy call_tuple_of (by rfl) B.tup (by decide +kernel) (pa_cons (pv 2) pa_nil)) rfl)
    (pss_cons (ps_fld (pv 0) (pe_call GF hr rfl mF kF bF .nil pass0 (pa_cons (pv 1) pa_nil)) rfl)
    (pss_cons (ps_if (pt_cmpR op_gt (pe_callB call_len_seq (by rfl) B.len PySem.boot_len (pa_cons (pe_fld (pv 0) rfl) pa_nil)) (pe_glob (v := .int 3) (by rfl) hmost ⟨_, rfl⟩) (nomark _))
      (pss_one (ps_raise rfl (takes_of rfl rfl rfl rfl) (pmk_own0 PySem.F.excBase_ValueError T.xB T.mB T.kB (raises_own T.rB T.tB) (by rfl)))) pss_nil)
    (pss_cons (ps_if (pt_not (pt_val (pe_callB (cr_all rfl) (by rfl) B.all (by decide +kernel) (pa_cons (pe_lc (own := [("kind", 3)]) (g := gName 3) (tt := tYes) rfl scI.nd (pi_tup (pe_fld (pv 0) rfl)) (blkOk_by (N := namesI) (sc := defScope sInit) (by decide +kernel))
        (fun _ _ _ _ _ => pg_name (i := 3) scI.nd rfl (Or.inl rfl)) (fun _ _ _ _ _ => pts_nil) (fun _ _ _ _ _ => pe_cmpR (r := rIn K false) (tb := ClX.tCVal K (tC (.ref C)) "KINDS") op_in_seq (pv 3) (pe_kinds (by rfl) T.mC) (by rfl))) pa_nil))))
      (pss_one (ps_raise rfl (takes_of rfl rfl rfl rfl) (pmk_own0 PySem.F.excBase_ValueError T.xB T.mB T.kB (raises_own T.rB T.tB) (by rfl)))) pss_nil)
    (pss_one (ps_if (pt_not (pt_val (pe_call GA hr rfl mA kA bA .nil pass0 (pa_cons (pe_fld (pv 0) rfl) (pa_cons (pe_callB call_len_seq (by rfl) B.len PySem.boot_len (pa_cons (pe_fld (pv 0) rfl) pa_nil)) pa_nil)))))
      (pss_one (ps_raise rfl (takes_of rfl rfl rfl rfl) (pmk_own0 PySem.F.excBase_ValueError T.xB T.mB T.kB (raises_own T.rB T.tB) (by rfl)))) pss_nil)))))), ?_⟩
  have h0 : (upd H0 tk (.tup (ks.map V.str))) p = some (.ins C dx []) := by rw [upd_ne (ne_of_none hp htk)]; exact hp
  have ht : SqT K (upd H0 tk (.tup (ks.map V.str))) tk (ks.map V.str) := SqT.of upd_same
  have g0 : Same H0 (upd H0 tk (.tup (ks.map V.str))) := same_new htk _
  revert h0 ht g0
  generalize upd H0 tk (.tup (ks.map V.str)) = H1
  intro h0 ht g0
  refine ⟨fun σ' H' => ∃ a, σ' = [some (.ref p), some (.ref a), some (.ref tk), none] ∧ (SqL K H' a (is.map V.int) ∨ SqT K H' a (is.map V.int)) ∧ Same H1 H', ?_, ?_⟩
  · rcases hkv with ⟨rfl, rfl⟩ | ⟨a, rfl, hS⟩
    · refine ⟨_, rfl, rfl, _, rfl, iteC (decide_eq_true rfl) ?_⟩
      refine ⟨_, rfl, tk, _, rfl, .inr ht, _, rfl, RgOk.of_le (by decide) (by rw [List.length_map]; omega) (by decide) (by omega), fun q' hq' => ?_⟩
      refine ⟨q', rfl, .inl (SqL.of ?_), same_new hq' _⟩
      rw [upd_same, List.length_map, rg_iota]
    · refine ⟨_, rfl, rfl, _, rfl, iteN (decide_eq_false (by intro z; cases z)) ?_⟩
      exact ⟨a, rfl, hS.imp (fun z => g0.seq z) (fun z => seqT g0 z), Same.refl _⟩
  · rintro σ' H' ⟨a, rfl, hS, g1⟩
    have kp0 : Kp p H0 H' := fun b o _ e => g1 _ _ (g0 _ _ e)
    have hp1 := g1 _ _ h0
    have ht1 := seqT g1 ht
    refine ⟨_, rfl, tk, _, rfl, .inr ⟨ht1, _, rfl, p, C, dx, _, rfl, hp1, T.cl, T.nK, (by show 0 < 1000; decide), ?_⟩⟩
    have k1 : Kp p H' (upd H' p (.ins C dx (putF "kinds" (.ref tk) []))) := fun b o n e => by rw [upd_ne n]; exact e
    have hS1 := hS.imp (fun z => k1.seqL hp1 z) (fun z => k1.seq hp1 z)
    have ht2 := k1.seq hp1 ht1
    refine ⟨_, rfl, a, is, rfl, hS1, hi, fun ta H3 g3 n3 h3 => ?_⟩
    have hp3 := g3 _ _ (upd_same (H := H') (a := p) (o := .ins C dx (putF "kinds" (.ref tk) [])))
    have ht3 := seqT g3 ht2
    refine ⟨_, rfl, p, C, dx, _, rfl, hp3, T.cl, T.nA, (by show 1 < 1000; decide), ?_⟩
    have k3 : Kp p H3 (upd H3 p (.ins C dx (flds tk ta))) := fun b o n e => by rw [upd_ne n]; exact e
    have ht4 := k3.seq hp3 ht3
    have ha4 := k3.seq (K := K) hp3 (SqT.of h3)
    have hp4 : upd H3 p (.ins C dx (flds tk ta)) p = some (.ins C dx (flds tk ta)) := upd_same
    have kp4 : Kp p H0 (upd H3 p (.ins C dx (flds tk ta))) := fun b o n e => k3 b o n (g3 _ _ (k1 b o n (kp0 b o n e)))
    revert ht4 ha4 hp4 kp4
    show SqT K (upd H3 p (.ins C dx (flds tk ta))) tk (ks.map V.str) → SqT K (upd H3 p (.ins C dx (flds tk ta))) ta (is.map V.int) → upd H3 p (.ins C dx (flds tk ta)) p = some (.ins C dx (flds tk ta)) → Kp p H0 (upd H3 p (.ins C dx (flds tk ta))) → _
    intro ht4 ha4 hp4 kp4
    refine ⟨_, rfl, p, C, dx, _, _, rfl, hp4, T.cl, T.nK, flds_k _ _, tk, _, rfl, .inr ht4, _, _, rfl, rfl, _, rfl, ?_⟩
    refine ite2 (fun c => ?_) (fun c => ?_)
    · refine qe _ ?_ kp4
      have c2 : (3 : Int) < (((ks.map V.str).length : Nat) : Int) := of_decide_eq_true c
      rw [List.length_map] at c2
      unfold valid
      rw [decide_eq_false (by omega), Bool.false_and]
    have c2 : ¬ (3 : Int) < (((ks.map V.str).length : Nat) : Int) := of_decide_eq_false (Bool.eq_false_iff.mpr c)
    rw [List.length_map] at c2
    have e3 : decide (ks.length ≤ 3) = true := decide_eq_true (by omega)
    refine ⟨_, rfl, p, C, dx, _, _, rfl, hp4, T.cl, T.nK, flds_k _ _, tk, rfl, ⟨_, ht4⟩, fun D hD => ?_⟩
    refine lc_tup (K := K) (a := tk) (xs := ks.map V.str) (InvM _ D (fun k : Str => V.bl (decide (k ∈ KINDS))) ks) ⟨upd_same, same_new hD _⟩ (fun i H5 _ ⟨_, g⟩ => seqT g ht4) (fun i x H5 hx hv => ?_) ?_
    · obtain ⟨k, ek, rfl⟩ := at_map hx
      refine ⟨rfl, kept ?_⟩
      refine ⟨_, rfl, C, MC, _, _, rfl, T.cr, T.kd, KD, _, rfl, .inr (T.kdT _), rfl, flat_strs _, _, hv.1, len_m (by omega), ?_⟩
      have z := InvM.next (f := fun k : Str => V.bl (decide (k ∈ KINDS))) hD hv.2 ek _ rfl
      rw [show inV (.str k) (KINDS.map V.str) = decide (k ∈ KINDS) from inV_str k KINDS]
      exact z
    rintro H5 ⟨hd5, g5⟩
    rw [List.length_map, List.take_length] at hd5
    have kp5 := kp4.same g5
    have hp5 := g5 _ _ hp4
    refine ⟨D, ks.map (fun k : Str => decide (k ∈ KINDS)), rfl, SqL.of (by rw [hd5, List.map_map] <;> rfl), _, rfl, ?_⟩
    have eall : (ks.map (fun k : Str => decide (k ∈ KINDS))).all id = ks.all fun k => decide (k ∈ KINDS) := by rw [List.all_map] <;> rfl
    rw [eall]
    refine ite2 (fun c5 => ?_) (fun c5 => ?_)
    · refine qe _ ?_ kp5
      unfold valid
      rw [show (ks.all fun k => decide (k ∈ KINDS)) = false by simpa using c5, Bool.false_and, Bool.and_false]
    have e5 : (ks.all fun k => decide (k ∈ KINDS)) = true := by
      cases z : (ks.all fun k => decide (k ∈ KINDS)) with
      | true => rfl
      | false => exact absurd (by rw [z]; rfl) c5
    refine ⟨_, rfl, p, C, dx, _, _, rfl, hp5, T.cl, T.nA, flds_a _ _, _, rfl, p, C, dx, _, _, rfl, hp5, T.cl, T.nK, flds_k _ _, tk, _, rfl, .inr (seqT g5 ht4), ta, is, (ks.map V.str).length, rfl, seqT g5 ha4, hi, by rw [List.length_map]; exact hk, fun H6 g6 => ⟨_, rfl, ?_⟩⟩
    have kp6 := kp5.same g6
    have hp6 := g6 _ _ hp5
    rw [List.length_map]
    refine ite2 (fun c6 => ?_) (fun c6 => ?_)
    · refine qe _ ?_ kp6
      unfold valid
      rw [show axesOk is ks.length = false by simpa using c6, Bool.and_false, Bool.and_false]
    have e6 : axesOk is ks.length = true := by
      cases z : axesOk is ks.length with
      | true => rfl
      | false => exact absurd (by rw [z]; rfl) c6
    exact q _ tk ta (by unfold valid; rw [e3, e5, e6]; rfl) kp6 hp6 (seqT g6 (seqT g5 ht4)) (seqT g6 (seqT g5 ha4))
end
end Lw
namespace Lw
open PySem L2 TL
/-! cutting a text at a separator, and joining the parts -/
theorem spl_lens (S : List Nat) : ∀ (l : List Nat) (k : Nat) (acc : List Nat), (∀ p ∈ spl S k acc l, p.length ≤ acc.length + l.length) ∧ (spl S k acc l).length ≤ l.length + 1
  | [], k, acc => by
    rw [spl_nil]
    exact ⟨fun p hp => by rw [List.mem_singleton.mp hp]; exact Nat.le_add_right _ _, Nat.le_refl _⟩
  | c :: r, 0, acc => by
    cases h : pre S (c :: r) with
    | true =>
      rw [spl_hit h]
      obtain ⟨i1, i2⟩ := spl_lens S r (S.length - 1) []
      refine ⟨fun p hp => ?_, by rw [List.length_cons, List.length_cons]; omega⟩
      rcases List.mem_cons.mp hp with e | hp
      · rw [e]; exact Nat.le_add_right _ _
      · have z := i1 p hp
        rw [List.length_nil] at z
        rw [List.length_cons]
        omega
    | false =>
      rw [spl_miss h]
      obtain ⟨i1, i2⟩ := spl_lens S r 0 (acc ++ [c])
      refine ⟨fun p hp => ?_, by rw [List.length_cons]; omega⟩
      have z := i1 p hp
      rw [List.length_append, List.length_singleton] at z
      rw [List.length_cons]
      omega
  | c :: r, k + 1, acc => by
    obtain ⟨i1, i2⟩ := spl_lens S r k acc
    refine ⟨fun p hp => ?_, by rw [List.length_cons]; show (spl S k acc r).length ≤ _; omega⟩
    have z := i1 p hp
    rw [List.length_cons]
    omega
theorem spl_ne (S : List Nat) : ∀ (l : List Nat) (k : Nat) (acc : List Nat), spl S k acc l ≠ []
  | [], k, acc => by rw [spl_nil]; simp
  | c :: r, 0, acc => by
    cases h : pre S (c :: r) with
    | true => rw [spl_hit h]; simp
    | false => rw [spl_miss h]; exact spl_ne S r 0 _
  | c :: r, k + 1, acc => spl_ne S r k acc
theorem joinL_cons {S p : List Nat} : ∀ {l : List (List Nat)}, l ≠ [] → joinL S (p :: l) = p ++ (S ++ joinL S l)
  | [], h => absurd rfl h
  | q :: r, _ => rfl
theorem spl_back {S : List Nat} (hS : S ≠ []) : ∀ (n : Nat) (l : List Nat), l.length ≤ n → ∀ acc, joinL S (spl S 0 acc l) = acc ++ l
  | _, [], _, acc => by
    rw [spl_nil, List.append_nil] <;> rfl
  | 0, c :: r, h, acc => by simp at h
  | n + 1, c :: r, h, acc => by
    rw [List.length_cons] at h
    cases hp : pre S (c :: r) with
    | true =>
      rw [spl_hit hp, joinL_cons (spl_ne S r _ _), spl_pass, spl_back hS n _ (by rw [List.length_drop]; omega) [], List.nil_append]
      have e1 : (c :: r).take S.length = S := by
        unfold pre at hp
        exact eq_of_beq hp
      have e2 : (c :: r).drop S.length = r.drop (S.length - 1) := by
        cases S with
        | nil => exact absurd rfl hS
        | cons a S' => rfl
      rw [← e2]
      have e3 := List.take_append_drop S.length (c :: r)
      rw [e1] at e3
      rw [e3]
    | false =>
      rw [spl_miss hp, spl_back hS n r (by omega), List.append_assoc] <;> rfl
theorem split_back (z y : Str) (hy : tl y ≠ []) (hk : y.cps.all (· < 256) = true) : Txt.join y (Txt.split z y) = z := by
  refine ext_tl ?_
  rw [join_eq, tl_join, split_spl z y hy (kind_ok hk), spl_back hy _ _ (Nat.le_refl _), List.nil_append]
theorem split_lens (z y : Str) (hy : tl y ≠ []) (hk : y.cps.all (· < 256) = true) : (∀ p ∈ Txt.split z y, p.length ≤ z.length) ∧ (Txt.split z y).length ≤ z.length + 1 := by
  have e := split_spl z y hy (kind_ok hk)
  obtain ⟨i1, i2⟩ := spl_lens (tl y) (tl z) 0 []
  rw [← e] at i1 i2
  refine ⟨fun p hp => ?_, ?_⟩
  · have q := i1 (tl p) (List.mem_map_of_mem hp)
    rw [List.length_nil, Nat.zero_add] at q
    rw [len_tl, len_tl]
    exact q
  · rw [List.length_map] at i2
    rw [len_tl]
    exact i2
/-! forms as texts -/
def aval (a : Str) : Int := if a = "0" then 0 else if a = "1" then 1 else 2
/-- one level of a text -/
def lvl (p : Str) : Option (Str × Int) := match Txt.split p " " with
  | [k, a] => if a ∈ AWORDS then some (k, aval a) else none
  | _ => none
def lks (ps : List Str) : List Str := (ps.filterMap lvl).map (·.1)
def lis (ps : List Str) : List Int := (ps.filterMap lvl).map (·.2)
/-- what Form.read makes of a text -/
def rd (z : Str) : Option (List Str × List Int) :=
  if z = "-" then some ([], []) else if ((Txt.split z ", ").all fun p => (lvl p).isSome) = true ∧ valid (lks (Txt.split z ", ")) (lis (Txt.split z ", ")) = true then some (lks (Txt.split z ", "), lis (Txt.split z ", ")) else none
def itm (k : Str) (i : Int) : Str := Str.empty ++ k ++ " " ++ ((toString i : String) : Str)
def ftext (ks : List Str) (is : List Int) : Str := if ks.length = 0 then "-" else Txt.join ", " ((ks.zip is).map fun p => itm p.1 p.2)
theorem small_itm : ∀ k ∈ KINDS, ∀ i ∈ ([0, 1, 2] : List Int), (Str.empty ++ k).length ≤ 20 ∧ (Str.empty ++ k ++ " ").length ≤ 20 ∧ (itm k i).length ≤ 20 ∧ k.length ≤ 20 ∧ i.natAbs.log2 < 1920 := by decide +kernel
theorem axes_small {is : List Int} {n : Nat} (h : axesOk is n = true) (hn : n ≤ 3) : is.length = n ∧ ∀ i ∈ is, i ∈ ([0, 1, 2] : List Int) := by
  unfold axesOk at h
  rw [Bool.and_eq_true] at h
  obtain ⟨h1, h2⟩ := h
  have e1 : is.length = n := of_decide_eq_true h1
  refine ⟨e1, ?_⟩
  rw [List.all_eq_true] at h2
  have m : ∀ j, j < n → ((j : Nat) : Int) ∈ is := fun j hj => of_decide_eq_true (h2 j (List.mem_range.mpr hj))
  match n, is, e1, hn, m with
  | 0, [], _, _, _ => intro i hi; cases hi
  | 1, [a], _, _, m =>
    have m0 := m 0 (by omega)
    simp at m0
    intro i hi
    simp at hi
    simp [hi, ← m0]
  | 2, [a, b], _, _, m =>
    have m0 := m 0 (by omega)
    have m1 := m 1 (by omega)
    simp at m0 m1
    intro i hi
    simp at hi ⊢
    omega
  | 3, [a, b, c], _, _, m =>
    have m0 := m 0 (by omega)
    have m1 := m 1 (by omega)
    have m2 := m 2 (by omega)
    simp at m0 m1 m2
    intro i hi
    simp at hi ⊢
    omega
  | n + 4, _, _, hn, _ => omega
theorem valid_parts {ks : List Str} {is : List Int} (h : valid ks is = true) : ks.length ≤ 3 ∧ (∀ k ∈ ks, k ∈ KINDS) ∧ is.length = ks.length ∧ ∀ i ∈ is, i ∈ ([0, 1, 2] : List Int) := by
  unfold valid at h
  rw [Bool.and_eq_true, Bool.and_eq_true] at h
  obtain ⟨h1, h2, h3⟩ := h
  have e1 : ks.length ≤ 3 := of_decide_eq_true h1
  rw [List.all_eq_true] at h2
  obtain ⟨h4, h5⟩ := axes_small h3 e1
  exact ⟨e1, fun k hk => of_decide_eq_true (h2 k hk), h4, h5⟩
theorem sum_le : ∀ {ys : List Str}, (∀ y ∈ ys, y.length ≤ 20) → (ys.map (·.length)).sum ≤ 20 * ys.length
  | [], _ => by simp
  | y :: r, h => by
    have q := sum_le (ys := r) fun y hy => h y (List.mem_cons_of_mem _ hy)
    have z := h y (List.mem_cons_self ..)
    rw [List.map_cons, List.sum_cons, List.length_cons]
    omega
end Lw
namespace Lw
open PySem L2
/-- a form stands at p -/
def FormAt (K : PySem.W.Frag) (C p : Addr) (ks : List Str) (is : List Int) (H : Hp) : Prop := ∃ dx tk ta : Addr, H p = some (.ins C dx (flds tk ta)) ∧ SqT K H tk (ks.map V.str) ∧ SqT K H ta (is.map V.int)
theorem FormAt.same {K : PySem.W.Frag} {C p : Addr} {ks : List Str} {is : List Int} {H H' : Hp} (g : Same H H') : FormAt K C p ks is H → FormAt K C p ks is H'
  | ⟨dx, tk, ta, h1, h2, h3⟩ => ⟨dx, tk, ta, g _ _ h1, seqT g h2, seqT g h3⟩
def spText (K : PySem.W.Frag) (C : Addr) : Sp := fun vs H Q _ => ∃ (p : Addr) (ks : List Str) (is : List Int), vs = [.ref p] ∧ FormAt K C p ks is H ∧ valid ks is = true ∧ ∀ H' : Hp, Same H H' → Q (.str (ftext ks is)) H'
def spRead (K : PySem.W.Frag) (C BF : Addr) : Sp := fun vs H Q E => ∃ z : Str, vs = [.ref C, .str z] ∧ z.length ≤ 900 ∧ (∀ (ks : List Str) (is : List Int), rd z = some (ks, is) → ∀ (p : Addr) (H' : Hp), Same H H' → FormAt K C p ks is H' → Q (.ref p) H') ∧ (rd z = none → ∀ H' : Hp, Same H H' → E (.ref BF) none H')
section
variable {P : Program} {w : World} {K : PySem.W.Frag} {mg : Str → Option Value} {base : Heap} {C fI BF AW KD f : Addr} {MC : Value} {fd : FuncData}
theorem scX : FnScope ["self", "kind", "axis"] ["self"] (defScope sText) := ⟨rfl, rfl, rfl, by decide +kernel, rfl, by decide +kernel, by decide +kernel⟩
theorem ok_text (F : Fun K "text" "Form.text" sText f fd) (T : Fm K mg C fI BF AW KD MC) (B : Bt mg) : FnOk P w K mg base CX0 1 f fd ["self"] (spText K C) := by
  refine F.ok scX (fun vs H Q E h => ?_) (fun cdv A outer s H vs Q E hr h => ?_)
  · obtain ⟨p, ks, is, rfl, _⟩ := h
    rfl
  obtain ⟨p, ks, is, rfl, ⟨dx, tk, ta, hp, ht, ha⟩, hv, q⟩ := h
  obtain ⟨v1, v2, v3, v4⟩ := valid_parts hv
  refine ⟨_, pss_cons (ps_if (pt_cmpR op_eq (pe_callB call_len_seq (by rfl) B.len PySem.boot_len (pa_cons (pe_fld (pv 0) rfl) pa_nil)) pe_int (nomark _)) (pss_one (ps_ret pe_str)) pss_nil)
    (pss_one (ps_ret (pe_join pe_str (pe_lc (own := [("kind", 1), ("axis", 2)]) (g := gTup K 2 (gCons (gName 1) (gCons (gName 2) gNil))) (tt := tYes) rfl scX.nd (RZ.pi_zipA (by rfl) B.zip (pa_cons (pe_fld (pv 0) rfl) (pa_cons (pe_fld (pv 0) rfl) pa_nil))) (blkOk_by (N := ["self", "kind", "axis"]) (sc := defScope sText) (by decide +kernel))
      (fun _ _ _ _ _ => pg_tup rfl (pgs_cons (pg_name (i := 1) scX.nd rfl (Or.inl rfl)) (pgs_cons (pg_name (i := 2) scX.nd rfl (Or.inl rfl)) pgs_nil))) (fun _ _ _ _ _ => pts_nil)
      (fun _ _ _ _ _ => pe_joined (.cons (pe_fmt (pv 1)) (.cons pe_str (.cons (pe_fmt (pv 2)) .nil)))))))), ?_⟩
  refine ⟨_, rfl, p, C, dx, _, _, rfl, hp, T.cl, T.nK, flds_k _ _, tk, _, rfl, .inr ht, rfl, _, rfl, ?_⟩
  refine ite2 (fun c => ?_) (fun c => ?_)
  · have e : ks.length = 0 := by
      have z := of_decide_eq_true c
      rw [List.length_map] at z
      simpa using z
    have z := q H (Same.refl H)
    unfold ftext at z
    rw [if_pos e] at z
    exact z
  · have e : ¬ ks.length = 0 := fun e => c (by rw [List.length_map, e]; rfl)
    refine ⟨⟨_, rfl⟩, _, rfl, p, C, dx, _, _, rfl, hp, T.cl, T.nK, flds_k _ _, _, rfl, p, C, dx, _, _, rfl, hp, T.cl, T.nA, flds_a _ _, tk, ta, _, _, rfl, .inr ⟨ht, ha, fun D hD => ?_⟩⟩
    have elen : (ks.map V.str).length = (is.map V.int).length := by rw [List.length_map, List.length_map, v3]
    refine lc_it (te := fun σ H Q => tJs [tFmt (tVar 1), tC (.str " "), tFmt (tVar 2)] Str.empty σ H fun out H1 => Q (.str out) H1) (walk_zipT (K := K) (a := tk) (b := ta) elen) (InvM H D (fun p : Str × Int => V.str (itm p.1 p.2)) (ks.zip is)) ⟨upd_same, same_new hD _⟩ (fun i H' _ ⟨_, g⟩ => ⟨seqT g ht, seqT g ha⟩) ?_ ?_
    · rintro i v H' H'' hi ⟨hd, g⟩ ⟨U, x, y, rfl, hU, rfl, ex, ey⟩
      obtain ⟨k, ek, rfl⟩ := at_map ex
      obtain ⟨j, ej, rfl⟩ := at_map ey
      obtain ⟨l1, l2, l3, l4, l5⟩ := small_itm k (v2 k (List.mem_of_getElem? ek)) j (v4 j (List.mem_of_getElem? ej))
      have gU : Same H' (upd H' U (.tup [.str k, .int j])) := same_new hU _
      have sz : ∀ {n : Nat}, n ≤ 20 → n ≤ sizeLine := fun h => Nat.le_of_lt (small1000 (by omega))
      refine ⟨U, [.str k, .int j], rfl, SqT.of upd_same, rfl, _, _, rfl, _, _, rfl, rfl, ?_⟩
      refine ⟨rfl, kept ?_⟩
      refine ⟨_, rfl, .inl ⟨k, rfl, sz l4, k, rfl, sz l1, " ", rfl, sz l2, _, rfl, .inr ⟨j, rfl, l5, _, rfl, sz l3, ?_⟩⟩⟩
      have ez : (ks.zip is)[i]? = some (k, j) := List.getElem?_zip_eq_some.mpr ⟨ek, ej⟩
      exact ⟨_, gU _ _ hd, len_m (by rw [List.length_zip]; omega), InvM.next (f := fun p : Str × Int => V.str (itm p.1 p.2)) hD (g.trans gU) ez _ rfl⟩
    · rintro H' ⟨hd, g⟩
      have el : ((ks.zip is).take (ks.map V.str).length) = ks.zip is := List.take_of_length_le (by rw [List.length_zip, List.length_map]; omega)
      rw [el] at hd
      refine ⟨_, D, (ks.zip is).map (fun p => itm p.1 p.2), rfl, rfl, .inl (SqL.of (by rw [hd, List.map_map] <;> rfl)), ?_, ?_⟩
      · have z := sum_le (ys := (ks.zip is).map (fun p => itm p.1 p.2)) fun y hy => by
          obtain ⟨⟨k, j⟩, hm, rfl⟩ := List.mem_map.mp hy
          obtain ⟨m1, m2⟩ := List.of_mem_zip hm
          exact (small_itm k (v2 k m1) j (v4 j m2)).2.2.1
        have z2 : ((ks.zip is).map (fun p => itm p.1 p.2)).length ≤ 3 := by rw [List.length_map, List.length_zip]; omega
        have z3 : ((ks.zip is).map (fun p => itm p.1 p.2)).length * Str.length ", " ≤ 3 * 2 := Nat.mul_le_mul z2 (by decide)
        omega
      · have z := q H' g
        unfold ftext at z
        rw [if_neg e] at z
        exact z
end
end Lw
namespace Lw
open PySem L2
theorem fnR_of {P : Program} {w : World} {K : PySem.W.Frag} {mg : Str → Option Value} {base : Heap} {CX : CXT} {k : Nat} {f : Addr} {fd : FuncData} {ps : List Str} {sp : Sp} (F : FnOk P w K mg base CX k f fd ps sp) (hb : Binds K fd ps []) : FnR P w K mg base CX k f sp := by
  intro A outer s H us vs Q E hr e0 r hsp
  have KX : K.In s.heap := e0.mod.kin.keeps fun b o e => (e0.bs b o e).1
  have hl : us.length = ps.length := by rw [← r.length]; exact F.len _ _ _ _ hsp
  have hb2 := hb s us KX (by rw [List.append_nil]; exact hl)
  rw [List.append_nil] at hb2
  exact F.run A outer s H ⟨us, []⟩ us vs Q E hr e0 hb2 r hsp
theorem lvl_two {p k a : Str} (h : Txt.split p " " = [k, a]) : lvl p = if a ∈ AWORDS then some (k, aval a) else none := by
  unfold lvl
  rw [h]
theorem lvl_not {p : Str} (h : (Txt.split p " ").length ≠ 2) : lvl p = none := by
  unfold lvl
  split
  · rename_i k a e
    rw [e] at h
    exact absurd rfl h
  · rfl
theorem int_word {a : Str} (h : a ∈ AWORDS) : PySem.intText? a = some (aval a) ∧ a.length ≤ 640 := by
  have z : ∀ a ∈ AWORDS, PySem.intText? a = some (aval a) ∧ a.length ≤ 640 := by decide +kernel
  exact z a h
theorem rd_none {z p : Str} (hz : z ≠ "-") (hp : p ∈ Txt.split z ", ") (h : lvl p = none) : rd z = none := by
  unfold rd
  rw [if_neg hz, if_neg]
  rintro ⟨h1, _⟩
  rw [List.all_eq_true] at h1
  have q := h1 p hp
  rw [h] at q
  cases q
section
variable {P : Program} {w : World} {K : PySem.W.Frag} {mg : Str → Option Value} {base : Heap} {C fI BF AW KD f : Addr} {MC : Value} {fd : FuncData}
abbrev namesR : List Str := ["cls", "text", "kinds", "axes", "level", "words"]
theorem scR : FnScope namesR ["cls", "text"] (defScope sRead) := ⟨rfl, rfl, rfl, by decide +kernel, rfl, by decide +kernel, by decide +kernel⟩
/-- between the turns -/
def InvR (K : PySem.W.Frag) (H0 : Hp) (C L k a : Addr) (z : Str) (i : Nat) (σ : St) (H : Hp) : Prop := ∃ u4 u5 : Option V, σ = [some (.ref C), some (.str z), some (.ref k), some (.ref a), u4, u5] ∧ Same H0 H ∧ H L = some (.lst ((Txt.split z ", ").map V.str)) ∧
  H k = some (.lst ((lks ((Txt.split z ", ").take i)).map V.str)) ∧ H a = some (.lst ((lis ((Txt.split z ", ").take i)).map V.int)) ∧ (∀ p ∈ (Txt.split z ", ").take i, (lvl p).isSome = true) ∧ (lks ((Txt.split z ", ").take i)).length ≤ i ∧ (lis ((Txt.split z ", ").take i)).length ≤ i
/-- Form(..): from the promise of its __init__ to the new form -/
theorem mk_form {H : Hp} {Q : VK} {E : XK} {ks : List Str} {is : List Int} {kv : V} (hk : ks.length ≤ 1000) (hi : is.length ≤ 1000) (hkv : (kv = .non ∧ is = iota ks.length) ∨ ∃ a, kv = .ref a ∧ (SqL K H a (is.map V.int) ∨ SqT K H a (is.map V.int)))
    (h1 : valid ks is = true → ∀ (p : Addr) (H' : Hp), Same H H' → FormAt K C p ks is H' → Q (.ref p) H') (h2 : valid ks is = false → ∀ H' : Hp, Same H H' → E (.ref BF) none H') : mkF C (spInit K C BF) E (ks.map V.str) kv H Q := by
  intro x dx nx ndx ne
  have g : Same H (upd (upd H dx (.own x)) x (.ins C dx [])) := fun b o e => by rw [upd_ne (ne_of_none e nx), upd_ne (ne_of_none e ndx)]; exact e
  have sm : ∀ {H' : Hp}, Kp x (upd (upd H dx (.own x)) x (.ins C dx [])) H' → Same H H' := fun kp b o e => kp b o (ne_of_none e nx) (g _ _ e)
  refine ⟨x, dx, ks, is, rfl, rfl, upd_same, hk, hi, ?_, fun H' tk ta hv kp hp ht ha => ⟨rfl, h1 hv x H' (sm kp) ⟨dx, tk, ta, hp, ht, ha⟩⟩, fun H' hv kp => h2 hv H' (sm kp)⟩
  rcases hkv with z | ⟨a, e, z⟩
  · exact .inl z
  · exact .inr ⟨a, e, z.imp (fun q => g.seq q) (fun q => seqT g q)⟩
theorem ok_read (F : Fun K "read" "Form.read" sRead f fd) (T : Fm K mg C fI BF AW KD MC) (B : Bt mg) (FI : FnF P w K mg base (L2.CX P w) 3 fI "axes" .non (spInit K C BF)) : FnOk P w K mg base (L2.CX P w) 5 f fd ["cls", "text"] (spRead K C BF) := by
  refine F.okX scR (fun vs H Q E h => ?_) (fun cdv A outer s H vs Q E hr h => ?_)
  · obtain ⟨z, rfl, _⟩ := h
    rfl
  obtain ⟨z, rfl, hz, q, qe⟩ := h
  obtain ⟨pl, pn⟩ := split_lens z ", " (by decide +kernel) (by decide +kernel)
  refine ⟨_, pss_cons (ps_if (pt_cmpR op_eq (pv 1) pe_str (nomark _)) (pss_one (ps_ret (pe_F0 T.mkC FI hr (by rfl) T.mC (passes_call (takes_of rfl rfl rfl rfl) (fun _ _ _ _ h => h))))) pss_nil)
    (pss_cons (ps_set (i := 2) scR.nd rfl (Or.inl rfl) (pe_lst pa_nil))
    (pss_cons (ps_set (i := 3) scR.nd rfl (Or.inl rfl) (pe_lst pa_nil))
    (pss_cons (ps_for (passes_of rfl) rfl (pi_list (pe_split (pv 1) pe_str)) (pg_name (i := 4) scR.nd rfl (Or.inl rfl))
      (pss_cons (ps_set (i := 5) scR.nd rfl (Or.inl rfl) (pe_split (pv 4) pe_str))
      (pss_cons (ps_if (PW.pt (pw_or (pt_cmpR op_ne (pe_callB call_len_seq (by rfl) B.len PySem.boot_len (pa_cons (pv 5) pa_nil)) pe_int (nomark _)) (pw_or1 (pt_cmpR op_notIn_seq (pe_ix ix_list (pv 5) pe_int (fun _ _ => rfl)) (pe_glob (v := .ref AW) (by rfl) T.mAW rfl) (by rfl)))))
        (pss_one (ps_raise rfl (takes_of rfl rfl rfl rfl) (pmk_own0 PySem.F.excBase_ValueError T.xB T.mB T.kB (raises_own T.rB T.tB) (by rfl)))) pss_nil)
      (pss_cons (ps_expr (pe_bm PySem.F.plainAttrs_list PySem.F.slot_list_append PySem.F.type_list_append mt_append (pv 2) (pa_cons (pe_ix ix_list (pv 5) pe_int (fun _ _ => rfl)) pa_nil)))
      (pss_one (ps_expr (pe_bm PySem.F.plainAttrs_list PySem.F.slot_list_append PySem.F.type_list_append mt_append (pv 3) (pa_cons (pe_callTy call_int_str (by rfl) B.int (by decide +kernel) (pa_cons (pe_ix ix_list (pv 5) pe_int (fun _ _ => rfl)) pa_nil)) pa_nil))))))))
    (pss_one (ps_ret (pe_Fsk T.mkC FI hr (by rfl) T.mC (passes_call (takes_of rfl rfl rfl rfl) (fun _ _ _ _ h => h)) (pv 2) (pv 3))))))), ?_⟩
  refine ⟨_, rfl, rfl, _, rfl, ?_⟩
  refine ite2 (fun c => ?_) (fun c => ?_)
  · have ez : z = "-" := by
      have y := of_decide_eq_true c
      cases y
      rfl
    have er : rd z = some ([], []) := by
      unfold rd
      rw [if_pos ez]
    exact mk_form (ks := []) (is := []) (Nat.zero_le _) (Nat.zero_le _) (.inl ⟨rfl, rfl⟩) (fun _ p H' g h => q _ _ er p H' g h) (fun hv => by cases hv)
  · have nz : z ≠ "-" := fun e => c (by rw [e]; exact decide_eq_true rfl)
    refine ⟨Nat.zero_le _, fun k hk0 => ⟨Nat.zero_le _, fun a ha0 => ?_⟩⟩
    have gk := same_new hk0 (.lst [])
    have ga := same_new ha0 (.lst [])
    have hkH : H k = none := hk0
    have haH : H a = none := gk.free ha0
    have sz : ∀ {n : Nat}, n ≤ 1010 → n ≤ sizeLine := fun h => Nat.le_trans h (by decide)
    refine ⟨_, rfl, ⟨_, rfl⟩, _, _, rfl, rfl, rfl, sz (by omega), fun L hL => ?_⟩
    have gL := same_new hL (.lst ((Txt.split z ", ").map V.str))
    have hLH : H L = none := gk.free (ga.free hL)
    have k0 := gL _ _ (ga _ _ (upd_same (H := H) (a := k) (o := .lst [])))
    have a0 := gL _ _ (upd_same (H := upd H k (.lst [])) (a := a) (o := .lst []))
    have nak : a ≠ k := (ne_of_none (upd_same (H := H) (a := k) (o := .lst [])) ha0).symm
    have nLk : L ≠ k := (ne_of_none (ga _ _ (upd_same (H := H) (a := k) (o := .lst []))) hL).symm
    have nLa : L ≠ a := (ne_of_none (upd_same (H := upd H k (.lst [])) (a := a) (o := .lst [])) hL).symm
    refine ⟨L, rfl, ⟨_, SqL.of upd_same⟩, for_list (K := K) (a := L) (xs := (Txt.split z ", ").map V.str) (InvR K H C L k a z)
      ⟨none, none, rfl, gk.trans (ga.trans gL), upd_same, k0, a0, fun p hp => by simp at hp, Nat.le_refl _, Nat.le_refl _⟩ (fun i σ H' _ ⟨_, _, _, _, hl, _⟩ => SqL.of hl) ?_ ?_⟩
    · rintro i y σ H' hi ⟨u4, u5, rfl, g, hl, hk, ha, hp, n1, n2⟩
      obtain ⟨p, ep, rfl⟩ := at_map hi
      have hi2 : i < (Txt.split z ", ").length := (List.getElem?_eq_some_iff.mp ep).1
      have hpm : p ∈ Txt.split z ", " := List.mem_of_getElem? ep
      have plen := pl p hpm
      have gW : ∀ {W : Addr}, H' W = none → Same H' (upd H' W (.lst ((Txt.split p " ").map V.str))) := fun h => same_new h _
      refine ⟨_, rfl, ⟨_, rfl⟩, _, _, rfl, rfl, rfl, sz (by omega), fun W hW => ?_⟩
      refine ⟨_, rfl, W, _, rfl, .inl (SqL.of upd_same), rfl, _, rfl, ?_⟩
      by_cases hl2 : (Txt.split p " ").length = 2
      · refine iteN (by rw [List.length_map, hl2]; rfl) ?_
        obtain ⟨kw, aw, ew⟩ : ∃ kw aw, Txt.split p " " = [kw, aw] := by
          match hh : Txt.split p " ", hl2 with
          | [x, y], _ => exact ⟨x, y, rfl⟩
        have eW : upd H' W (.lst ((Txt.split p " ").map V.str)) W = some (.lst [.str kw, .str aw]) := by rw [upd_same, ew] <;> rfl
        refine ⟨_, rfl, W, _, _, _, rfl, rfl, SqL.of eW, rfl, AW, _, rfl, .inr (T.awT _), rfl, flat_strs _, _, rfl, ?_⟩
        rw [show inV (.str aw) (AWORDS.map V.str) = decide (aw ∈ AWORDS) from inV_str aw AWORDS]
        by_cases haw : aw ∈ AWORDS
        · have ev : lvl p = some (kw, aval aw) := by rw [lvl_two ew, if_pos haw]
          obtain ⟨w1, w2⟩ := int_word haw
          refine iteN (by rw [decide_eq_true haw]; rfl) ?_
          have et : (Txt.split z ", ").take (i + 1) = (Txt.split z ", ").take i ++ [p] := by rw [List.take_succ, ep]; rfl
          have ek : lks ((Txt.split z ", ").take (i + 1)) = lks ((Txt.split z ", ").take i) ++ [kw] := by
            unfold lks
            rw [et, List.filterMap_append, List.map_append]
            show _ ++ (List.filterMap lvl [p]).map _ = _
            rw [List.filterMap_cons_some ev] <;> rfl
          have ei : lis ((Txt.split z ", ").take (i + 1)) = lis ((Txt.split z ", ").take i) ++ [aval aw] := by
            unfold lis
            rw [et, List.filterMap_append, List.map_append]
            show _ ++ (List.filterMap lvl [p]).map _ = _
            rw [List.filterMap_cons_some ev] <;> rfl
          have nWk : W ≠ k := (ne_of_none hk hW).symm
          have nWa : W ≠ a := (ne_of_none ha hW).symm
          have hk2 := gW hW _ _ hk
          have ha2 := gW hW _ _ ha
          refine ⟨_, rfl, .inl ⟨rfl, _, SqL.of hk2⟩, _, rfl, W, _, _, _, rfl, rfl, SqL.of eW, rfl, k, _, _, rfl, rfl, hk2, by rw [List.length_map]; exact small1000 (by omega), ?_⟩
          have ha3 := (upd_ne (o := .lst ((lks ((Txt.split z ", ").take i)).map V.str ++ [.str kw])) nak).trans ha2
          have eW3 := (upd_ne (o := .lst ((lks ((Txt.split z ", ").take i)).map V.str ++ [.str kw])) nWk).trans eW
          refine ⟨_, rfl, .inl ⟨rfl, _, SqL.of ha3⟩, _, rfl, W, _, _, _, rfl, rfl, SqL.of eW3, rfl, aw, _, rfl, w1, w2, a, _, _, rfl, rfl, ha3, by rw [List.length_map]; exact small1000 (by omega), ?_⟩
          refine ⟨_, _, rfl, same_over (same_over (g.trans (gW hW)) hkH _) haH _, ?_, ?_, ?_, fun q' hq' => ?_, by rw [ek, List.length_append, List.length_singleton]; omega, by rw [ei, List.length_append, List.length_singleton]; omega⟩
          · rw [upd_ne nLa, upd_ne nLk]
            exact gW hW _ _ hl
          · rw [upd_ne nak.symm, upd_same, ek, List.map_append] <;> rfl
          · rw [upd_same, ei, List.map_append] <;> rfl
          · rw [et] at hq'
            rcases List.mem_append.mp hq' with h | h
            · exact hp q' h
            · rw [List.mem_singleton.mp h, ev] <;> rfl
        · refine iteC (by rw [decide_eq_false haw]; rfl) ?_
          exact qe (rd_none nz hpm (by rw [lvl_two ew, if_neg haw])) _ (g.trans (gW hW))
      · refine iteC (by rw [List.length_map]; exact by rw [decide_eq_false (fun e => hl2 (by injection e with e; omega))]; rfl) ?_
        refine iteC rfl ?_
        exact qe (rd_none nz hpm (lvl_not hl2)) _ (g.trans (gW hW))
    · rintro σ H' ⟨u4, u5, rfl, g, hl, hk, ha, hp, n1, n2⟩
      rw [List.length_map] at hk ha hp n1 n2
      rw [List.take_length] at hk ha hp n1 n2
      have hall : ((Txt.split z ", ").all fun p => (lvl p).isSome) = true := by
        rw [List.all_eq_true]
        exact hp
      refine ⟨_, rfl, _, rfl, k, _, rfl, .inr (SqL.of hk), sz (by rw [List.length_map]; omega), ?_⟩
      refine mk_form (ks := lks (Txt.split z ", ")) (is := lis (Txt.split z ", ")) ?_ ?_ (.inr ⟨a, rfl, .inl (SqL.of ha)⟩) (fun hv p H2 g2 h2 => q _ _ ?_ p H2 (g.trans g2) h2) (fun hv H2 g2 => qe ?_ H2 (g.trans g2))
      · omega
      · omega
      · unfold rd
        rw [if_neg nz, if_pos ⟨hall, hv⟩]
      · unfold rd
        rw [if_neg nz, if_neg (fun z => by rw [z.2] at hv; cases hv)]
end
end Lw
namespace Lw
open PySem L2
abbrev sMixed : Stmt := topS 38
abbrev sFtext : Stmt := topS 41
theorem SX.upd_out {st q D : Addr} {H H' : Hp} {o : HO} (g : SX st q H H') (n : H D = none) : SX st q H (upd H' D o) := fun b u h1 h2 e => by rw [upd_ne (ne_of_none e n)]; exact g b u h1 h2 e
theorem Spr.upd {st q D : Addr} {H : Hp} {b : Int} {o : HO} (s : Spr H st q b) (n1 : D ≠ st) (n2 : D ≠ q) : Spr (upd H D o) st q b := by
  obtain ⟨ns, a, c, h1, h2, r⟩ := s
  exact ⟨ns, a, c, by rw [upd_ne n1.symm]; exact h1, by rw [upd_ne n2.symm]; exact h2, r⟩
theorem Spr.out {st q D : Addr} {H : Hp} {b : Int} (s : Spr H st q b) (n : H D = none) : D ≠ st ∧ D ≠ q := by
  obtain ⟨ns, a, c, h1, h2, _⟩ := s
  exact ⟨(ne_of_none h1 n).symm, (ne_of_none h2 n).symm⟩
section
variable {P : Program} {w : World} {K : PySem.W.Frag} {mg : Str → Option Value} {base : Heap} {f g : Addr} {fd gd : FuncData}
def spMixed : Sp := fun vs H Q _ => ∃ (st q p : Addr) (b : Int) (is : List Int), vs = [.ref st, .ref p] ∧ Spr H st q b ∧ 0 ≤ b ∧ b ≤ 900 ∧ H p = some (.lst (is.map V.int)) ∧ is.length ≤ 10 ∧
  ∀ (r : Addr) (os : List Int) (H' : Hp), os.Perm is → Spr H' st q (b + is.length) → SX st q H H' → H' r = some (.lst (os.map V.int)) → H r = none → Q (.ref r) H'
abbrev namesM : List Str := ["_law_stream", "_law_some", "_law_left", "_law_k"]
theorem scM : FnScope namesM ["_law_stream", "_law_some"] (defScope sMixed) := ⟨rfl, rfl, rfl, by decide +kernel, rfl, by decide +kernel, by decide +kernel⟩
def InvMx (H0 : Hp) (st q L D : Addr) (b : Int) (is : List Int) (i : Nat) (H : Hp) : Prop := ∃ acc ls : List Int, H D = some (.lst (acc.map V.int)) ∧ H L = some (.lst (ls.map V.int)) ∧ acc.length = i ∧ ls.length + i = is.length ∧ (acc ++ ls).Perm is ∧ Spr H st q (b + i) ∧ SX st q H0 H
theorem er_perm {α : Type} : ∀ (l : List α) (k : Nat) (h : k < l.length), (l[k] :: l.eraseIdx k).Perm l
  | a :: r, 0, _ => List.Perm.refl _
  | a :: r, k + 1, h => (List.Perm.swap _ _ _).trans (List.Perm.cons a (er_perm r k (Nat.lt_of_succ_lt_succ h)))
theorem er_map {α β : Type} (f : α → β) : ∀ (l : List α) (k : Nat), (l.map f).eraseIdx k = (l.eraseIdx k).map f
  | [], _ => rfl
  | a :: r, 0 => rfl
  | a :: r, k + 1 => congrArg (f a :: ·) (er_map f r k)
theorem pop_at {ls : List Int} {r : Int} (h0 : 0 ≤ r) (h1 : r < (ls.length : Int)) : ∃ (k : Nat) (n : Int), seqIndex? r (ls.map V.int).length = some k ∧ (ls.map V.int)[k]? = some (.int n) ∧ (ls.map V.int).eraseIdx k = (ls.eraseIdx k).map V.int ∧ (n :: ls.eraseIdx k).Perm ls ∧ (ls.eraseIdx k).length + 1 = ls.length := by
  have hk : r.toNat < ls.length := by omega
  refine ⟨r.toNat, ls[r.toNat], ?_, by rw [List.getElem?_map, List.getElem?_eq_getElem hk] <;> rfl, ?_, er_perm ls _ hk, by rw [List.length_eraseIdx_of_lt hk]; omega⟩
  · refine (ixN_seq (n := (ls.map V.int).length) (i := r) (j := r.toNat) ?_).1
    unfold ixN
    rw [if_pos h0, if_pos (by rw [List.length_map]; exact h1)]
  · rw [er_map]
theorem ok_mixed (F : Fun K "_law_mixed" "_law_mixed" sMixed f fd) (G : FnOk P w K mg base CX0 1 g gd ["_law_stream", "_law_many"] spDraw) (bG : Binds K gd ["_law_stream", "_law_many"] []) (kG : PySem.W.keepIn K (.ref g) = true) (mG : mg "_law_draw" = some (.ref g)) (B : Bt mg) :
    FnOk P w K mg base CX0 2 f fd ["_law_stream", "_law_some"] spMixed := by
  refine F.ok scM (fun vs H Q E h => ?_) (fun cdv A outer s H vs Q E hr h => ?_)
  · obtain ⟨st, q, p, b, is, rfl, _⟩ := h
    rfl
  obtain ⟨st, q, p, b, is, rfl, hs, hb0, hb1, hp, hl, k⟩ := h
  refine ⟨_, pss_cons (ps_set (i := 2) scM.nd rfl (Or.inr rfl) (pe_callTy call_list_of (by rfl) B.lst (by decide +kernel) (pa_cons (pv 1) pa_nil)))
    (pss_one (ps_ret (pe_lc (own := [("_law_k", 3)]) (g := gName 3) (tt := tYes) (te := tBM K "list" rPopAt (tVar 2) (tCons (tCall spDraw [] E0 (tCons (tVar 0) (tCons (tCB (fun xs H Q => ∃ p ys, xs = [.ref p] ∧ (SqL K H p ys ∨ SqT K H p ys) ∧ Q (.int ys.length) H) (tCons (tVar 2) tNil)) tNil))) tNil)) rfl scM.nd (pi_range1 (by rfl) B.range (pa_cons (pe_callB call_len_seq (by rfl) B.len PySem.boot_len (pa_cons (pv 2) pa_nil)) pa_nil)) (blkOk_by (N := namesM) (sc := defScope sMixed) (by decide +kernel))
      (fun _ _ _ _ _ => pg_name (i := 3) scM.nd rfl (Or.inl rfl)) (fun _ _ _ _ _ => pts_nil)
      (fun _ _ _ _ _ => pe_bm PySem.F.plainAttrs_list PySem.F.slot_list_pop PySem.F.type_list_pop mt_popAt (pv 2) (pa_cons (pe_call G hr rfl mG kG bG .nil pass0 (pa_cons (pv 0) (pa_cons (pe_callB call_len_seq (by rfl) B.len PySem.boot_len (pa_cons (pv 2) pa_nil)) pa_nil))) pa_nil))))), ?_⟩
  refine ⟨_, rfl, p, _, rfl, .inl (SqL.of hp), fun L hL => ?_⟩
  have gL := same_new hL (.lst (is.map V.int))
  obtain ⟨nL1, nL2⟩ := hs.out hL
  have hsL := hs.same gL
  refine ⟨_, rfl, L, _, rfl, .inl (SqL.of upd_same), _, rfl, by rw [List.length_map]; omega, by rw [List.length_map]; omega, fun D hD => ?_⟩
  obtain ⟨nD1, nD2⟩ := hsL.out hD
  have nDL : D ≠ L := (ne_of_none (upd_same (H := H) (a := L) (o := .lst (is.map V.int))) hD).symm
  have hD0 : H D = none := gL.free hD
  have gD := same_new hD (.lst [])
  have elm : (is.map V.int).length = is.length := List.length_map _
  refine lc_range (lo := 0) (n := (is.map V.int).length) (InvMx H st q L D b is) ⟨[], is, upd_same, gD _ _ upd_same, rfl, rfl, List.Perm.refl _, ?_, .of (gL.trans gD)⟩ ?_ ?_
  · rw [show b + ((0 : Nat) : Int) = b from Int.add_zero b]
    exact hsL.same gD
  · rintro i H2 hi ⟨acc, ls, hd, hl2, ha, hn, hp2, hs2, gx⟩
    have hlen : (((ls.map V.int).length : Nat) : Int) = (ls.length : Int) := by rw [List.length_map]
    refine ⟨rfl, kept ?_⟩
    refine ⟨_, rfl, .inl ⟨rfl, _, SqL.of hl2⟩, _, rfl, _, rfl, L, _, rfl, .inl (SqL.of hl2), st, q, b + i, _, rfl, hs2, by omega, by omega, by rw [hlen]; omega, by rw [hlen]; omega, fun r H3 r0 r1 hs3 g3 => ?_⟩
    have hd3 := g3 _ _ nD1 nD2 hd
    have hl3 := g3 _ _ nL1 nL2 hl2
    obtain ⟨j, n, e1, e2, e3, e4, e5⟩ := pop_at r0 (by rw [hlen] at r1; exact r1)
    refine ⟨L, _, r, j, _, rfl, rfl, hl3, by omega, by rw [hlen] at r1; omega, e1, e2, ?_⟩
    have hd4 := (upd_ne (o := .lst ((ls.map V.int).eraseIdx j)) nDL).trans hd3
    refine ⟨_, hd4, by rw [List.length_map]; exact small1000 (by omega), acc ++ [n], ls.eraseIdx j, by rw [upd_same, List.map_append] <;> rfl, by rw [upd_ne nDL.symm, upd_same, e3], by rw [List.length_append, ha] <;> rfl, by omega, ?_, ?_, ?_⟩
    · rw [List.append_assoc]
      exact (List.Perm.append_left acc e4).trans hp2
    · have e6 : b + (i : Int) + 1 = b + ((i + 1 : Nat) : Int) := by omega
      rw [← e6]
      exact (hs3.upd nL1 nL2).upd nD1 nD2
    · exact ((gx.trans g3).upd_out hL).upd_out hD0
  · rintro H2 ⟨acc, ls, hd, hl2, ha, hn, hp2, hs2, gx⟩
    rw [elm] at hs2
    have els : ls = [] := List.length_eq_zero_iff.mp (by omega)
    subst els
    rw [List.append_nil] at hp2
    exact k D acc H2 hp2 hs2 gx hd hD0
end
end Lw
namespace Lw
open PySem L2 TL
/-- a form's levels as pairs -/
def Tups (K : PySem.W.Frag) (H : Hp) (vs : List V) (l : List (Str × Int)) : Prop := vs.length = l.length ∧ ∀ (i : Nat) (v : V) (p : Str × Int), vs[i]? = some v → l[i]? = some p → ∃ a, v = .ref a ∧ SqT K H a [.str p.1, .int p.2]
theorem Tups.mono {K : PySem.W.Frag} {H H' : Hp} {vs : List V} {l : List (Str × Int)} (g : TK K H H') (h : Tups K H vs l) : Tups K H' vs l :=
  ⟨h.1, fun i v p e1 e2 => by obtain ⟨a, r, z⟩ := h.2 i v p e1 e2; exact ⟨a, r, g _ _ z⟩⟩
def Good (l : List (Str × Int)) (n : Nat) : Prop := l.length = n ∧ (∀ p ∈ l, p.1 ∈ KINDS) ∧ (l.map (·.2)).Perm (iota n)
def K5 : List Str := ["dense", "packed", "bits", "hashed", "packed"]
theorem k5_kinds : ∀ k ∈ K5, k ∈ KINDS := by decide +kernel
section
variable {P : Program} {w : World} {K : PySem.W.Frag} {mg : Str → Option Value} {base : Heap} {f g g2 : Addr} {fd gd gd2 : FuncData}
theorem zip_maps : ∀ l : List (Str × Int), (l.map (·.1)).zip (l.map (·.2)) = l
  | [] => rfl
  | (a, b) :: r => by
    show (a, b) :: (r.map (·.1)).zip (r.map (·.2)) = _
    rw [zip_maps r]
theorem iota_valid {l : List (Str × Int)} {n : Nat} (h : Good l n) (hn : n ≤ 3) : valid (l.map (·.1)) (l.map (·.2)) = true := by
  obtain ⟨h1, h2, h3⟩ := h
  unfold valid axesOk
  rw [List.length_map, List.length_map, h1]
  have e1 : decide (n ≤ 3) = true := decide_eq_true hn
  have e2 : ((l.map (·.1)).all fun k => decide (k ∈ KINDS)) = true := by
    rw [List.all_eq_true]
    intro k hk
    obtain ⟨p, hp, rfl⟩ := List.mem_map.mp hk
    exact decide_eq_true (h2 p hp)
  have e3 : ((List.range n).all fun j => decide ((j : Int) ∈ l.map (·.2))) = true := by
    rw [List.all_eq_true]
    intro j hj
    refine decide_eq_true (h3.symm.mem_iff.mp ?_)
    unfold iota
    exact List.mem_map.mpr ⟨j, hj, rfl⟩
  rw [e1, e2, e3, decide_eq_true rfl] <;> rfl
def litm (p : Str × Int) : Str := p.1 ++ " " ++ ((toString p.2 : String) : Str)
theorem litm_itm (p : Str × Int) : litm p = itm p.1 p.2 := by
  refine ext_tl ?_
  unfold litm itm
  rw [tl_append, tl_append, tl_append, tl_append, tl_append] <;> rfl
def spFtext (K : PySem.W.Frag) : Sp := fun vs H Q _ => ∃ (t : Addr) (us : List V) (l : List (Str × Int)) (n : Nat), vs = [.ref t] ∧ SqT K H t us ∧ Tups K H us l ∧ Good l n ∧ n ≤ 3 ∧ ∀ H' : Hp, Same H H' → Q (.str (ftext (l.map (·.1)) (l.map (·.2)))) H'
theorem dp_tups {H : Hp} : ∀ {us : List V} {l : List (Str × Int)}, Tups K H us l → DpAll K H us (l.map fun p => PyData.tuple [.str p.1, .int p.2])
  | [], [], _ => .nil
  | [], _ :: _, h => by cases h.1
  | _ :: _, [], h => by cases h.1
  | u :: us, p :: l, h => by
    obtain ⟨a, rfl, z⟩ := h.2 0 u p rfl rfl
    exact .cons (.tup z (.cons (.str _) (.cons (.int _) .nil))) (dp_tups ⟨Nat.succ.inj h.1, fun i v p e1 e2 => h.2 (i + 1) v p e1 e2⟩)
end
end Lw
namespace Lw
open PySem L2 TL
/-- more built-in names -/
structure Bs (mg : Str → Option Value) : Prop where
  str : mg "str" = none
  any : mg "any" = none
  sorted : mg "sorted" = none
  ve : mg "ValueError" = none
section
variable {P : Program} {w : World} {K : PySem.W.Frag} {mg : Str → Option Value} {base : Heap} {C fI BF AW KD f g g2 : Addr} {MC : Value} {fd gd gd2 : FuncData}
theorem sz20 {n : Nat} (h : n ≤ 1000) : n ≤ sizeLine := Nat.le_of_lt (small1000 h)
theorem kinds_ok : ∀ k ∈ KINDS, PyData.strOk k = true := by decide +kernel
theorem shaped_form : ∀ {l : List (Str × Int)}, l.length ≤ 3 → (∀ p ∈ l, p.1 ∈ KINDS) → SeqAt.shaped (.tuple (l.map fun p => PyData.tuple [.str p.1, .int p.2])) = true
  | [], _, _ => by decide +kernel
  | [a], _, h => by
    have h1 := kinds_ok _ (h a (by simp))
    simp [SeqAt.shaped, PyData.canLay0, PyData.canLayAll0, PyData.depth, PyData.depthAll, h1]
  | [a, b], _, h => by
    have h1 := kinds_ok _ (h a (by simp))
    have h2 := kinds_ok _ (h b (by simp))
    simp [SeqAt.shaped, PyData.canLay0, PyData.canLayAll0, PyData.depth, PyData.depthAll, h1, h2]
  | [a, b, c], _, h => by
    have h1 := kinds_ok _ (h a (by simp))
    have h2 := kinds_ok _ (h b (by simp))
    have h3 := kinds_ok _ (h c (by simp))
    simp [SeqAt.shaped, PyData.canLay0, PyData.canLayAll0, PyData.depth, PyData.depthAll, h1, h2, h3]
  | _ :: _ :: _ :: _ :: _, h, _ => by simp at h
abbrev namesFt : List Str := ["_law_form", "_law_kind", "_law_axis"]
theorem scFt : FnScope namesFt ["_law_form"] (defScope sFtext) := ⟨rfl, rfl, rfl, by decide +kernel, rfl, by decide +kernel, by decide +kernel⟩
theorem ok_ftext (F : Fun K "_law_form_text" "_law_form_text" sFtext f fd) (B : Bt mg) (S : Bs mg) : FnOk P w K mg base CX0 1 f fd ["_law_form"] (spFtext K) := by
  refine F.ok scFt (fun vs H Q E h => ?_) (fun cdv A outer s H vs Q E hr h => ?_)
  · obtain ⟨t, us, l, n, rfl, _⟩ := h
    rfl
  obtain ⟨t, us, l, n, rfl, hT, htu, hg, hn, q⟩ := h
  have hll : l.length ≤ 3 := by rw [hg.1]; exact hn
  have hax : ∀ p ∈ l, p.1 ∈ KINDS ∧ p.2 ∈ ([0, 1, 2] : List Int) := fun p hp => by
    obtain ⟨_, _, _, z⟩ := valid_parts (iota_valid hg hn)
    exact ⟨hg.2.1 p hp, z _ (List.mem_map_of_mem hp)⟩
  refine ⟨_, pss_one (ps_ret (pe_ifExp (pt_cmpR (op_neD hr.units) (pv 0) (pe_tup pa_nil) (nomark _)) (pe_join pe_str (pe_lc (own := [("_law_kind", 1), ("_law_axis", 2)]) (g := gTup K 2 (gCons (gName 1) (gCons (gName 2) gNil))) (tt := tYes) rfl scFt.nd (pi_tup (pv 0)) (blkOk_by (N := namesFt) (sc := defScope sFtext) (by decide +kernel))
      (fun _ _ _ _ _ => pg_tup rfl (pgs_cons (pg_name (i := 1) scFt.nd rfl (Or.inl rfl)) (pgs_cons (pg_name (i := 2) scFt.nd rfl (Or.inl rfl)) pgs_nil))) (fun _ _ _ _ _ => pts_nil)
      (fun _ _ _ _ _ => pe_op op_add_str (pe_op op_add_str (pv 1) pe_str) (pe_callTy call_str_int (by rfl) S.str (by decide +kernel) (pa_cons (pv 2) pa_nil))))) pe_str)), ?_⟩
  refine ⟨_, rfl, (by show 0 ≤ sizeLine; decide), fun e he => ?_⟩
  have ge := same_new he (.tup [])
  refine ⟨_, .tuple [], .tup (seqT ge hT) (dp_tups (htu.mono (.of ge))), .tup (SqT.of upd_same) .nil, shaped_form hll hg.2.1, by decide +kernel, _, rfl, ?_⟩
  cases l with
  | nil =>
    refine iteN (by decide +kernel) ?_
    have z := q _ ge
    exact z
  | cons p r =>
    refine iteC rfl ?_
    refine ⟨⟨_, rfl⟩, _, rfl, t, rfl, ⟨_, seqT ge hT⟩, fun D hD => ?_⟩
    have hD0 : H D = none := ge.free hD
    refine lc_tup (K := K) (a := t) (xs := us) (InvM H D (fun p : Str × Int => V.str (litm p)) (p :: r)) ⟨upd_same, same_over ge hD0 _⟩ (fun i H' _ ⟨_, g⟩ => seqT g hT) (fun i x H' hx hv => ?_) ?_
    · have hi : i < (p :: r).length := by rw [← htu.1]; exact (List.getElem?_eq_some_iff.mp hx).1
      obtain ⟨a, rfl, za⟩ := htu.2 i x _ hx (List.getElem?_eq_getElem hi)
      have hm := hax _ (List.getElem_mem hi)
      obtain ⟨l1, l2, l3, l4, l5⟩ := small_itm _ hm.1 _ hm.2
      refine ⟨a, _, rfl, seqT hv.2 za, rfl, _, _, rfl, _, _, rfl, rfl, rfl, kept ?_⟩
      refine ⟨_, rfl, _, _, rfl, rfl, sz20 (by show _ + 1 ≤ 1000; omega), _, rfl, _, rfl, l5, _, _, rfl, rfl, sz20 ?_, ?_⟩
      · rw [← litm_itm] at l3
        have e1 : (litm ((p :: r)[i])).length = ((p :: r)[i].1 ++ (" " : Str)).length + ((toString (p :: r)[i].2 : String) : Str).length := Str.length_append _ _
        rw [e1] at l3
        omega
      · exact ⟨_, hv.1, len_m (by omega), InvM.next (f := fun p : Str × Int => V.str (litm p)) hD0 hv.2 (List.getElem?_eq_getElem hi) _ rfl⟩
    · rintro H' ⟨hd, g⟩
      rw [List.take_of_length_le (by rw [htu.1]; exact Nat.le_refl _)] at hd
      have el : ((p :: r).map litm) = ((((p :: r).map (·.1)).zip ((p :: r).map (·.2))).map fun p => itm p.1 p.2) := by
        rw [zip_maps]
        exact List.map_congr_left fun p _ => litm_itm p
      refine ⟨_, D, (p :: r).map litm, rfl, rfl, .inl (SqL.of (by rw [hd, List.map_map] <;> rfl)), ?_, ?_⟩
      · have z := sum_le (ys := (p :: r).map litm) fun y hy => by
          obtain ⟨p', hp', rfl⟩ := List.mem_map.mp hy
          rw [litm_itm]
          exact (small_itm _ (hax p' hp').1 _ (hax p' hp').2).2.2.1
        have z2 : ((p :: r).map litm).length ≤ 3 := by rw [List.length_map]; exact hll
        have z3 : ((p :: r).map litm).length * Str.length ", " ≤ 3 * 2 := Nat.mul_le_mul z2 (by decide)
        omega
      · have z := q H' g
        unfold ftext at z
        rw [if_neg (by simp), ← el] at z
        exact z
/-! a form made from parts -/
end
end Lw
/-! tuples that are known to have no dict: their methods -/
namespace TzR
open PySem PySem.Spec PyProof.Rows L2
/-- the tuple at p, its object known -/
def TzAt (H : Hp) (p : Addr) (xs : List V) : Prop := ∃ o : Obj, H p = some (.frz o (.tup xs)) ∧ o.cls = .type "tuple" ∧ o.dict = none
theorem TzAt.seq {K : PySem.W.Frag} {H : Hp} {p : Addr} {xs : List V} : TzAt H p xs → SqT K H p xs
  | ⟨o, h, _⟩ => .inl (.inr ⟨o, h⟩)
theorem TzAt.of {H : Hp} {p : Addr} {o : Obj} {xs : List V} (h : H p = some (.frz o (.tup xs))) (hc : o.cls = .type "tuple") (hd : o.dict = none) : TzAt H p xs := ⟨o, h, hc, hd⟩
section
variable {X : Cx} {pins : List (Addr × Obj)} {σ : L2.St} {H : Hp} {s : Shared} {p : Addr} {xs : List V}
theorem TzAt.obj (I : L2.Inv X pins σ H s) : TzAt H p xs → ∃ (o : Obj) (its : List Value) (n : Nat), s.heap.get? p = some o ∧ o.cls = .type "tuple" ∧ o.dict = none ∧ o.data = .seq its.toArray n ∧ Vals xs its
  | ⟨o, h1, h2, h3⟩ => by
    obtain ⟨e, _, its, r, ⟨o', e', _, n, hd⟩⟩ := I.hok p _ h1
    rw [e] at e'
    cases e'
    exact ⟨o, its, n, e, h2, h3, hd, r⟩
theorem ty_tz : TyOk X "tuple" (fun x H => ∃ (p : Addr) (xs : List V), x = .ref p ∧ TzAt H p xs) := by
  intro pins σ H s x v I r ty
  obtain ⟨p, xs, rfl, t⟩ := ty
  cases r
  obtain ⟨o, its, n, e, hc, hd, _, _⟩ := t.obj I
  refine ⟨⟨o, e, hc⟩, fun b z => ?_⟩
  cases z
  exact ⟨o, e, hd⟩
/-- tuple(l), the new tuple's object known -/
theorem call_tuple_frz : CallR X (.type "tuple") (fun xs H Q => ∃ (p : Addr) (ys : List V), xs = [.ref p] ∧ SqL X.K H p ys ∧ ∀ (l : Addr) (o : Obj), H l = none → o.cls = .type "tuple" → o.dict = none → Q (.ref l) (upd H l (.frz o (.tup ys)))) := by
  intro pins s σ H xs us Q I r h
  obtain ⟨p, ys, rfl, hq, q⟩ := h
  obtain ⟨u, rfl, rx⟩ := vals1 r
  cases rx
  obtain ⟨its, r', pl, hz⟩ := I.list hq
  have hlen := r'.length
  refine call_tuple_list pl.isList (fun h' kp => ?_) (by simp only [List.size_toArray] <;> omega)
  have I1 : L2.Inv X pins σ H { s with heap := h' } := I.kept (t' := s.toks) kp
  have e : (h'.push { cls := .type "tuple", data := .seq its.toArray }).get? h'.objs.size = some { cls := .type "tuple", data := .seq its.toArray } := Heap.get?_push_size _ rfl
  have I2 : L2.Inv X pins σ (upd H h'.objs.size (.frz { cls := .type "tuple", data := .seq its.toArray } (.tup ys))) { s with heap := h'.push { cls := .type "tuple", data := .seq its.toArray } } :=
    I1.laid (t' := s.toks) (fun b o e => Heap.get?_push_of_some _ e) (Nat.le_refl _) (show ObjOk X.prog X.w _ _ _ (.frz _ (.tup ys)) from ⟨e, hz, its, r', IsTup.new _ _⟩)
  exact ⟨.ref h'.objs.size, _, I2, rfl, q _ _ (I1.hok.fresh (Nat.le_refl _)) rfl rfl⟩
/-- t.index(x) of texts -/
def tIxZ (K : PySem.W.Frag) (to : TE) (t : TA) : TE := tMG (fun x H => ∃ (p : Addr) (xs : List V), x = .ref p ∧ TzAt H p xs) (fun x xs H Q => ∃ p, ∃ ys : List Str, ∃ z j, x = .ref p ∧ xs = [.str z] ∧ SqT K H p (ys.map V.str) ∧ ys[j]? = some z ∧ (∀ m, m < j → ys[m]? ≠ some z) ∧ Q (.int (j : Nat)) H) to t
theorem pe_ixZ {o e : Expr} {to : TE} {t : TA} {apos cpos : Pos} (ho : PE X o to) (ha : PA X [e] t)
    (hbase : attributeBase o "index" X.env (eval o X.env) = eval o X.env := by rfl)
    (hfew : ((backTo cpos (starEach [e] X.env)).all (fun x => !x.1) && (backToKw cpos (keywordEach [] X.env)).all (fun x => x.1.isSome)
      && decide (([e] : List Expr).length + ([] : List Keyword).length + (if ([] : List Keyword).isEmpty then 0 else 1) < 30)) = true := by rfl)
    (hline : (apos.endLine == cpos.line) = true := by rfl) (hs : starEach [e] X.env = (false, eval e X.env) :: starEach [] X.env := by rfl) :
    PE X (.Call (.Attribute o "index" apos) [e] [] cpos) (tIxZ X.K to t) :=
  pe_mG ty_tz PySem.F.plainAttrs_tuple PySem.F.slot_tuple_index PySem.F.type_tuple_index mt_tup_index ho ha hbase hfew hline hs
end
/-- the first place of a text -/
theorem idx_at {ys : List Str} {z : Str} (h : z ∈ ys) : ys[ys.idxOf z]? = some z ∧ ∀ m, m < ys.idxOf z → ys[m]? ≠ some z := by
  have lt := List.idxOf_lt_length_iff.mpr h
  refine ⟨by rw [List.getElem?_eq_getElem lt, List.getElem_idxOf lt], fun m hm e => ?_⟩
  obtain ⟨h1, h2⟩ := List.getElem?_eq_some_iff.mp e
  have := List.not_of_lt_findIdx (p := (· == z)) (xs := ys) (i := m) hm
  simp [h2] at this
end TzR
/-! enumerate(t), t a tuple -/
namespace EnT
open PySem PySem.Spec PyProof.Rows L2
theorem drawsT {prog : Program} {w : World} {A : Around} (hh : A.handled = none) (it t : Addr) (hne : t ≠ it) (items : Array Value) :
    Draws prog w A it [it, t] items.size (fun i v => items[i]? = some v) (fun i h => h.IsTupleIter it t i ∧ h.IsTuple t items) where
  live := fun _ _ st => let ⟨o, ho, _⟩ := st.1; ⟨o, ho⟩
  frame := fun _ _ _ st k => ⟨let ⟨o, ho, r⟩ := st.1; ⟨o, k it (by simp) o ho, r⟩, let ⟨o, ho, r⟩ := st.2; ⟨o, k t (by simp) o ho, r⟩⟩
  item := fun i s Q E hi st hQ => by
    refine RZ.nextOf_tuple_item st.1 st.2 (x := items[i]) (by simp [hi]) fun h' hit' hs' => ?_
    exact hQ _ h' s.toks (by simp [hi]) ⟨hit', let ⟨o, ho, r⟩ := st.2; ⟨o, (hs'.2 t hne).trans ho, r⟩⟩ hs'
  done := fun s Q E st hE => RZ.nextOf_tuple_end hh st.1 st.2 (by simp) hE
theorem meets_new (t : Addr) (items : Array Value) :
    Meets (Builtin.«enumerate.__new__» ⟨[.type "enumerate", .ref t], []⟩) (fun _ R s => s.heap.IsTuple t items ∧
      R (.ok (.ret (.ref (s.heap.push { cls := .type "tuple_iterator", data := .fields #[.ref t, .int 0 0] }).objs.size)))
        { s with heap := (s.heap.push { cls := .type "tuple_iterator", data := .fields #[.ref t, .int 0 0] }).push { cls := .type "enumerate", data := .fields #[.none, .bool false, .ref s.heap.objs.size, rawInt 0, .none, .none] } }) :=
  .of_wp fun prog w A R s h => by
    obtain ⟨hp, g, d, tk, os⟩ := s
    obtain ⟨hl, h⟩ := h
    have hsub := sub_enumerate
    have hL : Heap.IsTuple (Shared.heap ⟨hp, g, d, tk, os⟩) t items := hl
    obtain ⟨⟨c0, d0, dt0, sl0⟩, ho, hc, n, hd⟩ := hl
    replace hc : c0 = .type "tuple" := hc
    replace hd : dt0 = .seq items n := hd
    subst hc hd
    wp_walk using AutoSeq1.wpAny_loadPart' ho
    refine wpAny_stack_any fun st => wpAny_pure ?_
    split
    · rename_i c _ _ _ _ _
      cases (c == Value.type "enumerate")
      · wp_walk using AutoSeq1.wpAny_loadPart' ho, wpAny_pyIter_tuple hL
        exact ⟨_, rfl, h⟩
      · wp_walk using AutoSeq1.wpAny_loadPart' ho, wpAny_pyIter_tuple hL
        exact ⟨_, rfl, h⟩
    · wp_walk using AutoSeq1.wpAny_loadPart' ho, wpAny_pyIter_tuple hL
      exact ⟨_, rfl, h⟩
section
variable {prog : Program} {w : World} {A : Around} {E : Value → Shared → Prop} {s : Shared}
theorem call_enum {t : Addr} {items : Array Value} {Q : Value → Shared → Prop} (hL : s.heap.IsTuple t items)
    (h : ∀ h', IsEnum h' (s.heap.objs.size + 1) s.heap.objs.size 0 .none → h'.IsTupleIter s.heap.objs.size t 0 → (∀ b o, s.heap.get? b = some o → h'.get? b = some o) → Q (.ref (s.heap.objs.size + 1)) { s with heap := h' }) :
    wpAny (model prog w) A (call (.type "enumerate") [.ref t]) Q E s := by
  refine callType_new PySem.F.called_enumerate (by decide) (PySem.F.typeCall_enumerate_1 _) (PySem.F.newCall_enumerate_1 _) (fun obj => PySem.F.args_object_init_2 obj _) PySem.F.entry_enumerate_new (meets_new t items) ⟨hL, ?_⟩
  have hz : (s.heap.push { cls := .type "tuple_iterator", data := .fields #[.ref t, .int 0 0] }).objs.size = s.heap.objs.size + 1 := Heap.size_push ..
  show _ ∧ _
  rw [hz]
  have he : IsEnum ((s.heap.push { cls := .type "tuple_iterator", data := .fields #[.ref t, .int 0 0] }).push { cls := .type "enumerate", data := .fields #[.none, .bool false, .ref s.heap.objs.size, rawInt 0, .none, .none] }) (s.heap.objs.size + 1) s.heap.objs.size 0 .none := by
    have q := Heap.get?_push_size (s.heap.push { cls := .type "tuple_iterator", data := .fields #[.ref t, .int 0 0] }) (o := { cls := .type "enumerate", data := .fields #[.none, .bool false, .ref s.heap.objs.size, rawInt 0, .none, .none] }) rfl
    rw [hz] at q
    exact q
  exact ⟨⟨_, he, rfl⟩, h _ he ⟨_, Heap.get?_push_of_some _ (Heap.get?_push_size _ rfl), rfl, rfl⟩ fun b o x => Heap.get?_push_of_some _ (Heap.get?_push_of_some _ x)⟩
end
/-- the tuple at a, each item in a new pair with its place -/
def IteT (K : PySem.W.Frag) (a : Addr) : It :=
  ⟨fun i H => ∃ (xs : List V) (x : V), SqT K H a xs ∧ xs[i]? = some x, fun i H v H' => ∃ T x, v = .ref T ∧ H T = none ∧ H' = upd H T (.tup [.int (i : Nat), x]) ∧ ∀ xs, SqT K H a xs → xs[i]? = some x, fun i H => ∃ xs : List V, SqT K H a xs ∧ xs.length = i⟩
theorem turn_enumT {P : Program} {w : World} {K : PySem.W.Frag} {elts : List Expr} {kk : Nat} {tpos : Pos} (a e it : Addr) (items : Array Value) :
    Turn P w K (.Tuple elts kk tpos) (IteT K a) [e, it] e (fun i h => (∃ old, IsEnum h e it ((i : Nat) : Int) old) ∧ h.IsTupleIter it a i ∧ e ≠ it ∧ a ≠ it ∧ e ≠ a) where
  mem := by simp
  obj := fun i h st b hb => by
    obtain ⟨⟨old, he⟩, ⟨o, ho, hc, hd⟩, _⟩ := st
    have e' : b = e ∨ b = it := by simpa using hb
    rcases e' with z | z
    · rw [z]; exact ⟨_, he, fun v q => nomatch q⟩
    · rw [z]; exact ⟨o, ho, fun v q => by rw [hd] at q; cases q⟩
  keep := fun i h h' st k => let ⟨⟨old, he⟩, ⟨o, ho, r⟩, hne⟩ := st; ⟨⟨old, k e (by simp) _ he⟩, ⟨o, k it (by simp) _ ho, r⟩, hne⟩
  item := by
    intro X hP hw hK hc i pins s σ H E I hf st hg
    subst hP hw hK
    obtain ⟨⟨old, he⟩, hit, hne, hat, hea⟩ := st
    obtain ⟨xs, x, hq, hx⟩ := hg
    obtain ⟨its, rv, p, hz⟩ := I.tuple hq
    obtain ⟨u, hu, ru⟩ := rv.get hx
    have hel : e < s.heap.objs.size := Heap.lt_size he
    have hi : i < its.toArray.size := by simpa using (List.getElem?_eq_some_iff.mp hu).1
    refine wpAny_pyNext_enum_itemD (drawsT (A := X.A.in1) (I.ok.hd hc) it a hat its.toArray) he ⟨hit, p⟩ hi hne (by simp [hne, hea]) fun v h' tk hv ho hst' hT hsz hk => ?_
    have ev : v = u := by
      have q : its.toArray[i]? = some v := hv
      rw [List.getElem?_toArray, hu] at q
      exact (Option.some.inj q).symm
    subst ev
    refine ⟨_, rfl, wpAny_letOwnedTupleGo_enum (s := { s with heap := h', toks := tk + 1 }) ho fun h'' he' sb => ?_⟩
    have hT2 : h''.get? s.heap.objs.size = some { cls := .type "tuple", data := .seq #[.int i tk, v] } := (sb.2 _ (Nat.ne_of_gt hel)).trans hT
    have new : ObjOk X.prog X.w (upd H s.heap.objs.size (.tup [.int (i : Nat), x])) h'' s.heap.objs.size (.tup [.int (i : Nat), x]) :=
      ⟨by show 2 ≤ sizeLine; decide, [.int i tk, v], .cons ⟨_, rfl⟩ (.cons ru .nil), ⟨_, hT2, rfl, _, rfl⟩⟩
    have I1 : Inv X pins σ (upd H s.heap.objs.size (.tup [.int (i : Nat), x])) { s with heap := h'', toks := tk + 1 } :=
      I.turnedNew (ch := [e, it]) (fun b ob hb q => (sb.2 b (fun z => hb (by simp [z]))).trans (hk b ob (fun z => hb (by simp [z])) (fun z => hb (by simp [z])) q)) hf (Nat.le_refl _) new
    refine ⟨.ref s.heap.objs.size, _, I1, rfl, ⟨_, x, rfl, I.hok.fresh (Nat.le_refl _), rfl, fun ys hy => by rw [I.tuple_inj hy hq]; exact hx⟩, ⟨⟨v, ?_⟩, ?_, hne, hat, hea⟩, fun b hb => ?_⟩
    · have e1 : ((i + 1 : Nat) : Int) = (i : Int) + 1 := by omega
      rw [e1]
      exact he'
    · obtain ⟨o, ho2, r⟩ := hst'.1
      exact ⟨o, (sb.2 it (Ne.symm hne)).trans ho2, r⟩
    · have hb' : b < s.heap.objs.size := by
        have e' : b = e ∨ b = it := by simpa using hb
        rcases e' with z | z
        · rw [z]; exact hel
        · obtain ⟨o, q, _⟩ := hit
          rw [z]; exact Heap.lt_size q
      rw [upd_ne (Nat.ne_of_lt hb')]
      exact (hf b hb).1
  done := by
    intro X hP hw hK hc i pins s σ H E I hf st hg
    subst hP hw hK
    obtain ⟨⟨old, he⟩, hit, hne, hat, hea⟩ := st
    obtain ⟨xs, hq, hx⟩ := hg
    obtain ⟨its, rv, p, hz⟩ := I.tuple hq
    obtain ⟨f0, f1, f2, f3, f4, f5⟩ := hf it (by simp)
    have hl := rv.length
    have ei : its.toArray.size = i := by simp; omega
    subst ei
    exact wpAny_pyNext_enum_endD (drawsT (A := X.A.in1) (I.ok.hd hc) it a hat its.toArray) he ⟨hit, p⟩ fun h' eb => ⟨rfl, I.turned (t' := s.toks) (fun b o hb q => eb b o hb q) f0 f1 f3 f4 f5⟩
  self := fun A i s Q E st h => let ⟨⟨_, he⟩, _⟩ := st; wpAny_pyIter_enum he h
def iEnumT (K : PySem.W.Frag) (ta : TA) : TI := fun σ H R => ta σ H fun vs H1 => ∃ a xs, vs = [.ref a] ∧ SqT K H1 a xs ∧ R (IteT K a) H1
theorem pi_enumT {X : Cx} {e : Expr} {ta : TA} {p pos tpos : Pos} {elts : List Expr} {kk : Nat} (hg : Gl X "enumerate") (hm : X.mg "enumerate" = none) (ha : PA X [e] ta) (hs : starEach [e] X.env = [(false, eval e X.env)] := by rfl) :
    PI X (.Tuple elts kk tpos) (.Call (.Name "enumerate" p) [e] [] pos) (iEnumT X.K ta) := by
  refine ⟨fun pins s σ H R I h => ?_⟩
  refine Call_ (ld_blt I hg hm boot_enumerate (PyProof.Rows.callWith_type1 (thn (ha.run pos pins s σ H _ I h) fun us s1 ⟨vs, H1, I1, r1, q1⟩ => ?_) hs rfl))
  obtain ⟨a, xs, ex, hq, q⟩ := q1
  subst ex
  cases r1 with
  | cons r rr =>
    cases rr
    cases r
    obtain ⟨its, rv, p', hz⟩ := I1.tuple hq
    have hal : a < s1.heap.objs.size := by
      obtain ⟨o, ho, _⟩ := p'
      exact Heap.lt_size ho
    refine call_enum p' fun h' he hit hk => wpAny_pyIter_enum he ?_
    have I2 : Inv X pins σ H1 { s1 with heap := h' } := I1.kept (t' := s1.toks) hk
    refine ⟨s1.heap.objs.size + 1, [s1.heap.objs.size + 1, s1.heap.objs.size], _, _, H1, rfl, I2, turn_enumT a (s1.heap.objs.size + 1) s1.heap.objs.size its.toArray, ⟨⟨.none, he⟩, hit, Nat.succ_ne_self _, Nat.ne_of_lt hal, Nat.ne_of_gt (Nat.lt_succ_of_lt hal)⟩, fun b hb => ?_, q⟩
    have e' : b = s1.heap.objs.size + 1 ∨ b = s1.heap.objs.size := by simpa using hb
    have hle : s1.heap.objs.size ≤ b := by
      rcases e' with z | z
      · rw [z]; exact Nat.le_add_right _ _
      · rw [z]; exact Nat.le_refl _
    exact I1.fpOk hle (I1.hok.fresh hle)
end EnT
namespace Lw
open PySem L2 TzR
theorem tzS {H H' : Hp} {p : Addr} {xs : List V} (g : Same H H') : TzAt H p xs → TzAt H' p xs
  | ⟨o, h, z⟩ => ⟨o, g _ _ h, z⟩
section
variable {P : Program} {w : World} {K : PySem.W.Frag} {mg : Str → Option Value} {base : Heap} {f : Addr} {fd : FuncData}
def spFrS1 : Sp := fun vs H Q _ => ∃ i : Str, vs = [.str i] ∧ ∀ H' : Hp, Same H H' → Q (.str i) H'
def spFrzS (K : PySem.W.Frag) : Sp := fun vs H Q _ => ∃ (a : Addr) (is : List Str), vs = [.ref a] ∧ (SqL K H a (is.map V.str) ∨ SqT K H a (is.map V.str)) ∧ is.length ≤ 1000 ∧
  ∀ (p : Addr) (H' : Hp), Same H H' → H p = none → TzAt H' p (is.map V.str) → Q (.ref p) H'
theorem ok_frS1 (F : Fun K "frozen" "frozen" sFrozen f fd) (B : Bt mg) : FnOk P w K mg base CX0 1 f fd ["worth"] spFrS1 := by
  refine F.ok scF (fun vs H Q E h => ?_) (fun cdv A outer s H vs Q E hr h => ?_)
  · obtain ⟨i, rfl, _⟩ := h
    rfl
  obtain ⟨i, rfl, q⟩ := h
  refine ⟨_, pss_cons (ps_if (pt_val (pe_callB call_isiT (by rfl) B.isi (by decide +kernel) (pa_cons (pv 0) (pa_cons (pe_tup (pa_cons (pe_bltn (v := .ty "list") (by rfl) B.lst (by decide +kernel) rfl) (pa_cons (pe_bltn (v := .ty "tuple") (by rfl) B.tup (by decide +kernel) rfl) pa_nil))) pa_nil)))) (pss_one ps_never) pss_nil)
    (pss_one (ps_ret (pv 0))), ?_⟩
  refine ⟨_, rfl, (by show 2 ≤ sizeLine; decide), fun t ht => ?_⟩
  refine ⟨_, t, _, .type "str", [.type "list", .type "tuple"], false, rfl, upd_same, .cons (.ty _) (.cons (.ty _) .nil), .base (.str i), is_seq (by decide +kernel) (by decide +kernel), _, rfl, ?_⟩
  exact iteF ⟨_, rfl, q _ (same_new ht _)⟩
/-- the ints so far -/
def InvSt (H0 : Hp) (D : Addr) (is : List Str) (i : Nat) (H : Hp) : Prop := H D = some (.lst ((is.take i).map V.str)) ∧ Same H0 H
theorem take_map_succS {is : List Str} {i : Nat} {x : V} (h : (is.map V.str)[i]? = some x) : ∃ n, x = .str n ∧ (is.take (i + 1)).map V.str = (is.take i).map V.str ++ [.str n] := by
  rw [List.getElem?_map] at h
  cases e : is[i]? with
  | none => rw [e] at h; cases h
  | some n =>
    rw [e] at h
    refine ⟨n, (Option.some.inj h).symm, ?_⟩
    rw [List.take_succ, e, List.map_append] <;> rfl
theorem ok_frzS (F : Fun K "frozen" "frozen" sFrozen f fd) (bF : Binds K fd ["worth"] []) (mF : mg "frozen" = some (.ref f)) (B : Bt mg) : FnOk P w K mg base CX0 2 f fd ["worth"] (spFrzS K) := by
  have G : FnOk P w K mg base CX0 1 f fd ["worth"] spFrS1 := ok_frS1 F B
  refine F.ok scF (fun vs H Q E h => ?_) (fun cdv A outer s H vs Q E hr h => ?_)
  · obtain ⟨a, is, rfl, _⟩ := h
    rfl
  obtain ⟨a, is, rfl, hS, hl, q⟩ := h
  have turn : ∀ {te : TE} {D : Addr}, H D = none → ∀ i x H', (is.map V.str)[i]? = some x → InvSt H D is i H' → tCall spFrS1 [] E0 (tCons (tVar 1) tNil) [some (.ref a), some x] H' fun y H4 => ∃ acc, H4 D = some (.lst acc) ∧ acc.length < sizeLine ∧ InvSt H D is (i + 1) (upd H4 D (.lst (acc ++ [y]))) := by
    rintro te D hD i x H' hx ⟨hd, g⟩
    obtain ⟨n, rfl, en⟩ := take_map_succS hx
    refine ⟨_, rfl, n, rfl, fun H2 g2 => ⟨_, g2 _ _ hd, ?_, by rw [upd_same, en], same_over (g.trans g2) hD _⟩⟩
    rw [List.length_map]
    exact small1000 (by rw [List.length_take]; omega)
  rcases hS with hS | hS
  · refine ⟨_, pss_cons (ps_if (pt_val (pe_callB call_isiT (by rfl) B.isi (by decide +kernel) (pa_cons (pv 0) (pa_cons (pe_tup (pa_cons (pe_bltn (v := .ty "list") (by rfl) B.lst (by decide +kernel) rfl) (pa_cons (pe_bltn (v := .ty "tuple") (by rfl) B.tup (by decide +kernel) rfl) pa_nil))) pa_nil))))
        (pss_one (ps_ret (pe_callTy call_tuple_frz (by rfl) B.tup (by decide +kernel) (pa_cons (pe_lc (own := [("part", 1)]) (g := gName 1) (tt := tYes) rfl scF.nd (pi_list (pv 0)) (blkOk_by (N := ["worth", "part"]) (sc := defScope sFrozen) (by decide +kernel))
          (fun _ _ _ _ _ => pg_name (i := 1) scF.nd rfl (Or.inl rfl)) (fun _ _ _ _ _ => pts_nil) (fun _ _ _ _ _ => pe_call G hr rfl mF F.kp bF .nil pass0 (pa_cons (pv 1) pa_nil))) pa_nil)))) pss_nil)
      (pss_one (ps_ret (pv 0))), ?_⟩
    refine ⟨_, rfl, (by show 2 ≤ sizeLine; decide), fun t ht => ?_⟩
    have g1 : Same H (upd H t (.tup [.ty "list", .ty "tuple"])) := same_new ht _
    refine ⟨_, t, _, .type "list", [.type "list", .type "tuple"], true, rfl, upd_same, .cons (.ty _) (.cons (.ty _) .nil), tyL (g1.seq hS), is_seqL, _, rfl, ?_⟩
    refine iteT ?_
    refine ⟨_, rfl, a, rfl, ⟨_, g1.seq hS⟩, fun D hD => ?_⟩
    have hD0 : H D = none := g1.free hD
    refine lc_list (K := K) (a := a) (xs := is.map V.str) (InvSt H D is) ⟨upd_same, same_over g1 hD0 _⟩ (fun i H' _ ⟨_, g⟩ => g.seq hS) (fun i x H' hx hi => ⟨rfl, kept (turn (te := fun _ _ _ => True) hD0 i x H' hx hi)⟩) ?_
    rintro H' ⟨hd, g⟩
    rw [List.length_map, List.take_length] at hd
    refine ⟨D, _, rfl, SqL.of hd, fun l o hl0 hc hdn => ?_⟩
    exact q l _ (g.trans (same_new hl0 _)) (g.free hl0) (TzAt.of upd_same hc hdn)
  · refine ⟨_, pss_cons (ps_if (pt_val (pe_callB call_isiT (by rfl) B.isi (by decide +kernel) (pa_cons (pv 0) (pa_cons (pe_tup (pa_cons (pe_bltn (v := .ty "list") (by rfl) B.lst (by decide +kernel) rfl) (pa_cons (pe_bltn (v := .ty "tuple") (by rfl) B.tup (by decide +kernel) rfl) pa_nil))) pa_nil))))
        (pss_one (ps_ret (pe_callTy call_tuple_frz (by rfl) B.tup (by decide +kernel) (pa_cons (pe_lc (own := [("part", 1)]) (g := gName 1) (tt := tYes) rfl scF.nd (pi_tup (pv 0)) (blkOk_by (N := ["worth", "part"]) (sc := defScope sFrozen) (by decide +kernel))
          (fun _ _ _ _ _ => pg_name (i := 1) scF.nd rfl (Or.inl rfl)) (fun _ _ _ _ _ => pts_nil) (fun _ _ _ _ _ => pe_call G hr rfl mF F.kp bF .nil pass0 (pa_cons (pv 1) pa_nil))) pa_nil)))) pss_nil)
      (pss_one (ps_ret (pv 0))), ?_⟩
    refine ⟨_, rfl, (by show 2 ≤ sizeLine; decide), fun t ht => ?_⟩
    have g1 : Same H (upd H t (.tup [.ty "list", .ty "tuple"])) := same_new ht _
    refine ⟨_, t, _, .type "tuple", [.type "list", .type "tuple"], true, rfl, upd_same, .cons (.ty _) (.cons (.ty _) .nil), tyT (seqT g1 hS), is_seq (by decide +kernel) (by decide +kernel), _, rfl, ?_⟩
    refine iteT ?_
    refine ⟨_, rfl, a, rfl, ⟨_, seqT g1 hS⟩, fun D hD => ?_⟩
    have hD0 : H D = none := g1.free hD
    refine lc_tup (K := K) (a := a) (xs := is.map V.str) (InvSt H D is) ⟨upd_same, same_over g1 hD0 _⟩ (fun i H' _ ⟨_, g⟩ => seqT g hS) (fun i x H' hx hi => ⟨rfl, kept (turn (te := fun _ _ _ => True) hD0 i x H' hx hi)⟩) ?_
    rintro H' ⟨hd, g⟩
    rw [List.length_map, List.take_length] at hd
    refine ⟨D, _, rfl, SqL.of hd, fun l o hl0 hc hdn => ?_⟩
    exact q l _ (g.trans (same_new hl0 _)) (g.free hl0) (TzAt.of upd_same hc hdn)
end
end Lw
namespace Lw
open PySem L2 EnT
abbrev sChkL : Stmt := topS 15
/-- more of the names that the text leaves to Python -/
structure Bx (mg : Str → Option Value) : Prop where
  sorted : mg "sorted" = none
  enum : mg "enumerate" = none
  str : mg "str" = none
theorem sIx_none (n d : Nat) : HT.sIx n d none = d := rfl
theorem sIx_nat (n d i : Nat) : HT.sIx n d (some (i : Int)) = min i n := by
  unfold HT.sIx
  simp only
  split
  · omega
  · omega
theorem cut_take (xs : List V) (i : Nat) (h : i ≤ xs.length) : cutV xs none (some (i : Int)) = xs.take i := by
  unfold cutV
  rw [sIx_nat, sIx_none, List.drop_zero, Nat.sub_zero, Nat.min_eq_left h]
theorem in_strs (z : Str) : ∀ ls : List Str, inV (.str z) (ls.map V.str) = decide (z ∈ ls)
  | [] => by simp [inV]
  | y :: r => by
    have q := in_strs z r
    unfold inV at q ⊢
    rw [List.map_cons, List.any_cons, q]
    show ((y == z) || decide (z ∈ r)) = decide (z ∈ y :: r)
    by_cases h : y = z
    · subst h
      simp
    · have h2 : ¬ z = y := fun e => h e.symm
      simp [h, h2]
theorem flat_strs' (ls : List Str) : (ls.map V.str).all flatV = true := by
  rw [List.all_eq_true]
  intro x hx
  obtain ⟨i, _, rfl⟩ := List.mem_map.mp hx
  rfl
theorem for_enumT {K : PySem.W.Frag} {a : Addr} {xs : List V} {g : TG} {tb : TS} {D : Ends} {σ : St} {H : Hp} (Pv : Nat → St → Hp → Prop) (h0 : Pv 0 σ H) (hl : ∀ i σ H, Pv i σ H → SqT K H a xs)
    (hs : ∀ i σ H x T, xs[i]? = some x → Pv i σ H → H T = none → g (.ref T) σ (upd H T (.tup [.int (i : Nat), x])) fun σ2 H2 => tb { D with nx := Pv (i + 1), ct := Pv (i + 1), bk := D.nx } σ2 H2) (hd : ∀ σ H, Pv xs.length σ H → D.nx σ H) :
    ∃ W : Nat → Nat → St → Hp → Prop, (∃ m, W 0 m σ H) ∧ ∀ i m σ H, W i m σ H →
      ((EnT.IteT K a).stop i H ∧ D.nx σ H) ∨ ((EnT.IteT K a).go i H ∧ ∃ N : St → Hp → Prop, (∀ σ' H', N σ' H' → ∃ m', m' < m ∧ W (i + 1) m' σ' H') ∧ ∀ x H', (EnT.IteT K a).yld i H x H' → g x σ H' fun σ2 H2 => tb { D with nx := N, ct := N, bk := D.nx } σ2 H2) := by
  refine ⟨fun i m σ H => m = xs.length - i ∧ i ≤ xs.length ∧ Pv i σ H, ⟨xs.length, by simp, Nat.zero_le _, h0⟩, ?_⟩
  rintro i m σ H ⟨rfl, hi, p⟩
  have sq := hl i σ H p
  by_cases hlt : i < xs.length
  · refine .inr ⟨⟨xs, xs[i], sq, List.getElem?_eq_getElem hlt⟩, Pv (i + 1), fun σ' H' p' => ⟨xs.length - (i + 1), by omega, rfl, hlt, p'⟩, fun x H' y => ?_⟩
    obtain ⟨T, x', rfl, hT, rfl, hx⟩ := y
    exact hs i σ H x' T (hx xs sq) p hT
  · have e : i = xs.length := by omega
    subst e
    exact .inl ⟨⟨xs, sq, rfl⟩, hd σ H p⟩
section
variable {P : Program} {w : World} {K : PySem.W.Frag} {mg : Str → Option Value} {base : Heap} {f : Addr} {fd : FuncData}
def spChkL (K : PySem.W.Frag) : Sp := fun vs H Q _ => ∃ (t : Addr) (ls : List Str), vs = [.ref t] ∧ SqT K H t (ls.map V.str) ∧ ls.length ≤ 100 ∧ ls.Nodup ∧ ∀ H' : Hp, Same H H' → Q .non H'
theorem scCL : FnScope ["letters", "at", "letter"] ["letters"] (defScope sChkL) := ⟨rfl, rfl, rfl, by decide +kernel, rfl, by decide +kernel, by decide +kernel⟩
theorem ok_chkL (F : Fun K "check_letters" "check_letters" sChkL f fd) (B2 : Bx mg) : FnOk P w K mg base CX0 1 f fd ["letters"] (spChkL K) := by
  refine F.ok scCL (fun vs H Q E h => ?_) (fun cdv A outer s H vs Q E hr h => ?_)
  · obtain ⟨t, ls, rfl, _⟩ := h
    rfl
  obtain ⟨t, ls, rfl, ht, hl, hn, k⟩ := h
  refine ⟨_, pss_one (ps_for PassesOwn.never rfl (EnT.pi_enumT (by rfl) B2.enum (pa_cons (pv 0) pa_nil)) (pg_tup rfl (pgs_cons (pg_name (i := 1) scCL.nd rfl (Or.inl rfl)) (pgs_cons (pg_name (i := 2) scCL.nd rfl (Or.inl rfl)) pgs_nil)))
    (pss_one (ps_if (pt_cmpR (r := rIn K false) op_in_seq (pv 2) (pe_slice sl_tupA (pv 0) po_none (po_some (pv 1))) (by rfl)) (pss_one ps_never) pss_nil))), ?_⟩
  refine ⟨_, rfl, t, _, rfl, ht, for_enumT (K := K) (a := t) (xs := ls.map V.str) (fun i σ' H' => (∃ u v : Option V, σ' = [some (.ref t), u, v]) ∧ Same H H') ⟨⟨_, _, rfl⟩, Same.refl H⟩ (fun i σ' H' ⟨_, g⟩ => seqT g ht) (fun i σ' H' x T hx ⟨⟨u, v, e⟩, g⟩ hT => ?_) (fun σ' H' ⟨_, g⟩ => k H' g)⟩
  subst e
  rw [List.getElem?_map] at hx
  cases ez : ls[i]? with
  | none => rw [ez] at hx; cases hx
  | some z =>
    rw [ez] at hx
    cases hx
    have hi : i < ls.length := (List.getElem?_eq_some_iff.mp ez).1
    have gT := same_new hT (.tup [.int (i : Nat), .str z])
    have htT := seqT (g.trans gT) ht
    have no : decide (z ∈ ls.take i) = false := by
      refine decide_eq_false fun hm => ?_
      obtain ⟨j, hj, ej⟩ := List.getElem_of_mem hm
      rw [List.length_take] at hj
      rw [List.getElem_take] at ej
      obtain ⟨_, e2⟩ := List.getElem?_eq_some_iff.mp ez
      exact absurd ((List.getElem_inj hn).mp (ej.trans e2.symm)) (by omega)
    have ecut : cutV (ls.map V.str) none (some (i : Int)) = (ls.take i).map V.str := by
      rw [cut_take _ _ (by rw [List.length_map]; omega), List.map_take]
    refine ⟨T, _, rfl, SqT.of upd_same, rfl, _, _, rfl, _, _, rfl, rfl, ?_⟩
    refine ⟨_, rfl, _, rfl, _, rfl, _, rfl, t, _, rfl, htT, fun hw => ?_, fun _ p hp => ?_⟩
    · exfalso
      have z2 := hw.2
      rw [sIx_nat, List.length_map] at z2
      omega
    · have gp := same_new hp (.tup (cutV (ls.map V.str) none (some (i : Int))))
      refine ⟨p, _, rfl, .inr (SqT.of upd_same), rfl, by rw [ecut]; exact flat_strs' _, _, rfl, ?_⟩
      have e3 : inV (.str z) (cutV (ls.map V.str) none (some (i : Int))) = false := by
        rw [ecut, in_strs]
        exact no
      exact iteN (c := inV (.str z) (cutV (ls.map V.str) none (some (i : Int)))) e3 ⟨⟨_, _, rfl⟩, (g.trans gT).trans gp⟩
end
end Lw
namespace Lw
open PySem L2 TzR
abbrev sUini : Stmt := inClass (topS 17) 0
/-- a use of the program: its name, its letters, its form -/
def UseAt (K : PySem.W.Frag) (U C : Addr) (H : Hp) (p : Addr) (nm : Str) (ls : List Str) (q : Addr) (ks : List Str) (is : List Int) : Prop :=
  ∃ dx tl : Addr, H p = some (.ins U dx [("name", .str nm), ("letters", .ref tl), ("form", .ref q)]) ∧ TzAt H tl (ls.map V.str) ∧ FormAt K C q ks is H
theorem UseAt.same {K : PySem.W.Frag} {U C : Addr} {H H' : Hp} {p q : Addr} {nm : Str} {ls ks : List Str} {is : List Int} (g : Same H H') : UseAt K U C H p nm ls q ks is → UseAt K U C H' p nm ls q ks is
  | ⟨dx, tl, h1, h2, h3⟩ => ⟨dx, tl, g _ _ h1, tzS g h2, h3.same g⟩
theorem tzK {H H' : Hp} {p q : Addr} {xs : List V} {U dx : Addr} {fs : List (Str × V)} (k : Kp p H H') (hp : H p = some (.ins U dx fs)) : TzAt H q xs → TzAt H' q xs
  | ⟨o, h, z⟩ => ⟨o, k _ _ (fun e => by rw [e, hp] at h; cases h) h, z⟩
structure Us (K : PySem.W.Frag) (U C : Addr) : Prop where
  cl : Cls K U
  nN : PySem.W.findIn K (.ref U) "name" = some none
  nL : PySem.W.findIn K (.ref U) "letters" = some none
  nF : PySem.W.findIn K (.ref U) "form" = some none
  clC : Cls K C
  nK : PySem.W.findIn K (.ref C) "kinds" = some none
theorem scUi : FnScope ["self", "name", "letters", "form"] ["self", "name", "letters", "form"] (defScope sUini) := ⟨rfl, rfl, rfl, by decide +kernel, rfl, by decide +kernel, by decide +kernel⟩
def spUini (K : PySem.W.Frag) (U C : Addr) : Sp := fun vs H Q _ => ∃ (p dx l q : Addr) (nm : Str) (ls ks : List Str) (is : List Int), vs = [.ref p, .str nm, .ref l, .ref q] ∧ H p = some (.ins U dx []) ∧ (SqL K H l (ls.map V.str) ∨ SqT K H l (ls.map V.str)) ∧ ls.length ≤ 100 ∧ ls.Nodup ∧ FormAt K C q ks is H ∧ ks.length = ls.length ∧
  ∀ (H' : Hp) (tl : Addr), Kp p H H' → H' p = some (.ins U dx [("name", .str nm), ("letters", .ref tl), ("form", .ref q)]) → TzAt H' tl (ls.map V.str) → Q .non H'
theorem FormAt.kp {K : PySem.W.Frag} {C p q U dx : Addr} {fs : List (Str × V)} {ks : List Str} {is : List Int} {H H' : Hp} (k : Kp p H H') (hp : H p = some (.ins U dx [])) : FormAt K C q ks is H → FormAt K C q ks is H'
  | ⟨dx', tk, ta, h1, h2, h3⟩ => by
    have nq : q ≠ p := fun e => by
      rw [e, hp] at h1
      cases h1
    exact ⟨dx', tk, ta, k _ _ nq h1, k.seq hp h2, k.seq hp h3⟩
section
variable {P : Program} {w : World} {K : PySem.W.Frag} {mg : Str → Option Value} {base : Heap} {f U C gF gC : Addr} {fd dF dC : FuncData}
theorem ok_uini (F : Fun K "__init__" "Use.__init__" sUini f fd) (T : Us K U C) (B : Bt mg) (GF : FnOk P w K mg base CX0 2 gF dF ["worth"] (spFrzS K)) (bF : Binds K dF ["worth"] []) (kF : PySem.W.keepIn K (.ref gF) = true) (mF : mg "frozen" = some (.ref gF))
    (GC : FnOk P w K mg base CX0 1 gC dC ["letters"] (spChkL K)) (bC : Binds K dC ["letters"] []) (kC : PySem.W.keepIn K (.ref gC) = true) (mC : mg "check_letters" = some (.ref gC)) : FnOk P w K mg base CX0 3 f fd ["self", "name", "letters", "form"] (spUini K U C) := by
  refine F.ok scUi (fun vs H Q E h => ?_) (fun cdv A outer s H vs Q E hr h => ?_)
  · obtain ⟨p, dx, l, q, nm, ls, ks, is, rfl, _⟩ := h
    rfl
  obtain ⟨p, dx, l, q, nm, ls, ks, is, rfl, hp, hS, hl, hn, hq, hkl, k⟩ := h
  refine ⟨_, pss_cons (ps_fld (pv 0) (pv 1) rfl) (pss_cons (ps_fld (pv 0) (pe_call GF hr rfl mF kF bF .nil pass0 (pa_cons (pv 2) pa_nil)) rfl) (pss_cons (ps_fld (pv 0) (pv 3) rfl)
    (pss_cons (ps_expr (pe_call GC (hr.mono (by decide)) rfl mC kC bC .nil pass0 (pa_cons (pe_fld (pv 0) rfl) pa_nil)))
    (pss_one (ps_if (pt_cmpR op_ne (pe_callB call_len_seq (by rfl) B.len PySem.boot_len (pa_cons (pe_fld (pv 3) rfl) pa_nil)) (pe_callB call_len_seq (by rfl) B.len PySem.boot_len (pa_cons (pe_fld (pv 0) rfl) pa_nil)) (nomark _)) (pss_one ps_never) pss_nil))))), ?_⟩
  have l0 : ls.length ≤ 1000 := by omega
  refine ⟨_, rfl, _, rfl, p, U, dx, _, rfl, hp, T.cl, T.nN, (by show 0 < 1000; decide), ?_⟩
  have k1 : Kp p H (upd H p (.ins U dx (putF "name" (.str nm) []))) := fun b o n e => by rw [upd_ne n]; exact e
  have hS1 := hS.imp (fun z => k1.seqL hp z) (fun z => k1.seq hp z)
  have hp1 : (upd H p (.ins U dx (putF "name" (.str nm) []))) p = _ := upd_same
  revert k1 hS1 hp1
  generalize upd H p (.ins U dx (putF "name" (.str nm) [])) = H1
  intro k1 hS1 hp1
  refine ⟨_, rfl, l, ls, rfl, hS1, l0, fun tl H2 g2 n2 h2 => ?_⟩
  have hp2 := g2 _ _ hp1
  refine ⟨_, rfl, p, U, dx, _, rfl, hp2, T.cl, T.nL, (by show 1 < 1000; decide), ?_⟩
  have k2 : Kp p H2 (upd H2 p (.ins U dx (putF "letters" (.ref tl) (putF "name" (.str nm) [])))) := fun b o n e => by rw [upd_ne n]; exact e
  have ht3 := tzK k2 hp2 h2
  have hp3 : (upd H2 p (.ins U dx (putF "letters" (.ref tl) (putF "name" (.str nm) [])))) p = _ := upd_same
  have k3 : Kp p H (upd H2 p (.ins U dx (putF "letters" (.ref tl) (putF "name" (.str nm) [])))) := fun b o n e => k2 b o n (g2 _ _ (k1 b o n e))
  revert ht3 hp3 k3
  generalize upd H2 p (.ins U dx (putF "letters" (.ref tl) (putF "name" (.str nm) []))) = H3
  intro ht3 hp3 k3
  refine ⟨_, rfl, _, rfl, p, U, dx, _, rfl, hp3, T.cl, T.nF, (by show 2 < 1000; decide), ?_⟩
  have k4 : Kp p H3 (upd H3 p (.ins U dx [("name", .str nm), ("letters", .ref tl), ("form", .ref q)])) := fun b o n e => by rw [upd_ne n]; exact e
  have ht4 := tzK k4 hp3 ht3
  have hp4 : (upd H3 p (.ins U dx [("name", .str nm), ("letters", .ref tl), ("form", .ref q)])) p = some (.ins U dx [("name", .str nm), ("letters", .ref tl), ("form", .ref q)]) := upd_same
  have k5 : Kp p H (upd H3 p (.ins U dx [("name", .str nm), ("letters", .ref tl), ("form", .ref q)])) := fun b o n e => k4 b o n (k3 b o n e)
  have hq5 := hq.kp (fs := []) k5 hp
  obtain ⟨dxq, tk, ta, hq1, hq2, hq3⟩ := hq5
  refine ⟨_, rfl, p, U, dx, _, _, rfl, hp4, T.cl, T.nL, rfl, tl, ls, rfl, ht4.seq, hl, hn, fun H5 g5 => ?_⟩
  refine ⟨_, rfl, q, C, dxq, _, _, rfl, g5 _ _ hq1, T.clC, T.nK, flds_k _ _, tk, _, rfl, .inr (seqT g5 hq2), _, rfl, p, U, dx, _, _, rfl, g5 _ _ hp4, T.cl, T.nL, rfl, tl, _, rfl, .inr (seqT g5 ht4.seq), rfl, _, rfl, ?_⟩
  refine iteN (by rw [List.length_map, List.length_map, hkl, dec_int]; simp) ?_
  exact k H5 tl (fun b o n e => g5 _ _ (k5 b o n e)) (g5 _ _ hp4) (tzS g5 ht4)
end
end Lw
/-! operators of the program's own classes: x op y, x op= y, op x by the class's own defs; order of data -/
namespace OwB
open PySem PySem.Spec PyProof.Rows L2
section
variable {X : Cx} {CX : CXT} {k : Nat} {g C : Addr} {gd : FuncData} {ps : List Str} {sp : Sp} {E : XK}
theorem inst_of {pins : List (Addr × Obj)} {σ : L2.St} {H : Hp} {s : Shared} {a dx : Addr} {fs : List (Str × V)} (I : Inv X pins σ H s) (h : H a = some (.ins C dx fs)) : ∃ od, PySem.W.InstAt s.heap a (PySem.W.instObj C dx) C (some od) := by
  obtain ⟨mA, O, _⟩ := ins_get I.hok h
  obtain ⟨od, J, _⟩ := O.look
  exact ⟨od, J⟩
theorem back_of {pins : List (Addr × Obj)} {σ : L2.St} {Q : VK} {v : Value} {s' : Shared} (h : EP X pins σ Q v s') : PySem.W.CmpBack (EP X pins σ Q) v s' := by
  obtain ⟨z, H', I', rz, qz⟩ := h
  exact SlX.cmpback rz ⟨z, H', I', rz, qz⟩
/-- the def at g stands for the class at C under the name x -/
structure OpD (K : PySem.W.Frag) (C g : Addr) (x : Str) : Prop where
  at_ : PySem.W.findIn K (.ref C) x = some (some (.ref g))
  fn : PySem.W.isFn K (.ref g) = true
/-- x op y, both instances of the class at C -/
def rOwnI (C : Addr) (sp : Sp) (E : XK) : R2 := fun x y H Q => ∃ a b dx dy fs gs, x = .ref a ∧ y = .ref b ∧ H a = some (.ins C dx fs) ∧ H b = some (.ins C dy gs) ∧ sp [x, y] H Q E
theorem op_ownB {op : Operator} (hc : PySem.W.selfFirst X.K C = true) (D : OpD X.K C g (PySem.dunder op.info.2)) (F : FnOk X.prog X.w X.K X.mg X.base CX k g gd ps sp) (hr : Room k X.A) (hb : Binds X.K gd ps []) (hx : Passes CX X E) :
    OpR X (binaryOp op) (rOwnI C sp E) := by
  intro pins s σ H x y v u Q I rx ry h
  obtain ⟨a, b, dx, dy, fs, gs, rfl, rfl, ha, hb', q⟩ := h
  cases (show v = Value.ref a from rx)
  cases (show u = Value.ref b from ry)
  obtain ⟨od, J⟩ := inst_of I ha
  obtain ⟨od', J'⟩ := inst_of I hb'
  obtain ⟨m, hF⟩ := I.fr
  refine PySem.W.binop_K hF I.ok.mod.kin J J'.type hc D.at_ D.fn ?_
  exact wpAny_mono (run_fn (us := [.ref a, .ref b]) (vs := [.ref a, .ref b]) F hr hb .nil hx I (.cons rfl (.cons rfl .nil)) q) (fun w s' z => back_of z) fun _ _ x => x
theorem op_ownC {op : CmpOp} (hop : ∀ a b, compareOp op a b = richCompare op a b) (D : OpD X.K C g (cmpInfo op).2.1) (F : FnOk X.prog X.w X.K X.mg X.base CX k g gd ps sp) (hr : Room k X.A) (hb : Binds X.K gd ps []) (hx : Passes CX X E) :
    OpR X (compareOp op) (rOwnI C sp E) := by
  intro pins s σ H x y v u Q I rx ry h
  obtain ⟨a, b, dx, dy, fs, gs, rfl, rfl, ha, hb', q⟩ := h
  cases (show v = Value.ref a from rx)
  cases (show u = Value.ref b from ry)
  obtain ⟨od, J⟩ := inst_of I ha
  obtain ⟨od', J'⟩ := inst_of I hb'
  obtain ⟨m, hF⟩ := I.fr
  rw [hop]
  refine PySem.W.cmp_K (op := op) (tb := .ref C) hr.units0 hF I.ok.mod.kin J J'.type ?_ D.at_ D.fn ?_
  · unfold PySem.W.notFirst
    rw [beq_self_eq_true, Bool.true_or]
  exact wpAny_mono (run_fn (us := [.ref a, .ref b]) (vs := [.ref a, .ref b]) F hr hb .nil hx I (.cons rfl (.cons rfl .nil)) q) (fun w s' z => back_of z) fun _ _ x => x
/-- x op= y, x an instance of the class at C -/
def rOwnA (C : Addr) (sp : Sp) (E : XK) : R2 := fun x y H Q => ∃ a dx fs, x = .ref a ∧ H a = some (.ins C dx fs) ∧ sp [x, y] H Q E
theorem op_ownA {op : Operator} (hc : PySem.W.selfFirst X.K C = true) (D : OpD X.K C g (PySem.dunderI op.info.2)) (F : FnOk X.prog X.w X.K X.mg X.base CX k g gd ps sp) (hr : Room k X.A) (hb : Binds X.K gd ps []) (hx : Passes CX X E) :
    OpR X (inplaceOp op) (rOwnA C sp E) := by
  intro pins s σ H x y v u Q I rx ry h
  obtain ⟨a, dx, fs, rfl, ha, q⟩ := h
  cases (show v = Value.ref a from rx)
  obtain ⟨od, J⟩ := inst_of I ha
  obtain ⟨m, hF⟩ := I.fr
  refine PySem.W.ksp_inplace hF I.ok.mod.kin J hc D.at_ D.fn ?_
  exact wpAny_mono (run_fn (us := [.ref a, u]) (vs := [.ref a, y]) F hr hb .nil hx I (.cons rfl (.cons ry .nil)) q) (fun w s' z => back_of z) fun _ _ x => x
/-- op x -/
def rOwnU (C : Addr) (sp : Sp) (E : XK) : V → Hp → VK → Prop := fun x H Q => ∃ a dx fs, x = .ref a ∧ H a = some (.ins C dx fs) ∧ sp [x] H Q E
theorem un_own_neg (D : OpD X.K C g "__neg__") (F : FnOk X.prog X.w X.K X.mg X.base CX k g gd ps sp) (hr : Room k X.A) (hb : Binds X.K gd ps []) (hx : Passes CX X E) : UnR X (unaryOp .USub) (rOwnU C sp E) := by
  intro pins s σ H x v Q I rx h
  obtain ⟨a, dx, fs, rfl, ha, q⟩ := h
  cases (show v = Value.ref a from rx)
  obtain ⟨od, J⟩ := inst_of I ha
  obtain ⟨m, hF⟩ := I.fr
  exact PySem.W.ksp_neg hF I.ok.mod.kin J D.at_ D.fn (run_fn (us := [.ref a]) (vs := [.ref a]) F hr hb .nil hx I (.cons rfl .nil) q)
theorem un_own_pos (D : OpD X.K C g "__pos__") (F : FnOk X.prog X.w X.K X.mg X.base CX k g gd ps sp) (hr : Room k X.A) (hb : Binds X.K gd ps []) (hx : Passes CX X E) : UnR X (unaryOp .UAdd) (rOwnU C sp E) := by
  intro pins s σ H x v Q I rx h
  obtain ⟨a, dx, fs, rfl, ha, q⟩ := h
  cases (show v = Value.ref a from rx)
  obtain ⟨od, J⟩ := inst_of I ha
  obtain ⟨m, hF⟩ := I.fr
  exact PySem.W.ksp_pos hF I.ok.mod.kin J D.at_ D.fn (run_fn (us := [.ref a]) (vs := [.ref a]) F hr hb .nil hx I (.cons rfl .nil) q)
theorem un_own_inv (D : OpD X.K C g "__invert__") (F : FnOk X.prog X.w X.K X.mg X.base CX k g gd ps sp) (hr : Room k X.A) (hb : Binds X.K gd ps []) (hx : Passes CX X E) : UnR X (unaryOp .Invert) (rOwnU C sp E) := by
  intro pins s σ H x v Q I rx h
  obtain ⟨a, dx, fs, rfl, ha, q⟩ := h
  cases (show v = Value.ref a from rx)
  obtain ⟨od, J⟩ := inst_of I ha
  obtain ⟨m, hF⟩ := I.fr
  exact PySem.W.ksp_inv hF I.ok.mod.kin J D.at_ D.fn (run_fn (us := [.ref a]) (vs := [.ref a]) F hr hb .nil hx I (.cons rfl .nil) q)
/-- x op i, x an instance, i an int -/
def rOwnN (C : Addr) (sp : Sp) (E : XK) : R2 := fun x y H Q => ∃ a dx fs i, x = .ref a ∧ y = .int i ∧ H a = some (.ins C dx fs) ∧ sp [x, y] H Q E
theorem op_ownN {op : Operator} {fo ro rc : Option Value} (hc : PySem.W.selfFirst X.K C = true) (D : OpD X.K C g (PySem.dunder op.info.2)) (hr' : PySem.W.findIn X.K (.ref C) (PySem.dunderR op.info.2) = some rc) (hp : rc = none ∨ ∃ g : Addr, rc = some (.ref g))
    (h1 : PySem.W.findIn X.K (.type "int") (PySem.dunder op.info.2) = some fo) (h2 : PySem.W.findIn X.K (.type "int") (PySem.dunderR op.info.2) = some ro) (hsub : PySem.W.subIn X.K (.type "int") (.ref C) = some false)
    (F : FnOk X.prog X.w X.K X.mg X.base CX k g gd ps sp) (hr : Room k X.A) (hb : Binds X.K gd ps []) (hx : Passes CX X E) : OpR X (binaryOp op) (rOwnN C sp E) := by
  intro pins s σ H x y v u Q I rx ry h
  obtain ⟨a, dx, fs, i, rfl, rfl, ha, q⟩ := h
  cases (show v = Value.ref a from rx)
  obtain ⟨t, rfl⟩ := (show ∃ t, u = Value.int i t from ry)
  obtain ⟨od, J⟩ := inst_of I ha
  obtain ⟨m, hF⟩ := I.fr
  refine PySem.W.ksp_binT (b := .int i t) hF I.ok.mod.kin J rfl hc D.at_ D.fn hr' hp h1 h2 hsub ?_
  exact wpAny_mono (run_fn (us := [.ref a, .int i t]) (vs := [.ref a, .int i]) F hr hb .nil hx I (.cons rfl (.cons ⟨t, rfl⟩ .nil)) q) (fun w s' z => back_of z) fun _ _ x => x
end
/-! ### the order of data -/
section
variable {X : Cx}
def rCmpD (K : PySem.W.Frag) (p : PyData → PyData → Bool) : R2 := fun x y H Q => ∃ d e, Dp K H x d ∧ Dp K H y e ∧ PySem.W.alike d e = true ∧ d ≠ .none ∧ min d.depth e.depth ≤ 32 ∧ Q (.bl (p d e)) H
theorem op_ltD (hu : X.A.units + 64 < cLine) : OpR X (compareOp .Lt) (rCmpD X.K fun d e => PySem.W.dataLt d e) := by
  intro pins s σ H x y v u Q I rx ry ⟨d, e, hd, he, ha, hn, hl, q⟩
  obtain ⟨as, r1⟩ := Dp.reads I d x v hd rx
  obtain ⟨bs, r2⟩ := Dp.reads I e y u he ry
  exact PySem.W.lt_data r1 r2 ha hn (by omega) ⟨.bl _, H, I, rfl, q⟩
theorem op_gtD (hu : X.A.units + 64 < cLine) : OpR X (compareOp .Gt) (rCmpD X.K fun d e => PySem.W.dataLt e d) := by
  intro pins s σ H x y v u Q I rx ry ⟨d, e, hd, he, ha, hn, hl, q⟩
  obtain ⟨as, r1⟩ := Dp.reads I d x v hd rx
  obtain ⟨bs, r2⟩ := Dp.reads I e y u he ry
  exact PySem.W.gt_data r1 r2 ha hn (by omega) ⟨.bl _, H, I, rfl, q⟩
theorem op_leD (hu : X.A.units + 64 < cLine) : OpR X (compareOp .LtE) (rCmpD X.K fun d e => !PySem.W.dataLt e d) := by
  intro pins s σ H x y v u Q I rx ry ⟨d, e, hd, he, ha, hn, hl, q⟩
  obtain ⟨as, r1⟩ := Dp.reads I d x v hd rx
  obtain ⟨bs, r2⟩ := Dp.reads I e y u he ry
  exact PySem.W.le_data r1 r2 ha hn (by omega) ⟨.bl _, H, I, rfl, q⟩
theorem op_geD (hu : X.A.units + 64 < cLine) : OpR X (compareOp .GtE) (rCmpD X.K fun d e => !PySem.W.dataLt d e) := by
  intro pins s σ H x y v u Q I rx ry ⟨d, e, hd, he, ha, hn, hl, q⟩
  obtain ⟨as, r1⟩ := Dp.reads I d x v hd rx
  obtain ⟨bs, r2⟩ := Dp.reads I e y u he ry
  exact PySem.W.ge_data r1 r2 ha hn (by omega) ⟨.bl _, H, I, rfl, q⟩
end
end OwB
/-! list(text): its signs -/
namespace LiS
open PySem PySem.Spec PyProof.Rows L2
section
variable {prog : Program} {w : World} {A : Around} {E : Value → Shared → Prop} {s : Shared} {x : Str} {t : Tok}
theorem hint_str {Q : Bool → Shared → Prop} (h : Q false s) : wpAny (model prog w) A (Builtin.List.listLengthHint (.str x t)) Q E s := by
  unfold Builtin.List.listLengthHint
  refine wpAny_bind (wpAny_specialOf (typeIs_str s x t) PySem.F.slot_str_len.lookup ?_)
  generalize hid : ("str.__len__" : String) = id0
  wp_delta
  rw [show splitId id0 = some ("str", "__len__") from by subst hid; decide +kernel]
  subst hid
  refine wpAny_bind (wpAny_isInstance (T := "str") (b := true) (typeIs_str s x t) (by rw [isSubtype_type]; kernel_rfl) ?_)
  refine wpAny_ite_split (fun hab => absurd hab (by decide)) (fun _ => ?_)
  refine wpAny_ite_split (fun _ => ?_) (fun hab => absurd (by decide +kernel) hab)
  refine wpAny_bind (wpAny_typeOf (typeIs_str s x t) ?_)
  exact wpAny_pure h
theorem ext_str {R : Result → Shared → Prop} (hh : A.handled = none) (ha : x.cps.all (· < 128) = true) (S : Addr) (res : Value) (c₀ : Nat) (hS : s.heap.get? S = some { cls := .type "list", data := .seq #[] c₀ })
    (hR : ∀ h' tk acc' c', (∀ b o, b ≠ S → s.heap.get? b = some o → h'.get? b = some o) → h'.get? S = some { cls := .type "list", dict := none, data := .seq acc' c', slots := #[] } → ItemsOf (SignAt x) acc' x.cps.size → R (.ok (.ret res)) { s with heap := h', toks := tk }) (hn : x.cps.size ≤ sizeLine) :
    wpAny (model prog w) A.in1 (Builtin.List.listExtendWith (.ref S) (.str x t) res)
      (fun fin s' => match fin with | .done f => R (.ok f) s' | .again c' => c'.quiet = true ∧ codeAny (model prog w) A c' R s') (fun e s' => R (.error e) s') s := by
  have hSI : S ≠ s.heap.objs.size := Nat.ne_of_lt (Heap.lt_size hS)
  have hSf : S ∉ [s.heap.objs.size] := by simp only [List.mem_cons, List.not_mem_nil, or_false]; exact hSI
  have W := Walks.strAscii (prog := prog) (w := w) (A := A.in1) hh s.heap.objs.size x t
  have key : ∀ (h : Heap) (c₁ tk : Nat), h.IsStrIter s.heap.objs.size "str_ascii_iterator" x t 0 → (∀ b o, b ≠ S → s.heap.get? b = some o → h.get? b = some o) →
      h.get? S = some { cls := .type "list", data := .seq #[] c₁ } → codeAny (model prog w) A (.builtin "list.extend.loop" ⟨[.ref S, .ref s.heap.objs.size, res], []⟩) R { s with heap := h, toks := tk } := by
    intro h c₁ tk hst hk hS₁
    refine codeAny_extend_loopS W.toS hn S hSf res x.cps.size 0 _ #[] c₁ rfl (Nat.zero_le _) hst hS₁ (ItemsOf.nil _) fun s' acc' c' hm hS' hacc => ?_
    rw [Moved.eq_with hm]
    refine hR s'.heap s'.toks acc' c' (fun b o hb e => hm.heap b o (fun hmem => ?_) (hk b o hb e)) hS' hacc
    rcases List.mem_cons.mp hmem with e' | hmem
    · exact hb e'
    · exact absurd (Heap.lt_size e) (by rw [List.mem_singleton.mp hmem]; exact Nat.lt_irrefl _)
  unfold Builtin.List.listExtendWith
  refine wpAny_bind (wpAny_typeOf (T := "str") (typeIs_str s x t) ?_)
  have h1 : Builtin.List.listSameRef (.ref S) (.str x t) = false := rfl
  have h2 : (Value.type "str" == Value.type "list") = false := by decide
  have h3 : (Value.type "str" == Value.type "tuple") = false := by decide
  simp only [h1, h2, h3, Bool.or_false, Bool.false_eq_true, if_false]
  refine wpAny_bind (wpAny_pyIter_ascii ha ?_)
  have hS₁ := Heap.get?_push_of_some { cls := .type "str_ascii_iterator", data := .fields #[.str x t, .int 0 0] } hS
  have st : (s.heap.push { cls := .type "str_ascii_iterator", data := .fields #[.str x t, .int 0 0] }).IsStrIter s.heap.objs.size "str_ascii_iterator" x t 0 := ⟨_, Heap.get?_push_size _ rfl, rfl, rfl⟩
  refine wpAny_bind (wpAny_holding (hint_str ?_))
  refine wpAny_ite_split (fun _ => ?_) (fun _ => wpAny_pure ⟨plainId_quiet PySem.F.plain_extend_loop _, key _ c₀ _ st (fun b o _ e => Heap.get?_push_of_some _ e) hS₁⟩)
  refine wpAny_bind (wpAny_rule ?_)
  refine wpAny_bind ?_
  show wpAny _ _ (updateSeq S (·.push .none) >>= fun _ => updateSeq S (·.pop)) _ _ _
  refine wpAny_bind (wpAny_updateSeq hS₁ rfl ?_)
  have hS₂ := Heap.get?_update_self (Obj.mapSeq (·.push Value.none)) hS₁ rfl
  refine wpAny_updateSeq (hz := by seq_fits) hS₂ rfl ?_
  have hS₃ := Heap.get?_update_self (Obj.mapSeq (·.pop)) hS₂ rfl
  refine wpAny_pure ⟨plainId_quiet PySem.F.plain_extend_loop _, key _ _ _ ?_ (fun b o hb e => ?_) hS₃⟩
  · refine W.frame 0 _ _ st fun b hb o e => ?_
    have hbS : b ≠ S := fun h => hSf (h ▸ hb)
    exact (Heap.get?_update_other _ _ (Ne.symm hbS)).trans ((Heap.get?_update_other _ _ (Ne.symm hbS)).trans e)
  · exact (Heap.get?_update_other _ _ (Ne.symm hb)).trans ((Heap.get?_update_other _ _ (Ne.symm hb)).trans (Heap.get?_push_of_some _ e))
theorem ini_str {R : Result → Shared → Prop} (hh : A.handled = none) (ha : x.cps.all (· < 128) = true) (S : Addr) (hS : s.heap.get? S = some { cls := .type "list", data := .seq #[] })
    (hR : ∀ h' tk acc' c', (∀ b o, b ≠ S → s.heap.get? b = some o → h'.get? b = some o) → h'.get? S = some { cls := .type "list", dict := none, data := .seq acc' c', slots := #[] } → ItemsOf (SignAt x) acc' x.cps.size → R (.ok (.ret .none)) { s with heap := h', toks := tk }) (hn : x.cps.size ≤ sizeLine) :
    wpAny (model prog w) A.in1 (Builtin.«list.__init__» ⟨[.ref S, .str x t], []⟩)
      (fun fin s' => match fin with | .done f => R (.ok f) s' | .again c' => c'.quiet = true ∧ codeAny (model prog w) A c' R s') (fun e s' => R (.error e) s') s := by
  show wpAny _ _ (do let old ← Builtin.List.listItems (.ref S); Builtin.List.listUpdate (.ref S) (fun _ => #[]); letGo old.toList.reverse; Builtin.List.listExtendWith (.ref S) (.str x t) .none) _ _ s
  refine wpAny_bind ?_
  unfold Builtin.List.listItems
  refine wpAny_bind (wpAny_seqItems hS rfl (wpAny_pure ?_))
  show wpAny _ _ (updateSeq S (fun _ => #[]) >>= fun _ => letGo (#[] : Array Value).toList.reverse >>= fun _ => Builtin.List.listExtendWith (.ref S) (.str x t) .none) _ _ s
  refine wpAny_bind (wpAny_updateSeq hS rfl ?_)
  have hS₂ := Heap.get?_update_self (Obj.mapSeq (fun _ => (#[] : Array Value))) hS rfl
  have oth : ∀ b o, b ≠ S → s.heap.get? b = some o → (s.heap.update S (Obj.mapSeq (fun _ => (#[] : Array Value)))).get? b = some o :=
    fun b o hb e => (Heap.get?_update_other _ _ (Ne.symm hb)).trans e
  refine wpAny_bind (wpAny_letGo ?_)
  refine ext_str hh ha S .none _ hS₂ (fun h' tk acc' c' hk hS' hacc => ?_) hn
  exact hR h' tk acc' c' (fun b o hb e => hk b o hb (oth b o hb e)) hS' hacc
theorem call_str {Q : Value → Shared → Prop} (hh : A.handled = none) (ha : x.cps.all (· < 128) = true) (hn : x.cps.size ≤ sizeLine)
    (hQ : ∀ h' tk acc' c', (∀ b o, s.heap.get? b = some o → h'.get? b = some o) → h'.get? s.heap.objs.size = some { cls := .type "list", dict := none, data := .seq acc' c', slots := #[] } → ItemsOf (SignAt x) acc' x.cps.size → Q (.ref s.heap.objs.size) { s with heap := h', toks := tk }) :
    wpAny (model prog w) A (call (.type "list") [.str x t]) Q E s := by
  refine callType_codes (Q₁ := fun obj s₁ => obj = .ref s.heap.objs.size ∧ s₁ = { s with heap := s.heap.push { cls := .type "list", data := .seq #[] } }) PySem.F.called_list (PySem.F.typeCall_list_1 _) PySem.F.entry_list_init
    (code_list_new _ ⟨rfl, rfl⟩) fun obj s₁ h₁ => ?_
  obtain ⟨rfl, rfl⟩ := h₁
  have hS : (s.heap.push { cls := .type "list", data := .seq #[] }).get? s.heap.objs.size = some { cls := .type "list", data := .seq #[] } := Heap.get?_push_size _ rfl
  refine ⟨⟨_, hS, rfl⟩, PySem.F.args_list_init_2 _ _, ini_str (A := A.in1) hh ha _ hS (fun h' tk acc' c' hk hS' hacc => ?_) hn⟩
  exact ⟨rfl, hQ h' tk acc' c' (fun b o e => hk b o (Nat.ne_of_lt (Heap.lt_size e)) (Heap.get?_push_of_some _ e)) hS' hacc⟩
end
/-- the signs of a text, each a text -/
def signs (z : Str) : List V := z.cps.toList.map fun c => V.str ⟨#[c]⟩
theorem call_listS {X : Cx} (hc : X.calm = true) : CallR X (.type "list") (fun xs H Q => ∃ z, xs = [.str z] ∧ z.cps.all (· < 128) = true ∧ z.cps.size ≤ sizeLine ∧ ∀ l, H l = none → Q (.ref l) (upd H l (.lst (signs z)))) := by
  intro pins s σ H xs us Q I r h
  obtain ⟨z, e, ha, hn, q⟩ := h
  subst e
  obtain ⟨u, rfl, rx⟩ := vals1 r
  obtain ⟨t, rfl⟩ := rx
  refine call_str (I.ok.hd hc) ha hn fun h' tk acc' c' hkeep hS hacc => ?_
  refine ⟨.ref s.heap.objs.size, upd H s.heap.objs.size (.lst (signs z)), I.laid hkeep (Nat.le_refl _) (show ObjOk X.prog X.w _ _ _ (.lst (signs z)) from ⟨?_, acc'.toList, c', ?_, ?_⟩), rfl, q _ (I.hok.fresh (Nat.le_refl _))⟩
  · unfold signs
    rw [List.length_map, Array.length_toList]
    exact hn
  · have el : acc'.toList.length = acc'.size := by simp
    refine vals_of_at (by unfold signs; rw [List.length_map, Array.length_toList, el, hacc.1]) fun j v u h1 h2 => ?_
    obtain ⟨c, tk', hc', rfl⟩ := hacc.2 j u (by rw [← Array.getElem?_toList]; exact h2)
    unfold signs at h1
    rw [List.getElem?_map, Array.getElem?_toList, hc'] at h1
    cases h1
    exact ⟨tk', rfl⟩
  · rw [Array.toArray_toList]; exact hS
end LiS
namespace Lw.Tt
open PySem L2 Lw OwB
abbrev sMixed : Stmt := topS 38
abbrev sLet : Stmt := topS 40
theorem SX.upd_out {st q D : Addr} {H H' : Hp} {o : HO} (g : SX st q H H') (n : H D = none) : SX st q H (upd H' D o) := fun b u h1 h2 e => by rw [upd_ne (ne_of_none e n)]; exact g b u h1 h2 e
theorem Spr.upd {st q D : Addr} {H : Hp} {b : Int} {o : HO} (s : Spr H st q b) (n1 : D ≠ st) (n2 : D ≠ q) : Spr (upd H D o) st q b := by
  obtain ⟨ns, a, c, h1, h2, r⟩ := s
  exact ⟨ns, a, c, by rw [upd_ne n1.symm]; exact h1, by rw [upd_ne n2.symm]; exact h2, r⟩
theorem Spr.out {st q D : Addr} {H : Hp} {b : Int} (s : Spr H st q b) (n : H D = none) : D ≠ st ∧ D ≠ q := by
  obtain ⟨ns, a, c, h1, h2, _⟩ := s
  exact ⟨(ne_of_none h1 n).symm, (ne_of_none h2 n).symm⟩
theorem er_perm {α : Type} : ∀ (l : List α) (k : Nat) (h : k < l.length), (l[k] :: l.eraseIdx k).Perm l
  | a :: r, 0, _ => List.Perm.refl _
  | a :: r, k + 1, h => (List.Perm.swap _ _ _).trans (List.Perm.cons a (er_perm r k (Nat.lt_of_succ_lt_succ h)))
theorem er_map {α β : Type} (f : α → β) : ∀ (l : List α) (k : Nat), (l.map f).eraseIdx k = (l.eraseIdx k).map f
  | [], _ => rfl
  | a :: r, 0 => rfl
  | a :: r, k + 1 => congrArg (f a :: ·) (er_map f r k)
theorem pop_at {ls : List Str} {r : Int} (h0 : 0 ≤ r) (h1 : r < (ls.length : Int)) : ∃ (k : Nat) (n : Str), seqIndex? r (ls.map V.str).length = some k ∧ (ls.map V.str)[k]? = some (.str n) ∧ (ls.map V.str).eraseIdx k = (ls.eraseIdx k).map V.str ∧ (n :: ls.eraseIdx k).Perm ls ∧ (ls.eraseIdx k).length + 1 = ls.length := by
  have hk : r.toNat < ls.length := by omega
  refine ⟨r.toNat, ls[r.toNat], ?_, by rw [List.getElem?_map, List.getElem?_eq_getElem hk] <;> rfl, ?_, er_perm ls _ hk, by rw [List.length_eraseIdx_of_lt hk]; omega⟩
  · refine (ixN_seq (n := (ls.map V.str).length) (i := r) (j := r.toNat) ?_).1
    unfold ixN
    rw [if_pos h0, if_pos (by rw [List.length_map]; exact h1)]
  · rw [er_map]
/-- drawing one by one, out of ls -/
def InvMx (H0 : Hp) (st q L D : Addr) (b : Int) (is : List Str) (i : Nat) (H : Hp) : Prop := ∃ acc ls : List Str, H D = some (.lst (acc.map V.str)) ∧ H L = some (.lst (ls.map V.str)) ∧ acc.length = i ∧ ls.length + i = is.length ∧ (acc ++ ls).Perm is ∧ Spr H st q (b + i) ∧ SX st q H0 H
section
variable {P : Program} {w : World} {K : PySem.W.Frag} {mg : Str → Option Value} {base : Heap} {f g : Addr} {fd gd : FuncData}
abbrev tPop (K : PySem.W.Frag) (i : Nat) : TE := tBM K "list" rPopAt (tVar i) (tCons (tCall spDraw [] E0 (tCons (tVar 0) (tCons (tCB (fun xs H Q => ∃ p ys, xs = [.ref p] ∧ (SqL K H p ys ∨ SqT K H p ys) ∧ Q (.int ys.length) H) (tCons (tVar i) tNil)) tNil))) tNil)
/-- one turn -/
theorem pop_turn {st q L D : Addr} {b : Int} {is : List Str} {i : Nat} {H H2 : Hp} {σ : St} {Nx : Hp → Prop} (nL1 : L ≠ st) (nL2 : L ≠ q) (nD1 : D ≠ st) (nD2 : D ≠ q) (nDL : D ≠ L) (hL : H L = none) (hD : H D = none) (hb0 : 0 ≤ b) (hb1 : b ≤ 900) (h26 : is.length ≤ 50)
    (e0 : σ[0]? = some (some (.ref st))) (e2 : σ[2]? = some (some (.ref L))) (inv : InvMx H st q L D b is i H2) (hi : i < is.length) (nx : ∀ H3, InvMx H st q L D b is (i + 1) H3 → Nx H3) :
    tPop K 2 σ H2 fun y H3 => ∃ acc, H3 D = some (.lst acc) ∧ acc.length < sizeLine ∧ Nx (upd H3 D (.lst (acc ++ [y]))) := by
  obtain ⟨acc, ls, hd, hl2, ha, hn, hp2, hs2, gx⟩ := inv
  have hlen : (((ls.map V.str).length : Nat) : Int) = (ls.length : Int) := by rw [List.length_map]
  refine ⟨_, e2, .inl ⟨rfl, _, SqL.of hl2⟩, _, e0, _, e2, L, _, rfl, .inl (SqL.of hl2), st, q, b + i, _, rfl, hs2, by omega, by omega, by rw [hlen]; omega, by rw [hlen]; omega, fun r H3 r0 r1 hs3 g3 => ?_⟩
  have hd3 := g3 _ _ nD1 nD2 hd
  have hl3 := g3 _ _ nL1 nL2 hl2
  obtain ⟨j, n, e1, e2, e3, e4, e5⟩ := pop_at r0 (by rw [hlen] at r1; exact r1)
  refine ⟨L, _, r, j, _, rfl, rfl, hl3, by omega, by rw [hlen] at r1; omega, e1, e2, ?_⟩
  have hd4 := (upd_ne (o := .lst ((ls.map V.str).eraseIdx j)) nDL).trans hd3
  refine ⟨_, hd4, by rw [List.length_map]; exact small1000 (by omega), nx _ ⟨acc ++ [n], ls.eraseIdx j, by rw [upd_same, List.map_append] <;> rfl, by rw [upd_ne nDL.symm, upd_same, e3], by rw [List.length_append, ha] <;> rfl, by omega, ?_, ?_, ?_⟩⟩
  · rw [List.append_assoc]
    exact (List.Perm.append_left acc e4).trans hp2
  · have e6 : b + (i : Int) + 1 = b + ((i + 1 : Nat) : Int) := by omega
    rw [← e6]
    exact (hs3.upd nL1 nL2).upd nD1 nD2
  · exact ((gx.trans g3).upd_out hL).upd_out hD
def spMixed : Sp := fun vs H Q _ => ∃ (st q p : Addr) (b : Int) (is : List Str), vs = [.ref st, .ref p] ∧ Spr H st q b ∧ 0 ≤ b ∧ b ≤ 900 ∧ H p = some (.lst (is.map V.str)) ∧ is.length ≤ 10 ∧
  ∀ (r : Addr) (os : List Str) (H' : Hp), os.Perm is → Spr H' st q (b + is.length) → SX st q H H' → H' r = some (.lst (os.map V.str)) → H r = none → Q (.ref r) H'
abbrev namesM : List Str := ["_law_stream", "_law_some", "_law_left", "_law_k"]
theorem scM : FnScope namesM ["_law_stream", "_law_some"] (defScope sMixed) := ⟨rfl, rfl, rfl, by decide +kernel, rfl, by decide +kernel, by decide +kernel⟩
theorem ok_mixed (F : Fun K "_law_mixed" "_law_mixed" sMixed f fd) (G : FnOk P w K mg base CX0 1 g gd ["_law_stream", "_law_many"] spDraw) (bG : Binds K gd ["_law_stream", "_law_many"] []) (kG : PySem.W.keepIn K (.ref g) = true) (mG : mg "_law_draw" = some (.ref g)) (B : Bt mg) :
    FnOk P w K mg base CX0 2 f fd ["_law_stream", "_law_some"] spMixed := by
  refine F.ok scM (fun vs H Q E h => ?_) (fun cdv A outer s H vs Q E hr h => ?_)
  · obtain ⟨st, q, p, b, is, rfl, _⟩ := h
    rfl
  obtain ⟨st, q, p, b, is, rfl, hs, hb0, hb1, hp, hl, k⟩ := h
  refine ⟨_, pss_cons (ps_set (i := 2) scM.nd rfl (Or.inr rfl) (pe_callTy call_list_of (by rfl) B.lst (by decide +kernel) (pa_cons (pv 1) pa_nil)))
    (pss_one (ps_ret (pe_lc (own := [("_law_k", 3)]) (g := gName 3) (tt := tYes) (te := tPop K 2) rfl scM.nd (pi_range1 (by rfl) B.range (pa_cons (pe_callB call_len_seq (by rfl) B.len PySem.boot_len (pa_cons (pv 2) pa_nil)) pa_nil)) (blkOk_by (N := namesM) (sc := defScope sMixed) (by decide +kernel))
      (fun _ _ _ _ _ => pg_name (i := 3) scM.nd rfl (Or.inl rfl)) (fun _ _ _ _ _ => pts_nil)
      (fun _ _ _ _ _ => pe_bm PySem.F.plainAttrs_list PySem.F.slot_list_pop PySem.F.type_list_pop mt_popAt (pv 2) (pa_cons (pe_call G hr rfl mG kG bG .nil pass0 (pa_cons (pv 0) (pa_cons (pe_callB call_len_seq (by rfl) B.len PySem.boot_len (pa_cons (pv 2) pa_nil)) pa_nil))) pa_nil))))), ?_⟩
  refine ⟨_, rfl, p, _, rfl, .inl (SqL.of hp), fun L hL => ?_⟩
  have gL := same_new hL (.lst (is.map V.str))
  obtain ⟨nL1, nL2⟩ := hs.out hL
  have hsL := hs.same gL
  refine ⟨_, rfl, L, _, rfl, .inl (SqL.of upd_same), _, rfl, by rw [List.length_map]; omega, by rw [List.length_map]; omega, fun D hD => ?_⟩
  obtain ⟨nD1, nD2⟩ := hsL.out hD
  have nDL : D ≠ L := (ne_of_none (upd_same (H := H) (a := L) (o := .lst (is.map V.str))) hD).symm
  have hD0 : H D = none := gL.free hD
  have gD := same_new hD (.lst [])
  have elm : (is.map V.str).length = is.length := List.length_map _
  refine lc_range (lo := 0) (n := (is.map V.str).length) (InvMx H st q L D b is) ⟨[], is, upd_same, gD _ _ upd_same, rfl, rfl, List.Perm.refl _, ?_, .of (gL.trans gD)⟩ ?_ ?_
  · rw [show b + ((0 : Nat) : Int) = b from Int.add_zero b]
    exact hsL.same gD
  · intro i H2 hi inv
    rw [elm] at hi
    exact ⟨rfl, kept (pop_turn nL1 nL2 nD1 nD2 nDL hL hD0 hb0 hb1 (by omega) rfl rfl inv hi fun _ h => h)⟩
  · rintro H2 ⟨acc, ls, hd, hl2, ha, hn, hp2, hs2, gx⟩
    rw [elm] at hs2
    have els : ls = [] := List.length_eq_zero_iff.mp (by omega)
    subst els
    rw [List.append_nil] at hp2
    exact k D acc H2 hp2 hs2 gx hd hD0
/-! the letters -/
def abc : Str := "abcdefghijklmnopqrstuvwxyz"
def abcL : List Str := abc.cps.toList.map fun c => (⟨#[c]⟩ : Str)
theorem abc_signs : LiS.signs abc = abcL.map V.str := by
  unfold LiS.signs abcL
  rw [List.map_map] <;> rfl
theorem abc_len : abcL.length = 26 := by decide +kernel
theorem abc_nd : abcL.Nodup := by decide +kernel
def spLet : Sp := fun vs H Q _ => ∃ (st q : Addr) (b : Int) (m : Nat), vs = [.ref st, .int m] ∧ Spr H st q b ∧ 0 ≤ b ∧ b ≤ 900 ∧ m ≤ 10 ∧
  ∀ (r : Addr) (os : List Str) (H' : Hp), os.Nodup → (∀ z ∈ os, z ∈ abcL) → os.length = m → Spr H' st q (b + m) → SX st q H H' → H' r = some (.lst (os.map V.str)) → H r = none → Q (.ref r) H'
abbrev namesL : List Str := ["_law_stream", "_law_many", "_law_left", "_law_k"]
theorem scLt : FnScope namesL ["_law_stream", "_law_many"] (defScope sLet) := ⟨rfl, rfl, rfl, by decide +kernel, rfl, by decide +kernel, by decide +kernel⟩
theorem ok_let (F : Fun K "_law_letters" "_law_letters" sLet f fd) (G : FnOk P w K mg base CX0 1 g gd ["_law_stream", "_law_many"] spDraw) (bG : Binds K gd ["_law_stream", "_law_many"] []) (kG : PySem.W.keepIn K (.ref g) = true) (mG : mg "_law_draw" = some (.ref g)) (B : Bt mg) :
    FnOk P w K mg base CX0 2 f fd ["_law_stream", "_law_many"] spLet := by
  refine F.ok scLt (fun vs H Q E h => ?_) (fun cdv A outer s H vs Q E hr h => ?_)
  · obtain ⟨st, q, b, m, rfl, _⟩ := h
    rfl
  obtain ⟨st, q, b, m, rfl, hs, hb0, hb1, hm, k⟩ := h
  refine ⟨_, pss_cons (ps_set (i := 2) scLt.nd rfl (Or.inr rfl) (pe_callTy (LiS.call_listS rfl) (by rfl) B.lst (by decide +kernel) (pa_cons pe_str pa_nil)))
    (pss_one (ps_ret (pe_lc (own := [("_law_k", 3)]) (g := gName 3) (tt := tYes) (te := tPop K 2) rfl scLt.nd (pi_range1 (by rfl) B.range (pa_cons (pv 1) pa_nil)) (blkOk_by (N := namesL) (sc := defScope sLet) (by decide +kernel))
      (fun _ _ _ _ _ => pg_name (i := 3) scLt.nd rfl (Or.inl rfl)) (fun _ _ _ _ _ => pts_nil)
      (fun _ _ _ _ _ => pe_bm PySem.F.plainAttrs_list PySem.F.slot_list_pop PySem.F.type_list_pop mt_popAt (pv 2) (pa_cons (pe_call G hr rfl mG kG bG .nil pass0 (pa_cons (pv 0) (pa_cons (pe_callB call_len_seq (by rfl) B.len PySem.boot_len (pa_cons (pv 2) pa_nil)) pa_nil))) pa_nil))))), ?_⟩
  refine ⟨abc, rfl, by decide +kernel, Nat.le_trans (show abc.cps.size ≤ 26 by decide +kernel) (by decide), fun L hL => ?_⟩
  rw [abc_signs]
  have gL := same_new hL (.lst (abcL.map V.str))
  obtain ⟨nL1, nL2⟩ := hs.out hL
  have hsL := hs.same gL
  refine ⟨_, rfl, _, rfl, by omega, by omega, fun D hD => ?_⟩
  obtain ⟨nD1, nD2⟩ := hsL.out hD
  have nDL : D ≠ L := (ne_of_none (upd_same (H := H) (a := L) (o := .lst (abcL.map V.str))) hD).symm
  have hD0 : H D = none := gL.free hD
  have gD := same_new hD (.lst [])
  have h26 := abc_len
  refine lc_range (lo := 0) (n := m) (InvMx H st q L D b abcL) ⟨[], abcL, upd_same, gD _ _ upd_same, rfl, rfl, List.Perm.refl _, ?_, .of (gL.trans gD)⟩ ?_ ?_
  · rw [show b + ((0 : Nat) : Int) = b from Int.add_zero b]
    exact hsL.same gD
  · intro i H2 hi inv
    exact ⟨rfl, kept (pop_turn nL1 nL2 nD1 nD2 nDL hL hD0 hb0 hb1 (by omega) rfl rfl inv (by omega) fun _ h => h)⟩
  · rintro H2 ⟨acc, ls, hd, hl2, ha, hn, hp2, hs2, gx⟩
    have nd : (acc ++ ls).Nodup := hp2.nodup_iff.mpr abc_nd
    exact k D acc H2 (List.Nodup.sublist (List.sublist_append_left acc ls) nd) (fun z hz => hp2.mem_iff.mp (List.mem_append.mpr (.inl hz))) ha hs2 gx hd hD0
end
end Lw.Tt
namespace Lw
open PySem L2 TL
/-- the law's own use: a name, letters, the form's pairs -/
def LuAt (K : PySem.W.Frag) (H : Hp) (u : Addr) (nm : Str) (ls : List Str) (l : List (Str × Int)) : Prop := ∃ (tl tf : Addr) (us : List V), SqT K H u [.str nm, .ref tl, .ref tf] ∧ SqT K H tl (ls.map V.str) ∧ SqT K H tf us ∧ Tups K H us l
theorem LuAt.mono {K : PySem.W.Frag} {H H' : Hp} {u : Addr} {nm : Str} {ls : List Str} {l : List (Str × Int)} (g : TK K H H') : LuAt K H u nm ls l → LuAt K H' u nm ls l
  | ⟨tl, tf, us, h1, h2, h3, h4⟩ => ⟨tl, tf, us, g _ _ h1, g _ _ h2, g _ _ h3, h4.mono g⟩
abbrev s_l_level_letters : Stmt := topS 26
theorem sc_l_level_letters : FnScope ["_law_use", "_law_kind", "_law_axis"] ["_law_use"] (defScope s_l_level_letters) := ⟨rfl, rfl, rfl, by decide +kernel, rfl, by decide +kernel, by decide +kernel⟩
/-- the letter of an axis -/
def letAt (ls : List Str) (p : Str × Int) : Str := ls.getD p.2.toNat Str.empty
def spLvl (K : PySem.W.Frag) : Sp := fun vs H Q _ => ∃ (u : Addr) (nm : Str) (ls : List Str) (l : List (Str × Int)), vs = [.ref u] ∧ LuAt K H u nm ls l ∧ l.length ≤ 3 ∧ (∀ p ∈ l, 0 ≤ p.2 ∧ p.2 < (ls.length : Int)) ∧ ∀ (D : Addr) (H' : Hp), Same H H' → H D = none → H' D = some (.lst ((l.map (letAt ls)).map V.str)) → Q (.ref D) H'
section
variable {P : Program} {w : World} {K : PySem.W.Frag} {mg : Str → Option Value} {base : Heap} {f : Addr} {fd : FuncData}
theorem ok_l_level_letters (F : Fun K "_law_level_letters" "_law_level_letters" s_l_level_letters f fd) : FnOk P w K mg base CX0 1 f fd ["_law_use"] (spLvl K) := by
  refine F.ok sc_l_level_letters (fun vs H Q E h => ?_) (fun cdv A outer s H vs Q E hr h => ?_)
  · obtain ⟨u, nm, ls, l, rfl, _⟩ := h
    rfl
  obtain ⟨u, nm, ls, l, rfl, ⟨tl, tf, us, h1, h2, h3, h4⟩, hl, hp, k⟩ := h
  refine ⟨_, (pss_one (ps_ret (pe_lc (own := [("_law_kind", 1), ("_law_axis", 2)]) (g := (gTup K 2 (gCons (gName 1) (gCons (gName 2) gNil)))) (tt := tYes) (te := tOp (rIxT K) (tOp (rIxT K) (tVar 0) (tC (.int 1))) (tVar 2)) rfl sc_l_level_letters.nd (pi_tup (pe_ix ix_tup (pv 0) pe_int (fun _ _ => rfl))) (blkOk_by (N := ["_law_use", "_law_kind", "_law_axis"]) (sc := defScope s_l_level_letters) (by decide +kernel)) (fun _ _ _ _ _ => (pg_tup rfl (pgs_cons (pg_name (i := 1) sc_l_level_letters.nd rfl (Or.inl rfl)) (pgs_cons (pg_name (i := 2) sc_l_level_letters.nd rfl (Or.inl rfl)) pgs_nil)))) (fun _ _ _ _ _ => pts_nil) (fun _ _ _ _ _ => (pe_ix ix_tup (pe_ix ix_tup (pv 0) pe_int (fun _ _ => rfl)) (pv 2) (fun _ _ => rfl)))))), ?_⟩
  have hul : us.length = l.length := h4.1
  refine ⟨_, rfl, u, _, (2 : Int), .ref tf, rfl, rfl, h1, atI_nat (j := 2) rfl, tf, rfl, ⟨us, h3⟩, fun D hD => ?_⟩
  refine lc_tup (K := K) (a := tf) (xs := us) (InvM H D (fun p : Str × Int => V.str (letAt ls p)) l) ⟨upd_same, same_new hD _⟩ (fun i H' _ ⟨_, g⟩ => seqT g h3) (fun j x H' hx hv => ?_) ?_
  · have hj : j < l.length := by rw [← hul]; exact (List.getElem?_eq_some_iff.mp hx).1
    have ej := List.getElem?_eq_getElem hj
    obtain ⟨y, rfl, zy⟩ := h4.2 j x _ hx ej
    obtain ⟨p0, p1⟩ := hp _ (List.getElem_mem hj)
    have lt : l[j].2.toNat < ls.length := by omega
    refine ⟨y, _, rfl, seqT hv.2 zy, rfl, _, _, rfl, _, _, rfl, rfl, rfl, kept ?_⟩
    have ea : atI (ls.map V.str) l[j].2 = some (.str (letAt ls l[j])) := by
      have z := atI_nat (xs := ls.map V.str) (j := l[j].2.toNat) (v := .str (letAt ls l[j])) (by rw [List.getElem?_map, List.getElem?_eq_getElem lt]; unfold letAt; rw [List.getD_eq_getElem?_getD, List.getElem?_eq_getElem lt] <;> rfl)
      rw [show ((l[j].2.toNat : Nat) : Int) = l[j].2 by omega] at z
      exact z
    refine ⟨_, rfl, u, _, (1 : Int), .ref tl, rfl, rfl, seqT hv.2 h1, atI_nat (j := 1) rfl, _, rfl, tl, _, _, _, rfl, rfl, seqT hv.2 h2, ea, ?_⟩
    exact ⟨_, hv.1, len_m (by omega), InvM.next (f := fun p : Str × Int => V.str (letAt ls p)) hD hv.2 ej _ rfl⟩
  rintro H' ⟨hd, g⟩
  rw [List.take_of_length_le (by rw [hul]; exact Nat.le_refl _)] at hd
  exact k D H' g hD (by rw [hd, List.map_map] <;> rfl)
end
end Lw
namespace Lw
open PySem L2 TL
theorem word_back {a : Str} (h : a ∈ AWORDS) : ((toString (aval a) : String) : Str) = a := by
  have z : ∀ a ∈ AWORDS, ((toString (aval a) : String) : Str) = a := by decide +kernel
  exact z a h
theorem lvl_itm {p : Str} {r : Str × Int} (h : lvl p = some r) : itm r.1 r.2 = p := by
  unfold lvl at h
  split at h
  · rename_i k a e
    by_cases m : a ∈ AWORDS
    · rw [if_pos m] at h
      cases h
      have b := split_back p " " (by decide +kernel) (by decide +kernel)
      rw [e] at b
      refine Eq.trans (ext_tl ?_) b
      show tl (itm k (aval a)) = _
      unfold itm
      rw [word_back m, join_eq, tl_join, tl_append, tl_append, tl_append]
      show tl Str.empty ++ tl k ++ tl " " ++ tl a = tl k ++ (tl " " ++ tl a)
      rw [show tl Str.empty = [] from rfl, List.nil_append, List.append_assoc]
    · rw [if_neg m] at h
      cases h
  · cases h
theorem lvl_all : ∀ {ps : List Str}, (ps.all fun p => (lvl p).isSome) = true → (ps.filterMap lvl).length = ps.length ∧ ((ps.filterMap lvl).map fun r => itm r.1 r.2) = ps
  | [], _ => ⟨rfl, rfl⟩
  | p :: r, h => by
    rw [List.all_cons, Bool.and_eq_true] at h
    obtain ⟨h1, h2⟩ := h
    obtain ⟨i1, i2⟩ := lvl_all h2
    obtain ⟨q, e⟩ := Option.isSome_iff_exists.mp h1
    rw [List.filterMap_cons_some e, List.map_cons, List.length_cons, List.length_cons, i1, i2, lvl_itm e]
    exact ⟨rfl, rfl⟩
theorem split_ne (z : Str) : Txt.split z ", " ≠ [] := fun e => by
  have q := split_spl z ", " (by decide +kernel) (kind_ok (by decide +kernel))
  rw [e] at q
  exact spl_ne _ _ _ _ q.symm
/-- what is read is the text of what was read -/
theorem rd_back {z : Str} {ks : List Str} {is : List Int} (h : rd z = some (ks, is)) : ftext ks is = z ∧ valid ks is = true := by
  unfold rd at h
  by_cases c : z = "-"
  · rw [if_pos c] at h
    cases h
    exact ⟨by rw [c]; rfl, by decide +kernel⟩
  rw [if_neg c] at h
  by_cases c2 : ((Txt.split z ", ").all fun p => (lvl p).isSome) = true ∧ valid (lks (Txt.split z ", ")) (lis (Txt.split z ", ")) = true
  · rw [if_pos c2] at h
    cases h
    obtain ⟨i1, i2⟩ := lvl_all c2.1
    refine ⟨?_, c2.2⟩
    unfold ftext
    rw [if_neg, show (lks (Txt.split z ", ")).zip (lis (Txt.split z ", ")) = (Txt.split z ", ").filterMap lvl from zip_maps _, i2]
    · exact split_back z ", " (by decide +kernel) (by decide +kernel)
    · unfold lks
      rw [List.length_map, i1]
      intro e
      exact split_ne z (List.length_eq_zero_iff.mp e)
  · rw [if_neg c2] at h
    cases h
theorem itm_facts : ∀ k ∈ KINDS, ∀ i ∈ ([0, 1, 2] : List Int), 44 ∉ tl (itm k i) ∧ 32 ∉ tl k ∧ 32 ∉ tl ((toString i : String) : Str) ∧ ((toString i : String) : Str) ∈ AWORDS ∧ aval ((toString i : String) : Str) = i ∧ PyData.strOk (itm k i) = true := by decide +kernel
theorem lvl_of {k : Str} {i : Int} (hk : k ∈ KINDS) (hi : i ∈ ([0, 1, 2] : List Int)) : lvl (itm k i) = some (k, i) := by
  obtain ⟨f1, f2, f3, f4, f5, _⟩ := itm_facts k hk i hi
  have e : Txt.split (itm k i) " " = [k, ((toString i : String) : Str)] := by
    have b := split_join (y := " ") (s := 32) (S := []) (by decide +kernel) (by decide +kernel) (parts := [k, ((toString i : String) : Str)]) (by simp) fun p hp => by
      rcases List.mem_cons.mp hp with rfl | hp
      · exact f2
      · rw [List.mem_singleton.mp hp]
        exact f3
    have e2 : itm k i = Txt.join " " [k, ((toString i : String) : Str)] := by
      refine ext_tl ?_
      unfold itm
      rw [join_eq, tl_join, tl_append, tl_append, tl_append]
      show tl Str.empty ++ tl k ++ tl " " ++ tl _ = tl k ++ (tl " " ++ tl _)
      rw [show tl Str.empty = [] from rfl, List.nil_append, List.append_assoc]
    rw [e2]
    exact b
  rw [lvl_two e, if_pos f4, f5]
theorem fm_itms : ∀ {l : List (Str × Int)}, (∀ p ∈ l, p.1 ∈ KINDS ∧ p.2 ∈ ([0, 1, 2] : List Int)) → ((l.map fun p => itm p.1 p.2).filterMap lvl) = l ∧ ((l.map fun p => itm p.1 p.2).all fun p => (lvl p).isSome) = true
  | [], _ => ⟨rfl, rfl⟩
  | p :: r, h => by
    obtain ⟨i1, i2⟩ := fm_itms (l := r) fun q hq => h q (List.mem_cons_of_mem _ hq)
    obtain ⟨a, b⟩ := h p (List.mem_cons_self ..)
    have e := lvl_of a b
    rw [List.map_cons, List.filterMap_cons_some e, i1, List.all_cons, i2, e]
    exact ⟨rfl, rfl⟩
theorem zip_all : ∀ {ks : List Str} {is : List Int}, is.length = ks.length → (∀ k ∈ ks, k ∈ KINDS) → (∀ i ∈ is, i ∈ ([0, 1, 2] : List Int)) →
    (ks.zip is).map (·.1) = ks ∧ (ks.zip is).map (·.2) = is ∧ ∀ p ∈ ks.zip is, p.1 ∈ KINDS ∧ p.2 ∈ ([0, 1, 2] : List Int)
  | [], [], _, _, _ => ⟨rfl, rfl, fun p h => by cases h⟩
  | [], _ :: _, h, _, _ => by cases h
  | _ :: _, [], h, _, _ => by cases h
  | k :: ks, i :: is, h, h1, h2 => by
    obtain ⟨a, b, c⟩ := zip_all (Nat.succ.inj h) (fun x hx => h1 x (List.mem_cons_of_mem _ hx)) fun x hx => h2 x (List.mem_cons_of_mem _ hx)
    rw [List.zip_cons_cons, List.map_cons, List.map_cons, a, b]
    refine ⟨rfl, rfl, fun p hp => ?_⟩
    rcases List.mem_cons.mp hp with rfl | hp
    · exact ⟨h1 _ (List.mem_cons_self ..), h2 _ (List.mem_cons_self ..)⟩
    · exact c p hp
theorem ok_list (z : Str) : PyData.strOk z = (tl z).all (· < 0x110000) := by
  unfold PyData.strOk
  rw [← Array.all_toList]
/-- the text of a form is read back -/
theorem rd_ftext {ks : List Str} {is : List Int} (h : valid ks is = true) : rd (ftext ks is) = some (ks, is) := by
  obtain ⟨h1, h2, h3, h4⟩ := valid_parts h
  by_cases c : ks.length = 0
  · have e1 : ks = [] := List.length_eq_zero_iff.mp c
    have e2 : is = [] := List.length_eq_zero_iff.mp (h3.trans c)
    subst e1
    subst e2
    rfl
  obtain ⟨z1, z2, z3⟩ := zip_all h3 h2 h4
  obtain ⟨f1, f2⟩ := fm_itms z3
  have ef : ftext ks is = Txt.join ", " ((ks.zip is).map fun p => itm p.1 p.2) := by
    unfold ftext
    rw [if_neg c]
  have ne : ((ks.zip is).map fun p => itm p.1 p.2) ≠ [] := fun e => by
    have e2 := congrArg List.length e
    rw [List.length_map, List.length_zip, h3, Nat.min_self] at e2
    exact c e2
  have es : Txt.split (ftext ks is) ", " = (ks.zip is).map fun p => itm p.1 p.2 := by
    rw [ef]
    refine split_join (s := 44) (S := [32]) (by decide +kernel) (by decide +kernel) ne fun p hp => ?_
    obtain ⟨q, hq, rfl⟩ := List.mem_map.mp hp
    obtain ⟨a, b⟩ := z3 q hq
    exact (itm_facts _ a _ b).1
  have nd : ftext ks is ≠ "-" := fun e => by
    rw [e] at es
    have e0 : Txt.split "-" ", " = [("-" : Str)] := by decide +kernel
    rw [e0] at es
    have m : lvl "-" = none := by decide +kernel
    rw [← es] at f2
    rw [List.all_cons, m] at f2
    cases f2
  unfold rd lks lis
  rw [if_neg nd, es, f1, z1, z2, if_pos ⟨f2, h⟩]
theorem join_len {S : List Nat} (hS : S.length ≤ 2) : ∀ {l : List (List Nat)}, (∀ p ∈ l, p.length ≤ 20) → (joinL S l).length ≤ 22 * l.length
  | [], _ => by simp [joinL]
  | [p], h => by
    have q := h p (List.mem_cons_self ..)
    show p.length ≤ 22 * 1
    omega
  | p :: q :: r, h => by
    have i := join_len hS (l := q :: r) fun x hx => h x (List.mem_cons_of_mem _ hx)
    have j := h p (List.mem_cons_self ..)
    rw [joinL_cons (by simp), List.length_append, List.length_append]
    simp only [List.length_cons] at i ⊢
    omega
theorem join_in {S : List Nat} : ∀ {l : List (List Nat)}, ∀ c ∈ joinL S l, c ∈ S ∨ ∃ p ∈ l, c ∈ p
  | [], c, h => by cases h
  | [p], c, h => .inr ⟨p, List.mem_cons_self .., h⟩
  | p :: q :: r, c, h => by
    rw [joinL_cons (by simp)] at h
    rcases List.mem_append.mp h with h | h
    · exact .inr ⟨p, List.mem_cons_self .., h⟩
    · rcases List.mem_append.mp h with h | h
      · exact .inl h
      · rcases join_in (l := q :: r) c h with z | ⟨x, a, b⟩
        · exact .inl z
        · exact .inr ⟨x, List.mem_cons_of_mem _ a, b⟩
theorem ftext_small {ks : List Str} {is : List Int} (h : valid ks is = true) : (ftext ks is).length ≤ 100 ∧ PyData.strOk (ftext ks is) = true := by
  obtain ⟨h1, h2, h3, h4⟩ := valid_parts h
  by_cases c : ks.length = 0
  · have e : ftext ks is = "-" := by
      unfold ftext
      rw [if_pos c]
    rw [e]
    exact ⟨by decide, by decide +kernel⟩
  obtain ⟨z1, z2, z3⟩ := zip_all h3 h2 h4
  have ef : ftext ks is = Txt.join ", " ((ks.zip is).map fun p => itm p.1 p.2) := by
    unfold ftext
    rw [if_neg c]
  have et : tl (ftext ks is) = joinL (tl ", ") (((ks.zip is).map fun p => itm p.1 p.2).map tl) := by rw [ef, join_eq, tl_join]
  constructor
  · rw [len_tl, et]
    have q := join_len (S := tl ", ") (by decide) (l := ((ks.zip is).map fun p => itm p.1 p.2).map tl) fun p hp => by
      obtain ⟨y, hy, rfl⟩ := List.mem_map.mp hp
      obtain ⟨q, hq, rfl⟩ := List.mem_map.mp hy
      obtain ⟨a, b⟩ := z3 q hq
      rw [← len_tl]
      exact (small_itm _ a _ b).2.2.1
    rw [List.length_map, List.length_map, List.length_zip, h3, Nat.min_self] at q
    omega
  · rw [ok_list, et, List.all_eq_true]
    intro x hx
    rcases join_in x hx with z | ⟨p, hp, hc⟩
    · have y : ∀ x ∈ tl ", ", decide (x < 0x110000) = true := by decide +kernel
      exact y x z
    · obtain ⟨y, hy, rfl⟩ := List.mem_map.mp hp
      obtain ⟨q, hq, rfl⟩ := List.mem_map.mp hy
      obtain ⟨a, b⟩ := z3 q hq
      have o := (itm_facts _ a _ b).2.2.2.2.2
      rw [ok_list, List.all_eq_true] at o
      exact o x hc
end Lw
namespace Lw
open PySem L2 TzR TL
abbrev s_l_use_built : Stmt := topS 30
theorem sc_l_use_built : FnScope ["_law_use"] ["_law_use"] (defScope s_l_use_built) := ⟨rfl, rfl, rfl, by decide +kernel, rfl, by decide +kernel, by decide +kernel⟩
def spUb (K : PySem.W.Frag) (U C : Addr) : Sp := fun vs H Q _ => ∃ (u : Addr) (nm : Str) (ls : List Str) (l : List (Str × Int)), vs = [.ref u] ∧ LuAt K H u nm ls l ∧ Good l ls.length ∧ ls.length ≤ 3 ∧ ls.Nodup ∧
  ∀ (p q : Addr) (H' : Hp), Same H H' → UseAt K U C H' p nm ls q (l.map (·.1)) (l.map (·.2)) → Q (.ref p) H'
section
variable {P : Program} {w : World} {K : PySem.W.Frag} {mg : Str → Option Value} {base : Heap} {U C fU fI BF AW KD gX gR pR f : Addr} {MC : Value} {dU dX fd : FuncData}
theorem ok_l_use_built (F : Fun K "_law_use_built" "_law_use_built" s_l_use_built f fd)
    (MU : Mk K U fU) (GU : FnOk P w K mg base CX0 3 fU dU ["self", "name", "letters", "form"] (spUini K U C)) (bU : Binds K dU ["self", "name", "letters", "form"] []) (mU : mg "Use" = some (.ref U))
    (GX : FnOk P w K mg base CX0 1 gX dX ["_law_form"] (spFtext K)) (bX : Binds K dX ["_law_form"] []) (kX : PySem.W.keepIn K (.ref gX) = true) (mX : mg "_law_form_text" = some (.ref gX))
    (T : Fm K mg C fI BF AW KD MC) (GR : FnR P w K mg base (L2.CX P w) 5 gR (spRead K C BF)) (cR : ClX.CMet K C MC "read" pR gR) :
    FnOk P w K mg base CX0 6 f fd ["_law_use"] (spUb K U C) := by
  refine F.ok sc_l_use_built (fun vs H Q E h => ?_) (fun cdv A outer s H vs Q E hr h => ?_)
  · obtain ⟨u, nm, ls, l, rfl, _⟩ := h
    rfl
  obtain ⟨u, nm, ls, l, rfl, ⟨tl, tf, us, h1, h2, h3, h4⟩, hg, hl, hn, k⟩ := h
  refine ⟨_, (pss_one (ps_ret (pe_make MU GU (hr.mono (by decide)) (by rfl) mU bU .nil pass0 (pa_cons (pe_ix ix_tup (pv 0) pe_int (fun _ _ => rfl)) (pa_cons (pe_ix ix_tup (pv 0) pe_int (fun _ _ => rfl)) (pa_cons (ClX.pe_cmeth (E := E0) (pe_glob (v := .ref C) (by rfl) T.mC rfl) T.cr cR GR (hr.mono (by decide)) (passL (X := (cxOf CX0 P w K mg base ["_law_use"] "_law_use_built" (defScope s_l_use_built) f cdv A outer s H E).nox)) (pa_cons (pe_call GX (hr.mono (by decide)) rfl mX kX bX .nil pass0 (pa_cons (pe_ix ix_tup (pv 0) pe_int (fun _ _ => rfl)) pa_nil)) pa_nil)) pa_nil)))))), ?_⟩
  have hv : valid (l.map (·.1)) (l.map (·.2)) = true := iota_valid hg hl
  refine ⟨_, rfl, u, _, (0 : Int), _, rfl, rfl, h1, atI_nat (j := 0) rfl, _, rfl, u, _, (1 : Int), _, rfl, rfl, h1, atI_nat (j := 1) rfl, ?_⟩
  refine ⟨rfl, _, rfl, u, _, (2 : Int), .ref tf, rfl, rfl, h1, atI_nat (j := 2) rfl, tf, us, l, _, rfl, h3, h4, hg, hl, fun H1 g1 => ?_⟩
  refine ⟨_, rfl, by have := (ftext_small hv).1; omega, fun ks is er pf H4 g4 hpf => ?_, fun z => by rw [rd_ftext hv] at z; cases z⟩
  rw [rd_ftext hv] at er
  cases er
  intro x dx nx ndx ne
  have g5 : Same H4 (upd (upd H4 dx (.own x)) x (.ins U dx [])) := fun b o e => by rw [upd_ne (ne_of_none e nx), upd_ne (ne_of_none e ndx)]; exact e
  refine ⟨x, dx, tl, pf, nm, ls, l.map (·.1), l.map (·.2), rfl, upd_same, .inr (seqT (g1.trans (g4.trans g5)) h2), by omega, hn, hpf.same g5, by rw [List.length_map, hg.1], fun H6 tl' k6 h6 ht6 => ⟨rfl, ?_⟩⟩
  have g6 : Same H4 H6 := fun b o e => k6 b o (ne_of_none e nx) (g5 _ _ e)
  exact k x pf H6 (g1.trans (g4.trans g6)) ⟨dx, tl', h6, ht6, hpf.same g6⟩
end
end Lw
/-! sets of texts: set(list of texts), sorted(such a set) -/
namespace TxS
open PySem PySem.Spec PyProof.Rows L2
abbrev SD := PySem.Froz.SD
abbrev sOb (D : SD) : Obj := PySem.Froz.sObj "set" D
/-- what a set's table holds: the texts l; it rises and can be walked -/
structure Pay (P : Program) (w : World) (D : SD) (l : List Str) : Prop where
  tx : PySem.Froz.TxOk P w D l
  ris : Ris D.2.2.place.toList
  led : w.params.followText "set-order" = true ∨ D.2.2.led = true
  nd : l.Nodup
section
variable {P : Program} {w : World} {A : Around} {E : Value → Shared → Prop} {s : Shared} {D : SD} {l : List Str} {k : Str} {a : Addr}
theorem tail_ris {ep : Nat} {es1 : Array (Int × Value)} {t2 : SetTable} {wd : Bool} (r : Ris t2.place.toList) : Ris (PySem.Froz.tailTx ep es1 t2 wd).2.2.place.toList := by
  unfold PySem.Froz.tailTx
  by_cases c : (!wd && t2.tooFull) = true
  · rw [if_pos c]
    exact relayAll_ris _ _ _
  · rw [if_neg c]
    exact r
theorem tail_led {ep : Nat} {es1 : Array (Int × Value)} {t2 : SetTable} {wd : Bool} (r : t2.led = true) : (PySem.Froz.tailTx ep es1 t2 wd).2.2.led = true := by
  unfold PySem.Froz.tailTx
  by_cases c : (!wd && t2.tooFull) = true
  · rw [if_pos c]
    exact (relayAll_led _ _ _).trans r
  · rw [if_neg c]
    exact r
theorem Pay.add (F : Pay P w D l) (hk : k ∉ l) (u : Tok) : Pay P w (PySem.Froz.addTx (hashStr w k) (.str k u) D) (k :: l) := by
  refine ⟨PySem.Froz.add_ok u F.tx, ?_, ?_, List.nodup_cons.mpr ⟨hk, F.nd⟩⟩
  · have r1 := layNew_ris D.2.2 D.1 (hashStr w k) (.str k u) F.ris
    refine tail_ris ?_
    by_cases c : (layNew D.2.2 D.1 (hashStr w k) (.str k u)).2.1.plain = true
    · rw [if_pos c]
      exact r1
    · rw [if_neg c]
      exact r1
  · refine F.led.imp id fun z => ?_
    have r1 := (layNew_led D.2.2 D.1 (hashStr w k) (.str k u)).trans z
    refine tail_led ?_
    by_cases c : (layNew D.2.2 D.1 (hashStr w k) (.str k u)).2.1.plain = true
    · rw [if_pos c]
      exact r1
    · rw [if_neg c]
      exact r1
theorem add_old {T : String} {u : Tok} {Q : Bool → Shared → Prop} (ho : s.heap.get? a = some (PySem.Froz.sObj T D)) (F : PySem.Froz.TxOk P w D l) (hk : k ∈ l) (hb : l.length < scanBound) (h : Q false s) :
    wpAny (model P w) A (setAddHashed a (.str k u) (hashStr w k)) Q E s := by
  obtain ⟨es, ep, t⟩ := D
  have hd : (PySem.Froz.sObj T (es, ep, t)).data = .set es ep t := rfl
  have hf : t.fits es.size = true := F.fit
  have hel : ElemsOf (PySem.strKind P w) es.toList := F.el
  have hsz : es.size = l.length := F.sz
  have hkey : (PySem.strKind P w).is k (.str k u) = true := PySem.Froz.is_str k u
  unfold setAddHashed setAddHashedIn
  refine wpAny_holding (wpAny_bind (wpAny_setState_of ho hd hf ?_))
  dsimp only
  rw [byScan_of (knd := PySem.strKind P w) rfl (by omega) hel]
  simp only [↓reduceIte]
  unfold setAddByScan
  refine wpAny_bind (wpAny_bind (wpAny_rule (wpAny_bind (wpAny_setScan_of (knd := PySem.strKind P w) (k := k) hkey ho hd hf hel ?_))))
  cases hr : List.findIdx? (fun e => (PySem.strKind P w).is k e.2) es.toList with
  | none =>
    obtain ⟨e, he, q⟩ := (F.mem k).mp hk
    have z := List.findIdx?_eq_none_iff.mp hr e he
    rw [q] at z
    cases z
  | some j =>
    dsimp only
    exact wpAny_pure (wpAny_pure h)
/-- one add: the text is there behind it -/
theorem add_one {u : Tok} {Q : Bool → Shared → Prop} (ho : s.heap.get? a = some (sOb D)) (F : Pay P w D l) (hb : l.length + 1 < scanBound)
    (h : ∀ (b : Bool) (h' : Heap) (D' : SD) (l' : List Str), Heap.SameBut a s.heap h' → h'.get? a = some (sOb D') → Pay P w D' l' → (∀ z, z ∈ l' ↔ z = k ∨ z ∈ l) → l'.length ≤ l.length + 1 → Q b { s with heap := h' }) :
    wpAny (model P w) A (setAddHashed a (.str k u) (hashStr w k)) Q E s := by
  by_cases hk : k ∈ l
  · exact add_old ho F.tx hk (by omega) (h false s.heap D l (Heap.SameBut.refl a s.heap) ho F (fun z => ⟨.inr, fun q => q.elim (fun e => e ▸ hk) id⟩) (Nat.le_succ _))
  · refine PySem.Froz.add_x ho F.tx hk hb (h true _ (PySem.Froz.addTx (hashStr w k) (.str k u) D) (k :: l) (Heap.SameBut.update s.heap a _) (PySem.Froz.get_upd _ ho rfl) (F.add hk u) (fun z => ?_) (Nat.le_refl _))
    rw [List.mem_cons]
/-- the loop of set(..) over texts -/
theorem upd_texts {R : Result → Shared → Prop} {I : Addr} {fp wr : List Addr} {G : Array GenState → Array GenState → Prop} {n : Nat} {Pv : Nat → Value → Prop} {St : Nat → Shared → Prop}
    (W : WalksS P w A.in1 I fp wr G n Pv St) (S : Addr) (hSf : S ∉ fp) (zs : List Str) (hn : n = zs.length) (hb : zs.length + 1 < scanBound) (hval : ∀ i v, Pv i v → ∃ z t, zs[i]? = some z ∧ v = .str z t) :
    ∀ (k i : Nat) (s : Shared), n - i = k → i ≤ n → St i s → (∃ D l, s.heap.get? S = some (sOb D) ∧ Pay P w D l ∧ (∀ z, z ∈ l ↔ z ∈ zs.take i) ∧ l.length ≤ i) →
      (∀ s', Moved (S :: wr) G s s' → (∃ D l, s'.heap.get? S = some (sOb D) ∧ Pay P w D l ∧ (∀ z, z ∈ l ↔ z ∈ zs) ∧ l.length ≤ n) → R (.ok (.ret .none)) s') →
      codeAny (model P w) A (.builtin "set.update.loop" ⟨[.ref S, .ref I], []⟩) R s := by
  have hSw : S ∉ wr := fun h => hSf (W.sub _ h)
  have hsub : ∀ b ∈ wr, b ∈ S :: wr := fun b hb => List.mem_cons_of_mem _ hb
  intro k
  induction k with
  | zero =>
    intro i s hk hi hst ⟨D, l, h1, h2, h3, h4⟩ hR
    obtain rfl : i = n := by omega
    refine codeAny_builtin F.entry_set_update_loop ?_
    rw [Around.under_plainId F.plain_set_update_loop _]
    show wpAny _ A.in1 (pyNext (.ref I) >>= _) _ _ s
    refine wpAny_bind (W.done s _ _ hst fun s' hm => ?_)
    show wpAny _ A.in1 (ret Value.none) _ _ s'
    rw [List.take_of_length_le (by omega)] at h3
    exact wpAny_pure (hR s' (hm.mono hsub) ⟨D, l, hm.heap S _ hSw h1, h2, h3, h4⟩)
  | succ k ih =>
    intro i s hk hi hst ⟨D, l, h1, h2, h3, h4⟩ hR
    have hlt : i < n := by omega
    refine codeAny_builtin F.entry_set_update_loop ?_
    rw [Around.under_plainId F.plain_set_update_loop _]
    show wpAny _ A.in1 (pyNext (.ref I) >>= _) _ _ s
    refine wpAny_bind (W.item i s _ _ hlt hst fun v s' hP hst' hm => ?_)
    obtain ⟨z, t, hz, rfl⟩ := hval i v hP
    have h1' := hm.heap S _ hSw h1
    show wpAny _ A.in1 (holding [Value.str z t] (setAdd S (.str z t)) >>= _) _ _ s'
    refine wpAny_bind (wpAny_holding ?_)
    unfold setAdd
    refine wpAny_holding (wpAny_bind ((PySem.strKind P w).pyHash (k := z) (PySem.Froz.is_str z t) ?_))
    refine add_one (k := z) (s := { s' with toks := s'.toks + 1 }) h1' h2 (by omega) fun b h' D' l' hsb q1 q2 q3 q4 => ?_
    refine wpAny_pure ⟨plainId_quiet F.plain_set_update_loop _, ih (i + 1) _ (by omega) hlt (W.frame _ s' _ _ hst' (Nat.le_succ _) fun b hb o e => ?_) ⟨D', l', q1, q2, fun y => ?_, by omega⟩ fun s'' hm2 hE => ?_⟩
    · rw [hsb.2 b (fun h : b = S => hSf (by rw [← h]; exact hb))]
      exact e
    · rw [q3 y, h3 y, List.take_add_one, hz, List.mem_append]
      show _ ↔ _ ∨ y ∈ [z]
      rw [List.mem_singleton]
      exact Or.comm
    · refine hR s'' (Moved.trans W.gtrans ((hm.mono hsub).then_heap (Nat.le_succ _) fun b o hb e => ?_) hm2) hE
      rw [hsb.2 b (fun h : b = S => hb (by rw [h]; exact List.mem_cons_self))]
      exact e
theorem pay_new {t : SetTable} {ep : Nat} (hf : t.fits 0 = true) (hp : t.place = #[]) (hl : w.params.followText "set-order" = true ∨ t.led = true) : Pay P w (#[], ep, t) [] :=
  ⟨PySem.Froz.TxOk.nil hf, by show Ris t.place.toList; rw [hp]; exact List.Pairwise.nil, hl, List.nodup_nil⟩
abbrev newSet (w : World) : Obj := { cls := .type "set", dict := none, data := .set #[] 0 (.fresh 0 0 (!w.params.followText "set-order")) }
theorem pay_fresh : Pay P w (#[], 0, .fresh 0 0 (!w.params.followText "set-order")) [] := by
  refine pay_new (by rfl) rfl ?_
  show _ ∨ (!w.params.followText "set-order") = true
  cases w.params.followText "set-order"
  · exact .inr rfl
  · exact .inl rfl
set_option maxHeartbeats 3200000 in
/-- set(xs), a list of texts -/
theorem call_set {L : Addr} {items : Array Value} (zs : List Str) {Q : Value → Shared → Prop} (hh : A.handled = none) (hl : s.heap.IsList L items) (hit : StrsAre items.toList zs) (hb : zs.length + 1 < scanBound)
    (h : ∀ (h' : Heap) (tk : Nat) (D : SD) (l : List Str), h'.get? s.heap.objs.size = some (sOb D) → Pay P w D l → (∀ z, z ∈ l ↔ z ∈ zs) → l.length ≤ zs.length → (∀ b o, s.heap.get? b = some o → h'.get? b = some o) → Q (.ref s.heap.objs.size) { s with heap := h', toks := tk }) :
    wpAny (model P w) A (call (.type "set") [.ref L]) Q E s := by
  have hisz : items.size = zs.length := by
    have q := StrsAre.len_eq hit
    rw [Array.length_toList] at q
    exact q
  obtain ⟨c, tl, hmro⟩ := PySem.F.called_set.mro
  have hmade := PySem.F.called_set.made
  have hsub := PySem.F.called_set.sub
  refine wpAny_call (codeAny_of_tree ?_)
  show wpAny _ _ (callAny (.type "set") _) _ _ _
  refine wpAny_pure ⟨Code.quiet_builtin _ (by decide +kernel), codeAny_builtin PySem.F.entry_type_call ?_⟩
  rw [Around.under_plain (weight_type_call_type "set" [.ref L] []) rfl]
  have h1 := PySem.F.called_set.notType
  have h2 := PySem.F.called_set.canCreate
  have hct := PySem.F.typeCall_set_1 (.ref L)
  repeat (any_goals (first | assumption | wp_step))
  refine codeAny_mono (code_set_led1 (.ref L) (E := E) (Q₁ := fun obj s₁ => obj = .ref s.heap.objs.size ∧ s₁ = { s with heap := s.heap.push (newSet w) }) ⟨rfl, rfl⟩) fun r s₁ hr => ?_
  cases r with
  | error e => exact hr
  | ok fl =>
    cases fl with
    | ret obj =>
      obtain ⟨rfl, rfl⟩ := hr
      have hS : (s.heap.push (newSet w)).get? s.heap.objs.size = some (newSet w) := Heap.get?_push_size _ rfl
      have hT : Shared.TypeIs { s with heap := s.heap.push (newSet w) } (.ref s.heap.objs.size) "set" := ⟨_, hS, rfl⟩
      have hli := PySem.F.called_set.init.lookup
      have hbi := PySem.F.called_set.init.bind (.ref s.heap.objs.size)
      repeat (any_goals (first | assumption | wp_step))
      refine codeAny_mono (codeAny_call_builtin (R := wants (fun r s₂ => r = .none ∧ ∃ h' tk, s₂ = { s with heap := h', toks := tk } ∧ (∃ D l, h'.get? s.heap.objs.size = some (sOb D) ∧ Pay P w D l ∧ (∀ z, z ∈ l ↔ z ∈ zs) ∧ l.length ≤ zs.length) ∧
          (∀ b o, s.heap.get? b = some o → h'.get? b = some o)) E) PySem.F.called_set.init.plain PySem.F.entry_set_init (check_set_init_1 hT ?_)) fun r₂ s₂ hr₂ => ?_
      · obtain ⟨⟨ocls, odict, odata, oslots⟩, hol, hcl, nl, hdl⟩ := hl
        simp only at hcl hdl
        subst hcl hdl
        have hol' : (s.heap.push (newSet w)).get? L = some { cls := .type "list", dict := odict, data := .seq items nl, slots := oslots } := Heap.get?_push_of_some _ hol
        have hsls := PySem.F.sub_list_set
        have hslf := PySem.F.sub_list_frozenset
        have hne : (Value.type "list" == Value.type "dict") = false := by decide
        have hl1 : (s.heap.push (newSet w)).IsList L items := ⟨_, hol', rfl, nl, rfl⟩
        unfold Builtin.«set.__init__» noKeywords Builtin.Frozenset.updateFrom
        generalize hPI : pyIter = PI
        wp_walk
        subst hPI
        refine wpAny_pyIter_list hl1 ?_
        refine wpAny_bind (wpAny_runValue ?_)
        have hlS : L < s.heap.objs.size := Heap.lt_size hol
        have hh3 : A.in1.in1.in1.handled = none := by simp [hh]
        have hneI : L ≠ (s.heap.push (newSet w)).objs.size := by
          rw [Heap.size_push]
          exact Nat.ne_of_lt (Nat.lt_succ_of_lt hlS)
        have hSf : s.heap.objs.size ∉ [(s.heap.push (newSet w)).objs.size, L] := by
          rw [Heap.size_push]
          simp only [List.mem_cons, List.mem_singleton, List.not_mem_nil, or_false, not_or]
          exact ⟨Nat.ne_of_lt (Nat.lt_succ_self _), Nat.ne_of_gt hlS⟩
        have hval : ∀ (i : Nat) (v : Value), items[i]? = some v → ∃ z t, zs[i]? = some z ∧ v = .str z t := fun i v hv => by
          have hi : i < zs.length := by rw [← hisz]; exact (Array.getElem?_eq_some_iff.mp hv).1
          obtain ⟨t, e⟩ := SS.strs_at hit i v (by rw [Array.getElem?_toList]; exact hv)
          refine ⟨zs[i], t, List.getElem?_eq_getElem hi, ?_⟩
          rw [e, List.getD_eq_getElem?_getD, List.getElem?_eq_getElem hi] <;> rfl
        refine upd_texts ((Walks.list hh3 _ L hneI items).toS) s.heap.objs.size hSf zs hisz hb hval (items.size - 0) 0 _ (by omega) (Nat.zero_le _) ⟨⟨_, Heap.get?_push_size _ rfl, rfl, rfl⟩, (hl1.push _)⟩ ?hS0 ?hR
        case hS0 =>
          refine ⟨(#[], 0, .fresh 0 0 (!w.params.followText "set-order")), [], ?_, pay_fresh, fun z => by simp, Nat.le_refl _⟩
          exact Heap.get?_push_of_some _ hS
        case hR =>
          intro s' hm hE
          obtain ⟨h', g', d', tk', os'⟩ := s'
          obtain rfl : g' = s.gens := hm.gens
          obtain rfl : d' = s.drawn := hm.drawn
          obtain rfl : os' = s.os := hm.os
          show wpAny _ _ _ _ _ _
          refine wpAny_pure ?_
          show wpAny _ _ (ret Value.none) _ _ _
          rw [hisz] at hE
          refine wpAny_pure ⟨rfl, h', tk', rfl, hE, fun b o e => ?_⟩
          have hb0 : b < s.heap.objs.size := Heap.lt_size e
          have hb2 : b ≠ (s.heap.push (newSet w)).objs.size := by
            rw [Heap.size_push]
            exact Nat.ne_of_lt (Nat.lt_succ_of_lt hb0)
          exact hm.heap b o (by simp only [List.mem_cons, List.mem_singleton, List.not_mem_nil, or_false, not_or]; exact ⟨Nat.ne_of_lt hb0, hb2⟩) (Heap.get?_push_of_some _ (Heap.get?_push_of_some _ e))
      · cases r₂ with
        | error e => exact hr₂
        | ok fl₂ =>
          cases fl₂ with
          | ret r =>
            obtain ⟨rfl, h', tk, rfl, ⟨D, l, q1, q2, q3, q4⟩, hk'⟩ := hr₂
            repeat (any_goals (first | assumption | wp_step))
            exact h _ _ D l q1 q2 q3 q4 hk'
          | _ => exact hr₂.elim
    | _ => exact hr.elim
theorem strs_out {es : List (Int × Value)} (h : ElemsOf (PySem.strKind P w) es) : ∀ v ∈ es.map (·.2), ∃ x t, v = Value.str x t := fun v hv => by
  obtain ⟨e, he, rfl⟩ := List.mem_map.mp hv
  obtain ⟨⟨x, q, _⟩, _⟩ := h e he
  have z : Value.isStrOf x e.2 = true := q
  obtain ⟨t, et⟩ := Value.isStrOf_shape (x := x) (v := e.2) z
  exact ⟨x, t, et⟩
/-- sorted(set of texts) -/
theorem call_sorted {Q : Value → Shared → Prop} (ho : s.heap.get? a = some (sOb D)) (F : Pay P w D l) (hh : A.handled = none) (h64 : l.length < 64)
    (h : ∀ s' p (out : Array Value) (c : Nat) (ys : List Str), (∀ b o, s.heap.get? b = some o → s'.heap.get? b = some o) → s'.gens = s.gens → s'.os = s.os → s.heap.objs.size ≤ p → s'.heap.get? p = some (seqObj "list" out c) → StrsAre out.toList ys → sortedS ys = true →
      (∀ z, z ∈ ys ↔ z ∈ l) → ys.length = l.length → Q (.ref p) s') : wpAny (model P w) A (call (.builtin "sorted") [.ref a]) Q E s := by
  obtain ⟨es, ep, t⟩ := D
  have hsz : es.size = l.length := F.tx.sz
  refine Calls.call_function_entry kind_sorted plain_sorted entry_sorted (args_sorted1 _) ?_
  unfold Builtin.«sorted»
  refine wpAny_bind (m := checkCount "sorted" 1 1 _) (wpAny_pure ?_)
  refine wpAny_bind (collect_set (A := A.in1) hh ⟨_, ho, rfl, rfl⟩ F.tx.fit (by show es.size < scanBound; rw [hsz]; exact Nat.lt_trans h64 (by decide)) F.ris F.led fun s1 vs k1 hz g1 o1 pm => ?_)
  have pm : vs.Perm (es.toList.map (·.2)) := pm
  have hvl : vs.length = l.length := by rw [pm.length_eq, List.length_map, Array.length_toList, hsz]
  have hall : ∀ v ∈ vs, ∃ x t, v = Value.str x t := fun v hv => strs_out F.tx.el v (pm.mem_iff.mp hv)
  have hS : StrsAre vs (vs.map strOf) := strsAre_map vs hall
  refine wpAny_bind (wpAny_newList ?_ (by rw [hvl, sizeLine_eq]; omega))
  have hoL : (s1.heap.push (seqObj "list" vs.toArray 0)).get? s1.heap.objs.size = some (seqObj "list" vs.toArray 0) := Heap.get?_push_size _ rfl
  refine wpAny_bind (wpAny_holding (wpAny_call_entry slot_list_sort ⟨_, hoL, rfl⟩ entry_list_sort (list_sort_treeK strKind_oneLt hoL hS.keysOf (fun v₁ v₂ rest e => keyKind_strs (by rw [← e]; exact hS)) (by rw [hvl]; exact h64) fun st' hp hs => ⟨_, rfl, ?_⟩) (args_list_sort _)))
  obtain ⟨ys, a1, a2, a3⟩ := sorted_out_str hS hp hs
  obtain ⟨c, hc⟩ := sortedHeap_at (vs := vs) (out := (arrOf st').map (·.2)) hoL
  refine wpAny_pure ⟨_, rfl, h _ s1.heap.objs.size _ c ys (fun b u e => ?_) g1 o1 hz hc a1 a3 (fun z => ?_) ?_⟩
  · have q := k1 b u e
    have hlt := Heap.lt_size q
    show (sortedHeap (s1.heap.push (seqObj "list" vs.toArray 0)) s1.heap.objs.size vs _).get? b = some u
    rw [sortedHeap_old (Nat.ne_of_lt hlt) (by rw [size_push']; exact Nat.lt_succ_of_lt hlt)]
    exact Heap.get?_push_of_some _ q
  · have m := F.tx.mem z
    rw [m, a2.mem_iff, List.mem_map]
    constructor
    · rintro ⟨v, hv, rfl⟩
      obtain ⟨x, t', rfl⟩ := hall v hv
      obtain ⟨e, he, q⟩ := List.mem_map.mp (pm.mem_iff.mp hv)
      exact ⟨e, he, by rw [q]; exact PySem.Froz.is_str x t'⟩
    · rintro ⟨e, he, q⟩
      have z1 : Value.isStrOf z e.2 = true := q
      obtain ⟨t', et⟩ := Value.isStrOf_shape (x := z) (v := e.2) z1
      exact ⟨e.2, pm.mem_iff.mpr (List.mem_map.mpr ⟨e, he, rfl⟩), by rw [et] <;> rfl⟩
  · rw [a2.length_eq, List.length_map, hvl]
end
/-- a set of the texts l -/
def SetT (P : Program) (w : World) (a : Addr) (l : List Str) : HO := .ext fun h => ∃ D, h.get? a = some (sOb D) ∧ Pay P w D l
theorem setT_ok {P : Program} {w : World} {H : Hp} {h : Heap} {a : Addr} {l : List Str} {D : SD} (ho : h.get? a = some (sOb D)) (F : Pay P w D l) : ObjOk P w H h a (SetT P w a l) :=
  ⟨⟨D, ho, F⟩, ⟨_, ho⟩, fun h1 h2 ⟨D', p, q⟩ k => ⟨D', k _ p, q⟩⟩
section
variable {X : Cx}
def rSetT (K : PySem.W.Frag) (P : Program) (w : World) : List V → Hp → VK → Prop := fun xs H Q => ∃ (L : Addr) (zs : List Str), xs = [V.ref L] ∧ SqL K H L (zs.map V.str) ∧ zs.length < 64 ∧
  ∀ (a : Addr) (l : List Str), H a = none → l.Nodup → (∀ z, z ∈ l ↔ z ∈ zs) → l.length ≤ zs.length → Q (.ref a) (upd H a (SetT P w a l))
theorem cr_setT (hc : X.calm = true) : CallR X (.type "set") (rSetT X.K X.prog X.w) := by
  intro pins s σ H xs us Q I r h
  obtain ⟨L, zs, rfl, hl, h64, q⟩ := h
  rw [Vals.ref1 r]
  obtain ⟨its, rv, pl, hz⟩ := I.list hl
  have hn : H s.heap.objs.size = none := I.hok.fresh (Nat.le_refl _)
  refine call_set (P := X.prog) (w := X.w) zs (I.ok.hd hc) pl.isList (by simpa using strsAre_of rv) (Nat.lt_trans (Nat.succ_lt_succ h64) (by decide)) fun h' tk D l q1 q2 q3 q4 k => ?_
  exact ⟨.ref s.heap.objs.size, upd H s.heap.objs.size (SetT X.prog X.w s.heap.objs.size l), I.laid (t' := tk) k (Nat.le_refl _) (setT_ok q1 q2), rfl, q _ l hn q2.nd q3 q4⟩
def rSortT (P : Program) (w : World) : List V → Hp → VK → Prop := fun xs H Q => ∃ (a : Addr) (l : List Str), xs = [V.ref a] ∧ H a = some (SetT P w a l) ∧ l.length < 64 ∧
  ∀ (ys : List Str) (p : Addr), sortedS ys = true → (∀ z, z ∈ ys ↔ z ∈ l) → ys.length = l.length → H p = none → Q (.ref p) (upd H p (.lst (ys.map V.str)))
theorem cr_sortT (hc : X.calm = true) : CallR X (.builtin "sorted") (rSortT X.prog X.w) := by
  intro pins s σ H vs us Q I r h
  obtain ⟨a, l, rfl, ha, h64, q⟩ := h
  obtain ⟨D, ho, F⟩ := (I.hok a _ ha).1
  rw [Vals.ref1 r]
  refine call_sorted ho F (I.ok.hd hc) h64 fun s' p out c ys k g o hp hg hi hs hm hl => ?_
  have hlen : (ys.map V.str).length ≤ sizeLine := by rw [List.length_map, hl, sizeLine_eq]; omega
  have hn : H p = none := I.hok.fresh hp
  have J : Inv X pins σ (upd H p (.lst (ys.map V.str))) { s with heap := s'.heap, gens := s'.gens, drawn := s'.drawn, toks := s'.toks } :=
    I.call (ch := []) (Un.laid k hp hn) (I.hok.laid k hp ⟨hlen, out.toList, c, vals_of_strs hi, hg⟩) (by rw [g]; exact I.bare) (fun _ z => nomatch z)
  have e : s' = { s with heap := s'.heap, gens := s'.gens, drawn := s'.drawn, toks := s'.toks } := by
    cases s'
    cases s
    cases o
    rfl
  rw [e]
  exact ⟨.ref p, _, J, rfl, q ys p hs hm hl hn⟩
end
end TxS
/-! zip of a tuple with a list -/
namespace ZiX
open PySem PySem.Spec PyProof.Rows L2
def ItX (K : PySem.W.Frag) (a b : Addr) : It where
  go := fun i H => ∃ (xs ys : List V) (x y : V), SqT K H a xs ∧ SqL K H b ys ∧ xs[i]? = some x ∧ ys[i]? = some y
  yld := fun i H v H' => ∃ (T : Addr) (x y : V), v = .ref T ∧ H T = none ∧ H' = upd H T (.tup [x, y]) ∧ (∀ xs, SqT K H a xs → xs[i]? = some x) ∧ ∀ ys, SqL K H b ys → ys[i]? = some y
  stop := fun i H => ∃ xs ys : List V, SqT K H a xs ∧ SqL K H b ys ∧ xs.length = i ∧ ys.length = i
abbrev Five (z TI TO i1 i2 : Addr) : List Addr := [z, TI, TO, i1, i2]
theorem five {z TI TO i1 i2 c : Addr} (h : c ∈ Five z TI TO i1 i2) : c = z ∨ c = TI ∨ c = TO ∨ c = i1 ∨ c = i2 := by simpa using h
def StX (a b z TI TO i1 i2 : Addr) (i : Nat) (h : Heap) : Prop := IsZip h z TI TO .none ∧ IsPair h TI (.ref i1) (.ref i2) ∧ (∃ x y, IsPair h TO x y) ∧ h.IsTupleIter i1 a i ∧ h.IsListIter i2 b i
theorem turnX {P : Program} {w : World} {K : PySem.W.Frag} {elts : List Expr} {kk : Nat} {tpos : Pos} {a b z TI TO i1 i2 : Addr} (S : ZipSep2 z TI TO i1 i2 [i1, a] [i2, b]) (na : a ≠ i1) (nb : b ≠ i2) :
    Turn P w K (.Tuple elts kk tpos) (ItX K a b) (Five z TI TO i1 i2) z (StX a b z TI TO i1 i2) where
  mem := by simp
  obj := fun i h st c hc => by
    obtain ⟨hz, hTI, ⟨x, y, hTO⟩, ⟨o1, e1, _, d1⟩, ⟨o2, e2, _, d2⟩⟩ := st
    rcases five hc with q | q | q | q | q <;> subst q
    · exact ⟨_, hz, fun v r => nomatch r⟩
    · exact ⟨_, hTI, fun v r => nomatch r⟩
    · exact ⟨_, hTO, fun v r => nomatch r⟩
    · exact ⟨o1, e1, fun v r => by rw [d1] at r; cases r⟩
    · exact ⟨o2, e2, fun v r => by rw [d2] at r; cases r⟩
  keep := fun i h h' st k => by
    obtain ⟨hz, hTI, ⟨x, y, hTO⟩, h1, h2⟩ := st
    refine ⟨k _ (by simp) _ hz, k _ (by simp) _ hTI, ⟨x, y, k _ (by simp) _ hTO⟩, ?_, ?_⟩
    · exact h1.at fun o r => k _ (by simp) o r
    · exact h2.at fun o r => k _ (by simp) o r
  item := by
    intro X eP ew eK hc i pins s σ H E I hf st hg
    subst eP ew eK
    obtain ⟨hz, hTI, ⟨x0, y0, hTO⟩, h1, h2⟩ := st
    obtain ⟨xs, ys, x, y, qx, qy, hx, hy⟩ := hg
    obtain ⟨us, rv, p, _⟩ := I.tuple qx
    obtain ⟨vs, rw2, p2, _⟩ := I.list qy
    obtain ⟨u, hu, ru⟩ := rv.get hx
    obtain ⟨v, hv, rvv⟩ := rw2.get hy
    have lu : i < us.toArray.size := by rw [List.size_toArray]; exact (List.getElem?_eq_some_iff.mp hu).1
    have lv : i < vs.toArray.size := by rw [List.size_toArray]; exact (List.getElem?_eq_some_iff.mp hv).1
    have zlt : z < s.heap.objs.size := Heap.lt_size hz
    have hA : X.A.in1.handled = none := I.ok.hd hc
    refine wpAny_pyNext_zipD2_item S (Draws.tuple hA i1 a na us.toArray) (Draws.list hA i2 b nb vs.toArray) hz hTI hTO ⟨h1, p⟩ ⟨h2, p2.isList⟩ lu lv fun x1 x2 h' tk e1 e2 z' TO' s1 s2 hT hsz hk => ?_
    have ex1 : u = x1 := by
      have e1 : us.toArray[i]? = some x1 := e1
      rw [List.getElem?_toArray, hu] at e1
      exact Option.some.inj e1
    have ex2 : v = x2 := by
      have e2 : vs.toArray[i]? = some x2 := e2
      rw [List.getElem?_toArray, hv] at e2
      exact Option.some.inj e2
    subst ex1 ex2
    refine ⟨_, rfl, wpAny_letOwnedTupleGo_zip (s := { s with heap := h', toks := tk }) z' fun h'' z'' sb => ?_⟩
    have pair : IsPair h'' s.heap.objs.size u v := (sb.2 _ (Nat.ne_of_gt zlt)).trans hT
    have new : ObjOk X.prog X.w (upd H s.heap.objs.size (.tup [x, y])) h'' s.heap.objs.size (.tup [x, y]) := ⟨Nat.le_trans (show 2 ≤ 3 by decide) (by decide), [u, v], .cons ru (.cons rvv .nil), ⟨_, pair, rfl, _, rfl⟩⟩
    have kp : ∀ c o, c ∉ Five z TI TO i1 i2 → s.heap.get? c = some o → h''.get? c = some o := fun c o hb q => by
      have nz : c ≠ z := fun e => hb (by simp [e])
      exact (sb.2 c nz).trans (hk c o nz (fun e => hb (by simp [e])) (fun e => hb (by simp [e])) (fun e => hb (by simp [e])) q)
    refine ⟨.ref s.heap.objs.size, _, I.turnedNew (t' := tk) (ch := Five z TI TO i1 i2) kp hf (Nat.le_refl _) new, rfl, ⟨_, x, y, rfl, I.hok.fresh (Nat.le_refl _), rfl, fun l hl => ?_, fun l hl => ?_⟩, ⟨z'', ?_, ⟨u, v, ?_⟩, ?_, ?_⟩, fun c hcm => ?_⟩
    · rw [I.tuple_inj hl qx]
      exact hx
    · rw [I.list_inj hl qy]
      exact hy
    · exact (sb.2 _ S.TIz).trans (hk _ _ S.TIz S.TITO S.TIi1 S.TIi2 hTI)
    · exact (sb.2 _ S.TOz).trans TO'
    · exact s1.1.at fun o q => (sb.2 _ S.zi1.symm).trans q
    · exact s2.1.at fun o q => (sb.2 _ S.zi2.symm).trans q
    · have lt : c < s.heap.objs.size := by
        rcases five hcm with q | q | q | q | q <;> subst q
        · exact zlt
        · exact Heap.lt_size hTI
        · exact Heap.lt_size hTO
        · obtain ⟨_, e, _⟩ := h1
          exact Heap.lt_size e
        · obtain ⟨_, e, _⟩ := h2
          exact Heap.lt_size e
      rw [upd_ne (Nat.ne_of_lt lt)]
      exact (hf c hcm).1
  done := by
    intro X eP ew eK hc i pins s σ H E I hf st hg
    subst eP ew eK
    obtain ⟨hz, hTI, ⟨x0, y0, hTO⟩, h1, h2⟩ := st
    obtain ⟨xs, ys, qx, qy, ei, ej⟩ := hg
    obtain ⟨us, rv, p, _⟩ := I.tuple qx
    obtain ⟨vs, rw2, p2, _⟩ := I.list qy
    have l1 : us.toArray.size = i := by rw [List.size_toArray, ← rv.length]; exact ei
    have l2 : vs.toArray.size = i := by rw [List.size_toArray, ← rw2.length]; exact ej
    have hA : X.A.in1.handled = none := I.ok.hd hc
    refine wpAny_pyNext_zipD2_end S (Draws.tuple hA i1 a na us.toArray) (Draws.list hA i2 b nb vs.toArray) hz hTI hTO ⟨h1, p⟩ ⟨h2, p2.isList⟩ (Nat.le_of_eq l1.symm) (Nat.le_of_eq l2.symm) (.inl l1.symm) fun h' tk hk => ⟨rfl, I.turnedL (t' := tk) (ch := Five z TI TO i1 i2) (fun c o hb q => ?_) hf⟩
    exact hk c o (fun e => hb (by simp [e])) (fun e => hb (by simp [e])) (fun e => hb (by simp [e])) (fun e => hb (by simp [e])) q
  self := fun A i s Q E st h => wpAny_pyIter_zip st.1 h
theorem ne_nat {x y : Nat} (h : ¬ x = y) : @Ne Addr x y := h
theorem out2 {x y z : Nat} (h : ¬ x = y) (h2 : ¬ x = z) : @Not ((x : Addr) ∈ ([y, z] : List Addr)) := fun m => by
  rcases List.mem_cons.mp m with e | m
  · exact h e
  · exact h2 (List.mem_singleton.mp m)
theorem sep_new (n a b : Nat) (ha : a < n) (hb : b < n) : ZipSep2 (n + 4) (n + 2) (n + 3) n (n + 1) [n, a] [n + 1, b] where
  TIz := ne_nat (by omega)
  TOz := ne_nat (by omega)
  TITO := ne_nat (by omega)
  TIi1 := ne_nat (by omega)
  mem1 := List.mem_cons_self ..
  zf1 := out2 (by omega) (by omega)
  Tf1 := out2 (by omega) (by omega)
  TIi2 := ne_nat (by omega)
  mem2 := List.mem_cons_self ..
  zf2 := out2 (by omega) (by omega)
  Tf2 := out2 (by omega) (by omega)
  sep1_2 := out2 (by omega) (by omega)
  sep2_1 := out2 (by omega) (by omega)
theorem ge_new {n c : Nat} (h : c = n + 4 ∨ c = n + 2 ∨ c = n + 3 ∨ c = n ∨ c = n + 1) : n ≤ c := by omega
def iZipX (K : PySem.W.Frag) (ta : TA) : TI := fun σ H R => ta σ H fun vs H1 => ∃ (a b : Addr) (xs ys : List V), vs = [.ref a, .ref b] ∧ SqT K H1 a xs ∧ SqL K H1 b ys ∧ R (ItX K a b) H1
theorem pi_zipX {X : Cx} {e e2 : Expr} {ta : TA} {p pos tpos : Pos} {elts : List Expr} {kk : Nat} (hg : Gl X "zip") (hm : X.mg "zip" = none) (ha : PA X [e, e2] ta)
    (hs : starEach [e, e2] X.env = (false, eval e X.env) :: starEach [e2] X.env := by rfl) (hpl : (backTo pos (starEach [e2] X.env)).any (·.1) = false := by rfl) :
    PI X (.Tuple elts kk tpos) (.Call (.Name "zip" p) [e, e2] [] pos) (iZipX X.K ta) := by
  refine ⟨fun pins s σ H R I h => ?_⟩
  refine Call_ (ld_blt I hg hm PyProof.Rows.boot_zip (PyProof.Rows.callWith_type1 (thn (ha.run pos pins s σ H _ I h) fun us s1 ⟨vs, H1, I1, r1, a, b, xs, ys, ex, qx, qy, q⟩ => ?_) hs hpl))
  subst ex
  obtain ⟨u1, u2, rfl, ra, rb⟩ := vals2 r1
  cases ra
  cases rb
  obtain ⟨us, rv, p1, _⟩ := I1.tuple qx
  obtain ⟨vs, rw2, p2, _⟩ := I1.list qy
  have la : a < s1.heap.objs.size := by
    obtain ⟨o, ho, _⟩ := id p1
    exact Heap.lt_size ho
  have lb : b < s1.heap.objs.size := p2.lt
  refine zip_begins2 (begins_tuple a us.toArray) (begins_list b vs.toArray) p1 p2.isList fun h' hz hTI hTO h1 h2 hsz hk => wpAny_pyIter_zip hz ?_
  have I2 : L2.Inv X pins σ H1 { s1 with heap := h' } := I1.kept (t' := s1.toks) hk
  refine ⟨s1.heap.objs.size + 4, Five (s1.heap.objs.size + 4) (s1.heap.objs.size + 2) (s1.heap.objs.size + 3) s1.heap.objs.size (s1.heap.objs.size + 1), _, _, H1, rfl, I2, turnX (sep_new s1.heap.objs.size a b la lb) (Nat.ne_of_lt la) (Nat.ne_of_lt (Nat.lt_succ_of_lt lb)), ⟨hz, hTI, ⟨_, _, hTO⟩, ⟨_, h1, rfl, rfl⟩, ⟨_, h2, rfl, rfl⟩⟩, fun c hcm => ?_, q⟩
  have hle : s1.heap.objs.size ≤ c := ge_new (five hcm)
  exact I1.fpOk hle (I1.hok.fresh hle)
theorem walkX {K : PySem.W.Frag} {a b : Addr} {xs ys : List V} (e : xs.length = ys.length) : Walk (ItX K a b) xs.length (fun H => SqT K H a xs ∧ SqL K H b ys) (YPair (fun i => xs[i]?) (fun i => ys[i]?)) where
  goes := fun i _ hi q => ⟨xs, ys, xs[i], ys[i]'(by omega), q.1, q.2, List.getElem?_eq_getElem hi, List.getElem?_eq_getElem (by omega)⟩
  stops := fun _ q => ⟨xs, ys, q.1, q.2, rfl, e.symm⟩
  yields := fun i H v H' _ q ⟨T, x, y, h1, h2, h3, h4, h5⟩ => ⟨T, x, y, h1, h2, h3, h4 xs q.1, h5 ys q.2⟩
end ZiX
/-! the greedy order is the least that fits (lists of texts alone) -/
namespace Topo
variable {α : Type} [DecidableEq α] {N : Type}
abbrev Stp (α N : Type) := α × N × α
def heldIn (S : List (Stp α N)) (left : List α) (x : α) : Bool := S.any fun s => decide (s.1 ∈ left) && decide (s.2.2 = x)
def free (S : List (Stp α N)) (left : List α) : List α := left.filter fun x => !heldIn S left x
def topo (S : List (Stp α N)) : Nat → List α → List α → Option (List α)
  | 0, _, order => some order
  | n + 1, left, order => match free S left with
    | [] => none
    | f :: _ => topo S n (left.filter fun z => decide (z ≠ f)) (order ++ [f])
def out (as p : List α) : List α := as.filter fun l => decide (l ∉ p)
def exts (as : List α) : Nat → List α → List (List α)
  | 0, p => [p]
  | k + 1, p => (out as p).flatMap fun l => exts as k (p ++ [l])
def ord (as : List α) : Nat → List (List α)
  | 0 => [[]]
  | k + 1 => (ord as k).flatMap fun p => (out as p).map fun l => p ++ [l]
def fitsS (S : List (Stp α N)) (q : List α) : Bool := S.all fun s => decide (q.idxOf s.1 ≤ q.idxOf s.2.2)
theorem exts_next (as : List α) : ∀ (k : Nat) (p : List α), (exts as k p).flatMap (fun p => (out as p).map fun l => p ++ [l]) = exts as (k + 1) p
  | 0, p => by
    show ([p].flatMap fun p => (out as p).map fun l => p ++ [l]) = (out as p).flatMap fun l => [p ++ [l]]
    rw [List.flatMap_singleton, List.map_eq_flatMap]
  | k + 1, p => by
    show ((out as p).flatMap fun l => exts as k (p ++ [l])).flatMap _ = (out as p).flatMap fun l => exts as (k + 1) (p ++ [l])
    rw [List.flatMap_assoc]
    congr 1
    funext l
    exact exts_next as k (p ++ [l])
theorem ord_eq (as : List α) : ∀ k : Nat, ord as k = exts as k []
  | 0 => rfl
  | k + 1 => by
    show (ord as k).flatMap _ = _
    rw [ord_eq as k, exts_next]
theorem mem_out {as p : List α} {z : α} : z ∈ out as p ↔ z ∈ as ∧ z ∉ p := by
  unfold out
  rw [List.mem_filter, decide_eq_true_iff]
theorem out_nd {as p : List α} (h : as.Nodup) : (out as p).Nodup := h.filter _
theorem out_snoc {as p : List α} {f : α} : (out as p).filter (fun z => decide (z ≠ f)) = out as (p ++ [f]) := by
  unfold out
  rw [List.filter_filter]
  congr 1
  funext z
  by_cases h1 : z = f <;> by_cases h2 : z ∈ p <;> simp [h1, h2]
theorem out_len {as p : List α} {f : α} (hn : as.Nodup) (hf : f ∈ out as p) {n : Nat} (hl : (out as p).length = n + 1) : (out as (p ++ [f])).length = n := by
  have e : out as (p ++ [f]) = (out as p).erase f := by
    rw [← out_snoc, List.Nodup.erase_eq_filter (out_nd hn)]
    congr 1
    funext z
    by_cases h : z = f <;> simp [h]
  rw [e, List.length_erase_of_mem hf, hl]
  rfl
theorem of_exts {as : List α} (hn : as.Nodup) : ∀ {n : Nat} {p q : List α}, (out as p).length = n → q ∈ exts as n p → ∃ r, q = p ++ r ∧ r.Nodup ∧ ∀ z, z ∈ r ↔ z ∈ as ∧ z ∉ p
  | 0, p, q, hl, hq => by
    have hq : q = p := List.mem_singleton.mp hq
    have e : out as p = [] := List.length_eq_zero_iff.mp hl
    refine ⟨[], by rw [hq, List.append_nil], List.nodup_nil, fun z => ?_⟩
    rw [← mem_out, e]
  | n + 1, p, q, hl, hq => by
    obtain ⟨l, hl2, hq2⟩ := List.mem_flatMap.mp hq
    obtain ⟨r, e, nd, hm⟩ := of_exts hn (out_len hn hl2 hl) hq2
    have hl3 := mem_out.mp hl2
    refine ⟨l :: r, by rw [e, List.append_assoc] <;> rfl, List.nodup_cons.mpr ⟨fun h => ((hm l).mp h).2 (by simp), nd⟩, fun z => ?_⟩
    rw [List.mem_cons, hm z]
    by_cases h1 : z = l
    · rw [h1]
      simp [hl3]
    · simp [h1]
theorem to_exts {as : List α} (hn : as.Nodup) : ∀ {n : Nat} {p r : List α}, (out as p).length = n → r.Nodup → (∀ z, z ∈ r ↔ z ∈ as ∧ z ∉ p) → p ++ r ∈ exts as n p
  | 0, p, r, hl, nd, hm => by
    have e : out as p = [] := List.length_eq_zero_iff.mp hl
    have er : r = [] := List.eq_nil_iff_forall_not_mem.mpr fun z hz => by
      have := mem_out.mpr ((hm z).mp hz)
      rw [e] at this
      cases this
    rw [er, List.append_nil]
    exact List.mem_singleton.mpr rfl
  | n + 1, p, r, hl, nd, hm => by
    cases r with
    | nil =>
      exfalso
      cases h : out as p with
      | nil => rw [h] at hl; cases hl
      | cons x xs =>
        have := (hm x).mpr (mem_out.mp (by rw [h]; exact List.mem_cons_self ..))
        cases this
    | cons l r =>
      have hl2 : l ∈ out as p := mem_out.mpr ((hm l).mp (List.mem_cons_self ..))
      obtain ⟨n1, n2⟩ := List.nodup_cons.mp nd
      refine List.mem_flatMap.mpr ⟨l, hl2, ?_⟩
      have e : p ++ l :: r = (p ++ [l]) ++ r := by rw [List.append_assoc] <;> rfl
      rw [e]
      refine to_exts hn (out_len hn hl2 hl) n2 fun z => ?_
      have hz := hm z
      by_cases h1 : z = l
      · rw [h1]
        simp [n1]
      · rw [List.mem_cons] at hz
        simp only [h1, false_or] at hz
        rw [hz]
        simp [h1]
theorem idx_in {p r : List α} {z : α} (h : z ∈ p) : (p ++ r).idxOf z = p.idxOf z := by
  rw [List.idxOf_append, if_pos h]
theorem idx_out {p r : List α} {z : α} (h : z ∉ p) : (p ++ r).idxOf z = r.idxOf z + p.length := by
  rw [List.idxOf_append, if_neg h]
theorem idx_lt {p : List α} {z : α} (h : z ∈ p) : p.idxOf z < p.length := List.idxOf_lt_length_iff.mpr h
theorem idx_ne {x a : α} {r : List α} (h : x ≠ a) : (x :: r).idxOf a = r.idxOf a + 1 := by
  rw [List.idxOf_cons, beq_false_of_ne h] <;> rfl
theorem erase_idx {a b f : α} (ha : a ≠ f) (hb : b ≠ f) : ∀ {r : List α}, r.idxOf a ≤ r.idxOf b → (r.erase f).idxOf a ≤ (r.erase f).idxOf b
  | [], h => h
  | x :: r, h => by
    by_cases hx : x = f
    · have e : (x :: r).erase f = r := by rw [hx, List.erase_cons_head]
      rw [e]
      rw [idx_ne (by rw [hx]; exact fun q => ha q.symm), idx_ne (by rw [hx]; exact fun q => hb q.symm)] at h
      omega
    · have e : (x :: r).erase f = x :: r.erase f := by rw [List.erase_cons_tail]; simpa using hx
      rw [e]
      by_cases h1 : x = a
      · rw [h1, List.idxOf_cons_self]
        exact Nat.zero_le _
      · by_cases h2 : x = b
        · exfalso
          rw [h2, List.idxOf_cons_self, idx_ne (by rw [← h2]; exact h1)] at h
          omega
        · rw [idx_ne h1, idx_ne h2] at h
          rw [idx_ne h1, idx_ne h2]
          have := erase_idx ha hb (r := r) (by omega)
          omega
def OkS (S : List (Stp α N)) (as : List α) : Prop := ∀ s ∈ S, s.1 ∈ as ∧ s.2.2 ∈ as ∧ s.1 ≠ s.2.2
def InvT (S : List (Stp α N)) (p : List α) : Prop := ∀ s ∈ S, s.2.2 ∈ p → s.1 ∈ p ∧ p.idxOf s.1 ≤ p.idxOf s.2.2
theorem held_bad {S : List (Stp α N)} {as p : List α} (hn : as.Nodup) (ok : OkS S as) {n : Nat} (hl : (out as p).length = n + 1) {l : α} (hl2 : l ∈ out as p) (hh : heldIn S (out as p) l = true) : (exts as n (p ++ [l])).find? (fitsS S) = none := by
  refine List.find?_eq_none.mpr fun q hq => ?_
  obtain ⟨r, e, nd, hm⟩ := of_exts hn (out_len hn hl2 hl) hq
  obtain ⟨s, hs, hs2⟩ := List.any_eq_true.mp hh
  rw [Bool.and_eq_true, decide_eq_true_iff, decide_eq_true_iff] at hs2
  obtain ⟨h1, h2⟩ := hs2
  have h1' := mem_out.mp h1
  have hl3 := mem_out.mp hl2
  intro hf
  have hf := List.all_eq_true.mp hf s hs
  have hf := of_decide_eq_true hf
  have ne : s.1 ≠ l := by rw [← h2]; exact (ok s hs).2.2
  rw [h2, e, idx_out (by simp [h1'.2, ne]), idx_in (by simp), idx_out hl3.2, List.length_append, List.idxOf_cons_self] at hf
  have : ([l] : List α).length = 1 := rfl
  omega
theorem inv_next {S : List (Stp α N)} {as p : List α} (ok : OkS S as) (inv : InvT S p) {f : α} (hf : f ∈ out as p) (nh : heldIn S (out as p) f = false) : InvT S (p ++ [f]) := fun s hs h => by
  have hf2 := mem_out.mp hf
  by_cases h2 : s.2.2 ∈ p
  · obtain ⟨a, b⟩ := inv s hs h2
    exact ⟨List.mem_append_left _ a, by rw [idx_in a, idx_in h2]; exact b⟩
  · have e : s.2.2 = f := by
      rcases List.mem_append.mp h with h | h
      · exact absurd h h2
      · exact List.mem_singleton.mp h
    have a : s.1 ∈ p := Decidable.byContradiction fun hn => by
      have : heldIn S (out as p) f = true := List.any_eq_true.mpr ⟨s, hs, by rw [Bool.and_eq_true, decide_eq_true_iff, decide_eq_true_iff]; exact ⟨mem_out.mpr ⟨(ok s hs).1, hn⟩, e⟩⟩
      rw [nh] at this
      cases this
    refine ⟨List.mem_append_left _ a, ?_⟩
    rw [idx_in a, idx_out h2]
    have := idx_lt a
    omega
theorem front_fits {S : List (Stp α N)} {as p : List α} (ok : OkS S as) (inv : InvT S p) {f : α} (hf : f ∈ out as p) (nh : heldIn S (out as p) f = false) {r : List α} (hr : fitsS S (p ++ r) = true) : fitsS S (p ++ f :: r.erase f) = true := by
  refine List.all_eq_true.mpr fun s hs => decide_eq_true ?_
  have h0 := of_decide_eq_true (List.all_eq_true.mp hr s hs)
  have hf2 := mem_out.mp hf
  by_cases hb : s.2.2 ∈ p
  · obtain ⟨a, b⟩ := inv s hs hb
    rw [idx_in a, idx_in hb]
    exact b
  · by_cases ha : s.1 ∈ p
    · rw [idx_in ha, idx_out hb]
      have := idx_lt ha
      omega
    · have nb : s.2.2 ≠ f := fun e => by
        have : heldIn S (out as p) f = true := List.any_eq_true.mpr ⟨s, hs, by rw [Bool.and_eq_true, decide_eq_true_iff, decide_eq_true_iff]; exact ⟨mem_out.mpr ⟨(ok s hs).1, ha⟩, e⟩⟩
        rw [nh] at this
        cases this
      rw [idx_out ha, idx_out hb] at h0 ⊢
      by_cases ea : s.1 = f
      · rw [ea, List.idxOf_cons_self]
        omega
      · rw [idx_ne (fun q => ea q.symm), idx_ne (fun q => nb q.symm)]
        have := erase_idx (r := r) ea nb (by omega)
        omega
theorem find_exts {S : List (Stp α N)} {as : List α} (hn : as.Nodup) (ok : OkS S as) : ∀ {n : Nat} {p : List α}, (out as p).length = n → InvT S p → (exts as n p).find? (fitsS S) = topo S n (out as p) p
  | 0, p, hl, inv => by
    have e : out as p = [] := List.length_eq_zero_iff.mp hl
    have hf : fitsS S p = true := List.all_eq_true.mpr fun s hs => decide_eq_true (inv s hs (Decidable.byContradiction fun h => by
      have := mem_out.mpr ⟨(ok s hs).2.1, h⟩
      rw [e] at this
      cases this)).2
    show ([p].find? (fitsS S)) = some p
    rw [List.find?_cons_of_pos hf]
  | n + 1, p, hl, inv => by
    have ex : (exts as (n + 1) p).find? (fitsS S) = (out as p).findSome? fun l => (exts as n (p ++ [l])).find? (fitsS S) := List.find?_flatMap
    rw [ex]
    show _ = match free S (out as p) with
      | [] => none
      | f :: _ => topo S n ((out as p).filter fun z => decide (z ≠ f)) (p ++ [f])
    cases hfr : free S (out as p) with
    | nil =>
      refine List.findSome?_eq_none_iff.mpr fun l hl2 => held_bad hn ok hl hl2 ?_
      have : l ∉ free S (out as p) := by rw [hfr]; exact List.not_mem_nil
      unfold free at this
      rw [List.mem_filter] at this
      have h2 : ¬ ((!heldIn S (out as p) l) = true) := fun h => this ⟨hl2, h⟩
      simpa using h2
    | cons f rest =>
      have hf : f ∈ free S (out as p) := by rw [hfr]; exact List.mem_cons_self ..
      have hf2 := List.mem_filter.mp hf
      have nh : heldIn S (out as p) f = false := by simpa using hf2.2
      -- split at f
      obtain ⟨F1, F2, eF, hF1⟩ : ∃ F1 F2, out as p = F1 ++ f :: F2 ∧ ∀ x ∈ F1, heldIn S (out as p) x = true := by
        have h0 : (out as p).filter (fun x => !heldIn S (out as p) x) = f :: rest := hfr
        obtain ⟨F1, F2, e1, e2, e3, e4⟩ := List.filter_eq_cons_iff.mp h0
        refine ⟨F1, F2, e1, fun x hx => ?_⟩
        have := e2 x hx
        simpa using this
      have ih := find_exts hn ok (out_len hn hf2.1 hl) (inv_next ok inv hf2.1 nh)
      show _ = topo S n ((out as p).filter fun z => decide (z ≠ f)) (p ++ [f])
      rw [out_snoc]
      have e1 : F1.findSome? (fun l => (exts as n (p ++ [l])).find? (fitsS S)) = none := List.findSome?_eq_none_iff.mpr fun l hl2 => held_bad hn ok hl (by rw [eF]; exact List.mem_append_left _ hl2) (hF1 l hl2)
      rw [eF, List.findSome?_append, e1, Option.none_or, List.findSome?_cons]
      rw [ih]
      cases ht : topo S n (out as (p ++ [f])) (p ++ [f]) with
      | some q => rfl
      | none =>
        rw [ht] at ih
        show F2.findSome? _ = none
        refine List.findSome?_eq_none_iff.mpr fun l hl2 => List.find?_eq_none.mpr fun q hq hfq => ?_
        have hlo : l ∈ out as p := by rw [eF]; exact List.mem_append_right _ (List.mem_cons_of_mem _ hl2)
        have hq1 : q ∈ exts as (n + 1) p := List.mem_flatMap.mpr ⟨l, hlo, hq⟩
        obtain ⟨r, e, nd, hm⟩ := of_exts hn hl hq1
        have hfr2 : f ∈ r := (hm f).mpr (mem_out.mp hf2.1)
        have hq2 : (p ++ [f]) ++ r.erase f ∈ exts as n (p ++ [f]) := to_exts hn (out_len hn hf2.1 hl) (nd.erase f) fun z => by
          rw [List.Nodup.mem_erase_iff nd, hm z]
          simp
          constructor
          · rintro ⟨a, b, c⟩
            exact ⟨b, c, a⟩
          · rintro ⟨a, b, c⟩
            exact ⟨c, a, b⟩
        have := List.find?_eq_none.mp ih _ hq2
        rw [e] at hfq
        have ff := front_fits ok inv hf2.1 nh hfq
        have ea : (p ++ [f]) ++ r.erase f = p ++ f :: r.erase f := by rw [List.append_assoc] <;> rfl
        rw [ea] at this
        exact this ff
/-- the first of all orders that fits is the greedy one -/
theorem least_topo {S : List (Stp α N)} {as : List α} (hn : as.Nodup) (ok : OkS S as) : (ord as as.length).find? (fitsS S) = topo S as.length as [] := by
  have e : out as ([] : List α) = as := by
    unfold out
    exact List.filter_eq_self.mpr fun a _ => by simp
  have := find_exts (S := S) (n := as.length) (p := []) hn ok (by rw [e]) (fun s _ h => by cases h)
  rw [ord_eq, this, e]
end Topo
/-! the ring -/
namespace Topo
variable {α : Type} [DecidableEq α] {N : Type}
structure RingOk (S W : List (Stp α N)) : Prop where
  ne : W ≠ []
  nd : (W.map fun s => s.2.2).Nodup
  link : ∀ (k : Nat) (s t : Stp α N), W[k]? = some s → W[(k + 1) % W.length]? = some t → s.2.2 = t.1
  sub : ∀ s ∈ W, s ∈ S
/-- steps found so far, from a letter up to c -/
structure RI (S : List (Stp α N)) (left : List α) (F : List (Stp α N)) (c : α) : Prop where
  nd : (F.map fun s => s.2.2).Nodup
  sub : ∀ x ∈ F.map fun s => s.2.2, x ∈ left
  cur : c ∈ left
  st : ∀ s ∈ F, s ∈ S
  link : ∀ (i : Nat) (s : Stp α N), F[i]? = some s → ((F.map fun s => s.2.2) ++ [c])[i + 1]? = some s.1
theorem RI.nil {S : List (Stp α N)} {left : List α} {c : α} (h : c ∈ left) : RI S left [] c := ⟨List.nodup_nil, (fun _ h => by cases h), h, (fun _ h => by cases h), (fun _ _ h => by cases h)⟩
theorem RI.next {S : List (Stp α N)} {left : List α} {F : List (Stp α N)} {c : α} {s : Stp α N} (h : RI S left F c) (hc : c ∉ F.map fun s => s.2.2) (h1 : s.2.2 = c) (h2 : s.1 ∈ left) (h3 : s ∈ S) : RI S left (F ++ [s]) s.1 := by
  have e : (F ++ [s]).map (fun s => s.2.2) = (F.map fun s => s.2.2) ++ [c] := by rw [List.map_append, List.map_singleton, h1]
  refine ⟨?_, ?_, h2, ?_, ?_⟩
  · rw [e, List.nodup_append]
    refine ⟨h.nd, by simp, fun a ha b hb q => ?_⟩
    rw [List.mem_singleton.mp hb] at q
    exact hc (q ▸ ha)
  · rw [e]
    intro x hx
    rcases List.mem_append.mp hx with hx | hx
    · exact h.sub x hx
    · rw [List.mem_singleton.mp hx]
      exact h.cur
  · intro x hx
    rcases List.mem_append.mp hx with hx | hx
    · exact h.st x hx
    · rw [List.mem_singleton.mp hx]
      exact h3
  · intro i t ht
    rw [e]
    by_cases hi : i < F.length
    · rw [List.getElem?_append_left hi] at ht
      rw [List.getElem?_append_left (by simp; omega)]
      exact h.link i t ht
    · rw [List.getElem?_append_right (by omega)] at ht
      have hz : i = F.length := by
        have := (List.getElem?_eq_some_iff.mp ht).1
        simp at this
        omega
      subst hz
      simp at ht
      subst ht
      rw [List.getElem?_append_right (by simp)]
      simp
theorem nd_le : ∀ {l m : List α}, l.Nodup → (∀ x ∈ l, x ∈ m) → l.length ≤ m.length
  | [], _, _, _ => Nat.zero_le _
  | a :: l, m, h, hs => by
    obtain ⟨h1, h2⟩ := List.nodup_cons.mp h
    have ha := hs a (List.mem_cons_self ..)
    have := nd_le (l := l) (m := m.erase a) h2 fun x hx => (List.mem_erase_of_ne fun q => h1 (by rw [← q]; exact hx)).mpr (hs x (List.mem_cons_of_mem _ hx))
    rw [List.length_erase_of_mem ha] at this
    have := List.length_pos_of_mem ha
    rw [List.length_cons]
    omega
theorem RI.le {S : List (Stp α N)} {left : List α} {F : List (Stp α N)} {c : α} (h : RI S left F c) : F.length ≤ left.length := by
  have := nd_le h.nd h.sub
  rw [List.length_map] at this
  exact this
theorem RI.ring {S : List (Stp α N)} {left : List α} {F : List (Stp α N)} {c : α} (h : RI S left F c) (hc : c ∈ F.map fun s => s.2.2) : RingOk S (F.drop (((F.map fun s => s.2.2) ++ [c]).idxOf c)).reverse := by
  have e0 : ((F.map fun s => s.2.2) ++ [c]).idxOf c = (F.map fun s => s.2.2).idxOf c := idx_in hc
  rw [e0]
  generalize hj : (F.map fun s => s.2.2).idxOf c = j
  have jl : j < F.length := by
    have := idx_lt hc
    rw [List.length_map, hj] at this
    exact this
  have jc : ∀ s, F[j]? = some s → s.2.2 = c := fun s hs => by
    have q : (F.map fun s => s.2.2)[j]? = some s.2.2 := by rw [List.getElem?_map, hs] <;> rfl
    have q2 : (F.map fun s => s.2.2)[j]? = some c := by
      have lt := idx_lt hc
      rw [hj] at lt
      rw [List.getElem?_eq_getElem lt]
      congr 1
      subst hj
      exact List.getElem_idxOf lt
    rw [q] at q2
    exact Option.some.inj q2
  have len : (F.drop j).reverse.length = F.length - j := by rw [List.length_reverse, List.length_drop]
  have at_ : ∀ k, k < F.length - j → (F.drop j).reverse[k]? = F[F.length - 1 - k]? := fun k hk => by
    rw [List.getElem?_reverse (by rw [List.length_drop]; exact hk), List.length_drop, List.getElem?_drop]
    congr 1
    omega
  refine ⟨?_, ?_, ?_, ?_⟩
  · intro q
    have := congrArg List.length q
    rw [len] at this
    have : F.length - j = 0 := this
    omega
  · rw [List.map_reverse, List.map_drop]
    exact (List.reverse_perm _).nodup_iff.mpr (h.nd.sublist (List.drop_sublist _ _))
  · intro k s t hs ht
    have hk : k < F.length - j := by
      have := (List.getElem?_eq_some_iff.mp hs).1
      rw [len] at this
      exact this
    rw [at_ k hk] at hs
    rw [len] at ht
    by_cases hl : k + 1 < F.length - j
    · rw [Nat.mod_eq_of_lt hl, at_ _ hl] at ht
      have q := h.link _ _ ht
      rw [show F.length - 1 - (k + 1) + 1 = F.length - 1 - k by omega, List.getElem?_append_left (by rw [List.length_map]; omega), List.getElem?_map, hs] at q
      exact Option.some.inj q
    · have ek : k + 1 = F.length - j := by omega
      rw [ek, Nat.mod_self, at_ 0 (by omega)] at ht
      have q := h.link _ _ ht
      rw [show F.length - 1 - 0 + 1 = F.length by omega, List.getElem?_append_right (by rw [List.length_map]; exact Nat.le_refl _), List.length_map, Nat.sub_self] at q
      have q : c = t.1 := Option.some.inj q
      rw [show F.length - 1 - k = j by omega] at hs
      rw [jc s hs]
      exact q
  · intro s hs
    exact h.st s (List.mem_of_mem_drop (List.mem_reverse.mp hs))
/-- a held letter has a step -/
theorem held_step {S : List (Stp α N)} {left : List α} {c : α} (h : heldIn S left c = true) : ∃ s r, S.filter (fun s => decide (s.2.2 = c) && decide (s.1 ∈ left)) = s :: r ∧ s ∈ S ∧ s.2.2 = c ∧ s.1 ∈ left := by
  obtain ⟨s, hs, hs2⟩ := List.any_eq_true.mp h
  rw [Bool.and_eq_true, decide_eq_true_iff, decide_eq_true_iff] at hs2
  cases e : S.filter (fun s => decide (s.2.2 = c) && decide (s.1 ∈ left)) with
  | nil =>
    have : s ∈ S.filter (fun s => decide (s.2.2 = c) && decide (s.1 ∈ left)) := List.mem_filter.mpr ⟨hs, by rw [decide_eq_true hs2.2, decide_eq_true hs2.1] <;> rfl⟩
    rw [e] at this
    cases this
  | cons t r =>
    have ht : t ∈ S.filter (fun s => decide (s.2.2 = c) && decide (s.1 ∈ left)) := by rw [e]; exact List.mem_cons_self ..
    obtain ⟨h1, h2⟩ := List.mem_filter.mp ht
    rw [Bool.and_eq_true, decide_eq_true_iff, decide_eq_true_iff] at h2
    exact ⟨t, r, rfl, h1, h2.1, h2.2⟩
theorem free_nil {S : List (Stp α N)} {left : List α} (h : free S left = []) {c : α} (hc : c ∈ left) : heldIn S left c = true := by
  have : c ∉ free S left := by rw [h]; exact List.not_mem_nil
  unfold free at this
  rw [List.mem_filter] at this
  simpa using fun q => this ⟨hc, q⟩
end Topo
namespace Lw
open PySem L2 TzR TL
/-! a comprehension of two clauses over walks -/
section
variable {J : It} {n : Nat} {G : Hp → Prop} {Y : Nat → Hp → V → Hp → Prop}
/-- the inner loop's due -/
abbrev In2 (J1 : It) (g1 : TG) (tt1 : TT) (te : TE) (vs1 : List Nat) (σ2 : St) (D : Addr) (Nx : Hp → Prop) (H4 : Hp) : Prop := ∃ W1 : Nat → Nat → Hp → Prop, (∃ m, W1 0 m H4) ∧ ∀ j k H, W1 j k H →
  (J1.stop j H ∧ Nx H) ∨ (J1.go j H ∧ ∃ Nx1 : Hp → Prop, (∀ H', Nx1 H' → ∃ k', k' < k ∧ W1 (j + 1) k' H') ∧ ∀ x H', J1.yld j H x H' → g1 x (wipe σ2 vs1) H' fun σ3 H5 => wipe σ3 vs1 = wipe σ2 vs1 ∧ tt1 σ3 H5 fun b H6 =>
    if b = true then te σ3 H6 fun y H7 => ∃ acc, H7 D = some (.lst acc) ∧ acc.length < sizeLine ∧ Nx1 (upd H7 D (.lst (acc ++ [y]))) else Nx1 H6)
theorem in2_it (w : Walk J n G Y) {g1 : TG} {tt1 : TT} {te : TE} {vs1 : List Nat} {σ2 : St} {H4 : Hp} {D : Addr} {Nx : Hp → Prop} (Pv : Nat → Hp → Prop) (h0 : Pv 0 H4) (hG : ∀ i H, i ≤ n → Pv i H → G H)
    (hs : ∀ i x H H', i < n → Pv i H → Y i H x H' → g1 x (wipe σ2 vs1) H' fun σ3 H5 => wipe σ3 vs1 = wipe σ2 vs1 ∧ tt1 σ3 H5 fun b H6 =>
      if b = true then te σ3 H6 fun y H7 => ∃ acc, H7 D = some (.lst acc) ∧ acc.length < sizeLine ∧ Pv (i + 1) (upd H7 D (.lst (acc ++ [y]))) else Pv (i + 1) H6) (hd : ∀ H, Pv n H → Nx H) : In2 J g1 tt1 te vs1 σ2 D Nx H4 := by
  refine ⟨fun i m H => m = n - i ∧ i ≤ n ∧ Pv i H, ⟨n, by simp, Nat.zero_le _, h0⟩, ?_⟩
  rintro i m H ⟨rfl, hi, p⟩
  have q := hG i H hi p
  by_cases hlt : i < n
  · refine .inr ⟨w.goes i H hlt q, Pv (i + 1), fun H' p' => ⟨n - (i + 1), by omega, rfl, hlt, p'⟩, fun x H' y => hs i x H H' hlt p (w.yields i H x H' hlt q y)⟩
  · have e : i = n := by omega
    subst e
    exact .inl ⟨w.stops H q, hd H p⟩
theorem out2_it (w : Walk J n G Y) {g : TG} {tt : TT} {wi1 : TI} {g1 : TG} {tt1 : TT} {te : TE} {vs vs1 : List Nat} {σ : St} {H1 : Hp} {D : Addr} {Qd : Hp → Prop} (Pv : Nat → Hp → Prop) (h0 : Pv 0 (upd H1 D (.lst []))) (hG : ∀ i H, i ≤ n → Pv i H → G H)
    (hs : ∀ i x H H', i < n → Pv i H → Y i H x H' → g x (wipe σ vs) H' fun σ2 H2 => wipe σ2 vs = wipe σ vs ∧ tt σ2 H2 fun b H3 =>
      if b = true then wi1 σ2 H3 fun J1 H4 => In2 J1 g1 tt1 te vs1 σ2 D (Pv (i + 1)) H4 else Pv (i + 1) H3) (hd : ∀ H, Pv n H → Qd H) :
    ∃ W : Nat → Nat → Hp → Prop, (∃ m, W 0 m (upd H1 D (.lst []))) ∧ ∀ i m H, W i m H →
      (J.stop i H ∧ Qd H) ∨ (J.go i H ∧ ∃ Nx : Hp → Prop, (∀ H', Nx H' → ∃ m', m' < m ∧ W (i + 1) m' H') ∧ ∀ x H', J.yld i H x H' → g x (wipe σ vs) H' fun σ2 H2 => wipe σ2 vs = wipe σ vs ∧ tt σ2 H2 fun b H3 =>
        if b = true then wi1 σ2 H3 fun J1 H4 => In2 J1 g1 tt1 te vs1 σ2 D Nx H4 else Nx H3) := by
  refine ⟨fun i m H => m = n - i ∧ i ≤ n ∧ Pv i H, ⟨n, by simp, Nat.zero_le _, h0⟩, ?_⟩
  rintro i m H ⟨rfl, hi, p⟩
  have q := hG i H hi p
  by_cases hlt : i < n
  · refine .inr ⟨w.goes i H hlt q, Pv (i + 1), fun H' p' => ⟨n - (i + 1), by omega, rfl, hlt, p'⟩, fun x H' y => hs i x H H' hlt p (w.yields i H x H' hlt q y)⟩
  · have e : i = n := by omega
    subst e
    exact .inl ⟨w.stops H q, hd H p⟩
end
/-! a comprehension with a test, over data -/
def InvF {α : Type} (H0 : Hp) (D : Addr) (f : α → V) (p : α → Bool) (zs : List α) (i : Nat) (H : Hp) : Prop := H D = some (.lst (((zs.take i).filter p).map f)) ∧ Same H0 H
theorem InvF.no {α : Type} {H0 H : Hp} {D : Addr} {f : α → V} {p : α → Bool} {zs : List α} {i : Nat} {z : α} (h : InvF H0 D f p zs i H) (e : zs[i]? = some z) (hp : p z = false) : InvF H0 D f p zs (i + 1) H := by
  refine ⟨?_, h.2⟩
  rw [h.1, List.take_succ, e, List.filter_append]
  show _ = some (HO.lst (List.map f (_ ++ List.filter p [z])))
  rw [List.filter_cons, hp]
  show _ = some (HO.lst (List.map f (_ ++ [])))
  rw [List.append_nil]
theorem InvF.yes {α : Type} {H0 H H' : Hp} {D : Addr} {f : α → V} {p : α → Bool} {zs : List α} {i : Nat} {z : α} (hd : H0 D = none) (g : Same H0 H') (e : zs[i]? = some z) (hp : p z = true) : InvF H0 D f p zs (i + 1) (upd H' D (.lst (((zs.take i).filter p).map f ++ [f z]))) := by
  refine ⟨?_, same_over g hd _⟩
  rw [upd_same, List.take_succ, e, List.filter_append]
  show _ = some (HO.lst (List.map f (_ ++ List.filter p [z])))
  rw [List.filter_cons, hp, List.map_append]
  rfl
theorem InvF.len {α : Type} {f : α → V} {p : α → Bool} {zs : List α} {i : Nat} (h : zs.length ≤ 1000) : (((zs.take i).filter p).map f).length < sizeLine := by
  rw [List.length_map]
  have := List.length_filter_le p (zs.take i)
  rw [List.length_take] at this
  exact small1000 (by omega)
theorem keptP {σ : St} {H : Hp} {A S : Hp → Prop} (h : A H) : tYes σ H fun b H3 => if b = true then A H3 else S H3 := iteT (A := A H) (B := S H) h
theorem dstr (a b : Str) : decide (V.str a = V.str b) = decide (a = b) := decide_eq_decide.mpr ⟨fun e => by injection e, fun e => by rw [e]⟩
/-- l.index(x) of texts -/
theorem ix_str {od : List Str} {x : Str} (h : x ∈ od) : ∃ z : V, (od.map V.str)[od.idxOf x]? = some z ∧ eqV z (.str x) = true ∧ ∀ (m : Nat) (z' : V), m < od.idxOf x → (od.map V.str)[m]? = some z' → eqV z' (.str x) = false := by
  obtain ⟨i1, i2⟩ := idx_at h
  refine ⟨.str x, by rw [List.getElem?_map, i1] <;> rfl, beq_self_eq_true x, fun m z' hm e => ?_⟩
  obtain ⟨y, ey, rfl⟩ := at_map e
  show (y == x) = false
  exact beq_eq_false_iff_ne.mpr fun q => i2 m hm (by rw [ey, q])
theorem cut_drop (xs : List V) (i : Nat) (h : i ≤ xs.length) : cutV xs (some (i : Int)) none = xs.drop i := by
  unfold cutV
  rw [sIx_nat, sIx_none, Nat.min_eq_left h, List.take_of_length_le (by rw [List.length_drop]; exact Nat.le_refl _)]
theorem cut_last (xs : List V) (x : V) : cutV (xs ++ [x]) none (some (-1)) = xs := by
  unfold cutV
  have e : HT.sIx (xs ++ [x]).length (xs ++ [x]).length (some (-1)) = xs.length := by
    show (if (-1 : Int) < 0 then ((-1 : Int) + ((xs ++ [x]).length : Int)).toNat else min (-1 : Int).toNat (xs ++ [x]).length) = xs.length
    rw [if_pos (by decide), List.length_append, List.length_singleton]
    omega
  rw [e, sIx_none, List.drop_zero, Nat.sub_zero, List.take_append_of_le_length (Nat.le_refl _), List.take_length]
/-! steps -/
abbrev Stp := Str × Nat × Str
def TripAt (K : PySem.W.Frag) (H : Hp) (v : V) (s : Stp) : Prop := ∃ a : Addr, v = .ref a ∧ SqT K H a [.str s.1, .int (s.2.1 : Nat), .str s.2.2]
theorem TripAt.mono {K : PySem.W.Frag} {H H' : Hp} (g : TK K H H') {v : V} {s : Stp} : TripAt K H v s → TripAt K H' v s
  | ⟨a, e, h⟩ => ⟨a, e, g _ _ h⟩
/-- values and the steps that they show -/
def TripsL (K : PySem.W.Frag) (H : Hp) (L : List (V × Stp)) : Prop := ∀ q ∈ L, TripAt K H q.1 q.2
theorem TripsL.mono {K : PySem.W.Frag} {H H' : Hp} (g : TK K H H') {L : List (V × Stp)} (h : TripsL K H L) : TripsL K H' L := fun q hq => (h q hq).mono g
theorem TripsL.app {K : PySem.W.Frag} {H : Hp} {L M : List (V × Stp)} (h : TripsL K H L) (h2 : TripsL K H M) : TripsL K H (L ++ M) := fun q hq => (List.mem_append.mp hq).elim (h q) (h2 q)
theorem TripsL.one {K : PySem.W.Frag} {H : Hp} {v : V} {s : Stp} (h : TripAt K H v s) : TripsL K H [(v, s)] := fun q hq => by rw [List.mem_singleton.mp hq]; exact h
/-- a new list of steps at D -/
def StepsAt (K : PySem.W.Frag) (H : Hp) (D : Addr) (S : List Stp) : Prop := ∃ L : List (V × Stp), H D = some (.lst (L.map Prod.fst)) ∧ L.map Prod.snd = S ∧ TripsL K H L
theorem StepsAt.same {K : PySem.W.Frag} {H H' : Hp} {D : Addr} {S : List Stp} (g : Same H H') : StepsAt K H D S → StepsAt K H' D S
  | ⟨L, h1, h2, h3⟩ => ⟨L, g _ _ h1, h2, h3.mono (.of g)⟩
/-! a use as data: name, letters, pairs -/
abbrev Ux := Str × List Str × List (Str × Int)
def lvs (x : Ux) : List Str := x.2.2.map (letAt x.2.1)
structure GoodU (x : Ux) : Prop where
  good : Good x.2.2 x.2.1.length
  len : x.2.1.length ≤ 3
  nd : x.2.1.Nodup
/-- the steps of a level -/
def stLv (x : Ux) (n i : Nat) : List Stp := if (x.2.2.getD i ("", 0)).1 = "packed" then ((lvs x).take i).map fun u => (u, n, letAt x.2.1 (x.2.2.getD i ("", 0))) else []
def stUse (x : Ux) (n : Nat) : List Stp := (List.range x.2.2.length).flatMap (stLv x n)
def stAll (xs : List Ux) : List Stp := (List.range xs.length).flatMap fun n => stUse (xs.getD n ("", [], [])) n
theorem GoodU.ll {x : Ux} (h : GoodU x) : x.2.2.length = x.2.1.length := h.good.1
theorem GoodU.l3 {x : Ux} (h : GoodU x) : x.2.2.length ≤ 3 := by rw [h.ll]; exact h.len
theorem iota_mem {n : Nat} {i : Int} : i ∈ iota n ↔ 0 ≤ i ∧ i < (n : Int) := by
  unfold iota
  rw [List.mem_map]
  constructor
  · rintro ⟨j, hj, rfl⟩
    rw [List.mem_range] at hj
    omega
  · rintro ⟨h1, h2⟩
    exact ⟨i.toNat, List.mem_range.mpr (by omega), by omega⟩
theorem GoodU.ax {x : Ux} (h : GoodU x) : ∀ p ∈ x.2.2, 0 ≤ p.2 ∧ p.2 < (x.2.1.length : Int) := fun p hp => iota_mem.mp (h.good.2.2.mem_iff.mp (List.mem_map.mpr ⟨p, hp, rfl⟩))
theorem letAt_mem {ls : List Str} {p : Str × Int} (h : 0 ≤ p.2 ∧ p.2 < (ls.length : Int)) : letAt ls p ∈ ls := by
  unfold letAt
  have lt : p.2.toNat < ls.length := by omega
  rw [List.getD_eq_getElem?_getD, List.getElem?_eq_getElem lt]
  exact List.getElem_mem lt
theorem GoodU.lv_mem {x : Ux} (h : GoodU x) {z : Str} (hz : z ∈ lvs x) : z ∈ x.2.1 := by
  obtain ⟨p, hp, rfl⟩ := List.mem_map.mp hz
  exact letAt_mem (h.ax p hp)
theorem iota_nd (n : Nat) : (iota n).Nodup := by
  unfold iota
  exact List.pairwise_map.mpr (List.nodup_range.imp fun {a b} ne e => ne (by have e : (a : Int) = b := e; omega))
theorem GoodU.lv_nd {x : Ux} (h : GoodU x) : (lvs x).Nodup := by
  have h1 : lvs x = (x.2.2.map (·.2)).map fun i : Int => x.2.1.getD i.toNat Str.empty := by
    unfold lvs
    rw [List.map_map]
    rfl
  have h2 : (x.2.2.map (·.2)).Nodup := h.good.2.2.nodup_iff.mpr (iota_nd _)
  rw [h1]
  refine List.pairwise_map.mpr (h2.imp_of_mem fun {a b} ha hb ne e => ?_)
  have ma := iota_mem.mp (h.good.2.2.mem_iff.mp ha)
  have mb := iota_mem.mp (h.good.2.2.mem_iff.mp hb)
  have la : a.toNat < x.2.1.length := by omega
  have lb : b.toNat < x.2.1.length := by omega
  rw [List.getD_eq_getElem?_getD, List.getElem?_eq_getElem la, List.getD_eq_getElem?_getD, List.getElem?_eq_getElem lb] at e
  have e : x.2.1[a.toNat] = x.2.1[b.toNat] := e
  have := (List.getElem_inj h.nd).mp e
  omega
theorem st_mem {x : Ux} {n : Nat} {s : Stp} : s ∈ stUse x n ↔ ∃ (i j : Nat) (p : Str × Int), x.2.2[i]? = some p ∧ p.1 = "packed" ∧ j < i ∧ (lvs x)[j]? = some s.1 ∧ s.2.1 = n ∧ s.2.2 = letAt x.2.1 p := by
  unfold stUse stLv
  rw [List.mem_flatMap]
  constructor
  · rintro ⟨i, hi, hs⟩
    rw [List.mem_range] at hi
    have ei := List.getElem?_eq_getElem hi
    rw [List.getD_eq_getElem?_getD, ei] at hs
    by_cases c : (x.2.2[i]).1 = "packed"
    · rw [show (some x.2.2[i]).getD ("", 0) = x.2.2[i] from rfl, if_pos c] at hs
      obtain ⟨u, hu, rfl⟩ := List.mem_map.mp hs
      obtain ⟨j, hj, eu⟩ := List.mem_iff_getElem.mp hu
      rw [List.length_take] at hj
      refine ⟨i, j, _, ei, c, by omega, ?_, rfl, rfl⟩
      rw [List.getElem_take] at eu
      rw [← eu]
      exact List.getElem?_eq_getElem _
    · rw [show (some x.2.2[i]).getD ("", 0) = x.2.2[i] from rfl, if_neg c] at hs
      cases hs
  · rintro ⟨i, j, p, ei, c, hj, eu, e1, e2⟩
    have hi : i < x.2.2.length := (List.getElem?_eq_some_iff.mp ei).1
    refine ⟨i, List.mem_range.mpr hi, ?_⟩
    rw [List.getD_eq_getElem?_getD, ei, show (some p).getD ("", 0) = p from rfl, if_pos c]
    refine List.mem_map.mpr ⟨s.1, ?_, ?_⟩
    · refine List.mem_of_getElem? (i := j) ?_
      rw [List.getElem?_take, if_pos hj]
      exact eu
    · rw [← e1, ← e2]
theorem st_ok {x : Ux} (h : GoodU x) {n : Nat} {s : Stp} (hs : s ∈ stUse x n) : s.1 ∈ x.2.1 ∧ s.2.2 ∈ x.2.1 ∧ s.1 ≠ s.2.2 := by
  obtain ⟨i, j, p, ei, c, hj, eu, e1, e2⟩ := st_mem.mp hs
  have hp := h.ax p (List.mem_of_getElem? ei)
  refine ⟨h.lv_mem (List.mem_of_getElem? eu), by rw [e2]; exact letAt_mem hp, fun e => ?_⟩
  have el : (lvs x)[i]? = some (letAt x.2.1 p) := by
    unfold lvs
    rw [List.getElem?_map, ei] <;> rfl
  rw [← e2, ← e] at el
  obtain ⟨l1, l2⟩ := List.getElem?_eq_some_iff.mp eu
  obtain ⟨l3, l4⟩ := List.getElem?_eq_some_iff.mp el
  have := (List.getElem_inj h.lv_nd (h₀ := l1) (h₁ := l3)).mp (by rw [l2, l4])
  omega
theorem stAll_mem {xs : List Ux} {s : Stp} : s ∈ stAll xs ↔ ∃ x, xs[s.2.1]? = some x ∧ s ∈ stUse x s.2.1 := by
  unfold stAll
  rw [List.mem_flatMap]
  constructor
  · rintro ⟨n, hn, hs⟩
    rw [List.mem_range] at hn
    rw [List.getD_eq_getElem?_getD, List.getElem?_eq_getElem hn] at hs
    obtain ⟨i, j, p, _, _, _, _, e1, _⟩ := st_mem.mp hs
    refine ⟨xs[n], by rw [e1]; exact List.getElem?_eq_getElem hn, by rw [e1]; exact hs⟩
  · rintro ⟨x, ex, hs⟩
    refine ⟨s.2.1, List.mem_range.mpr (List.getElem?_eq_some_iff.mp ex).1, ?_⟩
    rw [List.getD_eq_getElem?_getD, ex]
    exact hs
theorem stLv_len (x : Ux) (n i : Nat) : (stLv x n i).length ≤ i := by
  unfold stLv
  split
  · rw [List.length_map, List.length_take]
    omega
  · exact Nat.zero_le _
theorem range_flat {α : Type} (f : Nat → List α) (i : Nat) : (List.range (i + 1)).flatMap f = (List.range i).flatMap f ++ f i := by
  rw [List.range_succ, List.flatMap_append, List.flatMap_singleton]
theorem flat_le {α : Type} {f : Nat → List α} {c : Nat} : ∀ {n : Nat}, (∀ i, i < n → (f i).length ≤ c) → ((List.range n).flatMap f).length ≤ n * c
  | 0, _ => by simp
  | n + 1, h => by
    rw [range_flat, List.length_append]
    have a := flat_le (n := n) fun i hi => h i (by omega)
    have b := h n (by omega)
    rw [Nat.succ_mul]
    omega
theorem stUse_len {x : Ux} (h : GoodU x) (n : Nat) : (stUse x n).length ≤ 9 := by
  have a := flat_le (f := stLv x n) (c := 3) (n := x.2.2.length) fun i hi => by
    have := stLv_len x n i
    have := h.l3
    omega
  have := h.l3
  unfold stUse
  omega
/-- a walk over a tuple with the places -/
def YEn (xs : Nat → Option V) : Nat → Hp → V → Hp → Prop := fun i H v H' => ∃ (T : Addr) (x : V), v = .ref T ∧ H T = none ∧ H' = upd H T (.tup [.int (i : Nat), x]) ∧ xs i = some x
theorem walk_enT {K : PySem.W.Frag} {a : Addr} {xs : List V} : Walk (EnT.IteT K a) xs.length (fun H => SqT K H a xs) (YEn fun i => xs[i]?) where
  goes := fun i _ hi q => ⟨xs, xs[i], q, List.getElem?_eq_getElem hi⟩
  stops := fun _ q => ⟨xs, q, rfl⟩
  yields := fun i H v H' _ q ⟨T, x, h1, h2, h3, h4⟩ => ⟨T, x, h1, h2, h3, h4 xs q⟩
theorem walk_enL {K : PySem.W.Frag} {a : Addr} {xs : List V} : Walk (Ite K a) xs.length (fun H => SqL K H a xs) (YEn fun i => xs[i]?) where
  goes := fun i _ hi q => ⟨xs, xs[i], q, List.getElem?_eq_getElem hi⟩
  stops := fun _ q => ⟨xs, q, Nat.le_refl _⟩
  yields := fun i H v H' _ q ⟨T, x, h1, h2, h3, h4⟩ => ⟨T, x, h1, h2, h3, h4 xs q⟩
theorem at_mapG {α β : Type} {g : α → β} {l : List α} {i : Nat} {x : β} (h : (l.map g)[i]? = some x) : ∃ a, l[i]? = some a ∧ x = g a := by
  rw [List.getElem?_map] at h
  cases e : l[i]? with
  | none => rw [e] at h; cases h
  | some a =>
    rw [e] at h
    exact ⟨a, rfl, (Option.some.inj h).symm⟩
/-- a def of the text, by its promise -/
structure Ca (P : Program) (w : World) (K : PySem.W.Frag) (mg : Str → Option Value) (base : Heap) (n : Nat) (x : Str) (ps : List Str) (sp : Sp) : Prop where
  ex : ∃ (g : Addr) (gd : FuncData), FnOk P w K mg base CX0 n g gd ps sp ∧ Binds K gd ps [] ∧ PySem.W.keepIn K (.ref g) = true ∧ mg x = some (.ref g)
structure DFn (K : PySem.W.Frag) (mg : Str → Option Value) (x : Str) (s : Stmt) (ps : List Str) : Prop where
  ex : ∃ (g : Addr) (gd : FuncData), Fun K x x s g gd ∧ Binds K gd ps [] ∧ PySem.W.keepIn K (.ref g) = true ∧ mg x = some (.ref g)
section
variable {X : Cx} {k j : Nat} {x m : Str} {ps : List Str} {sp : Sp} {p pos : Pos} {e : Expr} {es : List Expr} {t : TA}
theorem pca (c : Ca X.prog X.w X.K X.mg X.base k x ps sp) (hr : Room j X.A) (hk : k ≤ j) (hg : Gl X x) (ha : PA X (e :: es) t)
    (hdb : (x == ("__debug__" : Str)) = false := by decide) (he : starEach (e :: es) X.env = (false, eval e X.env) :: starEach es X.env := by rfl) (hpl : (backTo pos (starEach es X.env)).any (·.1) = false := by rfl) :
    PE X (.Call (.Name x p) (e :: es) [] pos) (tCall sp [] E0 t) := by
  obtain ⟨f, fd, F, b, kp, hm⟩ := c.ex
  exact pe_call F (hr.mono hk) hg hm kp b .nil pass0 ha hdb he hpl
end
section
variable {P : Program} {w : World} {K : PySem.W.Frag} {mg : Str → Option Value} {base : Heap} {x : Str} {s : Stmt} {ps : List Str} {n : Nat} {sp : Sp}
theorem DFn.ca (h : DFn K mg x s ps) (k : ∀ (f : Addr) (fd : FuncData), Fun K x x s f fd → FnOk P w K mg base CX0 n f fd ps sp) : Ca P w K mg base n x ps sp := by
  obtain ⟨g, gd, F, b, kp, m⟩ := h.ex
  exact ⟨g, gd, k g gd F, b, kp, m⟩
end
end Lw
namespace Lw
open PySem L2 TzR TL
/-! the program's level_letters, use_steps -/
structure Uy (K : PySem.W.Frag) (U C : Addr) : Prop where
  us : Us K U C
  nA : PySem.W.findIn K (.ref C) "axes" = some none
/-- the program's use -/
def MUse (K : PySem.W.Frag) (U C : Addr) (H : Hp) (p : Addr) (x : Ux) : Prop := ∃ q, UseAt K U C H p x.1 x.2.1 q (x.2.2.map (·.1)) (x.2.2.map (·.2))
theorem MUse.same {K : PySem.W.Frag} {U C : Addr} {H H' : Hp} {p : Addr} {x : Ux} (g : Same H H') : MUse K U C H p x → MUse K U C H' p x
  | ⟨q, h⟩ => ⟨q, h.same g⟩
abbrev s_level_letters : Stmt := topS 18
abbrev n_level_letters : List Str := ["use", "axis"]
theorem sc_level_letters : FnScope n_level_letters ["use"] (defScope s_level_letters) := ⟨rfl, rfl, rfl, by decide +kernel, rfl, by decide +kernel, by decide +kernel⟩
def spPLv (K : PySem.W.Frag) (U C : Addr) : Sp := fun vs H Q _ => ∃ (p : Addr) (x : Ux), vs = [.ref p] ∧ MUse K U C H p x ∧ GoodU x ∧ ∀ (D : Addr) (H' : Hp), Same H H' → H D = none → H' D = some (.lst ((lvs x).map V.str)) → Q (.ref D) H'
section
variable {P : Program} {w : World} {K : PySem.W.Frag} {mg : Str → Option Value} {base : Heap} {U C f : Addr} {fd : FuncData}
theorem ok_level_letters (F : Fun K "level_letters" "level_letters" s_level_letters f fd) (Y : Uy K U C) : FnOk P w K mg base CX0 1 f fd ["use"] (spPLv K U C) := by
  refine F.ok sc_level_letters (fun vs H Q E h => ?_) (fun cdv A outer s H vs Q E hr h => ?_)
  · obtain ⟨p, x, rfl, _⟩ := h
    rfl
  obtain ⟨p, x, rfl, ⟨q, dx, tl, h1, h2, ⟨dq, tk, ta, h3, h4, h5⟩⟩, hx, k⟩ := h
  obtain ⟨Uc, nA⟩ := Y
  refine ⟨_, (pss_one (ps_ret (pe_lc (own := [("axis", 1)]) (g := (gName 1)) (tt := tYes) (te := tOp (rIxT K) (tFld K (tVar 0) "letters") (tVar 1)) rfl sc_level_letters.nd (pi_tup (pe_fld (pe_fld (pv 0) rfl) rfl)) (blkOk_by (N := n_level_letters) (sc := defScope s_level_letters) (by decide +kernel)) (fun _ _ _ _ _ => (pg_name (i := 1) sc_level_letters.nd rfl (Or.inl rfl))) (fun _ _ _ _ _ => pts_nil) (fun _ _ _ _ _ => (pe_ix ix_tup (pe_fld (pv 0) rfl) (pv 1) (fun _ _ => rfl)))))), ?_⟩
  refine ⟨_, rfl, p, U, dx, _, _, rfl, h1, Uc.cl, Uc.nF, rfl, q, C, dq, _, _, rfl, h3, Uc.clC, nA, flds_a _ _, ta, rfl, ⟨_, h5⟩, fun D hD => ?_⟩
  refine lc_tup (K := K) (a := ta) (xs := (x.2.2.map (·.2)).map V.int) (InvM H D (fun p : Str × Int => V.str (letAt x.2.1 p)) x.2.2) ⟨upd_same, same_new hD _⟩ (fun i H' _ ⟨_, g⟩ => seqT g h5) (fun j y H' hy hv => ?_) ?_
  · rw [List.map_map] at hy
    obtain ⟨pz, ez, rfl⟩ := at_map hy
    obtain ⟨p0, p1⟩ := hx.ax _ (List.mem_of_getElem? ez)
    have lt : pz.2.toNat < x.2.1.length := by omega
    have ea : atI (x.2.1.map V.str) pz.2 = some (.str (letAt x.2.1 pz)) := by
      have z := atI_nat (xs := x.2.1.map V.str) (j := pz.2.toNat) (v := .str (letAt x.2.1 pz)) (by rw [List.getElem?_map, List.getElem?_eq_getElem lt]; unfold letAt; rw [List.getD_eq_getElem?_getD, List.getElem?_eq_getElem lt] <;> rfl)
      rw [show ((pz.2.toNat : Nat) : Int) = pz.2 by omega] at z
      exact z
    refine ⟨rfl, kept ⟨_, rfl, p, U, dx, _, _, rfl, hv.2 _ _ h1, Uc.cl, Uc.nL, rfl, _, rfl, tl, _, _, _, rfl, rfl, (tzS hv.2 h2).seq, ea, ?_⟩⟩
    exact ⟨_, hv.1, len_m (by have := hx.l3; omega), InvM.next (f := fun p : Str × Int => V.str (letAt x.2.1 p)) hD hv.2 ez _ rfl⟩
  rintro H' ⟨hd, g⟩
  rw [List.take_of_length_le (by rw [List.length_map, List.length_map]; exact Nat.le_refl _)] at hd
  exact k D H' g hD (by rw [hd]; unfold lvs; rw [List.map_map] <;> rfl)
abbrev s_use_steps : Stmt := topS 20
abbrev n_use_steps : List Str := ["number", "use", "letters", "level", "kind", "upper"]
theorem sc_use_steps : FnScope n_use_steps ["number", "use"] (defScope s_use_steps) := ⟨rfl, rfl, rfl, by decide +kernel, rfl, by decide +kernel, by decide +kernel⟩
def spUSt (K : PySem.W.Frag) (U C : Addr) : Sp := fun vs H Q _ => ∃ (p : Addr) (x : Ux) (n : Nat), vs = [.int (n : Nat), .ref p] ∧ MUse K U C H p x ∧ GoodU x ∧ ∀ (D : Addr) (H' : Hp), Same H H' → H D = none → StepsAt K H' D (stUse x n) → Q (.ref D) H'
theorem ok_use_steps (F : Fun K "use_steps" "use_steps" s_use_steps f fd) (Y : Uy K U C) (B2 : Bx mg) (cL : Ca P w K mg base 1 "level_letters" ["use"] (spPLv K U C)) : FnOk P w K mg base CX0 2 f fd ["number", "use"] (spUSt K U C) := by
  refine F.ok sc_use_steps (fun vs H Q E h => ?_) (fun cdv A outer s H vs Q E hr h => ?_)
  · obtain ⟨p, x, n, rfl, _⟩ := h
    rfl
  obtain ⟨p, x, n, rfl, hM, hx, k⟩ := h
  obtain ⟨Uc, nA⟩ := Y
  refine ⟨_, (pss_cons (ps_set (i := 2) sc_use_steps.nd rfl (Or.inr rfl) (pca cL hr (by decide) rfl (pa_cons (pv 1) pa_nil)))
(pss_one (ps_ret (pe_lc2 (own := [("level", 3), ("kind", 4), ("upper", 5)]) (vs1 := [5]) (g := (gTup K 2 (gCons (gName 3) (gCons (gName 4) gNil)))) (g1 := (gName 5)) (tt := tTest (tOp rEq (tVar 4) (tC (.str "packed")))) (tt1 := tYes) (wi1 := iList K (tSl (rSlL K) (tVar 2) tNoPart (tPart (tVar 3)))) (te := tTup (tCons (tVar 5) (tCons (tVar 0) (tCons (tOp (rIxL K) (tVar 2) (tVar 3)) tNil)))) rfl sc_use_steps.nd (EnT.pi_enumT (by rfl) B2.enum (pa_cons (pe_fld (pe_fld (pv 1) rfl) rfl) pa_nil)) (blkOk_by (N := n_use_steps) (sc := defScope s_use_steps) (by decide +kernel)) (by decide) (fun _ _ _ _ _ => (pg_tup rfl (pgs_cons (pg_name (i := 3) sc_use_steps.nd rfl (Or.inl rfl)) (pgs_cons (pg_name (i := 4) sc_use_steps.nd rfl (Or.inl rfl)) pgs_nil)))) (fun _ _ _ _ _ => (pts_one (pt_cmpR op_eq (pv 4) pe_str (nomark _)))) (fun _ _ _ _ _ => (pi_list (pe_slice sl_list (pv 2) po_none (po_some (pv 3))))) (fun _ _ _ _ _ => (pg_name (i := 5) sc_use_steps.nd rfl (Or.inl rfl))) (fun _ _ _ _ _ => pts_nil) (fun _ _ _ _ _ => (pe_tup (pa_cons (pv 5) (pa_cons (pv 0) (pa_cons (pe_ix ix_list (pv 2) (pv 3) (fun _ _ => rfl)) pa_nil))))))))), ?_⟩
  refine ⟨_, rfl, p, x, rfl, hM, hx, fun D H1 g1 hD0 hD => ?_⟩
  obtain ⟨q, dx, tl, h1, h2, ⟨dq, tk, ta, h3, h4, h5⟩⟩ := hM.same g1
  refine ⟨_, rfl, p, U, dx, _, _, rfl, h1, Uc.cl, Uc.nF, rfl, q, C, dq, _, _, rfl, h3, Uc.clC, Uc.nK, flds_k _ _, tk, _, rfl, h4, fun M hM => ?_⟩
  have gM := same_new hM (.lst [])
  have l3 := hx.l3
  have ll : (lvs x).length = x.2.2.length := by unfold lvs; rw [List.length_map]
  refine out2_it (walk_enT (K := K) (a := tk) (xs := (x.2.2.map (·.1)).map V.str)) (fun i H' => ∃ L : List (V × Stp), H' M = some (.lst (L.map Prod.fst)) ∧ L.map Prod.snd = (List.range i).flatMap (stLv x n) ∧ TripsL K H' L ∧ Same H1 H') ⟨[], upd_same, rfl, (fun _ h => by cases h), gM⟩ (fun i H' _ ⟨_, _, _, _, g⟩ => seqT g h4) (fun i y H2 H3 hi hv hy => ?_) ?_
  · obtain ⟨T, y', rfl, hT, rfl, hyx⟩ := hy
    obtain ⟨L, v1, v2, v3, v4⟩ := hv
    rw [List.map_map] at hyx
    have hyx : (x.2.2.map fun p => V.str p.1)[i]? = some y' := hyx
    obtain ⟨pz, ez, rfl⟩ := at_map hyx
    have il := (List.getElem?_eq_some_iff.mp ez).1
    have gT := same_new hT (.tup [.int (i : Nat), .str pz.1])
    have est : stLv x n i = if pz.1 = "packed" then ((lvs x).take i).map fun u => (u, n, letAt x.2.1 pz) else [] := by
      unfold stLv
      rw [List.getD_eq_getElem?_getD, ez]
      rfl
    have lenL : L.length ≤ i * 3 := by
      have e := congrArg List.length v2
      rw [List.length_map] at e
      rw [e]
      exact flat_le fun j hj => by have := stLv_len x n j; omega
    refine ⟨T, _, rfl, SqT.of upd_same, rfl, _, _, rfl, _, _, rfl, rfl, rfl, ?_⟩
    refine ⟨_, rfl, rfl, _, rfl, ?_⟩
    show ite (decide (V.str pz.1 = V.str ("packed" : Str)) = true) _ _
    rw [dstr]
    by_cases c : pz.1 = "packed"
    · rw [if_pos c] at est
      rw [decide_eq_true c]
      refine iteT ?_
      have hD3 := (v4.trans gT) _ _ hD
      refine ⟨_, rfl, _, rfl, _, rfl, D, _, rfl, SqL.of hD3, fun p2 hp2 => ?_⟩
      have ecut : cutV ((lvs x).map V.str) none (some (i : Int)) = ((lvs x).take i).map V.str := by
        rw [cut_take _ _ (by rw [List.length_map]; omega), List.map_take]
      rw [ecut]
      have gp := same_new hp2 (.lst (((lvs x).take i).map V.str))
      have g0 := v4.trans (gT.trans gp)
      refine ⟨p2, rfl, ⟨_, SqL.of upd_same⟩, in2_it (walk_list (K := K) (a := p2) (xs := ((lvs x).take i).map V.str)) (fun j H' => ∃ L : List (V × Stp), H' M = some (.lst (L.map Prod.fst)) ∧ L.map Prod.snd = (List.range i).flatMap (stLv x n) ++ ((lvs x).take j).map (fun u => (u, n, letAt x.2.1 pz)) ∧ TripsL K H' L ∧ Same H1 H' ∧ H' p2 = some (.lst (((lvs x).take i).map V.str)))
        ⟨L, gp _ _ (gT _ _ v1), by rw [v2, List.take_zero, List.map_nil, List.append_nil], v3.mono (.of (gT.trans gp)), g0, upd_same⟩ (fun j H' _ ⟨_, _, _, _, _, g⟩ => SqL.of g) (fun j y H4 H5 hj hv4 hy4 => ?_) ?_⟩
      · obtain ⟨rfl, hy4⟩ := hy4
        obtain ⟨z, ez2, rfl⟩ := at_map hy4
        obtain ⟨L2, w1, w2, w3, w4, w5⟩ := hv4
        have hji : j < i := by
          have := (List.getElem?_eq_some_iff.mp ez2).1
          rw [List.length_take] at this
          omega
        rw [List.getElem?_take, if_pos hji] at ez2
        have ei : atI ((lvs x).map V.str) (i : Int) = some (.str (letAt x.2.1 pz)) := by
          refine atI_nat (j := i) ?_
          unfold lvs
          rw [List.map_map, List.getElem?_map, ez]
          rfl
        refine ⟨rfl, kept ⟨_, rfl, _, rfl, _, rfl, _, rfl, D, _, (i : Int), _, rfl, rfl, SqL.of (w4 _ _ hD), ei, (by show 3 ≤ sizeLine; decide), fun t ht => ?_⟩⟩
        have gt := same_new ht (.tup [.str z, .int (n : Nat), .str (letAt x.2.1 pz)])
        have lenL2 : L2.length ≤ 1000 := by
          have e := congrArg List.length w2
          rw [List.length_map, List.length_append, List.length_map, List.length_take] at e
          have e0 := congrArg List.length v2
          rw [List.length_map] at e0
          omega
        have nt : M ≠ t := ne_of_none w1 ht
        have pM : p2 ≠ M := fun e => by
          rw [e] at hp2
          rw [gT _ _ v1] at hp2
          cases hp2
        refine ⟨_, gt _ _ w1, by rw [List.length_map]; exact small1000 lenL2, L2 ++ [(.ref t, (z, n, letAt x.2.1 pz))], by rw [upd_same, List.map_append] <;> rfl, ?_, ?_, same_over (w4.trans gt) (hM) _, by rw [upd_ne pM]; exact gt _ _ w5⟩
        · rw [List.map_append, w2, List.take_succ, ez2, List.map_append, List.append_assoc] <;> rfl
        · have gl : TK K (upd H5 t (.tup [.str z, .int (n : Nat), .str (letAt x.2.1 pz)])) (upd (upd H5 t (.tup [.str z, .int (n : Nat), .str (letAt x.2.1 pz)])) M (.lst (L2.map Prod.fst ++ [.ref t]))) := TK.lst (gt _ _ w1)
          exact ((w3.mono (.of gt)).mono gl).app (.one ⟨t, rfl, gl _ _ (SqT.of upd_same)⟩)
      · rintro H4 ⟨L2, w1, w2, w3, w4, w5⟩
        rw [List.length_map, List.length_take, Nat.min_eq_left (by omega)] at w2
        exact ⟨L2, w1, by rw [range_flat, est]; exact w2, w3, w4⟩
    · rw [if_neg c] at est
      rw [decide_eq_false c]
      exact iteF ⟨L, gT _ _ v1, by rw [range_flat, est, List.append_nil]; exact v2, v3.mono (.of gT), v4.trans gT⟩
  · rintro H2 ⟨L, v1, v2, v3, v4⟩
    rw [List.length_map, List.length_map] at v2
    exact k M H2 (g1.trans v4) (g1.free hM) ⟨L, v1, v2, v3⟩
end
end Lw
namespace Lw
open PySem L2 TzR TL
/-! the program's steps_of -/
def ux0 : Ux := ("", [], [])
def stOf (xs : List Ux) (ns : List Nat) : List Stp := ns.flatMap fun n => stUse (xs.getD n ux0) n
theorem stOf_all (xs : List Ux) : stOf xs (List.range xs.length) = stAll xs := rfl
/-- the program's uses, place by place -/
def MUses (K : PySem.W.Frag) (U C : Addr) (H : Hp) (vs : List V) (xs : List Ux) : Prop := vs.length = xs.length ∧ ∀ (i : Nat) (x : Ux), xs[i]? = some x → ∃ p, vs[i]? = some (.ref p) ∧ MUse K U C H p x
theorem MUses.same {K : PySem.W.Frag} {U C : Addr} {H H' : Hp} {vs : List V} {xs : List Ux} (g : Same H H') (h : MUses K U C H vs xs) : MUses K U C H' vs xs :=
  ⟨h.1, fun i x e => let ⟨p, e1, e2⟩ := h.2 i x e; ⟨p, e1, e2.same g⟩⟩
abbrev s_steps_of : Stmt := topS 21
abbrev n_steps_of : List Str := ["uses", "numbers", "number", "step"]
theorem sc_steps_of : FnScope n_steps_of ["uses", "numbers"] (defScope s_steps_of) := ⟨rfl, rfl, rfl, by decide +kernel, rfl, by decide +kernel, by decide +kernel⟩
def spSOf (K : PySem.W.Frag) (U C : Addr) : Sp := fun vs H Q _ => ∃ (a b : Addr) (us : List V) (xs : List Ux) (ns : List Nat), vs = [.ref a, .ref b] ∧ SqL K H a us ∧ MUses K U C H us xs ∧ (∀ x ∈ xs, GoodU x) ∧ SqL K H b (ns.map fun n : Nat => V.int n) ∧ ns.length ≤ 100 ∧ (∀ n ∈ ns, n < xs.length) ∧
  ∀ (D : Addr) (H' : Hp), Same H H' → H D = none → StepsAt K H' D (stOf xs ns) → Q (.ref D) H'
section
variable {P : Program} {w : World} {K : PySem.W.Frag} {mg : Str → Option Value} {base : Heap} {U C f : Addr} {fd : FuncData}
theorem stOf_len {xs : List Ux} {ns : List Nat} (hx : ∀ x ∈ xs, GoodU x) : (∀ n ∈ ns, n < xs.length) → (stOf xs ns).length ≤ ns.length * 9 := by
  induction ns with
  | nil => intro _; exact Nat.zero_le _
  | cons n r ih =>
    intro h
    have h0 := h n (List.mem_cons_self ..)
    have e : stOf xs (n :: r) = stUse (xs.getD n ux0) n ++ stOf xs r := rfl
    have a := ih fun m hm => h m (List.mem_cons_of_mem _ hm)
    have b : (stUse (xs.getD n ux0) n).length ≤ 9 := by
      rw [List.getD_eq_getElem?_getD, List.getElem?_eq_getElem h0]
      exact stUse_len (hx _ (List.getElem_mem h0)) n
    rw [e, List.length_append, List.length_cons]
    omega
theorem ok_steps_of (F : Fun K "steps_of" "steps_of" s_steps_of f fd) (cS : Ca P w K mg base 2 "use_steps" ["number", "use"] (spUSt K U C)) : FnOk P w K mg base CX0 3 f fd ["uses", "numbers"] (spSOf K U C) := by
  refine F.ok sc_steps_of (fun vs H Q E h => ?_) (fun cdv A outer s H vs Q E hr h => ?_)
  · obtain ⟨a, b, us, xs, ns, rfl, _⟩ := h
    rfl
  obtain ⟨a, b, us, xs, ns, rfl, ha, hU, hX, hb, hnl, hns, k⟩ := h
  refine ⟨_, (pss_one (ps_ret (pe_lc2 (own := [("number", 2), ("step", 3)]) (vs1 := [3]) (g := (gName 2)) (g1 := (gName 3)) (tt := tYes) (tt1 := tYes) (te := tVar 3) (wi1 := iList K (tCall (spUSt K U C) [] E0 (tCons (tVar 2) (tCons (tOp (rIxL K) (tVar 0) (tVar 2)) tNil)))) rfl sc_steps_of.nd (pi_list (pv 1)) (blkOk_by (N := n_steps_of) (sc := defScope s_steps_of) (by decide +kernel)) (by decide) (fun _ _ _ _ _ => (pg_name (i := 2) sc_steps_of.nd rfl (Or.inl rfl))) (fun _ _ _ _ _ => pts_nil) (fun _ _ _ _ _ => (pi_list (pca cS hr (by decide) rfl (pa_cons (pv 2) (pa_cons (pe_ix ix_list (pv 0) (pv 2) (fun _ _ => rfl)) pa_nil))))) (fun _ _ _ _ _ => (pg_name (i := 3) sc_steps_of.nd rfl (Or.inl rfl))) (fun _ _ _ _ _ => pts_nil) (fun _ _ _ _ _ => (pv 3))))), ?_⟩
  refine ⟨_, rfl, b, rfl, ⟨_, hb⟩, fun M hM => ?_⟩
  have gM := same_new hM (.lst [])
  refine out2_it (walk_list (K := K) (a := b) (xs := ns.map fun n : Nat => V.int n)) (fun i H' => ∃ L : List (V × Stp), H' M = some (.lst (L.map Prod.fst)) ∧ L.map Prod.snd = stOf xs (ns.take i) ∧ TripsL K H' L ∧ Same H H') ⟨[], upd_same, rfl, (fun _ h => by cases h), gM⟩ (fun i H' _ ⟨_, _, _, _, g⟩ => g.seq hb) (fun i y H2 H3 hi hv hy => ?_) ?_
  · obtain ⟨rfl, hy⟩ := hy
    obtain ⟨n, en, rfl⟩ := at_map hy
    obtain ⟨L, v1, v2, v3, v4⟩ := hv
    have hn := hns n (List.mem_of_getElem? en)
    obtain ⟨p, ep, hp⟩ := hU.2 n _ (List.getElem?_eq_getElem hn)
    refine ⟨rfl, keptP ?_⟩
    refine ⟨_, rfl, _, rfl, _, rfl, a, us, (n : Int), .ref p, rfl, rfl, v4.seq ha, atI_nat (j := n) ep, ?_⟩
    refine ⟨p, _, n, rfl, hp.same v4, hX _ (List.getElem_mem hn), fun D2 H4 g4 hD20 hD2 => ?_⟩
    obtain ⟨L2, w1, w2, w3⟩ := hD2
    have e1 : stOf xs (ns.take (i + 1)) = stOf xs (ns.take i) ++ stUse xs[n] n := by
      unfold stOf
      rw [List.take_succ, en, List.flatMap_append]
      show _ ++ List.flatMap _ [n] = _
      rw [List.flatMap_singleton, List.getD_eq_getElem?_getD, List.getElem?_eq_getElem hn]
      rfl
    have lenA : L.length + L2.length ≤ 1000 := by
      have q := stOf_len (xs := xs) (ns := ns.take (i + 1)) hX fun m hm => hns m (List.mem_of_mem_take hm)
      rw [e1, List.length_append, ← v2, ← w2, List.length_map, List.length_map, List.length_take] at q
      omega
    have nM : D2 ≠ M := fun e => by
      rw [e, v1] at hD20
      cases hD20
    refine ⟨D2, rfl, ⟨_, SqL.of w1⟩, in2_it (walk_list (K := K) (a := D2) (xs := L2.map Prod.fst)) (fun j H' => H' M = some (.lst ((L ++ L2.take j).map Prod.fst)) ∧ TripsL K H' L ∧ TripsL K H' L2 ∧ Same H H' ∧ H' D2 = some (.lst (L2.map Prod.fst)))
        ⟨by rw [List.take_zero, List.append_nil]; exact g4 _ _ v1, v3.mono (.of g4), w3, v4.trans g4, w1⟩ (fun j H' _ ⟨_, _, _, _, g⟩ => SqL.of g) (fun j z H5 H6 hj hv5 hy5 => ?_) ?_⟩
    · obtain ⟨rfl, hy5⟩ := hy5
      obtain ⟨q, eq, rfl⟩ := at_map hy5
      obtain ⟨u1, u2, u3, u4, u5⟩ := hv5
      have gl : TK K H6 (upd H6 M (.lst ((L ++ L2.take j).map Prod.fst ++ [q.1]))) := TK.lst u1
      refine ⟨rfl, kept ⟨_, rfl, _, u1, ?_, ?_, u2.mono gl, u3.mono gl, same_over u4 hM _, by rw [upd_ne nM]; exact u5⟩⟩
      · rw [List.length_map, List.length_append, List.length_take]
        exact small1000 (by omega)
      · rw [upd_same, List.take_succ, eq, ← List.append_assoc, List.map_append (l₂ := Option.toList _)]
        rfl
    · rintro H5 ⟨u1, u2, u3, u4, u5⟩
      rw [List.length_map, List.take_length] at u1
      exact ⟨L ++ L2, u1, by rw [List.map_append, v2, w2, e1], u2.app u3, u4⟩
  · rintro H2 ⟨L, v1, v2, v3, v4⟩
    rw [List.length_map, List.take_length] at v2
    exact k M H2 v4 hM ⟨L, v1, v2, v3⟩
end
end Lw
namespace Lw
open PySem L2 TzR TL
/-! the program's ring_in -/
abbrev s_ring_in : Stmt := topS 22
abbrev n_ring_in : List Str := ["steps", "letters", "found", "reached", "step", "each"]
theorem sc_ring_in : FnScope n_ring_in ["steps", "letters"] (defScope s_ring_in) := ⟨rfl, rfl, rfl, by decide +kernel, rfl, by decide +kernel, by decide +kernel⟩
def spRng (K : PySem.W.Frag) : Sp := fun vs H Q _ => ∃ (a b : Addr) (L : List (V × Stp)) (left : List Str), vs = [.ref a, .ref b] ∧ SqL K H a (L.map Prod.fst) ∧ TripsL K H L ∧ L.length ≤ 1000 ∧ SqL K H b (left.map V.str) ∧ left ≠ [] ∧ left.length ≤ 100 ∧ (∀ c ∈ left, Topo.heldIn (L.map Prod.snd) left c = true) ∧
  ∀ (t : Addr) (H' : Hp) (M : List (V × Stp)), Same H H' → H t = none → SqT K H' t (M.map Prod.fst) → TripsL K H' M → M.length ≤ 100 → Topo.RingOk (L.map Prod.snd) (M.map Prod.snd) → Q (.ref t) H'
def pthOf (F : List (V × Stp)) : List Str := (F.map Prod.snd).map fun s => s.2.2
/-- the state of the search -/
def RgSt (K : PySem.W.Frag) (H0 : Hp) (a b D R : Addr) (L : List (V × Stp)) (left : List Str) (m : Nat) (σ : St) (H : Hp) : Prop := ∃ (x4 x5 : Option V) (F : List (V × Stp)) (c : Str), σ = [some (.ref a), some (.ref b), some (.ref D), some (.ref R), x4, x5] ∧ Same H0 H ∧ H D = some (.lst (F.map Prod.fst)) ∧ H R = some (.lst ((pthOf F).map V.str ++ [.str c])) ∧
  Topo.RI (L.map Prod.snd) left (F.map Prod.snd) c ∧ (∀ q ∈ F, q ∈ L) ∧ m = left.length - F.length
section
variable {P : Program} {w : World} {K : PySem.W.Frag} {mg : Str → Option Value} {base : Heap} {f : Addr} {fd : FuncData}
theorem ok_ring_in (F : Fun K "ring_in" "ring_in" s_ring_in f fd) (B : Bt mg) : FnOk P w K mg base CX0 1 f fd ["steps", "letters"] (spRng K) := by
  refine F.ok sc_ring_in (fun vs H Q E h => ?_) (fun cdv A outer s H vs Q E hr h => ?_)
  · obtain ⟨a, b, L, left, rfl, _⟩ := h
    rfl
  obtain ⟨a, b, L, left, rfl, ha, hL, h900, hb, hne, hll, hheld, k⟩ := h
  refine ⟨_, (pss_cons (ps_set (i := 2) sc_ring_in.nd rfl (Or.inl rfl) (pe_lst pa_nil))
(pss_cons (ps_set (i := 3) sc_ring_in.nd rfl (Or.inr rfl) (pe_lst (pa_cons (pe_ix ix_list (pv 1) pe_int (fun _ _ => rfl)) pa_nil)))
(pss_cons (ps_while PassesOwn.never (pt_cmpR op_notIn_seq (pe_ix ix_list (pv 3) (pe_un un_neg pe_int) (fun _ _ => rfl)) (pe_slice sl_list (pv 3) po_none (po_some (pe_un un_neg pe_int))) (by rfl))
(pss_cons (ps_set (i := 4) sc_ring_in.nd rfl (Or.inl rfl) (pe_ix ix_list (pe_lc (own := [("each", 5)]) (g := (gName 5)) (tt := tAnd (tTest (tOp rEq (tOp (rIxT K) (tVar 5) (tC (.int 2))) (tOp (rIxL K) (tVar 3) (tUn (rU fun i => .int (-i)) (tC (.int 1)))))) (tTest (tOp (rIn K false) (tOp (rIxT K) (tVar 5) (tC (.int 0))) (tVar 1)))) (te := tVar 5) rfl sc_ring_in.nd (pi_list (pv 0)) (blkOk_by (N := n_ring_in) (sc := defScope s_ring_in) (by decide +kernel)) (fun _ _ _ _ _ => (pg_name (i := 5) sc_ring_in.nd rfl (Or.inl rfl))) (fun _ _ _ _ _ => (pts_one (PW.pt (pw_and (pt_cmpR op_eq (pe_ix ix_tup (pv 5) pe_int (fun _ _ => rfl)) (pe_ix ix_list (pv 3) (pe_un un_neg pe_int) (fun _ _ => rfl)) (nomark _)) (pw_and1 (pt_cmpR op_in_seq (pe_ix ix_tup (pv 5) pe_int (fun _ _ => rfl)) (pv 1) (by rfl))))))) (fun _ _ _ _ _ => (pv 5))) pe_int (fun _ _ => rfl)))
(pss_cons (ps_expr (pe_bm PySem.F.plainAttrs_list PySem.F.slot_list_append PySem.F.type_list_append mt_append (pv 2) (pa_cons (pv 4) pa_nil)))
(pss_one (ps_expr (pe_bm PySem.F.plainAttrs_list PySem.F.slot_list_append PySem.F.type_list_append mt_append (pv 3) (pa_cons (pe_ix ix_tup (pv 4) pe_int (fun _ _ => rfl)) pa_nil)))))))
(pss_one (ps_ret (pe_callTy call_tuple_of (by rfl) B.tup (by decide +kernel) (pa_cons (pe_revL (pe_slice sl_list (pv 2) (po_some (pe_bm PySem.F.plainAttrs_list PySem.F.slot_list_index PySem.F.type_list_index mt_index (pv 3) (pa_cons (pe_ix ix_list (pv 3) (pe_un un_neg pe_int) (fun _ _ => rfl)) pa_nil))) po_none)) pa_nil))))))), ?_⟩
  refine ⟨(by show 0 ≤ sizeLine; decide), fun D hD => ?_⟩
  have gD := same_new hD (.lst [])
  cases left with
  | nil => exact absurd rfl hne
  | cons c0 rest =>
  refine ⟨_, rfl, b, _, (0 : Int), .str c0, rfl, rfl, gD.seq hb, atI_nat (j := 0) rfl, (by show 1 ≤ sizeLine; decide), fun R hR => ?_⟩
  have gR := same_new hR (.lst [.str c0])
  have nDR : D ≠ R := fun e => by rw [← e, upd_same] at hR; cases hR
  have hR0 : H R = none := gD.free hR
  refine ⟨RgSt K H a b D R L (c0 :: rest), ⟨_, none, none, [], c0, rfl, gD.trans gR, gR _ _ upd_same, upd_same, Topo.RI.nil (List.mem_cons_self ..), (fun _ h => by cases h), rfl⟩, ?_⟩
  generalize hleft : c0 :: rest = left at *
  rintro m σ H2 ⟨x4, x5, F, c, rfl, g2, d1, d2, ri, hF, rfl⟩
  have Fl := ri.le
  rw [List.length_map] at Fl
  have Pl : (pthOf F).length = F.length := by unfold pthOf; rw [List.length_map, List.length_map]
  refine ⟨_, rfl, 1, rfl, R, _, -1, .str c, rfl, rfl, SqL.of d2, atI_last _ _, ?_⟩
  refine ⟨_, rfl, 1, rfl, -1, rfl, R, _, rfl, SqL.of d2, fun p hp => ?_⟩
  rw [cut_last]
  have gp := same_new hp (.lst ((pthOf F).map V.str))
  refine ⟨p, _, rfl, .inl (SqL.of upd_same), rfl, flat_strs' _, _, rfl, ?_⟩
  rw [in_strs]
  have d1p := gp _ _ d1
  have d2p := gp _ _ d2
  have g3 := g2.trans gp
  revert d1p d2p g3
  generalize upd H2 p (.lst ((pthOf F).map V.str)) = H3
  intro d1p d2p g3
  have er : (pthOf F).map V.str ++ [.str c] = ((pthOf F) ++ [c]).map V.str := by rw [List.map_append] <;> rfl
  by_cases hc : c ∈ pthOf F
  · rw [decide_eq_true hc]
    refine iteF ?_
    have hin : c ∈ pthOf F ++ [c] := List.mem_append_left _ hc
    obtain ⟨w1, a1, b1, c1⟩ := ix_str hin
    rw [er] at d2p
    have jl : (pthOf F ++ [c]).idxOf c ≤ F.length := by
      rw [Topo.idx_in hc]
      have := Topo.idx_lt hc
      omega
    have ring := ri.ring (c := c) hc
    refine ⟨_, rfl, _, rfl, .inl ⟨rfl, _, SqL.of d2p⟩, _, rfl, 1, rfl, R, _, -1, .str c, rfl, rfl, SqL.of d2p, by rw [← er]; exact atI_last _ _, R, _, .str c, (pthOf F ++ [c]).idxOf c, w1, rfl, rfl, SqL.of d2p, rfl, flat_strs' _, a1, b1, c1, _, rfl, D, _, rfl, SqL.of d1p, fun p2 hp2 => ?_⟩
    rw [cut_drop _ _ (by rw [List.length_map]; exact jl)]
    have gp2 := same_new hp2 (.lst ((F.map Prod.fst).drop ((pthOf F ++ [c]).idxOf c)))
    refine ⟨p2, _, rfl, SqL.of upd_same, fun p3 hp3 => ?_⟩
    have gp3 := same_new hp3 (.lst ((F.map Prod.fst).drop ((pthOf F ++ [c]).idxOf c)).reverse)
    refine ⟨p3, _, rfl, .inl ⟨SqL.of upd_same, fun t ht => ?_⟩⟩
    have gt := same_new ht (.tup ((F.map Prod.fst).drop ((pthOf F ++ [c]).idxOf c)).reverse)
    have g6 := g3.trans (gp2.trans (gp3.trans gt))
    refine k t _ (F.drop ((pthOf F ++ [c]).idxOf c)).reverse g6 (g3.free (gp2.free (gp3.free ht))) ?_ ?_ ?_ ?_
    · rw [List.map_reverse, List.map_drop]
      exact SqT.of upd_same
    · intro q hq
      exact (hL q (hF q (List.mem_of_mem_drop (List.mem_reverse.mp hq)))).mono (.of g6)
    · rw [List.length_reverse, List.length_drop]
      omega
    · rw [List.map_reverse, List.map_drop]
      exact ring
  · rw [decide_eq_false hc]
    refine iteT ⟨fun σ' H' => ∃ m', m' < left.length - F.length ∧ RgSt K H a b D R L left m' σ' H', fun _ _ h => h, ?_⟩
    have cin := ri.cur
    obtain ⟨s, r, es, s1, s2, s3⟩ := Topo.held_step (hheld c cin)
    generalize hpS : (fun q : V × Stp => decide (q.2.2.2 = c) && decide (q.2.1 ∈ left)) = pS
    have esL : (L.filter pS).map Prod.snd = s :: r := by
      rw [← es, List.filter_map, ← hpS]
      rfl
    refine ⟨_, rfl, a, rfl, ⟨_, g3.seq ha⟩, fun M hM => ?_⟩
    refine lc_it (walk_list (K := K) (a := a) (xs := L.map Prod.fst)) (InvF H3 M Prod.fst pS L) ⟨upd_same, same_new hM _⟩ (fun i H' _ ⟨_, g⟩ => (g3.trans g).seq ha) (fun i x H4 H5 hi hv hy => ?_) ?_
    · obtain ⟨rfl, hx⟩ := hy
      obtain ⟨q, eq, rfl⟩ := at_map hx
      obtain ⟨ad, eq1, hq⟩ := hL q (List.mem_of_getElem? eq)
      have g5 := g3.trans hv.2
      have hq5 := seqT g5 hq
      rw [eq1]
      refine ⟨rfl, _, rfl, ad, _, (2 : Int), .str q.2.2.2, rfl, rfl, hq5, atI_nat (j := 2) rfl, _, rfl, 1, rfl, R, _, -1, .str c, rfl, rfl, SqL.of (hv.2 _ _ d2p), atI_last _ _, rfl, _, rfl, ?_⟩
      rw [dstr]
      by_cases c1 : q.2.2.2 = c
      · rw [decide_eq_true c1]
        refine iteT ?_
        refine ⟨_, rfl, ad, _, (0 : Int), .str q.2.1, rfl, rfl, hq5, atI_nat (j := 0) rfl, _, rfl, b, left.map V.str, rfl, .inl (g5.seq hb), rfl, flat_strs' _, _, rfl, ?_⟩
        show ite (inV (.str q.2.1) (left.map V.str) = true) _ _
        rw [in_strs]
        by_cases c2 : q.2.1 ∈ left
        · rw [decide_eq_true c2]
          have hp : pS q = true := by rw [← hpS]; show (decide _ && decide _) = true; rw [decide_eq_true c1, decide_eq_true c2] <;> rfl
          refine iteT ⟨_, rfl, _, hv.1, InvF.len h900, ?_⟩
          have z := InvF.yes (f := Prod.fst) (H := H3) (H' := H5) hM hv.2 eq hp
          rw [eq1] at z
          exact z
        · rw [decide_eq_false c2]
          have hp : pS q = false := by rw [← hpS]; show (decide _ && decide _) = false; rw [decide_eq_true c1, decide_eq_false c2] <;> rfl
          exact iteF (hv.no eq hp)
      · rw [decide_eq_false c1]
        have hp : pS q = false := by rw [← hpS]; show (decide _ && decide _) = false; rw [decide_eq_false c1] <;> rfl
        refine iteF ?_
        show ite (false = true) _ _
        exact iteF (hv.no eq hp)
    rintro H4 ⟨hd4, g4⟩
    rw [List.length_map, List.take_length] at hd4
    obtain ⟨q, r', eq⟩ : ∃ q r', L.filter pS = q :: r' := by
      cases e : L.filter pS with
      | nil => rw [e] at esL; cases esL
      | cons q r' => exact ⟨q, r', rfl⟩
    rw [eq] at esL hd4
    have eqs : q.2 = s := by
      rw [List.map_cons] at esL
      injection esL
    have hqL : q ∈ L := (List.mem_filter.mp (by rw [eq]; exact List.mem_cons_self ..)).1
    obtain ⟨ad, eq1, hq⟩ := hL q hqL
    have g5 := g3.trans g4
    have hq5 := seqT g5 hq
    have d1q := g4 _ _ d1p
    have d2q := g4 _ _ d2p
    refine ⟨M, _, (0 : Int), q.1, rfl, rfl, SqL.of hd4, atI_nat (j := 0) rfl, ?_⟩
    refine ⟨_, rfl, .inl ⟨rfl, _, SqL.of d1q⟩, _, rfl, D, _, q.1, rfl, rfl, d1q, by rw [List.length_map]; exact small1000 (by omega), ?_⟩
    have hq6 : SqT K (upd H4 D (.lst (F.map Prod.fst ++ [q.1]))) ad _ := TK.lst d1q _ _ hq5
    have d2r : (upd H4 D (.lst (F.map Prod.fst ++ [q.1]))) R = _ := (upd_ne nDR.symm).trans d2q
    refine ⟨_, rfl, .inl ⟨rfl, _, SqL.of d2r⟩, _, rfl, ad, _, (0 : Int), .str q.2.1, by rw [eq1], rfl, hq6, atI_nat (j := 0) rfl, R, _, _, rfl, rfl, d2r, by rw [List.length_append, List.length_map, List.length_singleton]; exact small1000 (by omega), ?_⟩
    have rin := ri.next hc (s := q.2) (by rw [eqs]; exact s2) (by rw [eqs]; exact s3) (by rw [eqs]; exact s1)
    have eF : (F ++ [q]).map Prod.snd = F.map Prod.snd ++ [q.2] := by rw [List.map_append] <;> rfl
    have rin2 : Topo.RI (L.map Prod.snd) left ((F ++ [q]).map Prod.snd) q.2.1 := by rw [eF]; exact rin
    have Fl2 := rin2.le
    rw [List.length_map, List.length_append, List.length_singleton] at Fl2
    refine ⟨left.length - (F.length + 1), by omega, _, _, F ++ [q], q.2.1, rfl, same_over (same_over g5 hD _) hR0 _, ?_, ?_, rin2, ?_, by rw [List.length_append] <;> rfl⟩
    · rw [upd_ne nDR, upd_same, List.map_append] <;> rfl
    · rw [upd_same, er]
      unfold pthOf
      rw [eF, List.map_append (l₂ := [q.2])]
      have : q.2.2.2 = c := by rw [eqs]; exact s2
      rw [← this]
      rfl
    · intro z hz
      rcases List.mem_append.mp hz with hz | hz
      · exact hF z hz
      · rw [List.mem_singleton.mp hz]
        exact hqL
end
end Lw
namespace Lw
open PySem L2 TzR TL
/-- the tuple of the letters: ascending, each once -/
structure LetOk (ys zs : List Str) : Prop where
  srt : PyProof.Rows.sortedS ys = true
  mem : ∀ z, z ∈ ys ↔ z ∈ zs
  ex : ∃ l : List Str, l.Nodup ∧ ys.length = l.length ∧ ∀ z, z ∈ l ↔ z ∈ zs
/-! sorted texts, each once: one order only -/
def leS (a b : Str) : Prop := TL.tl a ≤ TL.tl b
theorem ris_pw : ∀ {l : List Str} {p : Str}, PyProof.Rows.risingS p l = true → (p :: l).Pairwise leS
  | [], p, _ => List.pairwise_singleton _ _
  | x :: r, p, h => by
    have h : (!PySem.Spec.ltCps x.cps.toList p.cps.toList && PyProof.Rows.risingS x r) = true := h
    rw [Bool.and_eq_true, PyProof.Rows.ltCps_eq] at h
    obtain ⟨h1, h2⟩ := h
    have hpx : leS p x := fun hlt => by
      have : decide (x.cps.toList < p.cps.toList) = true := decide_eq_true hlt
      rw [this] at h1
      cases h1
    have hr := ris_pw h2
    refine List.pairwise_cons.mpr ⟨fun y hy => ?_, hr⟩
    rcases List.mem_cons.mp hy with rfl | hy
    · exact hpx
    · exact List.le_trans hpx ((List.pairwise_cons.mp hr).1 y hy)
theorem srt_pw : ∀ {l : List Str}, PyProof.Rows.sortedS l = true → l.Pairwise leS
  | [], _ => List.Pairwise.nil
  | x :: r, h => ris_pw h
theorem srt_eq {xs ys : List Str} (p : xs.Perm ys) (hx : PyProof.Rows.sortedS xs = true) (hy : PyProof.Rows.sortedS ys = true) : xs = ys :=
  List.Perm.eq_of_pairwise (le := leS) (fun a b _ _ h1 h2 => ext_tl (List.le_antisymm h1 h2)) (srt_pw hx) (srt_pw hy) p
theorem nd_perm : ∀ {l ys : List Str}, l.Nodup → (∀ z ∈ l, z ∈ ys) → ys.length ≤ l.length → l.Perm ys
  | [], ys, _, _, h => by
    have : ys = [] := List.length_eq_zero_iff.mp (by simpa using h)
    rw [this]
  | a :: r, ys, nd, hm, hl => by
    have ha := hm a (List.mem_cons_self ..)
    obtain ⟨n1, n2⟩ := List.nodup_cons.mp nd
    have h1 : r.Perm (ys.erase a) := nd_perm n2 (fun z hz => (List.mem_erase_of_ne (fun e => n1 (by rw [← e]; exact hz))).mpr (hm z (List.mem_cons_of_mem _ hz))) (by
      rw [List.length_erase_of_mem ha]
      rw [List.length_cons] at hl
      omega)
    exact (h1.cons a).trans (List.perm_cons_erase ha).symm
/-- the letters in order: one list only -/
theorem LetOk.uniq {ys zs : List Str} (h : LetOk ys zs) {l us : List Str} (nd : l.Nodup) (hm : ∀ z, z ∈ l ↔ z ∈ zs) (p : us.Perm l) (hs : PyProof.Rows.sortedS us = true) : ys = us := by
  obtain ⟨l2, nd2, hl2, hm2⟩ := h.ex
  have p1 : l2.Perm ys := nd_perm nd2 (fun z hz => (h.mem z).mpr ((hm2 z).mp hz)) (by rw [hl2]; exact Nat.le_refl _)
  have ndy : ys.Nodup := p1.nodup_iff.mp nd2
  have l1 : ys.length ≤ l.length := by
    have q : ys.length ≤ l.length := (List.Nodup.length_le_of_subset ndy (fun z hz => (hm z).mpr ((h.mem z).mp hz)))
    exact q
  have l3 : l.length ≤ ys.length := List.Nodup.length_le_of_subset nd (fun z hz => (h.mem z).mpr ((hm z).mp hz))
  have p2 : l.Perm ys := nd_perm nd (fun z hz => (h.mem z).mpr ((hm z).mp hz)) l1
  exact srt_eq (p.trans p2).symm h.srt hs
abbrev sAsc : Stmt := topS 3
section
variable {P : Program} {w : World} {K : PySem.W.Frag} {mg : Str → Option Value} {base : Heap} {f : Addr} {fd : FuncData}
def spAsc (K : PySem.W.Frag) : Sp := fun vs H Q _ => ∃ (L : Addr) (zs : List Str), vs = [.ref L] ∧ SqL K H L (zs.map V.str) ∧ zs.length < 64 ∧ ∀ (t : Addr) (ys : List Str) (H' : Hp), Same H H' → SqT K H' t (ys.map V.str) → LetOk ys zs → Q (.ref t) H'
theorem scAs : FnScope ["names"] ["names"] (defScope sAsc) := ⟨rfl, rfl, rfl, by decide +kernel, rfl, by decide +kernel, by decide +kernel⟩
theorem ok_asc (F : Fun K "ascending" "ascending" sAsc f fd) (B : Bt mg) (B2 : Bx mg) (hset : mg "set" = none) : FnOk P w K mg base CX0 1 f fd ["names"] (spAsc K) := by
  refine F.ok scAs (fun vs H Q E h => ?_) (fun cdv A outer s H vs Q E hr h => ?_)
  · obtain ⟨L, zs, rfl, _⟩ := h
    rfl
  obtain ⟨L, zs, rfl, hL, h64, k⟩ := h
  refine ⟨_, pss_one (ps_ret (pe_callTy call_tuple_of (by rfl) B.tup (by decide +kernel) (pa_cons (pe_callB (TxS.cr_sortT rfl) (by rfl) B2.sorted (by decide +kernel) (pa_cons (pe_callTy (TxS.cr_setT rfl) (by rfl) hset (by decide +kernel) (pa_cons (pv 0) pa_nil)) pa_nil)) pa_nil))), ?_⟩
  refine ⟨_, rfl, L, zs, rfl, hL, h64, fun a l ha nd mem le => ?_⟩
  have g1 := same_new ha (TxS.SetT P w a l)
  refine ⟨a, l, rfl, upd_same, Nat.lt_of_le_of_lt le h64, fun ys p srt mm hl hp => ?_⟩
  have g2 := same_new hp (.lst (ys.map V.str))
  refine ⟨p, _, rfl, .inl ⟨SqL.of upd_same, fun t ht => ?_⟩⟩
  have g3 := same_new ht (.tup (ys.map V.str))
  exact k t ys _ ((g1.trans g2).trans g3) (SqT.of upd_same) ⟨srt, fun z => (mm z).trans (mem z), ⟨l, nd, hl, mem⟩⟩
end
theorem LetOk.nd {ys zs : List Str} (h : LetOk ys zs) : ys.Nodup := by
  obtain ⟨l2, nd2, hl2, hm2⟩ := h.ex
  exact (nd_perm nd2 (fun z hz => (h.mem z).mpr ((hm2 z).mp hz)) (by rw [hl2]; exact Nat.le_refl _)).nodup_iff.mp nd2
end Lw
namespace Lw
open PySem L2 TzR TL StX
/-! the program's order_or_ring -/
/-- a dict comprehension over a walk -/
theorem dc_it {J : It} {n : Nat} {G : Hp → Prop} {Y : Nat → Hp → V → Hp → Prop} (w : Walk J n G Y) {g : TG} {tt : TT} {tk tv : TE} {vs : List Nat} {σ : St} {H1 : Hp} {D : Addr} {Qd : Hp → Prop} (Pv : Nat → Hp → Prop) (h0 : Pv 0 (upd H1 D (.dK []))) (hG : ∀ i H, i ≤ n → Pv i H → G H)
    (hs : ∀ i x H H', i < n → Pv i H → Y i H x H' → g x (wipe σ vs) H' fun σ2 H2 => wipe σ2 vs = wipe σ vs ∧ tt σ2 H2 fun b H3 =>
      if b = true then tk σ2 H3 fun y H4 => tv σ2 H4 fun z H5 => ∃ kvs k, y = kV k ∧ H5 D = some (.dK kvs) ∧ kvs.length < sizeLine ∧ Pv (i + 1) (upd H5 D (.dK (putK kvs k z))) else Pv (i + 1) H3) (hd : ∀ H, Pv n H → Qd H) :
    ∃ W : Nat → Nat → Hp → Prop, (∃ m, W 0 m (upd H1 D (.dK []))) ∧ ∀ i m H, W i m H →
      (J.stop i H ∧ Qd H) ∨ (J.go i H ∧ ∃ Nx : Hp → Prop, (∀ H', Nx H' → ∃ m', m' < m ∧ W (i + 1) m' H') ∧ ∀ x H', J.yld i H x H' → g x (wipe σ vs) H' fun σ2 H2 => wipe σ2 vs = wipe σ vs ∧ tt σ2 H2 fun b H3 =>
        if b = true then tk σ2 H3 fun y H4 => tv σ2 H4 fun z H5 => ∃ kvs k, y = kV k ∧ H5 D = some (.dK kvs) ∧ kvs.length < sizeLine ∧ Nx (upd H5 D (.dK (putK kvs k z))) else Nx H3) := by
  refine ⟨fun i m H => m = n - i ∧ i ≤ n ∧ Pv i H, ⟨n, by simp, Nat.zero_le _, h0⟩, ?_⟩
  rintro i m H ⟨rfl, hi, p⟩
  have q := hG i H hi p
  by_cases hlt : i < n
  · refine .inr ⟨w.goes i H hlt q, Pv (i + 1), fun H' p' => ⟨n - (i + 1), by omega, rfl, hlt, p'⟩, fun x H' y => hs i x H H' hlt p (w.yields i H x H' hlt q y)⟩
  · have e : i = n := by omega
    subst e
    exact .inl ⟨w.stops H q, hd H p⟩
abbrev s_order_or_ring : Stmt := topS 23
abbrev n_order_or_ring : List Str := ["steps", "letters", "order", "left", "held", "upper", "number", "letter", "free"]
theorem sc_order_or_ring : FnScope n_order_or_ring ["steps", "letters"] (defScope s_order_or_ring) := ⟨rfl, rfl, rfl, by decide +kernel, rfl, by decide +kernel, by decide +kernel⟩
/-- what it tells: an order, or a ring -/
def OorR (K : PySem.W.Frag) (H : Hp) (t : Addr) (S : List Stp) (as : List Str) : Prop :=
  (∃ (o : Addr) (order : List Str), Topo.topo S as.length as [] = some order ∧ SqT K H t [.ref o, .non] ∧ SqT K H o (order.map V.str)) ∨
  (∃ (r : Addr) (M : List (V × Stp)), Topo.topo S as.length as [] = none ∧ SqT K H t [.non, .ref r] ∧ SqT K H r (M.map Prod.fst) ∧ TripsL K H M ∧ M.length ≤ 100 ∧ Topo.RingOk S (M.map Prod.snd))
def spOor (K : PySem.W.Frag) : Sp := fun vs H Q _ => ∃ (a b : Addr) (L : List (V × Stp)) (ls : List Str), vs = [.ref a, .ref b] ∧ SqL K H a (L.map Prod.fst) ∧ TripsL K H L ∧ L.length ≤ 1000 ∧ SqL K H b (ls.map V.str) ∧ ls.length < 64 ∧
  ∀ (t : Addr) (H' : Hp) (as : List Str), Same H H' → H t = none → LetOk as ls → OorR K H' t (L.map Prod.snd) as → Q (.ref t) H'
/-- the state: the letters that are left, the order so far -/
def OrSt (K : PySem.W.Frag) (H0 : Hp) (a b : Addr) (S : List Stp) (as : List Str) (m : Nat) (σ : St) (H : Hp) : Prop := ∃ (o l : Addr) (x4 x5 x6 x7 x8 : Option V) (order left : List Str), σ = [some (.ref a), some (.ref b), some (.ref o), some (.ref l), x4, x5, x6, x7, x8] ∧ Same H0 H ∧ SqT K H o (order.map V.str) ∧ SqL K H l (left.map V.str) ∧
  Topo.topo S as.length as [] = Topo.topo S left.length left order ∧ left.Nodup ∧ order.length + left.length = as.length ∧ m = left.length
theorem LetOk.len {ys zs : List Str} (h : LetOk ys zs) : ys.length ≤ zs.length := by
  have := Topo.nd_le (m := zs) h.nd fun z hz => (h.mem z).mp hz
  exact this
section
variable {P : Program} {w : World} {K : PySem.W.Frag} {mg : Str → Option Value} {base : Heap} {f : Addr} {fd : FuncData}
theorem ok_order_or_ring (F : Fun K "order_or_ring" "order_or_ring" s_order_or_ring f fd) (B : Bt mg) (cA : Ca P w K mg base 1 "ascending" ["names"] (spAsc K)) (cR : Ca P w K mg base 1 "ring_in" ["steps", "letters"] (spRng K)) : FnOk P w K mg base CX0 2 f fd ["steps", "letters"] (spOor K) := by
  refine F.ok sc_order_or_ring (fun vs H Q E h => ?_) (fun cdv A outer s H vs Q E hr h => ?_)
  · obtain ⟨a, b, L, ls, rfl, _⟩ := h
    rfl
  obtain ⟨a, b, L, ls, rfl, ha, hL, hLl, hb, hls, k⟩ := h
  refine ⟨_, (pss_cons (ps_set (i := 2) sc_order_or_ring.nd rfl (Or.inl rfl) (pe_tup pa_nil))
(pss_cons (ps_set (i := 3) sc_order_or_ring.nd rfl (Or.inr rfl) (pe_callTy call_list_of (by rfl) B.lst (by decide +kernel) (pa_cons (pca cA hr (by decide) rfl (pa_cons (pv 1) pa_nil)) pa_nil)))
(pss_cons (ps_while PassesOwn.never (pt_cmpR op_gt (pe_callB call_len_seq (by rfl) B.len PySem.boot_len (pa_cons (pv 3) pa_nil)) pe_int (nomark _))
(pss_cons (ps_set (i := 4) sc_order_or_ring.nd rfl (Or.inr rfl) (pe_dc (own := [("upper", 5), ("number", 6), ("letter", 7)]) (g := (gTup K 3 (gCons (gName 5) (gCons (gName 6) (gCons (gName 7) gNil))))) (tt := tTest (tOp (rIn K false) (tVar 5) (tVar 3))) (tk := tVar 7) (tv := tC (.bl true)) rfl sc_order_or_ring.nd (pi_list (pv 0)) (blkOk_by (N := n_order_or_ring) (sc := defScope s_order_or_ring) (by decide +kernel)) (fun _ _ _ _ _ => (pg_tup rfl (pgs_cons (pg_name (i := 5) sc_order_or_ring.nd rfl (Or.inl rfl)) (pgs_cons (pg_name (i := 6) sc_order_or_ring.nd rfl (Or.inl rfl)) (pgs_cons (pg_name (i := 7) sc_order_or_ring.nd rfl (Or.inl rfl)) pgs_nil))))) (fun _ _ _ _ _ => (pts_one (pt_cmpR op_in_seq (pv 5) (pv 3) (by rfl)))) (fun _ _ _ _ _ => (pv 7)) (fun _ _ _ _ _ => pe_bl)))
(pss_cons (ps_set (i := 8) sc_order_or_ring.nd rfl (Or.inr rfl) (pe_lc (own := [("letter", 7)]) (g := (gName 7)) (tt := tB (tDNotIn (tVar 7) (tVar 4))) (te := tVar 7) rfl sc_order_or_ring.nd (pi_list (pv 3)) (blkOk_by (N := n_order_or_ring) (sc := defScope s_order_or_ring) (by decide +kernel)) (fun _ _ _ _ _ => (pg_name (i := 7) sc_order_or_ring.nd rfl (Or.inl rfl))) (fun _ _ _ _ _ => (pts_one (pt_cmp (pc_dnotin (Nat.lt_of_le_of_lt (Nat.add_le_add_left (by decide) _) hr.units) (pv 7) (pv 4))))) (fun _ _ _ _ _ => (pv 7))))
(pss_cons (ps_if (pt_cmpR op_eq (pe_callB call_len_seq (by rfl) B.len PySem.boot_len (pa_cons (pv 8) pa_nil)) pe_int (nomark _))
(pss_one (ps_ret (pe_tup (pa_cons pe_non (pa_cons (pca cR hr (by decide) rfl (pa_cons (pv 0) (pa_cons (pv 3) pa_nil))) pa_nil))))) pss_nil)
(pss_cons (ps_set (i := 2) sc_order_or_ring.nd rfl (Or.inl rfl) (pe_tup (pa_star (pv 2) (pa_cons (pe_ix ix_list (pv 8) pe_int (fun _ _ => rfl)) pa_nil))))
(pss_one (ps_set (i := 3) sc_order_or_ring.nd rfl (Or.inr rfl) (pe_lc (own := [("letter", 7)]) (g := (gName 7)) (tt := tTest (tOp rNe (tVar 7) (tOp (rIxL K) (tVar 8) (tC (.int 0))))) (te := tVar 7) rfl sc_order_or_ring.nd (pi_list (pv 3)) (blkOk_by (N := n_order_or_ring) (sc := defScope s_order_or_ring) (by decide +kernel)) (fun _ _ _ _ _ => (pg_name (i := 7) sc_order_or_ring.nd rfl (Or.inl rfl))) (fun _ _ _ _ _ => (pts_one (pt_cmpR op_ne (pv 7) (pe_ix ix_list (pv 8) pe_int (fun _ _ => rfl)) (nomark _)))) (fun _ _ _ _ _ => (pv 7))))))))))
(pss_one (ps_ret (pe_tup (pa_cons (pv 2) (pa_cons pe_non pa_nil)))))))), ?_⟩
  refine ⟨(by show 0 ≤ sizeLine; decide), fun o hO => ?_⟩
  have gO := same_new hO (.tup [])
  refine ⟨_, rfl, b, ls, rfl, gO.seq hb, hls, fun t as H1 g1 ht1 hlet => ?_⟩
  have asl := hlet.len
  refine ⟨t, _, rfl, .inr ht1, fun l hl => ?_⟩
  have gl := same_new hl (.lst (as.map V.str))
  generalize hS : L.map Prod.snd = S at k
  refine ⟨OrSt K H a b S as, ⟨_, o, l, none, none, none, none, none, [], as, rfl, gO.trans (g1.trans gl), seqT (g1.trans gl) (SqT.of upd_same), SqL.of upd_same, rfl, hlet.nd, by simp, rfl⟩, ?_⟩
  have hSl : S.length = L.length := by rw [← hS, List.length_map]
  rintro m σ H2 ⟨o, l, x4, x5, x6, x7, x8, order, left, rfl, g2, ho, hl, et, nd, hlen, rfl⟩
  refine ⟨_, rfl, l, _, rfl, .inl hl, _, _, rfl, rfl, _, rfl, ?_⟩
  rw [List.length_map]
  cases left with
  | nil =>
    refine iteN (by decide) ⟨_, rfl, (by show 2 ≤ sizeLine; decide), fun t ht => ?_⟩
    have gt := same_new ht (.tup [.ref o, .non])
    exact k t _ as (g2.trans gt) (g2.free ht) hlet (.inl ⟨o, order, et, SqT.of upd_same, seqT gt ho⟩)
  | cons c0 rest =>
  rw [decide_eq_true (by rw [List.length_cons]; omega)]
  generalize hleft : c0 :: rest = left at *
  have hne : left ≠ [] := by rw [← hleft]; exact List.cons_ne_nil _ _
  refine iteT ⟨fun σ' H' => ∃ m', m' < left.length ∧ OrSt K H a b S as m' σ' H', fun _ _ h => h, ?_⟩
  refine ⟨_, rfl, a, rfl, ⟨_, g2.seq ha⟩, fun D hD => ?_⟩
  refine dc_it (walk_list (K := K) (a := a) (xs := L.map Prod.fst)) (fun i H' => ∃ kvs : List (Key × V), H' D = some (.dK kvs) ∧ kvs.length ≤ i ∧ (∀ z : Str, (valV kvs (.inr z)).isSome = Topo.heldIn (S.take i) left z) ∧ Same H2 H') ⟨[], upd_same, Nat.le_refl _, (fun z => rfl), same_new hD _⟩ (fun i H' _ ⟨_, _, _, _, g⟩ => (g2.trans g).seq ha) (fun i x H4 H5 hi hv hy => ?_) ?_
  · obtain ⟨rfl, hx⟩ := hy
    obtain ⟨q, eq, rfl⟩ := at_map hx
    obtain ⟨kvs, v1, v2, v3, v4⟩ := hv
    obtain ⟨ad, eq1, hq⟩ := hL q (List.mem_of_getElem? eq)
    have g5 := g2.trans v4
    have hq5 := seqT g5 hq
    have il := (List.getElem?_eq_some_iff.mp eq).1
    have eS : S[i]? = some q.2 := by rw [← hS, List.getElem?_map, eq] <;> rfl
    have snoc : ∀ z, Topo.heldIn (S.take (i + 1)) left z = (Topo.heldIn (S.take i) left z || (decide (q.2.1 ∈ left) && decide (q.2.2.2 = z))) := fun z => by
      unfold Topo.heldIn
      rw [List.take_succ, eS, List.any_append]
      show (_ || List.any [q.2] _) = _
      rw [List.any_cons, List.any_nil, Bool.or_false]
    rw [eq1]
    refine ⟨ad, _, rfl, hq5, rfl, _, _, rfl, _, _, rfl, _, _, rfl, rfl, rfl, ?_⟩
    refine ⟨_, rfl, _, rfl, l, left.map V.str, rfl, .inl (v4.seq hl), rfl, flat_strs' _, _, rfl, ?_⟩
    show ite (inV (.str q.2.1) (left.map V.str) = true) _ _
    rw [in_strs]
    by_cases c2 : q.2.1 ∈ left
    · rw [decide_eq_true c2]
      refine iteT ⟨_, rfl, kvs, .inr q.2.2.2, rfl, v1, small1000 (by omega), _, upd_same, ?_, ?_, same_over v4 hD _⟩
      · have := length_putK kvs (.inr q.2.2.2) (.bl true)
        omega
      · intro z
        rw [valV_put, snoc z, decide_eq_true c2, Bool.true_and]
        by_cases e : z = q.2.2.2
        · rw [if_pos (by rw [e]), decide_eq_true e.symm, Bool.or_true]
          rfl
        · rw [if_neg (fun z => e (by injection z)), decide_eq_false (fun z => e z.symm), Bool.or_false]
          exact v3 z
    · rw [decide_eq_false c2]
      refine iteF ⟨kvs, v1, by omega, fun z => ?_, v4⟩
      rw [snoc z, decide_eq_false c2, Bool.false_and, Bool.or_false]
      exact v3 z
  rintro H3 ⟨kvs, v1, v2, v3, v4⟩
  rw [List.length_map, List.take_of_length_le (by rw [hSl]; exact Nat.le_refl _)] at v3
  have g3 := g2.trans v4
  refine ⟨_, rfl, l, rfl, ⟨_, v4.seq hl⟩, fun Fr hFr => ?_⟩
  have ll : left.length ≤ 64 := by omega
  refine lc_it (walk_list (K := K) (a := l) (xs := left.map V.str)) (InvF H3 Fr V.str (fun x => !Topo.heldIn S left x) left) ⟨upd_same, same_new hFr _⟩ (fun i H' _ ⟨_, g⟩ => (v4.trans g).seq hl) (fun i x H4 H5 hi hv hy => ?_) ?_
  · obtain ⟨rfl, hx⟩ := hy
    obtain ⟨z, ez, rfl⟩ := at_map hx
    refine ⟨rfl, _, rfl, _, rfl, D, _, rfl, DGet.k (k := .inr z) (hv.2 _ _ v1), _, rfl, ?_⟩
    rw [v3 z]
    cases hz : Topo.heldIn S left z with
    | true => exact iteF (hv.no ez (by rw [hz] <;> rfl))
    | false => exact iteT ⟨_, rfl, _, hv.1, InvF.len (by omega), InvF.yes (f := V.str) (H := H3) hFr hv.2 ez (by rw [hz] <;> rfl)⟩
  rintro H4 ⟨hf4, g4⟩
  rw [List.length_map, List.take_length] at hf4
  have hf4 : H4 Fr = some (.lst ((Topo.free S left).map V.str)) := hf4
  have g24 := v4.trans g4
  have g04 := g2.trans g24
  refine ⟨_, rfl, Fr, _, rfl, .inl (SqL.of hf4), rfl, _, rfl, ?_⟩
  cases hfree : Topo.free S left with
  | nil =>
    rw [hfree] at hf4
    refine iteT ⟨_, rfl, _, rfl, a, l, L, left, rfl, g04.seq ha, hL.mono (.of g04), hLl, g24.seq hl, hne, by omega, (fun c hc => by rw [hS]; exact Topo.free_nil hfree hc), fun r H5 M g5 hr0 hr hM hMl ring => ⟨(by show 2 ≤ sizeLine; decide), fun t ht => ?_⟩⟩
    have gt := same_new ht (.tup [.non, .ref r])
    have none_ : Topo.topo S as.length as [] = none := by
      rw [et, ← hleft, List.length_cons]
      unfold Topo.topo
      rw [hleft, hfree]
    rw [hS] at ring
    exact k t _ as (g04.trans (g5.trans gt)) ((g04.trans g5).free ht) hlet (.inr ⟨r, M, none_, SqT.of upd_same, seqT gt hr, hM.mono (.of gt), hMl, ring⟩)
  | cons f0 fs =>
    rw [hfree] at hf4
    have fin : f0 ∈ left := (List.mem_filter.mp (show f0 ∈ Topo.free S left by rw [hfree]; exact List.mem_cons_self ..)).1
    refine iteN (by rw [dec_int]; exact decide_eq_false (by rw [List.length_map, List.length_cons]; omega)) ?_
    refine ⟨_, rfl, o, _, rfl, .inl (seqT g24 ho), _, rfl, Fr, _, (0 : Int), .str f0, rfl, rfl, SqL.of hf4, atI_nat (j := 0) rfl, ?_, fun o2 ho2 => ?_⟩
    · show (order.map V.str ++ [V.str f0]).length ≤ sizeLine
      rw [List.length_append, List.length_map, List.length_singleton]
      exact Nat.le_of_lt (small1000 (by omega))
    have go2 := same_new ho2 (.tup (order.map V.str ++ [.str f0]))
    refine ⟨_, rfl, l, rfl, ⟨_, (g24.trans go2).seq hl⟩, fun l2 hl2 => ?_⟩
    refine lc_it (walk_list (K := K) (a := l) (xs := left.map V.str)) (InvF (upd H4 o2 (.tup (order.map V.str ++ [.str f0]))) l2 V.str (fun z => decide (z ≠ f0)) left) ⟨upd_same, same_new hl2 _⟩ (fun i H' _ ⟨_, g⟩ => (g24.trans (go2.trans g)).seq hl) (fun i x H5 H6 hi hv hy => ?_) ?_
    · obtain ⟨rfl, hx⟩ := hy
      obtain ⟨z, ez, rfl⟩ := at_map hx
      refine ⟨rfl, _, rfl, _, rfl, Fr, _, (0 : Int), .str f0, rfl, rfl, SqL.of ((go2.trans hv.2) _ _ hf4), atI_nat (j := 0) rfl, rfl, _, rfl, ?_⟩
      show ite ((!decide (V.str z = V.str f0)) = true) _ _
      rw [dstr]
      by_cases e : z = f0
      · rw [decide_eq_true e]
        exact iteF (hv.no ez (decide_eq_false fun q => q e))
      · rw [decide_eq_false e]
        exact iteT ⟨_, rfl, _, hv.1, InvF.len (by omega), InvF.yes (f := V.str) (H := H3) hl2 hv.2 ez (decide_eq_true e)⟩
    rintro H5 ⟨hd5, g5⟩
    rw [List.length_map, List.take_length] at hd5
    have el : left.filter (fun z => decide (z ≠ f0)) = left.erase f0 := by
      rw [List.Nodup.erase_eq_filter nd]
      congr 1
      funext z
      by_cases h : z = f0 <;> simp [h]
    have ell : (left.filter fun z => decide (z ≠ f0)).length + 1 = left.length := by
      rw [el, List.length_erase_of_mem fin]
      have := List.length_pos_of_mem fin
      omega
    refine ⟨(left.filter fun z => decide (z ≠ f0)).length, by omega, o2, l2, _, _, _, _, _, order ++ [f0], left.filter fun z => decide (z ≠ f0), rfl, g04.trans (go2.trans g5), ?_, SqL.of hd5, ?_, nd.filter _, ?_, rfl⟩
    · rw [List.map_append]
      exact seqT g5 (SqT.of upd_same)
    · rw [et, ← ell]
      conv => lhs; unfold Topo.topo
      rw [hfree]
    · rw [List.length_append, List.length_singleton]
      omega
end
end Lw
/-! except clauses, each with a name or without -/
namespace Lw
open PySem PySem.Spec PyProof.Rows L2
/-- a clause: what it catches, the slot of its name, what its suite reads as -/
structure Clause where
  c : Value
  i : Option Nat
  ts : Addr → Value → Option Addr → TS
/-- behind the suite the name is gone -/
def goneD (i : Nat) (D : Ends) : Ends := { nx := fun σ H => D.nx (σ.set i none) H, rt := D.rt, bk := fun σ H => D.bk (σ.set i none) H, ct := fun σ H => D.ct (σ.set i none) H }
def suiteW (k : Clause) (a : Addr) (cls : Value) (d : Option Addr) (D : Ends) (σ : L2.St) (H : Hp) : Prop := match k.i with
  | none => k.ts a cls d D σ H
  | some i => k.ts a cls d (goneD i D) (σ.set i (some (.ref a))) H
/-- what the clauses wish of an exception, one after the other -/
def wishC (K : PySem.W.Frag) (Wout : WX) (D : Ends) : List Clause → WX
  | [] => Wout
  | k :: r => fun cls d σ H => ∃ b, PySem.W.exmOne K cls k.c = some b ∧ (b = true → ∀ a, H a = none → suiteW k a cls d D σ H) ∧ (b = false → wishC K Wout D r cls d σ H)
/-- the clauses of the text, read so -/
inductive ClauseOk (X : Cx) : List ExceptHandler → List Clause → Prop
  | nil : ClauseOk X [] []
  | bare {x : Str} {c : Value} {ts : Addr → Value → Option Addr → TS} {b₀ : Stmt} {suite : List Stmt} {np p : Pos} {hs : List ExceptHandler} {l : List Clause} (hc : Names X x c)
      (hsu : ∀ (a : Addr) (oe : Obj) (cls : Value) (d : Option Addr) (pn : List (Addr × Obj)), Zc cls d oe → (∃ vs, oe.data = .fields vs) → PSs (X.suite a ((a, oe) :: pn)) (b₀ :: suite) (ts a cls d)) (r : ClauseOk X hs l) :
      ClauseOk X (.ExceptHandler (some (.Name x np)) none (b₀ :: suite) p :: hs) (⟨c, none, ts⟩ :: l)
  | named {x n : Str} {c : Value} {i : Nat} {ts : Addr → Value → Option Addr → TS} {b₀ : Stmt} {suite : List Stmt} {np p : Pos} {hs : List ExceptHandler} {l : List Clause} (hN : X.N.Nodup) (hi : X.N[i]? = some n) (hl : X.env.kindOf n = some .local) (hc : Names X x c)
      (hsu : ∀ (a : Addr) (oe : Obj) (cls : Value) (d : Option Addr) (pn : List (Addr × Obj)), Zc cls d oe → (∃ vs, oe.data = .fields vs) → PSs (X.suite a ((a, oe) :: pn)) (b₀ :: suite) (ts a cls d)) (r : ClauseOk X hs l) :
      ClauseOk X (.ExceptHandler (some (.Name x np)) (some n) (b₀ :: suite) p :: hs) (⟨c, some i, ts⟩ :: l)
section
variable {X : Cx} {body : List Stmt} {h₀ : ExceptHandler} {hs : List ExceptHandler} {l : List Clause} {pos : Pos} {tb : WX → TS} {Wout : WX}
theorem ps_clauses (hst : X.stack = X.env :: X.outer) (hf : X.env.frame = some X.env.locals) (tk : Takes X Wout)
    (hb : ∀ (W : WX) (pn : List (Addr × Obj)) (xe : Value → Shared → Prop), Takes (X.tr pn xe) W → PassesOwn (model X.prog X.w) X.A X.env xe → PSs (X.tr pn xe) body (tb W))
    (hh : ClauseOk X (h₀ :: hs) l) : PS X (.Try body (h₀ :: hs) [] [] pos) (fun D σ H => tb (wishC X.K Wout D l) D σ H) := by
  refine ⟨fun pins s σ H D I h => ?_⟩
  have ok := I.ok
  have hfr : X.A.frames = some (X.env :: X.outer) := by rw [ok.frames, hst]
  -- an exception e of the body: noted here, then the clauses
  let catch_ : Value → Shared → Prop := fun e s₁ => wpAny (model X.prog X.w) X.A (noteFrame e X.env) (fun _ s₂ => wpAny (model X.prog X.w) X.A (setFlight e none) (fun _ s₃ =>
    wpAny (model X.prog X.w) X.A (handleBy e X.env (h₀ :: hs)) (SP X pins D) X.xe s₃) X.xe s₂) X.xe s₁
  have caught : Takes (X.tr (X.pn ++ pins) catch_) (wishC X.K Wout D l) := by
    rintro u s' ⟨a, B, sI, pins', σ', H', cls, d, rfl, J', nb, up, sky, na, os, ag, w⟩
    have J : Inv X pins σ' H' sI := J'.ofTry ok
    have sky' : Sky B (X.env :: X.outer) a (Zc cls d) X.env.locals s'.heap := by rw [← hst]; exact sky
    show wpAny (model X.prog X.w) X.A (noteFrame (.ref a) X.env) _ _ _
    refine Sky.land Zc.steady hfr hf sky' fun h3 fl3 up3 => ?_
    obtain ⟨oe3, vs3, he3, hz3, hd3⟩ := fl3.there
    -- the exception is none of the frames
    have off : a ∉ frs (X.env :: X.outer) := fun hm => by
      obtain ⟨_, o', e', hnf⟩ := fl3.2.2.1.mem hm
      rw [he3] at e'
      cases e'
      exact hnf _ hd3
    have nL : a ≠ X.env.locals := fun z => off (List.mem_filterMap.mpr ⟨X.env, List.mem_cons_self, by rw [hf, z]⟩)
    have nF : a ∉ X.fs := fun hm => by
      obtain ⟨e, he, q⟩ := List.mem_filterMap.mp hm
      exact off (List.mem_filterMap.mpr ⟨e, List.mem_cons_of_mem _ he, q⟩)
    have J3 : Inv X pins σ' H' { s' with heap := h3 } := J.landed nb fl3.1 (up.trans up3) os ag
    have S3 := J3.suite he3 hd3 na nL nF
    have LT : PySem.W.Looks (model X.prog X.w) h3 (typeOf (.ref a)) cls := fun A Q E s k q => wpAny_typeOf_ref (k _ _ he3) (by rw [hz3.1]; exact q)
    have asks : ∀ {x : Str} {c : Value} {np : Pos} {Q E : Value → Shared → Prop}, Names X x c → Q c { s' with heap := h3 } → wpAny (model X.prog X.w) (X.A.mark (some (.ref a))) (eval (.Name x np) X.env) Q E { s' with heap := h3 } := fun {x c np Q E} hc q => by
      obtain ⟨hg, hdbg, hm | ⟨hm, hv, hnn⟩⟩ := hc
      · exact ld_glob (X := X.suite a ((a, oe3) :: (X.pn ++ pins))) S3 hg hm q hdbg
      · exact ld_blt (X := X.suite a ((a, oe3) :: (X.pn ++ pins))) S3 hg hm hv q hnn hdbg
    -- back in the air, where no clause fits
    have on : Wout cls d σ' H' → wpAny (model X.prog X.w) X.A (handleBy (.ref a) X.env []) (SP X pins D) X.xe { s' with heap := h3 } := fun w => by
      refine wpAny_handleBy_nil ?_
      obtain ⟨_, _, _, oe, vs, Tb, oT, ts', he, hz, hd, h1, hr⟩ := id fl3
      unfold PySem.passOn
      refine wpAny_bind (wpAny_field he hd h1 ?_)
      rw [if_neg (show ¬ ((Value.ref Tb == Value.none) = true) from by simp)]
      have fin : wpAny (model X.prog X.w) X.A (setFlight (.ref a) X.env.frame) (fun _ s4 => wpAny (model X.prog X.w) X.A (throw (.ref a) : Sem Flow) (SP X pins D) X.xe s4) X.xe { s' with heap := h3 } := by
        rw [hf]
        refine HandSPX.setFlight_upZ fl3 fun h4 hh4 up4 => wpAny_throw (tk _ _ ?_)
        exact ⟨a, B, sI, pins, σ', H', cls, d, rfl, J, nb, (up.trans up3).trans up4, .inr (.inr (by rw [hst]; exact hh4)), na, os, ag, w⟩
      first
        | exact wpAny_bind (wpAny_pure (wpAny_bind fin))
        | exact wpAny_bind fin
    have go : ∀ {ks : List ExceptHandler} {l' : List Clause}, ClauseOk X ks l' → wishC X.K Wout D l' cls d σ' H' → wpAny (model X.prog X.w) X.A (handleBy (.ref a) X.env ks) (SP X pins D) X.xe { s' with heap := h3 } := fun hk => by
      induction hk with
      | nil => exact on
      | bare hc hsu r ih =>
        rintro ⟨b, hb1, hyes, hno⟩
        refine wpAny_handleBy_cons (codeAny_handlers_test (asks hc ((PySem.W.exm_one (M := model X.prog X.w) J3.kIn LT hb1).here ?_))) (by intro q; cases q)
        cases b with
        | false => exact ih (hno rfl)
        | true =>
          refine codeAny_handlers_suite (HandSPX.lands_againZ fl3 fun h4 fl4 up4 => ?_)
          obtain ⟨oe4, vs4, he4, hz4, hd4⟩ := fl4.there
          have J4 : Inv X pins σ' H' { s' with heap := h4 } := J.landed nb fl4.1 ((up.trans up3).trans up4) os ag
          have S4 := J4.suite he4 hd4 na nL nF
          refine wpAny_mono ((hsu a oe4 cls d (X.pn ++ pins) hz4 ⟨_, hd4⟩).run [] _ _ H' _ S4 (hyes rfl a na)) (fun f s6 z => ?_) (fun _ _ z => False.elim z)
          cases f with
          | next => obtain ⟨σ6, H6, S6, q6⟩ := z; exact ⟨_, _, S6.unsuite ok, q6⟩
          | brk => obtain ⟨σ6, H6, S6, q6⟩ := z; exact ⟨_, _, S6.unsuite ok, q6⟩
          | cont => obtain ⟨σ6, H6, S6, q6⟩ := z; exact ⟨_, _, S6.unsuite ok, q6⟩
          | ret u => obtain ⟨v6, σ6, H6, S6, r6, q6⟩ := z; exact ⟨_, _, _, S6.unsuite ok, r6, q6⟩
      | @named x n c i ts b₀ suite np p hs' l' hN hi hl hc hsu r ih =>
        rintro ⟨b, hb1, hyes, hno⟩
        refine wpAny_handleBy_cons (codeAny_handlers_test (asks hc ((PySem.W.exm_one (M := model X.prog X.w) J3.kIn LT hb1).here ?_))) (by intro q; cases q)
        cases b with
        | false => exact ih (hno rfl)
        | true =>
          refine codeAny_handlers_suite_as (HandSPX.lands_againZ fl3 fun h4 fl4 up4 => ?_)
          obtain ⟨oe4, vs4, he4, hz4, hd4⟩ := fl4.there
          have J4 : Inv X pins σ' H' { s' with heap := h4 } := J.landed nb fl4.1 ((up.trans up3).trans up4) os ag
          have S4 := J4.suite he4 hd4 na nL nF
          refine store_ok (X := X.suite a ((a, oe4) :: (X.pn ++ pins))) (v := .ref a) S4 hN hi (.inl hl) rfl (fun s5 S5 => ?_) (.inr hl)
          refine wpAny_mono ((hsu a oe4 cls d (X.pn ++ pins) hz4 ⟨_, hd4⟩).run [] s5 _ H' _ S5 (hyes rfl a na)) (fun f s6 z => ?_) (fun _ _ z => False.elim z)
          have gone : ∀ {σ6 : L2.St} {H6 : Hp} {Q : Shared → Prop}, Inv (X.suite a ((a, oe4) :: (X.pn ++ pins))) [] σ6 H6 s6 → (∀ s7, Inv X pins (σ6.set i none) H6 s7 → Q s7) →
              wpAny (model X.prog X.w) X.A (do bindName X.env n .none; unbindBehindTheSuite X.env n p) (fun _ s7 => Q s7) X.xe s6 := fun S6 hq => gone_ok (S6.unsuite ok) hN hi hl hq
          cases f with
          | next => obtain ⟨σ6, H6, S6, q6⟩ := z; exact gone S6 fun s7 J7 => ⟨_, _, J7, q6⟩
          | brk => obtain ⟨σ6, H6, S6, q6⟩ := z; exact gone S6 fun s7 J7 => ⟨_, _, J7, q6⟩
          | cont => obtain ⟨σ6, H6, S6, q6⟩ := z; exact gone S6 fun s7 J7 => ⟨_, _, J7, q6⟩
          | ret u => obtain ⟨v6, σ6, H6, S6, r6, q6⟩ := z; exact gone S6 fun s7 J7 => ⟨_, _, _, J7, r6, q6⟩
    exact go hh w
  refine wpAny_Try_except (wpAny_mono ((hb _ _ catch_ caught PassesOwn.looking).run [] s σ H D (I.toTry _) h) (fun f s1 z => ?_) fun e s1 he => he)
  cases f with
  | next => obtain ⟨σ', H', J', q⟩ := z; exact wpAny_execs_nil ⟨σ', H', J'.ofTry ok, q⟩
  | brk => obtain ⟨σ', H', J', q⟩ := z; exact ⟨σ', H', J'.ofTry ok, q⟩
  | cont => obtain ⟨σ', H', J', q⟩ := z; exact ⟨σ', H', J'.ofTry ok, q⟩
  | ret u => obtain ⟨v, σ', H', J', r, q⟩ := z; exact ⟨v, σ', H', J'.ofTry ok, r, q⟩
end
end Lw
namespace Lw
open PySem L2 TzR TL
/-! frozen of steps, the error Ring, fitting_order -/
def plainV (v : V) : Prop := (∃ i : Int, v = .int i) ∨ ∃ z : Str, v = .str z
def spFrV : Sp := fun vs H Q _ => ∃ v : V, vs = [v] ∧ plainV v ∧ ∀ H' : Hp, Same H H' → Q v H'
def spFr1 (K : PySem.W.Frag) : Sp := fun vs H Q _ => ∃ (a : Addr) (xs : List V), vs = [.ref a] ∧ SqT K H a xs ∧ (∀ v ∈ xs, plainV v) ∧ xs.length ≤ 1000 ∧ ∀ (p : Addr) (H' : Hp), Same H H' → SqT K H' p xs → Q (.ref p) H'
def spFr2 (K : PySem.W.Frag) : Sp := fun vs H Q _ => ∃ (a : Addr) (M : List (V × Stp)), vs = [.ref a] ∧ SqT K H a (M.map Prod.fst) ∧ TripsL K H M ∧ M.length ≤ 100 ∧ ∀ (p : Addr) (M' : List (V × Stp)) (H' : Hp), Same H H' → SqT K H' p (M'.map Prod.fst) → TripsL K H' M' → M'.map Prod.snd = M.map Prod.snd → Q (.ref p) H'
section
variable {P : Program} {w : World} {K : PySem.W.Frag} {mg : Str → Option Value} {base : Heap} {f C fI : Addr} {fd dI : FuncData}
theorem ok_frV (F : Fun K "frozen" "frozen" sFrozen f fd) (B : Bt mg) : FnOk P w K mg base CX0 1 f fd ["worth"] spFrV := by
  refine F.ok scF (fun vs H Q E h => ?_) (fun cdv A outer s H vs Q E hr h => ?_)
  · obtain ⟨i, rfl, _⟩ := h
    rfl
  obtain ⟨v, rfl, hv, q⟩ := h
  refine ⟨_, pss_cons (ps_if (pt_val (pe_callB call_isiT (by rfl) B.isi (by decide +kernel) (pa_cons (pv 0) (pa_cons (pe_tup (pa_cons (pe_bltn (v := .ty "list") (by rfl) B.lst (by decide +kernel) rfl) (pa_cons (pe_bltn (v := .ty "tuple") (by rfl) B.tup (by decide +kernel) rfl) pa_nil))) pa_nil)))) (pss_one ps_never) pss_nil)
    (pss_one (ps_ret (pv 0))), ?_⟩
  refine ⟨_, rfl, (by show 2 ≤ sizeLine; decide), fun t ht => ?_⟩
  rcases hv with ⟨i, rfl⟩ | ⟨z, rfl⟩
  · refine ⟨_, t, _, .type "int", [.type "list", .type "tuple"], false, rfl, upd_same, .cons (.ty _) (.cons (.ty _) .nil), .base (.int i), is_seq (by decide +kernel) (by decide +kernel), _, rfl, ?_⟩
    exact iteF ⟨_, rfl, q _ (same_new ht _)⟩
  · refine ⟨_, t, _, .type "str", [.type "list", .type "tuple"], false, rfl, upd_same, .cons (.ty _) (.cons (.ty _) .nil), .base (.str z), is_seq (by decide +kernel) (by decide +kernel), _, rfl, ?_⟩
    exact iteF ⟨_, rfl, q _ (same_new ht _)⟩
theorem ok_fr1 (F : Fun K "frozen" "frozen" sFrozen f fd) (B : Bt mg) (cF : Ca P w K mg base 1 "frozen" ["worth"] spFrV) : FnOk P w K mg base CX0 2 f fd ["worth"] (spFr1 K) := by
  refine F.ok scF (fun vs H Q E h => ?_) (fun cdv A outer s H vs Q E hr h => ?_)
  · obtain ⟨a, xs, rfl, _⟩ := h
    rfl
  obtain ⟨a, xs, rfl, hS, hx, hl, q⟩ := h
  refine ⟨_, pss_cons (ps_if (pt_val (pe_callB call_isiT (by rfl) B.isi (by decide +kernel) (pa_cons (pv 0) (pa_cons (pe_tup (pa_cons (pe_bltn (v := .ty "list") (by rfl) B.lst (by decide +kernel) rfl) (pa_cons (pe_bltn (v := .ty "tuple") (by rfl) B.tup (by decide +kernel) rfl) pa_nil))) pa_nil))))
        (pss_one (ps_ret (pe_callTy call_tuple_of (by rfl) B.tup (by decide +kernel) (pa_cons (pe_lc (own := [("part", 1)]) (g := gName 1) (tt := tYes) (te := tCall spFrV [] E0 (tCons (tVar 1) tNil)) rfl scF.nd (pi_tup (pv 0)) (blkOk_by (N := ["worth", "part"]) (sc := defScope sFrozen) (by decide +kernel))
          (fun _ _ _ _ _ => pg_name (i := 1) scF.nd rfl (Or.inl rfl)) (fun _ _ _ _ _ => pts_nil) (fun _ _ _ _ _ => pca cF hr (by decide) rfl (pa_cons (pv 1) pa_nil))) pa_nil)))) pss_nil)
      (pss_one (ps_ret (pv 0))), ?_⟩
  refine ⟨_, rfl, (by show 2 ≤ sizeLine; decide), fun t ht => ?_⟩
  have g1 : Same H (upd H t (.tup [.ty "list", .ty "tuple"])) := same_new ht _
  refine ⟨_, t, _, .type "tuple", [.type "list", .type "tuple"], true, rfl, upd_same, .cons (.ty _) (.cons (.ty _) .nil), tyT (seqT g1 hS), is_seq (by decide +kernel) (by decide +kernel), _, rfl, ?_⟩
  refine iteT ?_
  refine ⟨_, rfl, a, rfl, ⟨_, seqT g1 hS⟩, fun D hD => ?_⟩
  have hD0 : H D = none := g1.free hD
  refine lc_tup (K := K) (a := a) (xs := xs) (InvM H D (fun v : V => v) xs) ⟨upd_same, same_over g1 hD0 _⟩ (fun i H' _ ⟨_, g⟩ => seqT g hS) (fun i x H' hx' hv => ?_) ?_
  · refine ⟨rfl, kept ⟨_, rfl, x, rfl, hx x (List.mem_of_getElem? hx'), fun H2 g2 => ⟨_, g2 _ _ hv.1, len_m hl, InvM.next (f := fun v : V => v) hD0 (hv.2.trans g2) hx' _ rfl⟩⟩⟩
  rintro H' ⟨hd, g⟩
  rw [List.take_length, List.map_id'] at hd
  refine ⟨D, _, rfl, .inl ⟨SqL.of hd, fun l hl0 => ?_⟩⟩
  exact q l _ (g.trans (same_new hl0 _)) (SqT.of upd_same)
theorem ok_fr2 (F : Fun K "frozen" "frozen" sFrozen f fd) (B : Bt mg) (cF : Ca P w K mg base 2 "frozen" ["worth"] (spFr1 K)) : FnOk P w K mg base CX0 3 f fd ["worth"] (spFr2 K) := by
  refine F.ok scF (fun vs H Q E h => ?_) (fun cdv A outer s H vs Q E hr h => ?_)
  · obtain ⟨a, xs, rfl, _⟩ := h
    rfl
  obtain ⟨a, M, rfl, hS, hM, hl, q⟩ := h
  refine ⟨_, pss_cons (ps_if (pt_val (pe_callB call_isiT (by rfl) B.isi (by decide +kernel) (pa_cons (pv 0) (pa_cons (pe_tup (pa_cons (pe_bltn (v := .ty "list") (by rfl) B.lst (by decide +kernel) rfl) (pa_cons (pe_bltn (v := .ty "tuple") (by rfl) B.tup (by decide +kernel) rfl) pa_nil))) pa_nil))))
        (pss_one (ps_ret (pe_callTy call_tuple_of (by rfl) B.tup (by decide +kernel) (pa_cons (pe_lc (own := [("part", 1)]) (g := gName 1) (tt := tYes) (te := tCall (spFr1 K) [] E0 (tCons (tVar 1) tNil)) rfl scF.nd (pi_tup (pv 0)) (blkOk_by (N := ["worth", "part"]) (sc := defScope sFrozen) (by decide +kernel))
          (fun _ _ _ _ _ => pg_name (i := 1) scF.nd rfl (Or.inl rfl)) (fun _ _ _ _ _ => pts_nil) (fun _ _ _ _ _ => pca cF hr (by decide) rfl (pa_cons (pv 1) pa_nil))) pa_nil)))) pss_nil)
      (pss_one (ps_ret (pv 0))), ?_⟩
  refine ⟨_, rfl, (by show 2 ≤ sizeLine; decide), fun t ht => ?_⟩
  have g1 : Same H (upd H t (.tup [.ty "list", .ty "tuple"])) := same_new ht _
  refine ⟨_, t, _, .type "tuple", [.type "list", .type "tuple"], true, rfl, upd_same, .cons (.ty _) (.cons (.ty _) .nil), tyT (seqT g1 hS), is_seq (by decide +kernel) (by decide +kernel), _, rfl, ?_⟩
  refine iteT ?_
  refine ⟨_, rfl, a, rfl, ⟨_, seqT g1 hS⟩, fun D hD => ?_⟩
  have hD0 : H D = none := g1.free hD
  refine lc_tup (K := K) (a := a) (xs := M.map Prod.fst) (fun i H' => ∃ M' : List (V × Stp), H' D = some (.lst (M'.map Prod.fst)) ∧ M'.map Prod.snd = (M.take i).map Prod.snd ∧ TripsL K H' M' ∧ Same H H') ⟨[], upd_same, rfl, (fun _ h => by cases h), same_over g1 hD0 _⟩ (fun i H' _ ⟨_, _, _, _, g⟩ => seqT g hS) (fun i x H' hx' hv => ?_) ?_
  · obtain ⟨m, em, rfl⟩ := at_map hx'
    obtain ⟨M', v1, v2, v3, v4⟩ := hv
    obtain ⟨ad, e1, hm⟩ := hM m (List.mem_of_getElem? em)
    have il := (List.getElem?_eq_some_iff.mp em).1
    have ml : M'.length ≤ 100 := by
      have e := congrArg List.length v2
      rw [List.length_map, List.length_map, List.length_take] at e
      omega
    rw [e1]
    refine ⟨rfl, kept ⟨_, rfl, ad, _, rfl, seqT v4 hm, ?_, (by show 3 ≤ 1000; decide), fun p H2 g2 hp => ⟨_, g2 _ _ v1, by rw [List.length_map]; exact small1000 (by omega), M' ++ [(.ref p, m.2)], ?_, ?_, ?_, same_over (v4.trans g2) hD0 _⟩⟩⟩
    · intro v hv
      simp only [List.mem_cons, List.not_mem_nil, or_false] at hv
      rcases hv with rfl | rfl | rfl
      · exact .inr ⟨_, rfl⟩
      · exact .inl ⟨_, rfl⟩
      · exact .inr ⟨_, rfl⟩
    · rw [upd_same, List.map_append] <;> rfl
    · rw [List.map_append, v2, List.take_succ, em, List.map_append (l₂ := Option.toList _)] <;> rfl
    · have gl : TK K H2 (upd H2 D (.lst (M'.map Prod.fst ++ [.ref p]))) := TK.lst (g2 _ _ v1)
      exact ((v3.mono (.of g2)).mono gl).app (.one ⟨p, rfl, gl _ _ hp⟩)
  rintro H' ⟨M', v1, v2, v3, v4⟩
  rw [List.length_map, List.take_length] at v2
  refine ⟨D, _, rfl, .inl ⟨SqL.of v1, fun l hl0 => ?_⟩⟩
  have gl := same_new hl0 (.tup (M'.map Prod.fst))
  exact q l M' _ (v4.trans gl) (SqT.of upd_same) (v3.mono (.of gl)) v2
/-! the error -/
abbrev s_rg_init : Stmt := inClass (topS 8) 0
theorem sc_rg : FnScope ["self", "steps"] ["self", "steps"] (defScope s_rg_init) := ⟨rfl, rfl, rfl, by decide +kernel, rfl, by decide +kernel, by decide +kernel⟩
/-- an own error class with one field, which its __init__ sets -/
structure Er (K : PySem.W.Frag) (mg : Str → Option Value) (C fI : Addr) (x fl : Str) : Prop where
  ox : OexC K C
  ini : PySem.W.findIn K (.ref C) "__init__" = some (some (.ref fI))
  ty : PySem.W.typeIn K (.ref fI) = some (.type "function")
  no : PySem.W.findIn K (.ref C) fl = some none
  m : mg x = some (.ref C)
def spRgI (K : PySem.W.Frag) (C : Addr) : Sp := fun vs H Q _ => ∃ (a p : Addr) (M : List (V × Stp)), vs = [.ref a, .ref p] ∧ SqT K H p (M.map Prod.fst) ∧ TripsL K H M ∧ M.length ≤ 100 ∧ H a = some (exo a C none) ∧
  ∀ (dx t : Addr) (M' : List (V × Stp)) (H' : Hp), H dx = none → dx ≠ a → H' a = some (exo a C (some dx)) → H' dx = some (exd dx [("steps", .ref t)]) → SqT K H' t (M'.map Prod.fst) → TripsL K H' M' → M'.map Prod.snd = M.map Prod.snd → (∀ b o, b ≠ a → H b = some o → H' b = some o) → Q .non H'
theorem tkExo {H H' : Hp} {a : Addr} {d : Option Addr} (ha : H a = some (exo a C d)) (g : ∀ b o, b ≠ a → H b = some o → H' b = some o) : TK K H H' := fun b xs q => by
  rcases q with (h | ⟨o, h⟩) | h
  · exact .inl (.inl (g _ _ (fun e => by rw [e, ha] at h; unfold exo at h; cases h) h))
  · exact .inl (.inr ⟨o, g _ _ (fun e => by rw [e, ha] at h; unfold exo at h; cases h) h⟩)
  · exact .inr h
theorem tkExd {H H' : Hp} {a dx : Addr} {fs : List (Str × V)} {d : Option Addr} (ha : H a = some (exo a C d)) (hd : H dx = some (exd dx fs)) (g : ∀ b o, b ≠ a → b ≠ dx → H b = some o → H' b = some o) : TK K H H' := fun b xs q => by
  rcases q with (h | ⟨o, h⟩) | h
  · exact .inl (.inl (g _ _ (fun e => by rw [e, ha] at h; unfold exo at h; cases h) (fun e => by rw [e, hd] at h; unfold exd at h; cases h) h))
  · exact .inl (.inr ⟨o, g _ _ (fun e => by rw [e, ha] at h; unfold exo at h; cases h) (fun e => by rw [e, hd] at h; unfold exd at h; cases h) h⟩)
  · exact .inr h
theorem ok_rg (F : Fun K "__init__" "Ring.__init__" s_rg_init f fd) (T : Er K mg C f "Ring" "steps") (cF : Ca P w K mg base 3 "frozen" ["worth"] (spFr2 K)) : FnOk P w K mg base CX0 4 f fd ["self", "steps"] (spRgI K C) := by
  refine F.ok sc_rg (fun vs H Q E h => ?_) (fun cdv A outer s H vs Q E hr h => ?_)
  · obtain ⟨a, p, M, rfl, _⟩ := h
    rfl
  obtain ⟨a, p, M, rfl, hp, hM, hl, ha, k⟩ := h
  refine ⟨_, (pss_one (ps_ost (pv 0) (pca cF hr (by decide) rfl (pa_cons (pv 1) pa_nil)))), ?_⟩
  refine ⟨_, rfl, p, M, rfl, hp, hM, hl, fun t M' H1 g1 ht hM' e => ⟨_, rfl, a, C, rfl, T.ox, T.no, .inl ⟨g1 _ _ ha, fun dx hd ne => ?_⟩⟩⟩
  have gd := same_new hd (exd dx [("steps", .ref t)])
  have ha2 := gd _ _ (g1 _ _ ha)
  have gt : TK K H1 (upd (upd H1 dx (exd dx [("steps", .ref t)])) a (exo a C (some dx))) := (TK.of gd).trans (tkExo ha2 fun b o nb e => by rw [upd_ne nb]; exact e)
  refine k dx t M' _ (g1.free hd) ne upd_same (by rw [upd_ne ne, upd_same]) (gt _ _ ht) (hM'.mono gt) e fun b o nb e => ?_
  have n2 : b ≠ dx := ne_of_none (g1 _ _ e) hd
  rw [upd_ne nb, upd_ne n2]
  exact g1 _ _ e
/-- what a raised one leaves -/
def RaisedR (K : PySem.W.Frag) (C : Addr) (S : List Stp) (H : Hp) (E : XK) : Prop := ∀ (d t : Addr) (M : List (V × Stp)) (H' : Hp), Same H H' → H' d = some (.xd [("steps", .ref t)]) → SqT K H' t (M.map Prod.fst) → TripsL K H' M → M.length ≤ 100 → Topo.RingOk S (M.map Prod.snd) → E (.ref C) (some d) H'
theorem made_rg {S : List Stp} {H H0 : Hp} {E : XK} (k : RaisedR K C S H0 E) (g0 : Same H0 H) {p : Addr} {M : List (V × Stp)} (hp : SqT K H p (M.map Prod.fst)) (hM : TripsL K H M) (hl : M.length ≤ 100) (ring : Topo.RingOk S (M.map Prod.snd)) (a : Addr) (ha : H a = none) : spRgI K C [.ref a, .ref p] (upd H a (exo a C none))
    (fun u H2 => u = .non ∧ ∃ (d : Addr) (fs : List (Str × V)), H2 a = some (exo a C (some d)) ∧ H2 d = some (exd d fs) ∧ H d = none ∧ E (.ref C) (some d) (upd (del H2 a) d (.xd fs))) (fun _ _ _ => False) := by
  have ga := same_new ha (exo a C none)
  refine ⟨a, p, M, rfl, seqT ga hp, hM.mono (.of ga), hl, upd_same, fun dx t M' H' hd ne h1 h2 ht hM' e hk => ⟨rfl, dx, _, h1, h2, by rw [upd_ne ne] at hd; exact hd, ?_⟩⟩
  have hd' : H dx = none := by rw [upd_ne ne] at hd; exact hd
  have gt : TK K H' (upd (del H' a) dx (.xd [("steps", .ref t)])) := tkExd h1 h2 fun b o n1 n2 e => by
    rw [upd_ne n2, del_ne n1]
    exact e
  have ml : M'.length ≤ 100 := by
    have q := congrArg List.length e
    rw [List.length_map, List.length_map] at q
    omega
  refine k dx t M' _ (fun b o e => ?_) upd_same (gt _ _ ht) (hM'.mono gt) ml (by rw [e]; exact ring)
  have e := g0 _ _ e
  have n1 : b ≠ a := ne_of_none e ha
  have n2 : b ≠ dx := ne_of_none e hd'
  rw [upd_ne n2, del_ne n1]
  exact hk b o n1 (by rw [upd_ne n1]; exact e)
/-! fitting_order -/
abbrev s_fitting_order : Stmt := topS 24
abbrev n_fitting_order : List Str := ["uses", "letters", "order", "ring"]
theorem sc_fitting_order : FnScope n_fitting_order ["uses", "letters"] (defScope s_fitting_order) := ⟨rfl, rfl, rfl, by decide +kernel, rfl, by decide +kernel, by decide +kernel⟩
def spFo (K : PySem.W.Frag) (U FC C : Addr) : Sp := fun vs H Q E => ∃ (a b : Addr) (us : List V) (xs : List Ux) (ls : List Str), vs = [.ref a, .ref b] ∧ SqL K H a us ∧ MUses K U FC H us xs ∧ (∀ x ∈ xs, GoodU x) ∧ xs.length ≤ 100 ∧ SqL K H b (ls.map V.str) ∧ ls.length < 64 ∧
  ∀ as, LetOk as ls → (∀ order, Topo.topo (stAll xs) as.length as [] = some order → ∀ (o : Addr) (H' : Hp), Same H H' → SqT K H' o (order.map V.str) → Q (.ref o) H') ∧ (Topo.topo (stAll xs) as.length as [] = none → RaisedR K C (stAll xs) H E)
theorem ok_fitting_order {U FC : Addr} (F : Fun K "fitting_order" "fitting_order" s_fitting_order f fd) (B : Bt mg) (cS : Ca P w K mg base 3 "steps_of" ["uses", "numbers"] (spSOf K U FC)) (cO : Ca P w K mg base 2 "order_or_ring" ["steps", "letters"] (spOor K))
    (T : Er K mg C fI "Ring" "steps") (FI : FnOk P w K mg base CX0 4 fI dI ["self", "steps"] (spRgI K C)) (bI : Binds K dI ["self", "steps"] []) : FnOk P w K mg base (L2.CX P w) 6 f fd ["uses", "letters"] (spFo K U FC C) := by
  refine F.okX sc_fitting_order (fun vs H Q E h => ?_) (fun cdv A outer s H vs Q E hr h => ?_)
  · obtain ⟨a, b, us, xs, ls, rfl, _⟩ := h
    rfl
  obtain ⟨a, b, us, xs, ls, rfl, ha, hU, hX, hxl, hb, hls, k⟩ := h
  refine ⟨_, (pss_cons (ps_asg (pca cO hr (by decide) rfl (pa_cons (pca cS hr (by decide) rfl (pa_cons (pv 0) (pa_cons (pe_listRg rfl (by rfl) B.lst (prg_1 (by rfl) B.range (pe_callB call_len_seq (by rfl) B.len PySem.boot_len (pa_cons (pv 0) pa_nil)))) pa_nil))) (pa_cons (pv 1) pa_nil))) (pg_tup rfl (pgs_cons (pg_name (i := 2) sc_fitting_order.nd rfl (Or.inl rfl)) (pgs_cons (pg_name (i := 3) sc_fitting_order.nd rfl (Or.inl rfl)) pgs_nil))))
(pss_cons (ps_if (pt_cmpR op_isN (pv 2) pe_non (nomark _))
(pss_one (ps_raise rfl (takes_of rfl rfl rfl rfl) (pmk_oex T.ox T.ini T.ty FI (hr.mono (by decide)) bI .nil pass0 rfl T.m (pa_cons (pv 3) pa_nil)))) pss_nil)
(pss_one (ps_ret (pv 2))))), ?_⟩
  have ul : us.length = xs.length := hU.1
  refine ⟨_, rfl, _, rfl, a, us, rfl, .inl ha, (us.length : Nat), rfl, RgOk.of_le (by decide) (by omega) (by decide) (by omega), fun p hp => ?_⟩
  have er : rgV 0 ((us.length : Nat) : Int) = (List.range xs.length).map fun n : Nat => V.int n := by
    rw [rg_iota, ul]
    unfold iota
    rw [List.map_map] <;> rfl
  rw [er]
  have gp := same_new hp (.lst ((List.range xs.length).map fun n : Nat => V.int n))
  refine ⟨a, p, us, xs, List.range xs.length, rfl, gp.seq ha, hU.same gp, hX, SqL.of upd_same, by rw [List.length_range]; exact hxl, fun n hn => List.mem_range.mp hn, fun D H2 g2 hD0 hSt => ?_⟩
  obtain ⟨L, hD, eL, hL⟩ := hSt
  rw [stOf_all] at eL
  have Ll : L.length ≤ 1000 := by
    have q := stOf_len (xs := xs) (ns := List.range xs.length) hX fun n hn => List.mem_range.mp hn
    rw [stOf_all, ← eL, List.length_map, List.length_range] at q
    omega
  have g02 := gp.trans g2
  refine ⟨_, rfl, D, b, L, ls, rfl, SqL.of hD, hL, Ll, g02.seq hb, hls, fun t H3 as g3 ht3 hlet hor => ?_⟩
  have g03 := g02.trans g3
  obtain ⟨k1, k2⟩ := k as hlet
  rw [eL] at hor
  rcases hor with ⟨o, order, e, h1, h2⟩ | ⟨r, M, e, h1, h2, h3, h4, h5⟩
  · refine ⟨t, _, rfl, h1, rfl, _, _, rfl, _, _, rfl, rfl, ?_⟩
    refine ⟨_, rfl, rfl, _, rfl, iteN (decide_eq_false fun z => by cases z) ?_⟩
    exact ⟨_, rfl, k1 order e o H3 g03 h2⟩
  · refine ⟨t, _, rfl, h1, rfl, _, _, rfl, _, _, rfl, rfl, ?_⟩
    refine ⟨_, rfl, rfl, _, rfl, ?_⟩
    refine iteT ⟨_, rfl, (by show 1 ≤ 1000; decide), fun a' ha' => made_rg (k2 e) g03 h2 h3 h4 h5 a' ha'⟩
end
end Lw
namespace Lw
open PySem L2 TzR TL
abbrev s_l_resolved : Stmt := topS 27
abbrev n_l_resolved : List Str := ["_law_use", "_law_bound", "_law_letters_here", "_law_missing", "_law_k", "_law_letter"]
theorem sc_l_resolved : FnScope n_l_resolved ["_law_use", "_law_bound"] (defScope s_l_resolved) := ⟨rfl, rfl, rfl, by decide +kernel, rfl, by decide +kernel, by decide +kernel⟩
def spRes (K : PySem.W.Frag) : Sp := fun vs H Q _ => ∃ (u o : Addr) (nm : Str) (ls od : List Str) (l : List (Str × Int)), vs = [.ref u, .ref o] ∧ LuAt K H u nm ls l ∧ l.length ≤ 3 ∧ (∀ p ∈ l, 0 ≤ p.2 ∧ p.2 < (ls.length : Int)) ∧ SqL K H o (od.map V.str) ∧ (∀ p ∈ l, letAt ls p ∈ od) ∧
  ∀ H' : Hp, Same H H' → Q (.int (l.length : Nat)) H'
section
variable {P : Program} {w : World} {K : PySem.W.Frag} {mg : Str → Option Value} {base : Heap} {f gL : Addr} {fd dL : FuncData}
theorem ok_l_resolved (F : Fun K "_law_resolved" "_law_resolved" s_l_resolved f fd) (B : Bt mg) (B2 : Bx mg) (cL : Ca P w K mg base 1 "_law_level_letters" ["_law_use"] (spLvl K)) :
    FnOk P w K mg base CX0 2 f fd ["_law_use", "_law_bound"] (spRes K) := by
  refine F.ok sc_l_resolved (fun vs H Q E h => ?_) (fun cdv A outer s H vs Q E hr h => ?_)
  · obtain ⟨u, o, nm, ls, od, l, rfl, _⟩ := h
    rfl
  obtain ⟨u, o, nm, ls, od, l, rfl, hU, hl, hp, ho, hin, k⟩ := h
  refine ⟨_, (pss_cons (ps_set (i := 2) sc_l_resolved.nd rfl (Or.inl rfl) (pca cL hr (by decide) rfl (pa_cons (pv 0) pa_nil)))
(pss_cons (ps_setLc (i := 3) (own := [("_law_k", 4), ("_law_letter", 5)]) (g := (gTup K 2 (gCons (gName 4) (gCons (gName 5) gNil)))) (tt := tTest (tOp (rIn K true) (tVar 5) (tVar 1))) (te := tVar 4) rfl sc_l_resolved.nd rfl rfl (sw_true rfl rfl rfl (by decide +kernel)) (pi_enum (by rfl) B2.enum (pa_cons (pv 2) pa_nil)) (blkOk_by (N := n_l_resolved) (sc := defScope s_l_resolved) (by decide +kernel)) (fun _ _ _ _ _ => (pg_tup rfl (pgs_cons (pg_name (i := 4) sc_l_resolved.nd rfl (Or.inl rfl)) (pgs_cons (pg_name (i := 5) sc_l_resolved.nd rfl (Or.inl rfl)) pgs_nil)))) (fun _ _ _ _ _ => (pts_one (pt_cmpR op_notIn_seq (pv 5) (pv 1) (by rfl)))) (fun _ _ _ _ _ => (pv 4)))
(pss_one (ps_ret (pe_ifExp (pt_cmpR (op_neD hr.units) (pv 3) (pe_lst pa_nil) (nomark _)) (pe_ix ix_list (pv 3) pe_int (fun _ _ => rfl)) (pe_callB call_len_seq (by rfl) B.len PySem.boot_len (pa_cons (pv 2) pa_nil))))))), ?_⟩
  refine ⟨_, rfl, u, nm, ls, l, rfl, hU, hl, hp, fun D H1 g1 hD0 hD => ?_⟩
  have ho1 := g1.seq ho
  refine ⟨_, rfl, D, _, rfl, SqL.of hD, fun M hM => ?_⟩
  have gM := same_new hM (.lst [])
  refine lc_it (walk_enL (K := K) (a := D) (xs := (l.map (letAt ls)).map V.str)) (fun _ H' => H' M = some (.lst []) ∧ Same H1 H') ⟨upd_same, gM⟩ (fun i H' _ ⟨_, g⟩ => SqL.of (g _ _ hD)) (fun i x H2 H3 hi hv hy => ?_) ?_
  · obtain ⟨T, x', rfl, hT, rfl, hx⟩ := hy
    obtain ⟨z, ez, rfl⟩ := at_map hx
    obtain ⟨pz, epz, rfl⟩ := at_mapG ez
    have zin := hin pz (List.mem_of_getElem? epz)
    have gT := same_new hT (.tup [.int (i : Nat), .str (letAt ls pz)])
    refine ⟨T, _, rfl, SqT.of upd_same, rfl, _, _, rfl, _, _, rfl, rfl, rfl, ?_⟩
    refine ⟨_, rfl, _, rfl, o, od.map V.str, rfl, .inl ((hv.2.trans gT).seq ho1), rfl, flat_strs' od, false, ?_, ?_⟩
    · rw [in_strs, decide_eq_true zin] <;> rfl
    · exact iteN rfl ⟨gT _ _ hv.1, hv.2.trans gT⟩
  rintro H2 ⟨hm, g2⟩
  refine ⟨_, rfl, (by show 0 ≤ sizeLine; decide), fun e he => ?_⟩
  have ge := same_new he (.lst [])
  refine ⟨.list [], .list [], .lst (SqL.of (ge _ _ hm)) .nil, .lst (SqL.of upd_same) .nil, by decide +kernel, by decide +kernel, _, rfl, ?_⟩
  refine iteN (by decide +kernel) ?_
  refine ⟨_, rfl, D, _, rfl, .inl (SqL.of (ge _ _ (g2 _ _ hD))), ?_⟩
  rw [List.length_map, List.length_map]
  exact k _ (g1.trans (g2.trans ge))
/-! _law_fits -/
abbrev s_l_fits : Stmt := topS 28
abbrev n_l_fits : List Str := ["_law_use", "_law_order", "_law_letters_here", "_law_level", "_law_upper"]
theorem sc_l_fits : FnScope n_l_fits ["_law_use", "_law_order"] (defScope s_l_fits) := ⟨rfl, rfl, rfl, by decide +kernel, rfl, by decide +kernel, by decide +kernel⟩
/-- the law's use, as tuples -/
def LUse (K : PySem.W.Frag) (H : Hp) (u : Addr) (x : Ux) : Prop := LuAt K H u x.1 x.2.1 x.2.2
def spFit (K : PySem.W.Frag) : Sp := fun vs H Q _ => ∃ (u o : Addr) (x : Ux) (od : List Str) (n : Nat), vs = [.ref u, .ref o] ∧ LUse K H u x ∧ GoodU x ∧ SqL K H o (od.map V.str) ∧ (∀ p ∈ x.2.2, letAt x.2.1 p ∈ od) ∧
  ∀ H' : Hp, Same H H' → Q (.bl (Topo.fitsS (stUse x n) od)) H'
theorem fits_app {S S' : List Stp} {od : List Str} : Topo.fitsS (S ++ S') od = (Topo.fitsS S od && Topo.fitsS S' od) := by
  unfold Topo.fitsS
  rw [List.all_append]
theorem fits_bad {S : List Stp} {od : List Str} {s : Stp} (h : s ∈ S) (hb : ¬ od.idxOf s.1 ≤ od.idxOf s.2.2) : Topo.fitsS S od = false := by
  unfold Topo.fitsS
  rw [List.all_eq_false]
  exact ⟨s, h, by simpa using hb⟩
theorem ok_l_fits (F : Fun K "_law_fits" "_law_fits" s_l_fits f fd) (B : Bt mg) (cL : Ca P w K mg base 1 "_law_level_letters" ["_law_use"] (spLvl K)) (cR : Ca P w K mg base 2 "_law_resolved" ["_law_use", "_law_bound"] (spRes K)) :
    FnOk P w K mg base CX0 3 f fd ["_law_use", "_law_order"] (spFit K) := by
  refine F.ok sc_l_fits (fun vs H Q E h => ?_) (fun cdv A outer s H vs Q E hr h => ?_)
  · obtain ⟨u, o, x, od, n, rfl, _⟩ := h
    rfl
  obtain ⟨u, o, x, od, n, rfl, hU, hx, ho, hin, k⟩ := h
  refine ⟨_, (pss_cons (ps_set (i := 2) sc_l_fits.nd rfl (Or.inl rfl) (pca cL hr (by decide) rfl (pa_cons (pv 0) pa_nil)))
(pss_cons (ps_for PassesOwn.never rfl (pi_range1 (by rfl) B.range (pa_cons (pca cR hr (by decide) rfl (pa_cons (pv 0) (pa_cons (pv 1) pa_nil))) pa_nil)) (pg_name (i := 3) sc_l_fits.nd rfl (Or.inl rfl))
(pss_one (ps_if (pt_cmpR op_eq (pe_ix ix_tup (pe_ix ix_tup (pe_ix ix_tup (pv 0) pe_int (fun _ _ => rfl)) (pv 3) (fun _ _ => rfl)) pe_int (fun _ _ => rfl)) pe_str (nomark _))
(pss_one (ps_for PassesOwn.never rfl (pi_list (pe_slice sl_list (pv 2) po_none (po_some (pv 3)))) (pg_name (i := 4) sc_l_fits.nd rfl (Or.inl rfl))
(pss_one (ps_if (pt_cmpR op_gt (pe_bm PySem.F.plainAttrs_list PySem.F.slot_list_index PySem.F.type_list_index mt_index (pv 1) (pa_cons (pv 4) pa_nil)) (pe_bm PySem.F.plainAttrs_list PySem.F.slot_list_index PySem.F.type_list_index mt_index (pv 1) (pa_cons (pe_ix ix_list (pv 2) (pv 3) (fun _ _ => rfl)) pa_nil)) (nomark _))
(pss_one (ps_ret pe_bl)) pss_nil)))) pss_nil)))
(pss_one (ps_ret pe_bl)))), ?_⟩
  have hl := hx.l3
  refine ⟨_, rfl, u, x.1, x.2.1, x.2.2, rfl, hU, hl, hx.ax, fun D H1 g1 hD0 hD => ?_⟩
  have hU1 : LuAt K H1 u x.1 x.2.1 x.2.2 := hU.mono (TK.of g1)
  have hD : H1 D = some (.lst ((lvs x).map V.str)) := hD
  refine ⟨_, rfl, _, rfl, u, o, x.1, x.2.1, od, x.2.2, rfl, hU1, hl, hx.ax, g1.seq ho, hin, fun H2 g2 => ?_⟩
  refine ⟨(x.2.2.length : Int), rfl, by omega, by omega, for_range (n := x.2.2.length) (fun i σ H' => (∃ u3 u4 : Option V, σ = [some (.ref u), some (.ref o), some (.ref D), u3, u4]) ∧ Same H2 H' ∧ Topo.fitsS ((List.range i).flatMap (stLv x n)) od = true) ⟨⟨_, _, rfl⟩, Same.refl H2, rfl⟩ ?_ ?_⟩
  · rintro i σ H3 hi ⟨⟨u3, u4, rfl⟩, g3, hfit⟩
    have g13 := g2.trans g3
    have g03 := g1.trans g13
    obtain ⟨tl, tf, us, h1, h2, h3, h4⟩ := hU
    have ej := List.getElem?_eq_getElem hi
    have hiu : i < us.length := by rw [h4.1]; exact hi
    obtain ⟨y, ey, zy⟩ := h4.2 i us[i] _ (List.getElem?_eq_getElem hiu) ej
    have eus : us[i]? = some (.ref y) := by rw [List.getElem?_eq_getElem hiu, ey]
    have eit : atI us (0 + (i : Int)) = some (.ref y) := by
      rw [Int.zero_add]
      exact atI_nat (j := i) eus
    have hD3 : H3 D = some (.lst ((lvs x).map V.str)) := g13 _ _ hD
    have elv : (lvs x)[i]? = some (letAt x.2.1 x.2.2[i]) := by
      unfold lvs
      rw [List.getElem?_map, ej] <;> rfl
    have elt : atI ((lvs x).map V.str) (0 + (i : Int)) = some (.str (letAt x.2.1 x.2.2[i])) := by
      rw [Int.zero_add]
      exact atI_nat (j := i) (by rw [List.getElem?_map, elv] <;> rfl)
    have est : stLv x n i = if x.2.2[i].1 = "packed" then ((lvs x).take i).map fun u => (u, n, letAt x.2.1 x.2.2[i]) else [] := by
      unfold stLv
      rw [List.getD_eq_getElem?_getD, ej]
      rfl
    refine ⟨_, rfl, u, _, (2 : Int), .ref tf, rfl, rfl, seqT g03 h1, atI_nat (j := 2) rfl, _, rfl, tf, us, (0 + (i : Int)), .ref y, rfl, rfl, seqT g03 h3, eit, y, _, (0 : Int), .str x.2.2[i].1, rfl, rfl, seqT g03 zy, atI_nat (j := 0) rfl, rfl, _, rfl, ?_⟩
    rw [dstr]
    by_cases c : x.2.2[i].1 = "packed"
    · rw [if_pos c] at est
      rw [decide_eq_true c]
      refine iteT ?_
      refine ⟨_, rfl, _, rfl, _, rfl, D, _, rfl, SqL.of hD3, fun p hp => ?_⟩
      have ll : (lvs x).length = x.2.2.length := by unfold lvs; rw [List.length_map]
      have ecut : cutV ((lvs x).map V.str) none (some (0 + (i : Int))) = ((lvs x).take i).map V.str := by
        rw [Int.zero_add, cut_take _ _ (by rw [List.length_map]; omega), List.map_take]
      rw [ecut]
      have gp := same_new hp (.lst (((lvs x).take i).map V.str))
      refine ⟨p, rfl, ⟨_, SqL.of upd_same⟩, for_list (K := K) (a := p) (xs := ((lvs x).take i).map V.str) (fun j σ' H' => (∃ u4 : Option V, σ' = [some (.ref u), some (.ref o), some (.ref D), some (.int (0 + (i : Int))), u4]) ∧ Same (upd H3 p (.lst (((lvs x).take i).map V.str))) H' ∧ Topo.fitsS ((((lvs x).take i).take j).map fun u => (u, n, letAt x.2.1 x.2.2[i])) od = true) ⟨⟨_, rfl⟩, Same.refl _, rfl⟩ (fun j σ' H' _ ⟨_, g, _⟩ => SqL.of (g _ _ upd_same)) ?_ (fun σ' H' ⟨⟨u4', e⟩, g, hf⟩ => ⟨⟨_, _, e⟩, g3.trans (gp.trans g), ?_⟩)⟩
      · rintro j z0 σ' H4 hz0 ⟨⟨u4', rfl⟩, g4, hf⟩
        obtain ⟨z, ez, rfl⟩ := at_map hz0
        have ez' := ez
        have hji : j < i := by
          have := (List.getElem?_eq_some_iff.mp ez).1
          rw [List.length_take] at this
          omega
        rw [List.getElem?_take, if_pos hji] at ez
        have g34 := gp.trans g4
        have ho4 := (g03.trans g34).seq ho
        have zin : z ∈ od := by
          obtain ⟨pz, epz, rfl⟩ := at_mapG ez
          exact hin pz (List.mem_of_getElem? epz)
        have lin : letAt x.2.1 x.2.2[i] ∈ od := hin _ (List.getElem_mem hi)
        obtain ⟨w1, a1, b1, c1⟩ := ix_str zin
        obtain ⟨w2, a2, b2, c2⟩ := ix_str lin
        refine ⟨_, rfl, .inl ⟨rfl, _, ho4⟩, _, rfl, o, od.map V.str, .str z, od.idxOf z, w1, rfl, rfl, ho4, rfl, flat_strs' od, a1, b1, c1, ?_⟩
        refine ⟨_, rfl, .inl ⟨rfl, _, ho4⟩, _, rfl, _, rfl, D, _, (0 + (i : Int)), _, rfl, rfl, SqL.of (g34 _ _ hD3), elt, o, od.map V.str, .str (letAt x.2.1 x.2.2[i]), od.idxOf (letAt x.2.1 x.2.2[i]), w2, rfl, rfl, ho4, rfl, flat_strs' od, a2, b2, c2, ?_⟩
        refine ⟨_, _, rfl, rfl, _, rfl, ?_⟩
        refine ite2 (fun cc => ?_) (fun cc => ⟨⟨_, rfl⟩, g4, ?_⟩)
        · have cc := of_decide_eq_true cc
          have bad : Topo.fitsS (stUse x n) od = false := fits_bad (s := (z, n, letAt x.2.1 x.2.2[i])) (List.mem_flatMap.mpr ⟨i, List.mem_range.mpr hi, by rw [est]; exact List.mem_map.mpr ⟨z, List.mem_of_getElem? ez', rfl⟩⟩) (by
            show ¬ od.idxOf z ≤ od.idxOf (letAt x.2.1 x.2.2[i])
            omega)
          have kk := k H4 (g1.trans (g2.trans (g3.trans g34)))
          rw [bad] at kk
          exact kk
        · have cc : ¬ ((od.idxOf (letAt x.2.1 x.2.2[i]) : Nat) : Int) < (od.idxOf z : Nat) := fun q => cc (decide_eq_true q)
          rw [List.take_succ, ez', List.map_append, fits_app, hf, Bool.true_and]
          show ([(z, n, letAt x.2.1 x.2.2[i])] : List Stp).all _ = true
          rw [List.all_cons, List.all_nil, Bool.and_true]
          exact decide_eq_true (show od.idxOf z ≤ od.idxOf (letAt x.2.1 x.2.2[i]) by omega)
      · rw [List.length_map, List.take_length] at hf
        rw [range_flat, fits_app, hfit, est, hf] <;> rfl
    · rw [if_neg c] at est
      rw [decide_eq_false c]
      exact iteF ⟨⟨_, _, rfl⟩, g3, by rw [range_flat, fits_app, hfit, est] <;> rfl⟩
  · rintro σ H3 ⟨_, g3, hfit⟩
    have kk := k H3 (g1.trans (g2.trans g3))
    have e : Topo.fitsS (stUse x n) od = true := hfit
    rw [e] at kk
    exact kk
end
end Lw
namespace Lw
open PySem L2 TzR TL
section
variable {P : Program} {w : World} {K : PySem.W.Frag} {mg : Str → Option Value} {base : Heap} {f : Addr} {fd : FuncData}
/-! letters of several, sorted -/
def spMg (K : PySem.W.Frag) : Sp := fun vs H Q _ => ∃ (A : Addr) (ws : List V) (lss : List (List Str)), vs = [.ref A] ∧ SqL K H A ws ∧ ws.length = lss.length ∧ (∀ (i : Nat) (v : V), ws[i]? = some v → ∃ (t : Addr) (ls : List Str), v = .ref t ∧ lss[i]? = some ls ∧ SqT K H t (ls.map V.str) ∧ ls.Nodup) ∧ lss.flatten.length < 64 ∧
  ∀ (r : Addr) (us l : List Str) (H' : Hp), Same H H' → H r = none → H' r = some (.lst (us.map V.str)) → l.Nodup → (∀ z, z ∈ l ↔ z ∈ lss.flatten) → us.Perm l → PyProof.Rows.sortedS us = true → Q (.ref r) H'
abbrev s_l_merged : Stmt := topS 29
abbrev n_l_merged : List Str := ["_law_lists", "_law_found", "_law_letters_here", "_law_letter"]
theorem sc_l_merged : FnScope n_l_merged ["_law_lists"] (defScope s_l_merged) := ⟨rfl, rfl, rfl, by decide +kernel, rfl, by decide +kernel, by decide +kernel⟩
def InvMg (H0 : Hp) (D : Addr) (l ls : List Str) (i : Nat) (H : Hp) : Prop := H D = some (.lst (((ls.take i).filter fun z => decide (z ∉ l)).map V.str)) ∧ Same H0 H
theorem flat_take {lss : List (List Str)} (i : Nat) : ((lss.take i).flatten).length ≤ lss.flatten.length := by
  have e : lss = lss.take i ++ lss.drop i := (List.take_append_drop i lss).symm
  have e2 : lss.flatten = (lss.take i).flatten ++ (lss.drop i).flatten := by rw [← List.flatten_append, ← e]
  rw [e2, List.length_append]
  omega
theorem ok_l_merged (F : Fun K "_law_merged" "_law_merged" s_l_merged f fd) (B : Bt mg) (B2 : Bx mg) : FnOk P w K mg base CX0 1 f fd ["_law_lists"] (spMg K) := by
  refine F.ok sc_l_merged (fun vs H Q E h => ?_) (fun cdv A outer s H vs Q E hr h => ?_)
  · obtain ⟨A, ws, lss, rfl, _⟩ := h
    rfl
  obtain ⟨A, ws, lss, rfl, hA, hlen, hw, h64, q⟩ := h
  refine ⟨_, (pss_cons (ps_set (i := 1) sc_l_merged.nd rfl (Or.inr rfl) (pe_lst pa_nil))
(pss_cons (ps_for PassesOwn.never rfl (pi_list (pv 0)) (pg_name (i := 2) sc_l_merged.nd rfl (Or.inl rfl))
(pss_one (ps_expr (pe_bm PySem.F.plainAttrs_list PySem.F.slot_list_extend PySem.F.type_list_extend mt_extend (pv 1) (pa_cons (pe_lc (own := [("_law_letter", 3)]) (g := (gName 3)) (tt := tTest (tOp (rIn K true) (tVar 3) (tVar 1))) (te := tVar 3) rfl sc_l_merged.nd (pi_tup (pv 2)) (blkOk_by (N := n_l_merged) (sc := defScope s_l_merged) (by decide +kernel)) (fun _ _ _ _ _ => (pg_name (i := 3) sc_l_merged.nd rfl (Or.inl rfl))) (fun _ _ _ _ _ => (pts_one (pt_cmpR op_notIn_seq (pv 3) (pv 1) (by rfl)))) (fun _ _ _ _ _ => (pv 3))) pa_nil)))))
(pss_one (ps_ret (pe_callB cr_sortedS (by rfl) B2.sorted (by decide +kernel) (pa_cons (pv 1) pa_nil)))))), ?_⟩
  refine ⟨(by show 0 ≤ sizeLine; exact Nat.zero_le _), fun L hL => ?_⟩
  have gL := same_new hL (.lst [])
  refine ⟨_, rfl, A, rfl, ⟨_, Same.seq gL hA⟩, for_list (K := K) (a := A) (xs := ws) (fun i σ' H' => (∃ u, σ' = [some (.ref A), some (.ref L), u, none]) ∧ ∃ l : List Str, H' L = some (.lst (l.map V.str)) ∧ l.Nodup ∧ (∀ z, z ∈ l ↔ z ∈ (lss.take i).flatten) ∧ l.length ≤ ((lss.take i).flatten).length ∧ Same H H')
    ⟨⟨_, rfl⟩, [], upd_same, List.nodup_nil, fun z => by simp, Nat.zero_le _, gL⟩ (fun i σ H' _ ⟨_, _, _, _, _, _, g⟩ => Same.seq g hA) ?_ ?_⟩
  · rintro i x σ' H1 hx ⟨⟨u, rfl⟩, l, hl1, nd, hm, hle, g1⟩
    obtain ⟨t, ls, rfl, el, ht, ndl⟩ := hw i x hx
    have tk : lss.take (i + 1) = lss.take i ++ [ls] := by rw [List.take_add_one, el] <;> rfl
    have fl : (lss.take (i + 1)).flatten = (lss.take i).flatten ++ ls := by rw [tk, List.flatten_append] <;> simp
    have hle2 := flat_take (lss := lss) (i + 1)
    rw [fl, List.length_append] at hle2
    refine ⟨_, rfl, .inl ⟨rfl, _, SqL.of hl1⟩, ?_⟩
    refine ⟨_, rfl, t, rfl, ⟨_, seqT g1 ht⟩, fun D hD => ?_⟩
    refine lc_tup (K := K) (a := t) (xs := ls.map V.str) (InvMg H1 D l ls) ⟨upd_same, same_new hD _⟩ (fun j H' _ ⟨_, g⟩ => seqT (g1.trans g) ht) (fun j y H' hy ⟨hdd, g⟩ => ?_) ?_
    · rw [List.getElem?_map] at hy
      cases ez : ls[j]? with
      | none => rw [ez] at hy; cases hy
      | some z =>
        rw [ez] at hy
        cases hy
        have hl' := g _ _ hl1
        have tk2 : ls.take (j + 1) = ls.take j ++ [z] := by rw [List.take_add_one, ez] <;> rfl
        refine ⟨rfl, ?_⟩
        refine ⟨_, rfl, _, rfl, L, _, rfl, .inl (SqL.of hl'), rfl, flat_strs' l, _, rfl, ?_⟩
        have ein := in_strs z l
        by_cases hz : z ∈ l
        · refine iteN (c := (if true = true then !(inV (.str z) (l.map V.str)) else inV (.str z) (l.map V.str))) (by rw [if_pos rfl, ein, decide_eq_true hz] <;> rfl) ⟨?_, g⟩
          rw [tk2, List.filter_append]
          have : ([z] : List Str).filter (fun z => decide (z ∉ l)) = [] := by simp [hz]
          rw [this, List.append_nil]
          exact hdd
        · refine iteC (c := (if true = true then !(inV (.str z) (l.map V.str)) else inV (.str z) (l.map V.str))) (by rw [if_pos rfl, ein, decide_eq_false hz] <;> rfl) ?_
          refine ⟨_, rfl, _, hdd, ?_, ?_, same_over g hD _⟩
          · have l1 := List.length_filter_le (fun z => decide (z ∉ l)) (ls.take j)
            have l2 : (ls.take j).length ≤ ls.length := List.length_take_le' _ _
            rw [List.length_map]
            exact small1000 (by omega)
          · rw [upd_same, tk2, List.filter_append]
            have : ([z] : List Str).filter (fun z => decide (z ∉ l)) = [z] := by simp [hz]
            rw [this, List.map_append] <;> rfl
    rintro H2 ⟨hdd, g2⟩
    rw [List.length_map, List.take_length] at hdd
    have hl2 := g2 _ _ hl1
    have lf := List.length_filter_le (fun z => decide (z ∉ l)) ls
    refine ⟨L, D, _, _, rfl, rfl, hl2, hdd, ?_, ⟨_, rfl⟩, l ++ ls.filter (fun z => decide (z ∉ l)), ?_, ?_, ?_, ?_, same_over (g1.trans g2) hL _⟩
    · rw [List.length_map, List.length_map]
      exact Nat.le_trans (show _ ≤ 1000 by omega) (by decide)
    · rw [upd_same, List.map_append]
    · refine List.nodup_append.mpr ⟨nd, ndl.filter _, fun a ha b hb e => ?_⟩
      subst e
      have := (List.mem_filter.mp hb).2
      exact (of_decide_eq_true this) ha
    · intro z
      rw [fl, List.mem_append, List.mem_append, ← hm z, List.mem_filter]
      constructor
      · rintro (h | ⟨h, _⟩)
        · exact .inl h
        · exact .inr h
      · rintro (h | h)
        · exact .inl h
        · by_cases hz : z ∈ l
          · exact .inl hz
          · exact .inr ⟨h, decide_eq_true hz⟩
    · rw [fl, List.length_append, List.length_append]
      omega
  · rintro σ' H1 ⟨⟨u, rfl⟩, l, hl1, nd, hm, hle, g1⟩
    rw [hlen, List.take_length] at hm hle
    refine ⟨_, rfl, L, l, rfl, SqL.of hl1, by omega, fun us p pm srt hp => ?_⟩
    exact q p us l _ (g1.trans (same_new hp _)) (g1.free hp) upd_same nd hm pm srt
/-! all orders -/
abbrev s_l_orders : Stmt := topS 31
abbrev n_l_orders : List Str := ["_law_letters_here", "_law_found", "_law_k", "_law_longer", "_law_order", "_law_letter"]
theorem sc_l_orders : FnScope n_l_orders ["_law_letters_here"] (defScope s_l_orders) := ⟨rfl, rfl, rfl, by decide +kernel, rfl, by decide +kernel, by decide +kernel⟩
theorem LetOk.len_eq {ys zs : List Str} (h : LetOk ys zs) (hn : zs.Nodup) : ys.length = zs.length :=
  Nat.le_antisymm h.len (Topo.nd_le hn fun z hz => (h.mem z).mpr hz)
/-- values and the orders that they show -/
def OrdsL (K : PySem.W.Frag) (H : Hp) (M : List (V × List Str)) : Prop := ∀ q ∈ M, ∃ t : Addr, q.1 = .ref t ∧ SqT K H t (q.2.map V.str)
theorem OrdsL.mono {H H' : Hp} (g : TK K H H') {M : List (V × List Str)} (h : OrdsL K H M) : OrdsL K H' M := fun q hq => let ⟨t, e, z⟩ := h q hq; ⟨t, e, g _ _ z⟩
theorem OrdsL.app {H : Hp} {L M : List (V × List Str)} (h : OrdsL K H L) (h2 : OrdsL K H M) : OrdsL K H (L ++ M) := fun q hq => (List.mem_append.mp hq).elim (h q) (h2 q)
def spOrd (K : PySem.W.Frag) : Sp := fun vs H Q _ => ∃ (a : Addr) (ls as : List Str), vs = [.ref a] ∧ SqL K H a (ls.map V.str) ∧ ls.Nodup ∧ ls.length ≤ 4 ∧ LetOk as ls ∧
  ∀ (D : Addr) (M : List (V × List Str)) (H' : Hp), Same H H' → H D = none → H' D = some (.lst (M.map Prod.fst)) → M.map Prod.snd = Topo.ord as as.length → OrdsL K H' M → Q (.ref D) H'
def longer (as : List Str) (p : List Str) : List (List Str) := (Topo.out as p).map fun l => p ++ [l]
theorem longer_len (as : List Str) (h : as.length ≤ 4) : ∀ L : List (List Str), (L.flatMap (longer as)).length ≤ L.length * 4
  | [] => Nat.zero_le _
  | p :: r => by
    have ih := longer_len as h r
    have e : (longer as p).length ≤ 4 := by
      unfold longer Topo.out
      rw [List.length_map]
      exact Nat.le_trans (List.length_filter_le _ _) h
    rw [List.flatMap_cons, List.length_append, List.length_cons]
    omega
theorem ord_len (as : List Str) (h : as.length ≤ 4) : ∀ k : Nat, (Topo.ord as k).length ≤ 4 ^ k
  | 0 => Nat.le_refl _
  | k + 1 => by
    have a := longer_len as h (Topo.ord as k)
    have b := ord_len as h k
    have e : Topo.ord as (k + 1) = (Topo.ord as k).flatMap (longer as) := rfl
    rw [e, Nat.pow_succ]
    omega
theorem ord_mem {as : List Str} : ∀ {k : Nat} {p : List Str}, p ∈ Topo.ord as k → p.length = k
  | 0, p, h => by rw [List.mem_singleton.mp h] <;> rfl
  | k + 1, p, h => by
    obtain ⟨q, hq, h2⟩ := List.mem_flatMap.mp h
    obtain ⟨l, _, rfl⟩ := List.mem_map.mp h2
    rw [List.length_append, ord_mem hq] <;> rfl
theorem ok_l_orders (F : Fun K "_law_orders" "_law_orders" s_l_orders f fd) (B : Bt mg) (B2 : Bx mg) : FnOk P w K mg base CX0 1 f fd ["_law_letters_here"] (spOrd K) := by
  refine F.ok sc_l_orders (fun vs H Q E h => ?_) (fun cdv A outer s H vs Q E hr h => ?_)
  · obtain ⟨a, ls, as, rfl, _⟩ := h
    rfl
  obtain ⟨a, ls, as, rfl, ha, hn, h4, hlet, k⟩ := h
  refine ⟨_, (pss_cons (ps_set (i := 1) sc_l_orders.nd rfl (Or.inl rfl) (pe_lst (pa_cons (pe_tup pa_nil) pa_nil)))
(pss_cons (ps_for PassesOwn.never rfl (pi_range1 (by rfl) B.range (pa_cons (pe_callB call_len_seq (by rfl) B.len PySem.boot_len (pa_cons (pv 0) pa_nil)) pa_nil)) (pg_name (i := 2) sc_l_orders.nd rfl (Or.inl rfl))
(pss_cons (ps_set (i := 3) sc_l_orders.nd rfl (Or.inl rfl) (pe_lst pa_nil))
(pss_cons (ps_for PassesOwn.never rfl (pi_list (pv 1)) (pg_name (i := 4) sc_l_orders.nd rfl (Or.inr rfl))
(pss_one (ps_expr (pe_bm PySem.F.plainAttrs_list PySem.F.slot_list_extend PySem.F.type_list_extend mt_extend (pv 3) (pa_cons (pe_lc (own := [("_law_letter", 5)]) (g := (gName 5)) (tt := tTest (tOp (rIn K true) (tVar 5) (tVar 4))) (te := tOp (rCatA K) (tVar 4) (tTup (tCons (tVar 5) tNil))) rfl sc_l_orders.nd (pi_list (pe_callB cr_sortedS (by rfl) B2.sorted (by decide +kernel) (pa_cons (pv 0) pa_nil))) (blkOk_by (N := n_l_orders) (sc := defScope s_l_orders) (by decide +kernel)) (fun _ _ _ _ _ => (pg_name (i := 5) sc_l_orders.nd rfl (Or.inl rfl))) (fun _ _ _ _ _ => (pts_one (pt_cmpR op_notIn_seq (pv 5) (pv 4) (by rfl)))) (fun _ _ _ _ _ => (pe_op op_catA (pv 4) (pe_tup (pa_cons (pv 5) pa_nil))))) pa_nil)))))
(pss_one (ps_set (i := 1) sc_l_orders.nd rfl (Or.inl rfl) (pv 3))))))
(pss_one (ps_ret (pv 1))))), ?_⟩
  have asl : as.length = ls.length := hlet.len_eq hn
  have as4 : as.length ≤ 4 := by omega
  refine ⟨(by show 0 ≤ sizeLine; decide), fun e0 he0 => ?_⟩
  have ge := same_new he0 (.tup [])
  refine ⟨(by show 1 ≤ sizeLine; decide), fun F0 hF0 => ?_⟩
  have gF := same_new hF0 (.lst [.ref e0])
  have g1 := ge.trans gF
  refine ⟨_, rfl, a, _, rfl, .inl (g1.seq ha), ?_⟩
  rw [List.length_map]
  refine ⟨(ls.length : Int), rfl, by omega, by omega, for_range (n := ls.length) (fun i σ H' => (∃ (Fd : Addr) (x2 x3 x4 x5 : Option V) (M : List (V × List Str)), σ = [some (.ref a), some (.ref Fd), x2, x3, x4, x5] ∧ H Fd = none ∧ H' Fd = some (.lst (M.map Prod.fst)) ∧ M.map Prod.snd = Topo.ord as i ∧ OrdsL K H' M) ∧ Same H H')
    ⟨⟨F0, _, _, _, _, [(.ref e0, [])], rfl, ge.free hF0, upd_same, rfl, fun q hq => by rw [List.mem_singleton.mp hq]; exact ⟨e0, rfl, seqT gF (SqT.of upd_same)⟩⟩, g1⟩ ?_ ?_⟩
  · rintro i σ H2 hi ⟨⟨Fd, x2, x3, x4, x5, M, rfl, hFn, hFd, eM, hM⟩, g2⟩
    have Ml : M.length ≤ 4 ^ i := by
      have q := ord_len as as4 i
      rw [← eM, List.length_map] at q
      exact q
    have p4 : 4 ^ i ≤ 64 := by
      have : 4 ^ i ≤ 4 ^ 3 := Nat.pow_le_pow_right (by decide) (by omega)
      exact this
    refine ⟨(by show 0 ≤ sizeLine; decide), fun Lg hLg => ?_⟩
    have gL := same_new hLg (.lst [])
    refine ⟨_, rfl, Fd, rfl, ⟨_, SqL.of (gL _ _ hFd)⟩, for_list (K := K) (a := Fd) (xs := M.map Prod.fst) (fun j σ' H' => (∃ (x4 x5 : Option V) (M2 : List (V × List Str)), σ' = [some (.ref a), some (.ref Fd), some (.int (0 + (i : Int))), some (.ref Lg), x4, x5] ∧ H' Lg = some (.lst (M2.map Prod.fst)) ∧ M2.map Prod.snd = ((Topo.ord as i).take j).flatMap (longer as) ∧ OrdsL K H' M2) ∧ Same H2 H')
      ⟨⟨_, _, [], rfl, upd_same, rfl, fun _ h => by cases h⟩, gL⟩ (fun j σ' H' _ ⟨_, g⟩ => SqL.of (g _ _ hFd)) ?_ ?_⟩
    · rintro j y σ' H3 hy ⟨⟨x4', x5', M2, rfl, hLg3, eM2, hM2⟩, g3⟩
      obtain ⟨q, eq, rfl⟩ := at_map hy
      obtain ⟨tp, eq1, hq⟩ := hM q (List.mem_of_getElem? eq)
      have hq3 := seqT g3 hq
      have eqs : (Topo.ord as i)[j]? = some q.2 := by rw [← eM, List.getElem?_map, eq] <;> rfl
      have jl : j < M.length := (List.getElem?_eq_some_iff.mp eq).1
      rw [eq1]
      refine ⟨_, rfl, .inl ⟨rfl, _, SqL.of hLg3⟩, ?_⟩
      refine ⟨_, rfl, a, ls, rfl, (g2.trans g3).seq ha, by omega, fun zs Z pz sz hZ => ?_⟩
      obtain rfl : as = zs := hlet.uniq hn (fun z => Iff.rfl) pz sz
      have gZ := same_new hZ (.lst (as.map V.str))
      refine ⟨Z, rfl, ⟨_, SqL.of upd_same⟩, fun D hD => ?_⟩
      have gD := same_new hD (.lst [])
      refine lc_it (walk_list (K := K) (a := Z) (xs := as.map V.str)) (fun m H' => ∃ M3 : List (V × List Str), H' D = some (.lst (M3.map Prod.fst)) ∧ M3.map Prod.snd = ((as.take m).filter fun l => decide (l ∉ q.2)).map (fun l => q.2 ++ [l]) ∧ OrdsL K H' M3 ∧ Same H3 H' ∧ H' Z = some (.lst (as.map V.str))) ⟨[], upd_same, rfl, (fun _ h => by cases h), gZ.trans gD, gD _ _ upd_same⟩ (fun m H' _ ⟨_, _, _, _, _, z⟩ => SqL.of z) (fun m y H4 H5 hm hv hy => ?_) ?_
      · obtain ⟨rfl, hy⟩ := hy
        obtain ⟨z, ez, rfl⟩ := at_map hy
        obtain ⟨M3, v1, v2, v3, v4, v5⟩ := hv
        have hq5 := seqT v4 hq3
        have tk : as.take (m + 1) = as.take m ++ [z] := by rw [List.take_add_one, ez] <;> rfl
        have ml : M3.length ≤ 4 := by
          have e := congrArg List.length v2
          rw [List.length_map, List.length_map] at e
          have := List.length_filter_le (fun l => decide (l ∉ q.2)) (as.take m)
          have := List.length_take_le' m as
          omega
        refine ⟨rfl, _, rfl, _, rfl, tp, q.2.map V.str, rfl, .inr hq5, rfl, flat_strs' _, _, rfl, ?_⟩
        by_cases hz : z ∈ q.2
        · refine iteN (by rw [if_pos rfl, in_strs, decide_eq_true hz] <;> rfl) ⟨M3, v1, ?_, v3, v4, v5⟩
          rw [v2, tk, List.filter_append]
          have : ([z] : List Str).filter (fun l => decide (l ∉ q.2)) = [] := by simp [hz]
          rw [this, List.append_nil]
        · refine iteC (by rw [if_pos rfl, in_strs, decide_eq_false hz] <;> rfl) ?_
          have nDZ : Z ≠ D := fun e => by rw [← e, upd_same] at hD; cases hD
          have fin : ∀ (p : Addr) (H6 : Hp), Same H5 H6 → SqT K H6 p ((q.2 ++ [z]).map V.str) → ∃ acc, H6 D = some (.lst acc) ∧ acc.length < sizeLine ∧ (∃ M3 : List (V × List Str), (upd H6 D (.lst (acc ++ [.ref p]))) D = some (.lst (M3.map Prod.fst)) ∧ M3.map Prod.snd = ((as.take (m + 1)).filter fun l => decide (l ∉ q.2)).map (fun l => q.2 ++ [l]) ∧ OrdsL K (upd H6 D (.lst (acc ++ [.ref p]))) M3 ∧ Same H3 (upd H6 D (.lst (acc ++ [.ref p]))) ∧ (upd H6 D (.lst (acc ++ [.ref p]))) Z = some (.lst (as.map V.str))) := fun p H6 g6 hp => by
            have gl : TK K H6 (upd H6 D (.lst (M3.map Prod.fst ++ [.ref p]))) := TK.lst (g6 _ _ v1)
            refine ⟨_, g6 _ _ v1, by rw [List.length_map]; exact small1000 (by omega), M3 ++ [(.ref p, q.2 ++ [z])], by rw [upd_same, List.map_append] <;> rfl, ?_, ((v3.mono (.of g6)).mono gl).app (fun x hx => by rw [List.mem_singleton.mp hx]; exact ⟨p, rfl, gl _ _ hp⟩), same_over (v4.trans g6) (gZ.free hD) _, by rw [upd_ne nDZ]; exact g6 _ _ v5⟩
            rw [List.map_append, v2, tk, List.filter_append]
            have : ([z] : List Str).filter (fun l => decide (l ∉ q.2)) = [z] := by simp [hz]
            rw [this, List.map_append (l₂ := [z])] <;> rfl
          refine ⟨_, rfl, _, rfl, (by show 1 ≤ sizeLine; decide), fun u hu => ?_⟩
          have gu := same_new hu (.tup [.str z])
          have hu1 : SqT K (upd H5 u (.tup [.str z])) u [.str z] := SqT.of upd_same
          refine ⟨tp, u, _, _, rfl, rfl, seqT gu hq5, hu1, ?_, fun e => ?_, (fun _ e => by cases e), fun e _ p hp => ?_⟩
          · rw [List.length_map, ord_mem (List.mem_of_getElem? eqs)]
            exact Nat.le_trans (show _ ≤ 1000 by show i + 1 ≤ 1000; omega) (by decide)
          · have e : q.2 = [] := List.map_eq_nil_iff.mp e
            exact fin u _ gu (by rw [e]; exact hu1)
          · have gp := same_new hp (.tup (q.2.map V.str ++ [.str z]))
            exact fin p _ (gu.trans gp) (by rw [List.map_append]; exact SqT.of upd_same)
      rintro H4 ⟨M3, v1, v2, v3, v4, v5⟩
      rw [List.length_map, List.take_length] at v2
      have hLg4 := v4 _ _ hLg3
      have e1 : ((Topo.ord as i).take (j + 1)).flatMap (longer as) = ((Topo.ord as i).take j).flatMap (longer as) ++ longer as q.2 := by
        rw [List.take_succ, eqs, List.flatMap_append]
        show _ ++ List.flatMap _ [q.2] = _
        rw [List.flatMap_singleton]
      have l2 : M2.length ≤ 256 := by
        have e := congrArg List.length eM2
        have b := longer_len as as4 ((Topo.ord as i).take j)
        rw [List.length_map] at e
        rw [List.length_take] at b
        omega
      have l3 : M3.length ≤ 4 := by
        have e := congrArg List.length v2
        rw [List.length_map, List.length_map] at e
        have := List.length_filter_le (fun l => decide (l ∉ q.2)) as
        omega
      have gl : TK K H4 (upd H4 Lg (.lst (M2.map Prod.fst ++ M3.map Prod.fst))) := TK.lst hLg4
      refine ⟨Lg, D, _, _, rfl, rfl, hLg4, v1, ?_, ⟨_, _, M2 ++ M3, rfl, by rw [upd_same, List.map_append], ?_, ((hM2.mono (.of v4)).mono gl).app (v3.mono gl)⟩, same_over (g3.trans v4) hLg _⟩
      · rw [List.length_map, List.length_map]
        exact Nat.le_trans (show _ ≤ 1000 by omega) (by decide)
      · rw [List.map_append, eM2, v2, e1] <;> rfl
    · rintro σ' H3 ⟨⟨x4', x5', M2, rfl, hLg3, eM2, hM2⟩, g3⟩
      rw [List.length_map, ← List.length_map (f := Prod.snd), eM, List.take_length] at eM2
      exact ⟨_, rfl, ⟨Lg, _, _, _, _, M2, rfl, g2.free hLg, hLg3, eM2, hM2⟩, g2.trans g3⟩
  · rintro σ H2 ⟨⟨Fd, x2, x3, x4, x5, M, rfl, hFn, hFd, eM, hM⟩, g2⟩
    rw [← asl] at eM
    exact ⟨_, rfl, k Fd M H2 g2 hFn hFd eM hM⟩
end
end Lw
namespace Lw
open PySem L2 TzR TL
/-! _law_least_order -/
/-- the law's uses, place by place -/
def LUses (K : PySem.W.Frag) (H : Hp) (us : List V) (xs : List Ux) : Prop := us.length = xs.length ∧ ∀ (i : Nat) (x : Ux), xs[i]? = some x → ∃ u, us[i]? = some (.ref u) ∧ LUse K H u x
theorem LUse.mono {K : PySem.W.Frag} {H H' : Hp} (g : TK K H H') {u : Addr} {x : Ux} (h : LUse K H u x) : LUse K H' u x := LuAt.mono g h
theorem LUses.mono {K : PySem.W.Frag} {H H' : Hp} (g : TK K H H') {us : List V} {xs : List Ux} (h : LUses K H us xs) : LUses K H' us xs :=
  ⟨h.1, fun i x e => let ⟨u, e1, e2⟩ := h.2 i x e; ⟨u, e1, e2.mono g⟩⟩
abbrev s_l_least_order : Stmt := topS 32
abbrev n_l_least_order : List Str := ["_law_uses", "_law_letters_here", "_law_order", "_law_use"]
theorem sc_l_least_order : FnScope n_l_least_order ["_law_uses", "_law_letters_here"] (defScope s_l_least_order) := ⟨rfl, rfl, rfl, by decide +kernel, rfl, by decide +kernel, by decide +kernel⟩
def spLo (K : PySem.W.Frag) : Sp := fun vs H Q _ => ∃ (a b : Addr) (us : List V) (xs : List Ux) (ls as : List Str), vs = [.ref a, .ref b] ∧ SqL K H a us ∧ LUses K H us xs ∧ (∀ x ∈ xs, GoodU x) ∧ xs.length ≤ 100 ∧ SqL K H b (ls.map V.str) ∧ ls.Nodup ∧ ls.length ≤ 4 ∧ LetOk as ls ∧ (∀ x ∈ xs, ∀ z ∈ x.2.1, z ∈ ls) ∧
  (∀ order, (Topo.ord as as.length).find? (Topo.fitsS (stAll xs)) = some order → ∀ (o : Addr) (H' : Hp), Same H H' → SqT K H' o (order.map V.str) → Q (.ref o) H') ∧ ((Topo.ord as as.length).find? (Topo.fitsS (stAll xs)) = none → ∀ H' : Hp, Same H H' → Q .non H')
theorem ord_all {as p : List Str} (hn : as.Nodup) (h : p ∈ Topo.ord as as.length) : ∀ z, z ∈ p ↔ z ∈ as := by
  rw [Topo.ord_eq] at h
  have e : Topo.out as ([] : List Str) = as := by
    unfold Topo.out
    exact List.filter_eq_self.mpr fun a _ => by simp
  obtain ⟨r, e1, _, hm⟩ := Topo.of_exts hn (by rw [e]) h
  intro z
  rw [e1, List.nil_append, hm z]
  simp
theorem fits_all (xs : List Ux) (p : List Str) : ((List.range xs.length).map fun i => Topo.fitsS (stUse (xs.getD i ux0) i) p).all id = Topo.fitsS (stAll xs) p := by
  rw [List.all_map]
  unfold stAll
  show _ = List.all _ _
  rw [List.all_flatMap]
  rfl
section
variable {P : Program} {w : World} {K : PySem.W.Frag} {mg : Str → Option Value} {base : Heap} {f : Addr} {fd : FuncData}
theorem ok_l_least_order (F : Fun K "_law_least_order" "_law_least_order" s_l_least_order f fd) (B : Bt mg) (cO : Ca P w K mg base 1 "_law_orders" ["_law_letters_here"] (spOrd K)) (cF : Ca P w K mg base 3 "_law_fits" ["_law_use", "_law_order"] (spFit K)) : FnOk P w K mg base CX0 4 f fd ["_law_uses", "_law_letters_here"] (spLo K) := by
  refine F.ok sc_l_least_order (fun vs H Q E h => ?_) (fun cdv A outer s H vs Q E hr h => ?_)
  · obtain ⟨a, b, us, xs, ls, as, rfl, _⟩ := h
    rfl
  obtain ⟨a, b, us, xs, ls, as, rfl, ha, hU, hX, hxl, hb, hn, h4, hlet, hsub, k1, k2⟩ := h
  refine ⟨_, (pss_cons (ps_for PassesOwn.never rfl (pi_list (pca cO hr (by decide) rfl (pa_cons (pv 1) pa_nil))) (pg_name (i := 2) sc_l_least_order.nd rfl (Or.inr rfl))
(pss_one (ps_if (pt_val (pe_callB (cr_all rfl) (by rfl) B.all (by decide +kernel) (pa_cons (pe_lc (own := [("_law_use", 3)]) (g := (gName 3)) (tt := tYes) (te := tCall (spFit K) [] E0 (tCons (tVar 3) (tCons (tCB (fun xs H Q => ∃ p ys, xs = [.ref p] ∧ (SqL K H p ys ∨ SqT K H p ys) ∧ ∀ l, H l = none → Q (.ref l) (upd H l (.lst ys))) (tCons (tVar 2) tNil)) tNil))) rfl sc_l_least_order.nd (pi_list (pv 0)) (blkOk_by (N := n_l_least_order) (sc := defScope s_l_least_order) (by decide +kernel)) (fun _ _ _ _ _ => (pg_name (i := 3) sc_l_least_order.nd rfl (Or.inl rfl))) (fun _ _ _ _ _ => pts_nil) (fun _ _ _ _ _ => (pca cF hr (by decide) rfl (pa_cons (pv 3) (pa_cons (pe_callTy call_list_of (by rfl) B.lst (by decide +kernel) (pa_cons (pv 2) pa_nil)) pa_nil))))) pa_nil)))
(pss_one (ps_ret (pv 2))) pss_nil)))
(pss_one (ps_ret pe_non))), ?_⟩
  refine ⟨_, rfl, b, ls, as, rfl, hb, hn, h4, hlet, fun D M H1 g1 hD0 hD eM hM => ?_⟩
  refine ⟨D, rfl, ⟨_, SqL.of hD⟩, for_list (K := K) (a := D) (xs := M.map Prod.fst) (fun j σ' H' => (∃ x2 x3 : Option V, σ' = [some (.ref a), some (.ref b), x2, x3]) ∧ Same H1 H' ∧ ((Topo.ord as as.length).take j).find? (Topo.fitsS (stAll xs)) = none)
    ⟨⟨_, _, rfl⟩, Same.refl _, rfl⟩ (fun j σ' H' _ ⟨_, g, _⟩ => SqL.of (g _ _ hD)) ?_ ?_⟩
  · rintro j y σ' H2 hy ⟨⟨x2, x3, rfl⟩, g2, hno⟩
    obtain ⟨q, eq, rfl⟩ := at_map hy
    obtain ⟨tp, eq1, hq⟩ := hM q (List.mem_of_getElem? eq)
    have hq2 := seqT g2 hq
    have g02 := g1.trans g2
    have eqs : (Topo.ord as as.length)[j]? = some q.2 := by rw [← eM, List.getElem?_map, eq] <;> rfl
    have hall := ord_all hlet.nd (List.mem_of_getElem? eqs)
    rw [eq1]
    refine ⟨_, rfl, a, rfl, ⟨_, g02.seq ha⟩, fun A hA => ?_⟩
    refine lc_it (walk_list (K := K) (a := a) (xs := us)) (InvB H2 A fun i => Topo.fitsS (stUse (xs.getD i ux0) i) q.2) ⟨upd_same, same_new hA _⟩ (fun i H' _ ⟨_, g⟩ => (g02.trans g).seq ha) (fun i y H3 H4 hi hv hy3 => ?_) ?_
    · obtain ⟨rfl, hy3⟩ := hy3
      have hix : i < xs.length := by rw [← hU.1]; exact hi
      have ei := List.getElem?_eq_getElem hix
      obtain ⟨u, eu, hu⟩ := hU.2 i _ ei
      rw [eu] at hy3
      cases hy3
      have g03 := g02.trans hv.2
      refine ⟨rfl, kept ⟨_, rfl, _, rfl, tp, _, rfl, .inr (seqT hv.2 hq2), fun l hl => ?_⟩⟩
      have gl := same_new hl (.lst (q.2.map V.str))
      refine ⟨u, l, xs[i], q.2, i, rfl, hu.mono (.of (g03.trans gl)), hX _ (List.getElem_mem hix), SqL.of upd_same, fun p hp => (hall _).mpr ((hlet.mem _).mpr (hsub _ (List.getElem_mem hix) _ (letAt_mem ((hX _ (List.getElem_mem hix)).ax p hp)))), fun H5 g5 => ?_⟩
      have g35 := gl.trans g5
      refine ⟨_, g35 _ _ hv.1, len_b (by omega), ?_⟩
      have e : xs.getD i ux0 = xs[i] := by rw [List.getD_eq_getElem?_getD, ei] <;> rfl
      have z := InvB.next (H := H5) hA (f := fun i => Topo.fitsS (stUse (xs.getD i ux0) i) q.2) ⟨g35 _ _ hv.1, hv.2.trans g35⟩
      simp only [e] at z
      exact z
    rintro H3 ⟨hA3, g3⟩
    rw [hU.1] at hA3
    refine ⟨A, _, rfl, SqL.of hA3, _, rfl, ?_⟩
    rw [fits_all]
    have split : Topo.ord as as.length = (Topo.ord as as.length).take j ++ q.2 :: (Topo.ord as as.length).drop (j + 1) := by
      obtain ⟨l1, l2⟩ := List.getElem?_eq_some_iff.mp eqs
      rw [← l2, ← List.drop_eq_getElem_cons l1, List.take_append_drop]
    cases hf : Topo.fitsS (stAll xs) q.2 with
    | true =>
      refine iteT ⟨_, rfl, k1 q.2 ?_ tp H3 (g02.trans g3) (seqT g3 hq2)⟩
      rw [split, List.find?_append, hno, Option.none_or, List.find?_cons_of_pos hf]
    | false =>
      refine iteF ⟨⟨_, _, rfl⟩, g2.trans g3, ?_⟩
      rw [List.take_succ, eqs, List.find?_append, hno, Option.none_or]
      show ([q.2] : List (List Str)).find? _ = none
      rw [List.find?_cons_of_neg (by rw [hf]; decide)]
      rfl
  · rintro σ' H2 ⟨_, g2, hno⟩
    rw [List.length_map, ← List.length_map (f := Prod.snd), eM, List.take_length] at hno
    exact k2 hno H2 (g1.trans g2)
end
end Lw
namespace Lw
open PySem L2 TzR TL
/-! _law_is_ring -/
abbrev s_l_is_ring : Stmt := topS 33
abbrev n_l_is_ring : List Str := ["_law_steps", "_law_uses", "_law_numbers", "_law_step", "_law_k", "_law_upper", "_law_no", "_law_letter", "_law_letters_here"]
theorem sc_l_is_ring : FnScope n_l_is_ring ["_law_steps", "_law_uses", "_law_numbers"] (defScope s_l_is_ring) := ⟨rfl, rfl, rfl, by decide +kernel, rfl, by decide +kernel, by decide +kernel⟩
def spIr (K : PySem.W.Frag) : Sp := fun vs H Q _ => ∃ (p a b : Addr) (us : List V) (xs : List Ux) (M : List (V × Stp)), vs = [.ref p, .ref a, .ref b] ∧ SqT K H p (M.map Prod.fst) ∧ TripsL K H M ∧ M.length ≤ 100 ∧ Topo.RingOk (stAll xs) (M.map Prod.snd) ∧ SqL K H a us ∧ LUses K H us xs ∧ (∀ x ∈ xs, GoodU x) ∧ (∀ x ∈ xs, ∀ z ∈ x.2.1, PyData.strOk z = true) ∧
  SqL K H b ((iota xs.length).map V.int) ∧ ∀ H' : Hp, Same H H' → Q (.bl true) H'
def dSt (s : Stp) : PyData := .tuple [.str s.1, .int (s.2.1 : Nat), .str s.2.2]
theorem trip_dp {K : PySem.W.Frag} {H : Hp} : ∀ {M : List (V × Stp)}, TripsL K H M → DpAll K H (M.map Prod.fst) ((M.map Prod.snd).map dSt)
  | [], _ => .nil
  | q :: r, h => by
    obtain ⟨a, e, z⟩ := h q (List.mem_cons_self ..)
    refine .cons ?_ (trip_dp fun x hx => h x (List.mem_cons_of_mem _ hx))
    rw [e]
    exact .tup z (.cons (.str _) (.cons (.int _) (.cons (.str _) .nil)))
theorem dst_ok : ∀ {S : List Stp}, (∀ s ∈ S, PyData.strOk s.1 = true ∧ PyData.strOk s.2.2 = true) → PyData.canLayAll0 (S.map dSt) = true ∧ PyData.depthAll (S.map dSt) ≤ 1
  | [], _ => ⟨rfl, Nat.zero_le _⟩
  | s :: r, h => by
    obtain ⟨a, b⟩ := dst_ok (S := r) fun x hx => h x (List.mem_cons_of_mem _ hx)
    obtain ⟨c, d⟩ := h s (List.mem_cons_self ..)
    constructor
    · show (PyData.canLay0 (dSt s) && PyData.canLayAll0 (r.map dSt)) = true
      rw [a, Bool.and_true]
      show (PyData.strOk s.1 && (true && (PyData.strOk s.2.2 && true))) = true
      rw [c, d] <;> rfl
    · show max (PyData.depth (dSt s)) (PyData.depthAll (r.map dSt)) ≤ 1
      exact Nat.max_le.mpr ⟨Nat.le_refl _, b⟩
theorem put_new {kvs : List (Key × V)} {k : Key} {v : V} (h : ∀ p ∈ kvs, p.1 ≠ k) : putK kvs k v = kvs ++ [(k, v)] := by
  unfold putK
  rw [if_neg]
  intro c
  obtain ⟨p, hp, e⟩ := List.any_eq_true.mp c
  exact h p hp (of_decide_eq_true e)
theorem merge_nd : ∀ {more kvs : List (Key × V)}, ((kvs ++ more).map (·.1)).Nodup → mergeK kvs more = kvs ++ more
  | [], kvs, _ => by rw [List.append_nil] <;> rfl
  | p :: r, kvs, h => by
    have e : mergeK kvs (p :: r) = mergeK (putK kvs p.1 p.2) r := rfl
    have hn : ∀ q ∈ kvs, q.1 ≠ p.1 := fun q hq eq => by
      rw [List.map_append, List.map_cons] at h
      exact (List.nodup_append.mp h).2.2 _ (List.mem_map.mpr ⟨q, hq, rfl⟩) p.1 (List.mem_cons_self ..) eq
    rw [e, put_new hn, merge_nd (by rw [List.append_assoc]; exact h), List.append_assoc] <;> rfl
section
variable {P : Program} {w : World} {K : PySem.W.Frag} {mg : Str → Option Value} {base : Heap} {f : Addr} {fd : FuncData}
theorem ok_l_is_ring (F : Fun K "_law_is_ring" "_law_is_ring" s_l_is_ring f fd) (B : Bt mg) (B2 : Bx mg) (cL : Ca P w K mg base 1 "_law_level_letters" ["_law_use"] (spLvl K)) : FnOk P w K mg base CX0 2 f fd ["_law_steps", "_law_uses", "_law_numbers"] (spIr K) := by
  refine F.ok sc_l_is_ring (fun vs H Q E h => ?_) (fun cdv A outer s H vs Q E hr h => ?_)
  · obtain ⟨p, a, b, us, xs, M, rfl, _⟩ := h
    rfl
  obtain ⟨p, a, b, us, xs, M, rfl, hp, hM, hMl, ring, ha, hU, hX, hstr, hb, k⟩ := h
  refine ⟨_, (pss_cons (ps_if (PW.pt (pw_or (pt_not (pt_val (pe_callB call_isi (by rfl) B.isi (by decide +kernel) (pa_cons (pv 0) (pa_cons (pe_bltn (v := .ty "tuple") (by rfl) B.tup (by decide +kernel) rfl) pa_nil))))) (pw_or (pt_cmpR (op_eqD hr.units) (pv 0) (pe_tup pa_nil) (nomark _)) (pw_or1 (pt_not (pt_val (pe_callB (cr_all rfl) (by rfl) B.all (by decide +kernel) (pa_cons (pe_lc (own := [("_law_step", 3)]) (g := (gName 3)) (tt := tYes) (te := tCB (rIsi K) (tCons (tVar 3) (tCons (tC (.ty "tuple")) tNil))) rfl sc_l_is_ring.nd (pi_tup (pv 0)) (blkOk_by (N := n_l_is_ring) (sc := defScope s_l_is_ring) (by decide +kernel)) (fun _ _ _ _ _ => (pg_name (i := 3) sc_l_is_ring.nd rfl (Or.inl rfl))) (fun _ _ _ _ _ => pts_nil) (fun _ _ _ _ _ => (pe_callB call_isi (by rfl) B.isi (by decide +kernel) (pa_cons (pv 3) (pa_cons (pe_bltn (v := .ty "tuple") (by rfl) B.tup (by decide +kernel) rfl) pa_nil))))) pa_nil))))))))
(pss_one (ps_ret pe_bl)) pss_nil)
(pss_cons (ps_if (pt_cmpR op_ne (pe_callB call_len_seq (by rfl) B.len PySem.boot_len (pa_cons (pv 0) pa_nil)) (pe_callB call_lenD (by rfl) B.len PySem.boot_len (pa_cons (pe_callTy (call_dictP rfl) (by rfl) B.dict (by decide +kernel) (pa_cons (pe_lc (own := [("_law_step", 3)]) (g := (gName 3)) (tt := tYes) (te := tTup (tCons (tOp (rIxT K) (tVar 3) (tC (.int 2))) (tCons (tC (.int 1)) tNil))) rfl sc_l_is_ring.nd (pi_tup (pv 0)) (blkOk_by (N := n_l_is_ring) (sc := defScope s_l_is_ring) (by decide +kernel)) (fun _ _ _ _ _ => (pg_name (i := 3) sc_l_is_ring.nd rfl (Or.inl rfl))) (fun _ _ _ _ _ => pts_nil) (fun _ _ _ _ _ => (pe_tup (pa_cons (pe_ix ix_tup (pv 3) pe_int (fun _ _ => rfl)) (pa_cons pe_int pa_nil))))) pa_nil)) pa_nil)) (nomark _))
(pss_one (ps_ret pe_bl)) pss_nil)
(pss_cons (ps_for PassesOwn.never rfl (EnT.pi_enumT (by rfl) B2.enum (pa_cons (pv 0) pa_nil)) (pg_tup rfl (pgs_cons (pg_name (i := 4) sc_l_is_ring.nd rfl (Or.inl rfl)) (pgs_cons (pg_tup rfl (pgs_cons (pg_name (i := 5) sc_l_is_ring.nd rfl (Or.inl rfl)) (pgs_cons (pg_name (i := 6) sc_l_is_ring.nd rfl (Or.inl rfl)) (pgs_cons (pg_name (i := 7) sc_l_is_ring.nd rfl (Or.inl rfl)) pgs_nil)))) pgs_nil)))
(pss_cons (ps_if (PW.pt (pw_or (pt_cmpR op_notIn_seq (pv 6) (pv 2) (by rfl)) (pw_or1 (pt_cmpR op_ne (pv 7) (pe_ix ix_tup (pe_ix ix_tup (pv 0) (pe_op op_mod (pe_callTy call_int1 (by rfl) B.int (by decide +kernel) (pa_cons (pe_op op_add (pv 4) pe_int) pa_nil)) (pe_callB call_len_seq (by rfl) B.len PySem.boot_len (pa_cons (pv 0) pa_nil))) (fun _ _ => rfl)) pe_int (fun _ _ => rfl)) (nomark _)))))
(pss_one (ps_ret pe_bl)) pss_nil)
(pss_cons (ps_set (i := 8) sc_l_is_ring.nd rfl (Or.inl rfl) (pca cL hr (by decide) rfl (pa_cons (pe_ix ix_list (pv 1) (pv 6) (fun _ _ => rfl)) pa_nil)))
(pss_cons (ps_if (PW.pt (pw_or (pt_cmpR op_notIn_seq (pv 7) (pv 8) (by rfl)) (pw_or1 (pt_cmpR op_notIn_seq (pv 5) (pe_slice sl_list (pv 8) po_none (po_some (pe_bm PySem.F.plainAttrs_list PySem.F.slot_list_index PySem.F.type_list_index mt_index (pv 8) (pa_cons (pv 7) pa_nil)))) (by rfl)))))
(pss_one (ps_ret pe_bl)) pss_nil)
(pss_one (ps_if (pt_cmpR op_ne (pe_ix ix_tup (pe_ix ix_tup (pe_ix ix_tup (pe_ix ix_list (pv 1) (pv 6) (fun _ _ => rfl)) pe_int (fun _ _ => rfl)) (pe_bm PySem.F.plainAttrs_list PySem.F.slot_list_index PySem.F.type_list_index mt_index (pv 8) (pa_cons (pv 7) pa_nil)) (fun _ _ => rfl)) pe_int (fun _ _ => rfl)) pe_str (nomark _))
(pss_one (ps_ret pe_bl)) pss_nil))))))
(pss_one (ps_ret pe_bl))))), ?_⟩
  have sok : ∀ s ∈ M.map Prod.snd, PyData.strOk s.1 = true ∧ PyData.strOk s.2.2 = true := fun s hs => by
    obtain ⟨x, ex, h2⟩ := stAll_mem.mp (ring.sub s hs)
    have xm := List.mem_of_getElem? ex
    obtain ⟨o1, o2, _⟩ := st_ok (hX x xm) h2
    exact ⟨hstr x xm _ o1, hstr x xm _ o2⟩
  obtain ⟨dk1, dk2⟩ := dst_ok sok
  have mne : M ≠ [] := fun e => ring.ne (by rw [e] <;> rfl)
  have mpos : 0 < M.length := List.length_pos_iff.mpr mne
  refine ⟨_, rfl, _, _, .type "tuple", .type "tuple", true, rfl, .ty _, tyT hp, kit_ty (by decide +kernel), _, rfl, iteF ?_⟩
  refine ⟨_, rfl, (by show 0 ≤ sizeLine; decide), fun e he => ?_⟩
  have ge := same_new he (.tup [])
  refine ⟨.tuple ((M.map Prod.snd).map dSt), .tuple [], .tup (seqT ge hp) (trip_dp (hM.mono (.of ge))), .tup (SqT.of upd_same) .nil, ?_, by decide +kernel, _, rfl, ?_⟩
  · show (PyData.canLayAll0 _ && decide (PyData.depthAll _ + 1 ≤ 64)) = true
    rw [dk1, decide_eq_true (by omega)] <;> rfl
  refine iteN ?_ ?_
  · cases M with
    | nil => exact absurd rfl mne
    | cons q r => rfl
  refine ⟨_, rfl, p, rfl, ⟨_, seqT ge hp⟩, fun A hA => ?_⟩
  refine lc_tup (K := K) (a := p) (xs := M.map Prod.fst) (InvM (upd H e (.tup [])) A (fun _ : V × Stp => V.bl true) M) ⟨upd_same, same_new hA _⟩ (fun i H' _ ⟨_, g⟩ => seqT (ge.trans g) hp) (fun i x H' hx hv => ?_) ?_
  · obtain ⟨q, eq, rfl⟩ := at_map hx
    obtain ⟨ad, e1, hq⟩ := hM q (List.mem_of_getElem? eq)
    rw [e1]
    exact ⟨rfl, kept ⟨_, rfl, _, _, .type "tuple", .type "tuple", true, rfl, .ty _, tyT (seqT (ge.trans hv.2) hq), kit_ty (by decide +kernel), _, hv.1, len_m (by omega), InvM.next (f := fun _ : V × Stp => V.bl true) hA hv.2 eq _ rfl⟩⟩
  rintro H1 ⟨hA1, gA⟩
  rw [List.length_map, List.take_length] at hA1
  have hA2 : H1 A = some (.lst ((M.map fun _ => true).map V.bl)) := by rw [hA1, List.map_map] <;> rfl
  have g1 := ge.trans gA
  refine ⟨A, _, rfl, SqL.of hA2, _, rfl, ?_⟩
  refine iteN ?_ ?_
  · rw [Bool.not_eq_false', List.all_eq_true]
    intro x hx
    obtain ⟨_, _, rfl⟩ := List.mem_map.mp hx
    rfl
  -- the letters, each once
  refine ⟨_, rfl, p, _, rfl, .inr (seqT g1 hp), ?_⟩
  refine ⟨_, rfl, p, rfl, ⟨_, seqT g1 hp⟩, fun A2 hA2n => ?_⟩
  refine lc_tup (K := K) (a := p) (xs := M.map Prod.fst) (fun i H' => ∃ ps : List Addr, H' A2 = some (.lst (ps.map V.ref)) ∧ ps.length = i ∧ Paired (fun p kv => SqT K H' p [kV kv.1, kv.2]) ps ((M.take i).map fun q => ((.inr q.2.2.2 : Key), V.int 1)) ∧ Same H1 H') ⟨[], upd_same, rfl, .nil, same_new hA2n _⟩ (fun i H' _ ⟨_, _, _, _, g⟩ => seqT (g1.trans g) hp) (fun i x H' hx hv => ?_) ?_
  · obtain ⟨q, eq, rfl⟩ := at_map hx
    obtain ⟨ad, e1, hq⟩ := hM q (List.mem_of_getElem? eq)
    obtain ⟨ps, v1, v2, v3, v4⟩ := hv
    have il := (List.getElem?_eq_some_iff.mp eq).1
    rw [e1]
    refine ⟨rfl, kept ⟨_, rfl, ad, _, (2 : Int), .str q.2.2.2, rfl, rfl, seqT (g1.trans v4) hq, atI_nat (j := 2) rfl, (by show 2 ≤ sizeLine; decide), fun t ht => ?_⟩⟩
    have gt := same_new ht (.tup [.str q.2.2.2, .int 1])
    have v1t := gt _ _ v1
    have gl : TK K (upd H' t (.tup [.str q.2.2.2, .int 1])) (upd (upd H' t (.tup [.str q.2.2.2, .int 1])) A2 (.lst (ps.map V.ref ++ [.ref t]))) := TK.lst v1t
    refine ⟨_, v1t, by rw [List.length_map]; exact small1000 (by omega), ps ++ [t], by rw [upd_same, List.map_append] <;> rfl, by rw [List.length_append, v2] <;> rfl, ?_, same_over (v4.trans gt) hA2n _⟩
    rw [List.take_succ, eq, List.map_append]
    exact (PySem.Paired.mono (fun a b h => gl _ _ (seqT gt h)) v3).snoc (gl _ _ (SqT.of upd_same))
  rintro H2 ⟨ps, v1, v2, v3, v4⟩
  rw [List.length_map, List.take_length] at v3
  refine ⟨A2, ps, _, rfl, SqL.of v1, v3, fun d hd => ?_⟩
  have gd := same_new hd (.dK (mergeK [] (M.map fun q => ((.inr q.2.2.2 : Key), V.int 1))))
  have g3 := g1.trans (v4.trans gd)
  have nk : (([] ++ M.map fun q : V × Stp => ((.inr q.2.2.2 : Key), V.int 1)).map (fun x : Key × V => x.1)).Nodup := by
    rw [List.nil_append, List.map_map]
    have r := ring.nd
    rw [List.map_map] at r
    have e2 : (M.map ((fun x : Key × V => x.1) ∘ fun q : V × Stp => ((.inr q.2.2.2 : Key), V.int 1))) = (M.map ((fun s : Stp => s.2.2) ∘ Prod.snd)).map Sum.inr := by rw [List.map_map] <;> rfl
    rw [e2]
    exact List.pairwise_map.mpr (r.imp fun ne e => ne (by injection e))
  refine ⟨d, _, rfl, upd_same, ?_⟩
  refine ⟨rfl, _, rfl, iteN ?_ ?_⟩
  · rw [merge_nd nk, List.nil_append, List.length_map, List.length_map]
    simp
  revert g3
  generalize upd H2 d (.dK (mergeK [] (M.map fun q => ((.inr q.2.2.2 : Key), V.int 1)))) = H3
  intro g3
  refine ⟨_, rfl, p, _, rfl, seqT g3 hp, for_it (walk_enT (K := K) (a := p) (xs := M.map Prod.fst)) (fun i σ' H' => (∃ x3 x4 x5 x6 x7 x8 : Option V, σ' = [some (.ref p), some (.ref a), some (.ref b), x3, x4, x5, x6, x7, x8]) ∧ Same H3 H') ⟨⟨_, _, _, _, _, _, rfl⟩, Same.refl _⟩ (fun i σ' H' _ ⟨_, g⟩ => seqT (g3.trans g) hp) ?_ ?_⟩
  · rintro i y σ' H4 H5 hi ⟨⟨x3, x4, x5, x6, x7, x8, rfl⟩, g4⟩ hy
    obtain ⟨T, y', rfl, hT, rfl, hyx⟩ := hy
    obtain ⟨q, eq, rfl⟩ := at_map hyx
    obtain ⟨ad, e1, hq⟩ := hM q (List.mem_of_getElem? eq)
    have gT := same_new hT (.tup [.int (i : Nat), q.1])
    have g04 := g3.trans g4
    have g05 := g04.trans gT
    have il : i < M.length := (List.getElem?_eq_some_iff.mp eq).1
    have qmem : q.2 ∈ M.map Prod.snd := List.mem_map.mpr ⟨q, List.mem_of_getElem? eq, rfl⟩
    -- the use of the step
    obtain ⟨x, ex, hst⟩ := stAll_mem.mp (ring.sub _ qmem)
    obtain ⟨ii, jj, pz, ei, ek, hji, eu, _, el⟩ := st_mem.mp hst
    have xm := List.mem_of_getElem? ex
    have hx := hX x xm
    have nl : q.2.2.1 < xs.length := (List.getElem?_eq_some_iff.mp ex).1
    obtain ⟨u, eus, hu⟩ := hU.2 _ _ ex
    -- the next step
    have nlt : (i + 1) % M.length < M.length := Nat.mod_lt _ mpos
    have eq2 := List.getElem?_eq_getElem nlt
    generalize M[(i + 1) % M.length] = q2 at eq2
    obtain ⟨ad2, e12, hq2⟩ := hM q2 (List.mem_of_getElem? eq2)
    have lk : q.2.2.2 = q2.2.1 := ring.link i q.2 q2.2 (by rw [List.getElem?_map, eq] <;> rfl) (by rw [List.length_map, List.getElem?_map, eq2] <;> rfl)
    rw [e1]
    rw [e1] at gT g05
    refine ⟨T, _, rfl, SqT.of upd_same, rfl, _, _, rfl, _, _, rfl, ad, _, rfl, seqT g05 hq, rfl, _, _, rfl, _, _, rfl, _, _, rfl, rfl, rfl, ?_⟩
    refine ⟨_, rfl, _, rfl, b, _, rfl, .inl (g05.seq hb), rfl, flat_ints _, _, rfl, ?_⟩
    refine iteN (by rw [if_pos rfl, inV_int, decide_eq_true (iota_mem.mpr ⟨by omega, by omega⟩)] <;> rfl) ?_
    have emod : ((i : Nat) : Int) + 1 = ((i + 1 : Nat) : Int) := by omega
    refine ⟨_, rfl, _, rfl, _, rfl, _, _, rfl, rfl, .inl ⟨_, rfl, ?_⟩⟩
    refine ⟨_, rfl, p, _, rfl, .inr (seqT g05 hp), _, _, rfl, rfl, ?_, p, _, _, .ref ad2, rfl, rfl, seqT g05 hp, ?_, ad2, _, (0 : Int), .str q2.2.1, rfl, rfl, seqT g05 hq2, atI_nat (j := 0) rfl, rfl, _, rfl, ?_⟩
    · show (0 : Int) < ((M.map Prod.fst).length : Nat)
      rw [List.length_map]
      omega
    · rw [List.length_map]
      show atI (M.map Prod.fst) ((((i : Nat) : Int) + 1) % ((M.length : Nat) : Int)) = _
      rw [show (((i : Nat) : Int) + 1) % ((M.length : Nat) : Int) = (((i + 1) % M.length : Nat) : Int) from rfl]
      refine atI_nat (j := (i + 1) % M.length) ?_
      rw [List.getElem?_map, eq2]
      show some q2.1 = _
      rw [e12]
    refine iteN (by rw [dstr, decide_eq_true lk] <;> rfl) ?_
    refine ⟨_, rfl, _, rfl, a, us, ((q.2.2.1 : Nat) : Int), .ref u, rfl, rfl, g05.seq ha, atI_nat (j := q.2.2.1) eus, ?_⟩
    have hu5 : LuAt K _ u x.1 x.2.1 x.2.2 := hu.mono (.of g05)
    refine ⟨u, x.1, x.2.1, x.2.2, rfl, hu5, hx.l3, hx.ax, fun D H6 g6 hD0 hD => ?_⟩
    have hD : H6 D = some (.lst ((lvs x).map V.str)) := hD
    have eii : (lvs x)[ii]? = some q.2.2.2 := by
      rw [el]
      unfold lvs
      rw [List.getElem?_map, ei] <;> rfl
    have lin : q.2.2.2 ∈ lvs x := List.mem_of_getElem? eii
    obtain ⟨i1, _⟩ := idx_at lin
    have eidx : (lvs x).idxOf q.2.2.2 = ii := by
      obtain ⟨l1, m1⟩ := List.getElem?_eq_some_iff.mp i1
      obtain ⟨l2, m2⟩ := List.getElem?_eq_some_iff.mp eii
      exact (List.getElem_inj hx.lv_nd (h₀ := l1) (h₁ := l2)).mp (by rw [m1, m2])
    obtain ⟨w1, a1, b1, c1⟩ := ix_str lin
    rw [eidx] at a1 c1
    have iil := (List.getElem?_eq_some_iff.mp eii).1
    refine ⟨_, rfl, _, rfl, D, _, rfl, .inl (SqL.of hD), rfl, flat_strs' _, _, rfl, ?_⟩
    refine iteN (by rw [if_pos rfl, in_strs, decide_eq_true lin] <;> rfl) ?_
    refine ⟨_, rfl, _, rfl, _, rfl, .inl ⟨rfl, _, SqL.of hD⟩, _, rfl, D, _, .str q.2.2.2, ii, w1, rfl, rfl, SqL.of hD, rfl, flat_strs' _, a1, b1, c1, _, rfl, D, _, rfl, SqL.of hD, fun p2 hp2 => ?_⟩
    rw [cut_take _ _ (by rw [List.length_map]; omega), ← List.map_take]
    have gp := same_new hp2 (.lst (((lvs x).take ii).map V.str))
    have uin : q.2.1 ∈ (lvs x).take ii := List.mem_of_getElem? (i := jj) (by rw [List.getElem?_take, if_pos hji]; exact eu)
    refine ⟨p2, _, rfl, .inl (SqL.of upd_same), rfl, flat_strs' _, _, rfl, ?_⟩
    refine iteN (by rw [if_pos rfl, in_strs, decide_eq_true uin] <;> rfl) ?_
    have g56 := g6.trans gp
    have g06 := g05.trans g56
    have hD7 := gp _ _ hD
    obtain ⟨tl, tf, uu, k1, k2, k3, k4⟩ := hu5.mono (.of g56)
    have iu : ii < uu.length := by rw [k4.1]; exact (List.getElem?_eq_some_iff.mp ei).1
    obtain ⟨y, ey, hy⟩ := k4.2 ii uu[ii] _ (List.getElem?_eq_getElem iu) ei
    have ey2 : uu[ii]? = some (.ref y) := by rw [List.getElem?_eq_getElem iu, ey]
    refine ⟨_, rfl, _, rfl, a, us, ((q.2.2.1 : Nat) : Int), .ref u, rfl, rfl, g06.seq ha, atI_nat (j := q.2.2.1) eus, u, _, (2 : Int), .ref tf, rfl, rfl, k1, atI_nat (j := 2) rfl, _, rfl, .inl ⟨rfl, _, SqL.of hD7⟩, _, rfl, D, _, .str q.2.2.2, ii, w1, rfl, rfl, SqL.of hD7, rfl, flat_strs' _, a1, b1, c1, tf, uu, (ii : Int), .ref y, rfl, rfl, k3, atI_nat (j := ii) ey2, y, _, (0 : Int), .str pz.1, rfl, rfl, hy, atI_nat (j := 0) rfl, rfl, _, rfl, ?_⟩
    refine iteN (by rw [dstr, decide_eq_true ek] <;> rfl) ?_
    exact ⟨⟨_, _, _, _, _, _, rfl⟩, g4.trans (gT.trans g56)⟩
  · rintro σ' H4 ⟨_, g4⟩
    exact k H4 (g3.trans g4)
end
end Lw
namespace Lw
open PySem L2 TzR TL
/-! _law_ringed -/
abbrev s_l_ringed : Stmt := topS 34
abbrev n_l_ringed : List Str := ["_law_stream", "_law_many", "_law_letters_here", "_law_uses", "_law_k", "_law_own", "_law_sides", "_law_kinds", "_law_axis"]
theorem sc_l_ringed : FnScope n_l_ringed ["_law_stream", "_law_many"] (defScope s_l_ringed) := ⟨rfl, rfl, rfl, by decide +kernel, rfl, by decide +kernel, by decide +kernel⟩
def GoodL (lets : List Str) (xs : List Ux) : Prop := ∀ x ∈ xs, GoodU x ∧ ∀ z ∈ x.2.1, z ∈ lets
def spRgd (K : PySem.W.Frag) : Sp := fun vs H Q _ => ∃ (st q : Addr) (b : Int) (m : Nat), vs = [.ref st, .int (m : Nat)] ∧ Spr H st q b ∧ 0 ≤ b ∧ b ≤ 700 ∧ m ≤ 4 ∧
  ∀ (t A L : Addr) (us : List V) (xs : List Ux) (lets : List Str) (b' : Int) (H' : Hp), SqT K H' t [.ref A, .ref L] → H' A = some (.lst us) → LUses K H' us xs → GoodL lets xs → xs.length = m → H' L = some (.lst (lets.map V.str)) → lets.Nodup → (∀ z ∈ lets, z ∈ Tt.abcL) → lets.length = 4 → b ≤ b' → b' ≤ b + 60 → Spr H' st q b' → SX st q H H' → H A = none → H L = none → Q (.ref t) H'
theorem sx_free {st q A : Addr} {H H' : Hp} (g : SX st q H H') (n1 : A ≠ st) (n2 : A ≠ q) (h : H' A = none) : H A = none := by
  cases e : H A with
  | none => rfl
  | some o => rw [g _ _ n1 n2 e] at h; cases h
theorem tups_snoc {K : PySem.W.Frag} {H H' : Hp} {vs : List V} {l : List (Str × Int)} (g : TK K H H') (h : Tups K H vs l) {t : Addr} {p : Str × Int} (ht : SqT K H' t [.str p.1, .int p.2]) : Tups K H' (vs ++ [.ref t]) (l ++ [p]) := by
  refine ⟨by rw [List.length_append, List.length_append, h.1] <;> rfl, fun i v q ev eq => ?_⟩
  by_cases hi : i < vs.length
  · rw [List.getElem?_append_left hi] at ev
    rw [List.getElem?_append_left (by rw [← h.1]; exact hi)] at eq
    obtain ⟨a, e, s⟩ := h.2 i v q ev eq
    exact ⟨a, e, g _ _ s⟩
  · have lt := (List.getElem?_eq_some_iff.mp ev).1
    rw [List.length_append, List.length_singleton] at lt
    have e : i = vs.length := by omega
    rw [e, List.getElem?_append_right (Nat.le_refl _), Nat.sub_self] at ev
    rw [e, h.1, List.getElem?_append_right (Nat.le_refl _), Nat.sub_self] at eq
    cases ev
    cases eq
    exact ⟨t, rfl, ht⟩
theorem luses_snoc {K : PySem.W.Frag} {H : Hp} {us : List V} {xs : List Ux} (h : LUses K H us xs) {u : Addr} {x : Ux} (hu : LUse K H u x) : LUses K H (us ++ [.ref u]) (xs ++ [x]) := by
  refine ⟨by rw [List.length_append, List.length_append, h.1] <;> rfl, fun i y e => ?_⟩
  by_cases hi : i < xs.length
  · rw [List.getElem?_append_left hi] at e
    rw [List.getElem?_append_left (by rw [h.1]; exact hi)]
    exact h.2 i y e
  · have lt := (List.getElem?_eq_some_iff.mp e).1
    rw [List.length_append, List.length_singleton] at lt
    have e2 : i = xs.length := by omega
    rw [e2, List.getElem?_append_right (Nat.le_refl _), Nat.sub_self] at e
    rw [e2, ← h.1, List.getElem?_append_right (Nat.le_refl _), Nat.sub_self]
    cases e
    exact ⟨u, rfl, hu⟩
theorem abcd_at {i : Nat} (h : i < 4) : ∃ c : Nat, atI ("abcd" : Str).cps.toList (0 + (i : Int)) = some c := by
  have hl : ("abcd" : Str).cps.toList.length = 4 := by decide +kernel
  refine ⟨("abcd" : Str).cps.toList[i]'(by omega), ?_⟩
  rw [Int.zero_add]
  exact atI_nat (List.getElem?_eq_getElem _)
theorem pick_n {v : V} (h : v ∈ [V.int 1, .int 2, .int 2, .int 2, .int 3]) : ∃ n : Nat, v = .int (n : Nat) ∧ 1 ≤ n ∧ n ≤ 3 := by
  simp only [List.mem_cons, List.not_mem_nil, or_false] at h
  rcases h with rfl | rfl | rfl | rfl | rfl
  · exact ⟨1, rfl, by omega, by omega⟩
  · exact ⟨2, rfl, by omega, by omega⟩
  · exact ⟨2, rfl, by omega, by omega⟩
  · exact ⟨2, rfl, by omega, by omega⟩
  · exact ⟨3, rfl, by omega, by omega⟩
abbrev K6 : List Str := ["packed", "packed", "packed", "dense", "bits", "hashed"]
theorem k6_kinds : ∀ k ∈ K6, k ∈ KINDS := by
  intro k h
  simp only [K6, List.mem_cons, List.not_mem_nil, or_false] at h
  rcases h with rfl | rfl | rfl | rfl | rfl | rfl <;> decide +kernel
def InvRf (K : PySem.W.Frag) (H0 : Hp) (st q D : Addr) (b : Int) (os : List Int) (i : Nat) (H : Hp) : Prop := ∃ (acc : List V) (l : List (Str × Int)), H D = some (.lst acc) ∧ l.map (·.2) = os.take i ∧ (∀ p ∈ l, p.1 ∈ KINDS) ∧ Tups K H acc l ∧ Spr H st q (b + i) ∧ SX st q H0 H
section
variable {P : Program} {w : World} {K : PySem.W.Frag} {mg : Str → Option Value} {base : Heap} {f : Addr} {fd : FuncData}
theorem ok_l_ringed (F : Fun K "_law_ringed" "_law_ringed" s_l_ringed f fd) (B : Bt mg) (cL : Ca P w K mg base 2 "_law_letters" ["_law_stream", "_law_many"] Tt.spLet) (cS : Ca P w K mg base 2 "_law_mixed" ["_law_stream", "_law_some"] Tt.spMixed) (cI : Ca P w K mg base 2 "_law_mixed" ["_law_stream", "_law_some"] spMixed) (cP : Ca P w K mg base 2 "_law_pick" ["_law_stream", "_law_some"] (spPick K)) :
    FnOk P w K mg base CX0 3 f fd ["_law_stream", "_law_many"] (spRgd K) := by
  refine F.ok sc_l_ringed (fun vs H Q E h => ?_) (fun cdv A0 outer s H vs Q E hr h => ?_)
  · obtain ⟨st, q, b, m, rfl, _⟩ := h
    rfl
  obtain ⟨st, q, b, m, rfl, hs, hb0, hb1, hm, k⟩ := h
  refine ⟨_, (pss_cons (ps_par (i := 2) (j := 3) rfl sc_l_ringed.nd rfl rfl (by decide) rfl rfl (pa_cons (pca cL hr (by decide) rfl (pa_cons (pv 0) (pa_cons pe_int pa_nil))) (pa_cons (pe_lst pa_nil) pa_nil)) (by rfl))
(pss_cons (ps_for PassesOwn.never rfl (pi_range1 (by rfl) B.range (pa_cons (pv 1) pa_nil)) (pg_name (i := 4) sc_l_ringed.nd rfl (Or.inl rfl))
(pss_cons (ps_set (i := 5) sc_l_ringed.nd rfl (Or.inl rfl) (pe_callTy call_tuple_of (by rfl) B.tup (by decide +kernel) (pa_cons (pe_slice sl_list (pca cS hr (by decide) rfl (pa_cons (pv 0) (pa_cons (pv 2) pa_nil))) po_none (po_some (pca cP hr (by decide) rfl (pa_cons (pv 0) (pa_cons (pe_lst (pa_cons pe_int (pa_cons pe_int (pa_cons pe_int (pa_cons pe_int (pa_cons pe_int pa_nil)))))) pa_nil))))) pa_nil)))
(pss_cons (ps_set (i := 6) sc_l_ringed.nd rfl (Or.inl rfl) (pca cI hr (by decide) rfl (pa_cons (pv 0) (pa_cons (pe_listRg rfl (by rfl) B.lst (prg_1 (by rfl) B.range (pe_callB call_len_seq (by rfl) B.len PySem.boot_len (pa_cons (pv 5) pa_nil)))) pa_nil))))
(pss_cons (ps_set (i := 7) sc_l_ringed.nd rfl (Or.inr rfl) (pe_lst (pa_cons pe_str (pa_cons pe_str (pa_cons pe_str (pa_cons pe_str (pa_cons pe_str (pa_cons pe_str pa_nil))))))))
(pss_one (ps_expr (pe_bm PySem.F.plainAttrs_list PySem.F.slot_list_append PySem.F.type_list_append mt_append (pv 3) (pa_cons (pe_tup (pa_cons (pe_ix L2.ix_str pe_str (pv 4) (fun _ _ => rfl)) (pa_cons (pv 5) (pa_cons (pe_callTy call_tuple_of (by rfl) B.tup (by decide +kernel) (pa_cons (pe_lc (own := [("_law_axis", 8)]) (g := (gName 8)) (tt := tYes) (te := tTup (tCons (tCall (spPick K) [] E0 (tCons (tVar 0) (tCons (tVar 7) tNil))) (tCons (tVar 8) tNil))) rfl sc_l_ringed.nd (pi_list (pv 6)) (blkOk_by (N := n_l_ringed) (sc := defScope s_l_ringed) (by decide +kernel)) (fun _ _ _ _ _ => (pg_name (i := 8) sc_l_ringed.nd rfl (Or.inl rfl))) (fun _ _ _ _ _ => pts_nil) (fun _ _ _ _ _ => (pe_tup (pa_cons (pca cP hr (by decide) rfl (pa_cons (pv 0) (pa_cons (pv 7) pa_nil))) (pa_cons (pv 8) pa_nil))))) pa_nil)) pa_nil)))) pa_nil))))))))
(pss_one (ps_ret (pe_tup (pa_cons (pv 3) (pa_cons (pv 2) pa_nil))))))), ?_⟩
  refine ⟨_, rfl, st, q, b, 4, rfl, hs, hb0, by omega, by decide, fun L lets H1 hnd habc hlen hs1 g1 hL hL0 => ?_⟩
  refine ⟨(by show 0 ≤ sizeLine; decide), fun A hA => ?_⟩
  have gA := same_new hA (.lst [])
  obtain ⟨nA1, nA2⟩ := hs1.out hA
  obtain ⟨nL1, nL2⟩ := hs.out hL0
  have hA0 : H A = none := sx_free g1 nA1 nA2 hA
  refine ⟨_, _, rfl, _, rfl, (m : Int), rfl, by omega, by omega, for_range (lo := 0) (n := m) (fun i σ' H' => (∃ x4 x5 x6 x7 x8 : Option V, σ' = [some (.ref st), some (.int (m : Nat)), some (.ref L), some (.ref A), x4, x5, x6, x7, x8]) ∧ (∃ (us : List V) (xs : List Ux) (b' : Int), H' A = some (.lst us) ∧ LUses K H' us xs ∧ GoodL lets xs ∧ xs.length = i ∧ H' L = some (.lst (lets.map V.str)) ∧ Spr H' st q b' ∧ b ≤ b' ∧ b' ≤ b + 4 + 11 * i) ∧ SX st q H H')
    ⟨⟨_, _, _, _, _, rfl⟩, ⟨[], [], b + 4, upd_same, ⟨rfl, fun i x e => by cases e⟩, (fun x hx => by cases hx), rfl, gA _ _ hL, hs1.same gA, by omega, by omega⟩, g1.trans (.of gA)⟩ ?_ ?_⟩
  · rintro i σ' H2 hi ⟨⟨x4, x5, x6, x7, x8, rfl⟩, ⟨us, xs, b2, hA2, hU, hG, hxl, hL2, hs2, hb2, hb2'⟩, g2⟩
    have hi4 : i < 4 := by omega
    refine ⟨_, rfl, _, rfl, st, q, L, b2, lets, rfl, hs2, by omega, by omega, hL2, by omega, fun r os1 H3 perm1 hs3 g3 hr3 hr0 => ?_⟩
    rw [hlen] at hs3
    refine ⟨_, rfl, (by show 5 ≤ sizeLine; decide), fun pk hpk => ?_⟩
    have gpk := same_new hpk (.lst [.int 1, .int 2, .int 2, .int 2, .int 3])
    obtain ⟨npk1, npk2⟩ := hs3.out hpk
    refine ⟨st, q, pk, b2 + 4, _, rfl, hs3.same gpk, by omega, by omega, upd_same, npk1, npk2, (by show 0 < 5; decide), (by show 5 ≤ 1000; decide), fun v H4 hv hs4 g4 => ?_⟩
    obtain ⟨n, rfl, n1, n3⟩ := pick_n hv
    have g34 : SX st q H3 H4 := (SX.of gpk).trans g4
    obtain ⟨nr1, nr2⟩ := hs2.out hr0
    have hr4 := g34 _ _ nr1 nr2 hr3
    have o1l : os1.length = 4 := by rw [perm1.length_eq, hlen]
    have ecut : cutV (os1.map V.str) none (some (n : Int)) = (os1.take n).map V.str := by rw [cut_take _ _ (by rw [List.length_map]; omega), List.map_take]
    refine ⟨_, rfl, r, _, rfl, SqL.of hr4, fun p hp => ?_⟩
    rw [ecut]
    generalize hls : os1.take n = ls
    have lsl : ls.length = n := by rw [← hls, List.length_take]; omega
    have lsn : ls.Nodup := by rw [← hls]; exact (perm1.nodup_iff.mpr hnd).sublist (List.take_sublist _ _)
    have lss : ∀ x ∈ ls, x ∈ lets := fun x hx => by
      rw [← hls] at hx
      exact perm1.mem_iff.mp (List.mem_of_mem_take hx)
    have gp := same_new hp (.lst (ls.map V.str))
    refine ⟨p, _, rfl, .inl ⟨SqL.of upd_same, fun own hown => ?_⟩⟩
    have go := same_new hown (.tup (ls.map V.str))
    have g46 := gp.trans go
    have hown6 : SqT K (upd (upd H4 p (.lst (ls.map V.str))) own (.tup (ls.map V.str))) own (ls.map V.str) := SqT.of upd_same
    have hs6 := hs4.same g46
    have g26 : SX st q H2 (upd (upd H4 p (.lst (ls.map V.str))) own (.tup (ls.map V.str))) := (g3.trans g34).trans (.of g46)
    clear g46 go gp hown hp
    generalize (upd (upd H4 p (.lst (ls.map V.str))) own (.tup (ls.map V.str))) = H6 at hown6 hs6 g26 ⊢
    have eml : (ls.map V.str).length = n := by rw [List.length_map, lsl]
    refine ⟨_, rfl, _, rfl, own, _, rfl, .inr hown6, ((ls.map V.str).length : Nat), rfl, RgOk.of_le (by decide) (by omega) (by decide) (by omega), fun sd hsd => ?_⟩
    rw [rg_iota, eml]
    have gsd := same_new hsd (.lst ((iota n).map V.int))
    refine ⟨st, q, sd, b2 + 4 + 1, iota n, rfl, hs6.same gsd, by omega, by omega, upd_same, by rw [iota_len]; omega, fun r2 os2 H7 perm2 hs7 gx7 hr7 hr70 => ?_⟩
    rw [iota_len] at hs7
    have o2l : os2.length = n := by rw [perm2.length_eq, iota_len]
    obtain ⟨nr21, nr22⟩ := (hs6.same gsd).out hr70
    have g67 : SX st q H6 H7 := (SX.of gsd).trans gx7
    have tk67 : TK K H6 H7 := TK.sx hs6 g67
    refine ⟨(by show 6 ≤ sizeLine; decide), fun kd hkd => ?_⟩
    have gkd := same_new hkd (.lst [.str "packed", .str "packed", .str "packed", .str "dense", .str "bits", .str "hashed"])
    obtain ⟨nkd1, nkd2⟩ := hs7.out hkd
    have hkd8 : (upd H7 kd (.lst [.str "packed", .str "packed", .str "packed", .str "dense", .str "bits", .str "hashed"])) kd = some (.lst [.str "packed", .str "packed", .str "packed", .str "dense", .str "bits", .str "hashed"]) := upd_same
    have hs8 := hs7.same gkd
    have hr8 := gkd _ _ hr7
    have g28 : SX st q H2 (upd H7 kd (.lst [.str "packed", .str "packed", .str "packed", .str "dense", .str "bits", .str "hashed"])) := (g26.trans g67).trans (.of gkd)
    have tk68 : TK K H6 (upd H7 kd (.lst [.str "packed", .str "packed", .str "packed", .str "dense", .str "bits", .str "hashed"])) := tk67.trans (TK.of gkd)
    generalize (upd H7 kd (.lst [.str "packed", .str "packed", .str "packed", .str "dense", .str "bits", .str "hashed"])) = H8 at hkd8 hs8 hr8 g28 tk68 ⊢
    have hA8 := g28 _ _ nA1 nA2 hA2
    refine ⟨_, rfl, .inl ⟨rfl, _, SqL.of hA8⟩, ?_⟩
    obtain ⟨c, ec⟩ := abcd_at hi4
    refine ⟨_, rfl, _, _, c, rfl, rfl, by decide +kernel, ec, ?_⟩
    refine ⟨_, rfl, _, rfl, r2, rfl, ⟨_, SqL.of hr8⟩, fun D hD => ?_⟩
    obtain ⟨nD1, nD2⟩ := hs8.out hD
    have gD := same_new hD (.lst [])
    refine lc_list (K := K) (a := r2) (xs := os2.map V.int) (InvRf K H8 st q D (b2 + 4 + 1 + n) os2) ⟨[], [], upd_same, (by simp), (fun p hp => by cases hp), ⟨rfl, fun i v p e => (by simp at e)⟩, ?_, .of gD⟩ (fun i H' _ ⟨_, _, _, _, _, _, _, g⟩ => SqL.of (g _ _ nr21 nr22 hr8)) ?_ ?_
    · rw [show b2 + 4 + 1 + (n : Int) + ((0 : Nat) : Int) = b2 + 4 + 1 + n from Int.add_zero _]
      exact hs8.same gD
    · rintro j x H9 hx ⟨acc, l, hd, hmm, hk, ht, hs9, gx⟩
      obtain ⟨o, eo, rfl⟩ := at_map hx
      have hj : j < n := by rw [← o2l]; exact (List.getElem?_eq_some_iff.mp eo).1
      have ell : l.length = j := by
        have e := congrArg List.length hmm
        rw [List.length_map, List.length_take] at e
        omega
      have hkd9 := gx _ _ nkd1 nkd2 hkd8
      refine ⟨rfl, kept ?_⟩
      refine ⟨_, rfl, _, rfl, st, q, kd, b2 + 4 + 1 + n + j, _, rfl, hs9, by omega, by omega, hkd9, nkd1, nkd2, (by show 0 < 6; decide), (by show 6 ≤ 1000; decide), fun v H10 hv hs10 g10 => ?_⟩
      obtain ⟨kn, hkn, rfl⟩ := List.mem_map.mp (show v ∈ K6.map V.str from hv)
      refine ⟨_, rfl, (by show 2 ≤ sizeLine; decide), fun t ht' => ?_⟩
      have gt := same_new ht' (.tup [.str kn, .int o])
      have tk10 : TK K H9 H10 := TK.sx hs9 g10
      have hd11 := gt _ _ (g10 _ _ nD1 nD2 hd)
      have gl : TK K (upd H10 t (.tup [.str kn, .int o])) (upd (upd H10 t (.tup [.str kn, .int o])) D (.lst (acc ++ [.ref t]))) := TK.lst hd11
      refine ⟨acc, hd11, small1000 (by have := ht.1; omega), acc ++ [.ref t], l ++ [(kn, o)], upd_same, ?_, fun p hp => ?_, tups_snoc ((tk10.trans (TK.of gt)).trans gl) ht (gl _ _ (SqT.of upd_same)), ?_, ?_⟩
      · rw [List.map_append, hmm, List.take_succ, eo] <;> rfl
      · rcases List.mem_append.mp hp with hp | hp
        · exact hk p hp
        · rw [List.mem_singleton.mp hp]
          exact k6_kinds kn hkn
      · rw [show b2 + 4 + 1 + (n : Int) + ((j + 1 : Nat) : Int) = b2 + 4 + 1 + (n : Int) + (j : Int) + 1 by omega]
        exact (hs10.same gt).upd nD1 nD2
      · exact ((gx.trans g10).trans (.of gt)).upd_out hD
    rintro H9 ⟨acc, l, hd, hmm, hk, ht, hs9, gx⟩
    rw [List.length_map, o2l] at hs9
    rw [List.length_map, List.take_length] at hmm
    refine ⟨D, _, rfl, .inl ⟨SqL.of hd, fun tf htf => ?_⟩⟩
    have gtf := same_new htf (.tup acc)
    refine ⟨by show 3 ≤ sizeLine; decide, fun u hu => ?_⟩
    have gu := same_new hu (.tup [.str ⟨#[c]⟩, .ref own, .ref tf])
    have g9u := gtf.trans gu
    have g2u : SX st q H2 (upd (upd H9 tf (.tup acc)) u (.tup [.str ⟨#[c]⟩, .ref own, .ref tf])) := (g28.trans gx).trans (.of g9u)
    have hA11 := g2u _ _ nA1 nA2 hA2
    have tk6u : TK K H6 (upd (upd H9 tf (.tup acc)) u (.tup [.str ⟨#[c]⟩, .ref own, .ref tf])) := (tk68.trans (TK.sx hs8 gx)).trans (TK.of g9u)
    have hs11 := hs9.same g9u
    have hL11 := g2u _ _ nL1 nL2 hL2
    have hown11 := tk6u _ _ hown6
    have hu11 : SqT K (upd (upd H9 tf (.tup acc)) u (.tup [.str ⟨#[c]⟩, .ref own, .ref tf])) u [.str ⟨#[c]⟩, .ref own, .ref tf] := SqT.of upd_same
    have htf11 : SqT K (upd (upd H9 tf (.tup acc)) u (.tup [.str ⟨#[c]⟩, .ref own, .ref tf])) tf acc := seqT gu (SqT.of upd_same)
    have ht11 : Tups K (upd (upd H9 tf (.tup acc)) u (.tup [.str ⟨#[c]⟩, .ref own, .ref tf])) acc l := ht.mono (TK.of g9u)
    have hU11 := hU.mono (TK.sx hs2 g2u)
    generalize (upd (upd H9 tf (.tup acc)) u (.tup [.str ⟨#[c]⟩, .ref own, .ref tf])) = H11 at g2u hA11 tk6u hs11 hL11 hown11 hu11 htf11 ht11 hU11 ⊢
    have gl : TK K H11 (upd H11 A (.lst (us ++ [.ref u]))) := TK.lst hA11
    have nLA : L ≠ A := ne_of_none hL hA
    refine ⟨A, us, _, rfl, rfl, hA11, small1000 (by have := hU.1; omega), ⟨_, _, _, _, _, rfl⟩, ⟨us ++ [.ref u], xs ++ [(⟨#[c]⟩, ls, l)], b2 + 4 + 1 + n + n, upd_same, luses_snoc (hU11.mono gl) ⟨own, tf, acc, gl _ _ hu11, gl _ _ hown11, gl _ _ htf11, ht11.mono gl⟩, fun x hx => ?_, by rw [List.length_append, hxl] <;> rfl, by rw [upd_ne nLA]; exact hL11, hs11.upd nA1 nA2, by omega, by omega⟩, (g2.trans g2u).upd_out hA0⟩
    rcases List.mem_append.mp hx with hx | hx
    · exact hG x hx
    · rw [List.mem_singleton.mp hx]
      have l2 : l.length = n := by rw [← o2l, ← hmm, List.length_map]
      exact ⟨⟨⟨by rw [l2]; exact lsl.symm, hk, by rw [hmm]; show os2.Perm (iota ls.length); rw [lsl]; exact perm2⟩, by show ls.length ≤ 3; omega, lsn⟩, lss⟩
  · rintro σ' H2 ⟨⟨x4, x5, x6, x7, x8, rfl⟩, ⟨us, xs, b2, hA2, hU, hG, hxl, hL2, hs2, hb2, hb2'⟩, g2⟩
    refine ⟨_, rfl, _, rfl, (by show 2 ≤ sizeLine; decide), fun t ht => ?_⟩
    have gt := same_new ht (.tup [.ref A, .ref L])
    exact k t A L us xs lets b2 _ (SqT.of upd_same) (gt _ _ hA2) (hU.mono (.of gt)) hG hxl (gt _ _ hL2) hnd habc hlen (by omega) (by omega) (hs2.same gt) (g2.trans (.of gt)) hA0 hL0
end
end Lw
namespace Lw
open PySem L2 TzR TL LamX
/-! _law_end -/
abbrev s_l_end : Stmt := topS 42
abbrev n_l_end : List Str := ["_law_deed", "_law_found", "e"]
theorem sc_l_end : FnScope n_l_end ["_law_deed"] (defScope s_l_end) := ⟨rfl, rfl, rfl, by decide +kernel, rfl, by decide +kernel, by decide +kernel⟩
structure En (K : PySem.W.Frag) (mg : Str → Option Value) (R WE : Addr) : Prop where
  mR : mg "Ring" = some (.ref R)
  mW : mg "WalkError" = some (.ref WE)
  xR : XfC K R
  nR : PySem.W.findIn K (.ref R) "steps" = some none
  m1 : PySem.W.exmOne K (.ref R) (.ref R) = some true
/-- what _law_end makes of its deed's reading -/
def EtE (R : Addr) (Q : VK) : XK := fun cls d H' => cls = .ref R ∧ ∃ (dd : Addr) (v : V), d = some dd ∧ H' dd = some (.xd [("steps", v)]) ∧ ∀ t, H' t = none → Q (.ref t) (upd H' t (.tup [.str "Ring", v]))
def QtE (Q : VK) : VK := fun u H' => 2 ≤ sizeLine ∧ ∀ t, H' t = none → Q (.ref t) (upd H' t (.tup [.str "told", u]))
def TTe (R : Addr) : (XK → Hp → VK → Prop) → Hp → VK → Prop := fun tl H Q => ∀ H1, Same H H1 → tl (EtE R Q) H1 (QtE Q)
theorem takes_len {X : Cx} {W : WX} (t : Takes X W) : Takes X (fun cls d σ H => σ.length = X.N.length → W cls d σ H) := fun u s' ⟨a, B, sI, pins, σ, H, cls, d, e, I, nb, up, sky, na, os, ag, w⟩ =>
  t u s' ⟨a, B, sI, pins, σ, H, cls, d, e, I, nb, up, sky, na, os, ag, w I.len⟩
section
variable {X : Cx} {R WE g : Addr} {cdg : Value} {q : Str}
theorem end_gives (T : En X.K X.mg R WE) :
    GivesTo X n_l_end "_law_end" (defScope s_l_end) g cdg (defBody s_l_end) "_law_deed" q (TTe R) := by
  intro f c' s H Q tl act hc h
  refine ⟨_, pss_cons (ps_set (i := 1) sc_l_end.nd rfl (Or.inl rfl) (pe_tup (pa_cons pe_str pa_nil))) (pss_cons (ps_clauses (X := (cxOf C8.CX0 X.prog X.w X.K X.mg X.base n_l_end "_law_end" (defScope s_l_end) g cdg X.A X.stack s H C8.E0).nox)
      (l := [⟨.ref R, some 2, fun a cls d D σ H => cls = .ref R ∧ σ[2]? = some (some (.ref a)) ∧ ∃ (dd : Addr) (v : V), d = some dd ∧ H dd = some (.xd [("steps", v)]) ∧ ∀ t, H t = none → D.nx (σ.set 1 (some (.ref t))) (upd H t (.tup [.str "Ring", v]))⟩,
        ⟨.ref WE, none, fun _ _ _ _ _ _ => False⟩])
      (tb := fun W D σ H => ∃ Ech : XK, (∀ cls d σ' H', σ'.length = 3 → Ech cls d H' → W cls d σ' H') ∧ σ[0]? = some (some (.ref f)) ∧ H c' = some (CodeO c' q) ∧ tl Ech H (QtE fun u H' => D.nx (σ.set 1 (some u)) H'))
      rfl rfl L2.takes0 (fun W pn xe tk _ => ?_) ?_) (pss_one (ps_ret (pv 1)))), ?_⟩
  · refine ⟨fun pins s' σ H' D I h' => ?_⟩
    obtain ⟨Ech, hW, h1, h2, h3⟩ := h'
    exact (pss_one (ps_set (i := 1) sc_l_end.nd rfl (Or.inl rfl) (pe_tup (pa_cons pe_str (pa_cons (act (fun cls d σ' H' => σ'.length = 3 → W cls d σ' H') pn xe Ech _ _ (takes_len tk) (fun cls d σ' H' e l => hW cls d σ' H' l e)) pa_nil))))).run pins s' σ H' D I ⟨h1, h2, h3⟩
  · refine .named sc_l_end.nd rfl rfl ⟨rfl, by decide, .inl T.mR⟩ (fun a oe cls d pn hz hf => ?_) (.bare ⟨rfl, by decide, .inl T.mW⟩ (fun a oe cls d pn hz hf => pss_never) .nil)
    refine ⟨fun pins s' σ H' D I h' => ?_⟩
    obtain ⟨rfl, h2, dd, v, rfl, h4, h5⟩ := h'
    refine (pss_one (ps_set (i := 1) (X := ((cxOf C8.CX0 X.prog X.w X.K X.mg X.base n_l_end "_law_end" (defScope s_l_end) g cdg X.A X.stack s H C8.E0).nox).suite a ((a, oe) :: pn)) sc_l_end.nd rfl (Or.inl rfl) (pe_tup (pa_cons pe_str (pa_cons (pe_xf T.xR T.nR hz hf (pv 2)) pa_nil))))).run pins s' σ H' D I ?_
    exact ⟨_, h2, rfl, rfl, dd, _, v, rfl, h4, rfl, (by show 2 ≤ sizeLine; decide), fun t ht => h5 t ht⟩
  · refine ⟨(by show 1 ≤ sizeLine; decide), fun t0 ht0 => ?_⟩
    have g0 := same_new ht0 (.tup [.str "other"])
    refine ⟨EtE R Q, fun cls d σ' H' hl hE => ?_, rfl, g0 _ _ hc, ?_⟩
    · match σ', hl with
      | [x0, x1, x2], _ =>
        obtain ⟨rfl, dd, v, rfl, h4, h5⟩ := hE
        exact ⟨true, T.m1, fun _ a _ => ⟨rfl, rfl, dd, v, rfl, h4, fun t ht => ⟨_, rfl, h5 t ht⟩⟩, fun z => by cases z⟩
    · have h' : tl (EtE R Q) _ (QtE Q) := h _ g0
      refine Eq.mp (congrArg (fun z : VK => tl (EtE R Q) _ (QtE z)) (funext fun v => funext fun H' => propext ⟨fun h => ⟨_, rfl, h⟩, fun ⟨_, e, h⟩ => by cases e; exact h⟩)) h'
end
end Lw
namespace Lw
open PySem L2 TzR TL LamX
/-! small lemmas of the law -/
theorem SqT.ext {K : PySem.W.Frag} {H H' : Hp} {a : Addr} {xs : List V} (g : ExtN H H') (h : SqT K H a xs) : SqT K H' a xs := by
  rcases h with (h | ⟨o, h⟩) | h
  · exact .inl (.inl (g _ _ h (fun _ e => by cases e)))
  · exact .inl (.inr ⟨o, g _ _ h (fun _ e => by cases e)⟩)
  · exact .inr h
theorem TK.ext {K : PySem.W.Frag} {H H' : Hp} (g : ExtN H H') : TK K H H' := fun b xs h => SqT.ext g h
theorem spr_ext {H H' : Hp} {st q : Addr} {b : Int} (g : ExtN H H') : Spr H st q b → Spr H' st q b
  | ⟨ns, a, c, h1, h2, r⟩ => ⟨ns, a, c, g _ _ h1 (fun _ z => by cases z), g _ _ h2 (fun _ z => by cases z), r⟩
theorem tabs_sx {T : List (Addr × Str)} {H H' : Hp} {st q : Addr} {b : Int} (s : Spr H st q b) (g : SX st q H H') (t : Tabs T H) : Tabs T H' := fun p hp => by
  obtain ⟨ns, a, c, z1, z2, _⟩ := s
  have key : ∀ (x : Addr) (o : HO), (∀ xs, o ≠ .lst xs) → H x = some o → H' x = some o := fun x o no e => g x o (fun z => by rw [z, z1] at e; exact no _ (Option.some.inj e).symm) (fun z => by rw [z, z2] at e; exact no _ (Option.some.inj e).symm) e
  obtain ⟨ps, e1, e2, e3⟩ := t p hp
  refine ⟨ps, key _ _ (fun xs z => by cases z) e1, e2, fun pos cv hc => ?_⟩
  obtain ⟨c', e4, e5⟩ := e3 pos cv hc
  exact ⟨c', e4, key _ _ (fun xs z => by unfold CodeO at z; cases z) e5⟩
/-- a use under changes of lists and of tables alone -/
theorem muse_key {K : PySem.W.Frag} {U C : Addr} {H H' : Hp} {p : Addr} {x : Ux} (g : ∀ (b : Addr) (o : HO), (∀ xs, o ≠ .lst xs) → (∀ ps, o ≠ .tbl ps) → H b = some o → H' b = some o) : MUse K U C H p x → MUse K U C H' p x
  | ⟨q, dx, tl, h1, ⟨o, h2, z⟩, ⟨dy, tk, ta, h3, h4, h5⟩⟩ => by
    have sq : ∀ {a : Addr} {xs : List V}, SqT K H a xs → SqT K H' a xs := fun {a xs} h => by
      rcases h with (h | ⟨o, h⟩) | h
      · exact .inl (.inl (g _ _ (fun _ e => by cases e) (fun _ e => by cases e) h))
      · exact .inl (.inr ⟨o, g _ _ (fun _ e => by cases e) (fun _ e => by cases e) h⟩)
      · exact .inr h
    exact ⟨q, dx, tl, g _ _ (fun _ e => by cases e) (fun _ e => by cases e) h1, ⟨o, g _ _ (fun _ e => by cases e) (fun _ e => by cases e) h2, z⟩, ⟨dy, tk, ta, g _ _ (fun _ e => by cases e) (fun _ e => by cases e) h3, sq h4, sq h5⟩⟩
theorem muse_upd {K : PySem.W.Frag} {U C : Addr} {H : Hp} {D : Addr} {xs : List V} {o : HO} {p : Addr} {x : Ux} (hD : H D = some (.lst xs)) (h : MUse K U C H p x) : MUse K U C (upd H D o) p x :=
  muse_key (fun b o' no _ e => by rw [upd_ne (fun z => by rw [z, hD] at e; exact no _ (Option.some.inj e).symm)]; exact e) h
theorem muses_ext {K : PySem.W.Frag} {U C : Addr} {H H' : Hp} {vs : List V} {xs : List Ux} (g : ExtN H H') (h : MUses K U C H vs xs) : MUses K U C H' vs xs :=
  ⟨h.1, fun i x e => let ⟨p, e1, e2⟩ := h.2 i x e; ⟨p, e1, muse_key (fun b o _ nt e => g b o e nt) e2⟩⟩
theorem at_snoc {α : Type} {acc : List α} {v w : α} {j : Nat} (h : (acc ++ [v])[j]? = some w) : acc[j]? = some w ∨ (j = acc.length ∧ w = v) := by
  by_cases hi : j < acc.length
  · rw [List.getElem?_append_left hi] at h
    exact .inl h
  · have lt := (List.getElem?_eq_some_iff.mp h).1
    rw [List.length_append, List.length_singleton] at lt
    have e : j = acc.length := by omega
    rw [e, List.getElem?_append_right (Nat.le_refl _), Nat.sub_self] at h
    cases h
    exact .inr ⟨e, rfl⟩
theorem flat3 : ∀ {xs : List Ux}, (∀ x ∈ xs, x.2.1.length ≤ 3) → (xs.map fun x => x.2.1).flatten.length ≤ xs.length * 3
  | [], _ => Nat.zero_le _
  | x :: r, h => by
    have a := flat3 (xs := r) fun y hy => h y (List.mem_cons_of_mem _ hy)
    have b := h x (List.mem_cons_self ..)
    rw [List.map_cons, List.flatten_cons, List.length_append, List.length_cons]
    omega
theorem strs_lay : ∀ {ls : List Str}, (∀ z ∈ ls, PyData.strOk z = true) → PyData.canLayAll0 (ls.map PyData.str) = true ∧ PyData.depthAll (ls.map PyData.str) ≤ 1
  | [], _ => ⟨rfl, Nat.zero_le _⟩
  | z :: r, h => by
    obtain ⟨a, b⟩ := strs_lay (ls := r) fun x hx => h x (List.mem_cons_of_mem _ hx)
    have c := h z (List.mem_cons_self ..)
    constructor
    · show (PyData.strOk z && PyData.canLayAll0 (r.map PyData.str)) = true
      rw [a, c] <;> rfl
    · show max (PyData.depth (.str z)) (PyData.depthAll (r.map PyData.str)) ≤ 1
      exact Nat.max_le.mpr ⟨Nat.zero_le _, b⟩
theorem strs_shaped {ls : List Str} (h : ∀ z ∈ ls, PyData.strOk z = true) : SeqAt.shaped (.list (ls.map PyData.str)) = true := by
  obtain ⟨a, b⟩ := strs_lay h
  show (PyData.canLayAll0 _ && decide (PyData.depthAll _ + 1 ≤ 64)) = true
  rw [a, decide_eq_true (by omega)] <;> rfl
theorem dp_strs {K : PySem.W.Frag} {H : Hp} : ∀ ss : List Str, DpAll K H (ss.map V.str) (ss.map PyData.str)
  | [] => .nil
  | n :: r => .cons (.str n) (dp_strs r)
theorem eqv_strs : ∀ ss : List Str, PyData.eqvAll (ss.map PyData.str) (ss.map PyData.str) = true
  | [] => by rw [List.map_nil, PyData.eqvAll]
  | s :: r => by
    rw [List.map_cons, PyData.eqvAll, eqv_strs r, PyData.eqv, beq_self_eq_true] <;> rfl
theorem abc_strOk : ∀ z ∈ Tt.abcL, PyData.strOk z = true := by decide +kernel
theorem sm_str {K : PySem.W.Frag} {H : Hp} {n : Nat} (z : Str) : Sm K H (n + 1) (.str z) (.str z) := .inr (.inl ⟨z, rfl, rfl⟩)
theorem sm_strs {K : PySem.W.Frag} {H : Hp} {n : Nat} {a b : Addr} {zs : List Str} (h1 : SqT K H a (zs.map V.str)) (h2 : SqT K H b (zs.map V.str)) (hl : zs.length ≤ 1000) : Sm K H (n + 2) (.ref a) (.ref b) := by
  refine .inr (.inr (.inr (.inl ⟨a, b, _, _, rfl, rfl, h1, h2, rfl, by rw [List.length_map]; exact hl, fun i x y e1 e2 => ?_⟩)))
  rw [e1] at e2
  cases e2
  obtain ⟨z, _, rfl⟩ := at_map e1
  exact sm_str z
/-! the law -/
abbrev s_law : Stmt := topS 43
abbrev n_law : List Str := ["_law_script", "_law_stream", "_law_turn", "_law_uses", "_law_letters_here", "_law_used", "_law_use", "_law_asked", "_law_letter", "_law_made", "_law_before", "_law_found", "_law_due", "_law_numbers"]
theorem sc_law : FnScope n_law ["_law_script"] (defScope s_law) := ⟨rfl, rfl, rfl, by decide +kernel, rfl, by decide +kernel, by decide +kernel⟩
def qLam : Str := "law.<locals>." ++ "<lambda>"
def spLaw (K : PySem.W.Frag) (P0 : Addr) : Sp := fun vs H Q _ => ∃ (a : Addr) (ns : List Int), vs = [.ref a] ∧ SqL K H a (ns.map V.int) ∧ ns.length ≤ 63 ∧ H P0 = some (.tbl #[]) ∧ ∀ H', Q (.bl true) H'
def InvUs (K : PySem.W.Frag) (H0 : Hp) (D : Addr) (xs : List Ux) (i : Nat) (H : Hp) : Prop := ∃ acc : List V, H D = some (.lst acc) ∧ acc.length = i ∧ (∀ (j : Nat) (v : V), acc[j]? = some v → ∃ (t : Addr) (ls : List Str), v = .ref t ∧ (xs.map fun x => x.2.1)[j]? = some ls ∧ SqT K H t (ls.map V.str) ∧ ls.Nodup) ∧ Same H0 H
def InvAk (H0 : Hp) (st q D : Addr) (b : Int) (lets used : List Str) (i : Nat) (H : Hp) : Prop := ∃ (acc : List Str) (b' : Int), H D = some (.lst (acc.map V.str)) ∧ acc.Sublist (lets.take i) ∧ (∀ z ∈ lets.take i, z ∈ used → z ∈ acc) ∧ Spr H st q b' ∧ b ≤ b' ∧ b' ≤ b + i ∧ SX st q H0 H
def InvMd (K : PySem.W.Frag) (U C : Addr) (H0 : Hp) (D : Addr) (xs : List Ux) (i : Nat) (H : Hp) : Prop := ∃ acc : List V, H D = some (.lst acc) ∧ acc.length = i ∧ (∀ (j : Nat) (x : Ux), j < i → xs[j]? = some x → ∃ p, acc[j]? = some (.ref p) ∧ MUse K U C H p x) ∧ Same H0 H
/-- what stands ahead of the deed -/
structure Mid (K : PySem.W.Frag) (U C : Addr) (T : List (Addr × Str)) (st q A D7 D9 D10 : Addr) (b : Int) (us ms : List V) (xs : List Ux) (ls : List Str) (H : Hp) : Prop where
  tabs : Tabs T H
  spr : Spr H st q b
  hA : H A = some (.lst us)
  hU : LUses K H us xs
  hM : H D9 = some (.lst ms)
  mU : MUses K U C H ms xs
  h7 : H D7 = some (.lst (ls.map V.str))
  h10 : H D10 = some (.lst (ls.map V.str))
theorem Mid.ext {K : PySem.W.Frag} {U C : Addr} {T : List (Addr × Str)} {st q A D7 D9 D10 : Addr} {b : Int} {us ms : List V} {xs : List Ux} {ls : List Str} {H H' : Hp} (M : Mid K U C T st q A D7 D9 D10 b us ms xs ls H) (e : ExtN H H') (t : Tabs T H') : Mid K U C T st q A D7 D9 D10 b us ms xs ls H' :=
  ⟨t, spr_ext e M.spr, e _ _ M.hA (fun _ z => by cases z), M.hU.mono (TK.ext e), e _ _ M.hM (fun _ z => by cases z), muses_ext e M.mU, e _ _ M.h7 (fun _ z => by cases z), e _ _ M.h10 (fun _ z => by cases z)⟩
theorem Mid.same {K : PySem.W.Frag} {U C : Addr} {T : List (Addr × Str)} {st q A D7 D9 D10 : Addr} {b : Int} {us ms : List V} {xs : List Ux} {ls : List Str} {H H' : Hp} (M : Mid K U C T st q A D7 D9 D10 b us ms xs ls H) (g : Same H H') : Mid K U C T st q A D7 D9 D10 b us ms xs ls H' :=
  ⟨M.tabs.ext g, M.spr.same g, g _ _ M.hA, M.hU.mono (.of g), g _ _ M.hM, M.mU.same g, g _ _ M.h7, g _ _ M.h10⟩
section
variable {P : Program} {w : World} {K : PySem.W.Frag} {mg : Str → Option Value} {base : Heap} {U FC R WE gF c P0 fL fRf : Addr} {dF : FuncData}
theorem ok_law {oc od kV doc pm an ct osl} (lkL : K.lookup fL = some ⟨oc, od, .func (PySem.W.fnOf "law" "law" (defArgs s_law) (defBody s_law) (defScope s_law) .none kV doc pm an (.ref c) ct), osl⟩) (hcL : PySem.W.codeIn K (.ref c) "law" = true)
    (B : Bt mg) (B2 : Bx mg) (T : En K mg R WE)
    (cS : Ca P w K mg base 1 "_law_start" ["_law_script"] (spStart K)) (cD : Ca P w K mg base 1 "_law_draw" ["_law_stream", "_law_many"] spDraw) (cRg : Ca P w K mg base 3 "_law_ringed" ["_law_stream", "_law_many"] (spRgd K)) (cMg : Ca P w K mg base 1 "_law_merged" ["_law_lists"] (spMg K))
    (cB : Ca P w K mg base 6 "_law_use_built" ["_law_use"] (spUb K U FC)) (cLo : Ca P w K mg base 4 "_law_least_order" ["_law_uses", "_law_letters_here"] (spLo K)) (cE : Ca P w K mg base 3 "_law_same" ["_law_found", "_law_due"] (spSame K 3)) (cIr : Ca P w K mg base 2 "_law_is_ring" ["_law_steps", "_law_uses", "_law_numbers"] (spIr K))
    (GF : FnOk P w K mg base (L2.CX P w) 6 gF dF ["uses", "letters"] (spFo K U FC R)) (bF : Binds K dF ["uses", "letters"] []) (kF : PySem.W.keepIn K (.ref gF) = true) (mF : mg "fitting_order" = some (.ref gF))
    {oc' od' kV' doc' pm' an' cd' ct' osl'} (lkR : K.lookup fRf = some ⟨oc', od', .func (PySem.W.fnOf "_law_end" "_law_end" (defArgs s_l_end) (defBody s_l_end) (defScope s_l_end) .none kV' doc' pm' an' cd' ct'), osl'⟩) (hcR : PySem.W.codeIn K cd' "_law_end" = true)
    (bRf : Binds K (PySem.W.fnOf "_law_end" "_law_end" (defArgs s_l_end) (defBody s_l_end) (defScope s_l_end) .none kV' doc' pm' an' cd' ct') ["_law_deed"] []) (kRf : PySem.W.keepIn K (.ref fRf) = true) (mRf : mg "_law_end" = some (.ref fRf))
    (TB : TabB base mg c P0) :
    FnOk P w K mg base CX0 9 fL (PySem.W.fnOf "law" "law" (defArgs s_law) (defBody s_law) (defScope s_law) .none kV doc pm an (.ref c) ct) ["_law_script"] (spLaw K P0) := by
  refine fn_of lkL hcL sc_law (fun vs H Q E h => ?_) fun A0 outer s H vs Q E hr h => ?_
  · obtain ⟨a, ns, rfl, _⟩ := h
    rfl
  have fin : ∃ t, PSs (cxOf CX0 P w K mg base n_law "law" (defScope s_law) fL (.ref c) A0 outer s H E).nox (defBody s_law) t ∧ t { nx := fun _ H' => Q .non H', rt := Q } (start n_law vs) H := by
    obtain ⟨a, ns, rfl, hS, hn, hP0, k⟩ := h
    refine ⟨_, (pss_cons (ps_set (i := 1) sc_law.nd rfl (Or.inr rfl) (pca cS hr (by decide) rfl (pa_cons (pv 0) pa_nil)))
(pss_cons (ps_for PassesOwn.never rfl (pi_range1 (by rfl) B.range (pa_cons pe_int pa_nil)) (pg_name (i := 2) sc_law.nd rfl (Or.inl rfl))
(pss_cons (ps_asg (pca cRg hr (by decide) rfl (pa_cons (pv 1) (pa_cons (pca cD hr (by decide) rfl (pa_cons (pv 1) (pa_cons pe_int pa_nil))) pa_nil))) (pg_tup rfl (pgs_cons (pg_name (i := 3) sc_law.nd rfl (Or.inl rfl)) (pgs_cons (pg_name (i := 4) sc_law.nd rfl (Or.inl rfl)) pgs_nil))))
(pss_cons (ps_set (i := 5) sc_law.nd rfl (Or.inr rfl) (pca cMg hr (by decide) rfl (pa_cons (pe_lc (own := [("_law_use", 6)]) (g := (gName 6)) (tt := tYes) (te := tOp (rIxT K) (tVar 6) (tC (.int 1))) rfl sc_law.nd (pi_list (pv 3)) (blkOk_by (N := n_law) (sc := defScope s_law) (by decide +kernel)) (fun _ _ _ _ _ => (pg_name (i := 6) sc_law.nd rfl (Or.inl rfl))) (fun _ _ _ _ _ => pts_nil) (fun _ _ _ _ _ => (pe_ix ix_tup (pv 6) pe_int (fun _ _ => rfl)))) pa_nil)))
(pss_cons (ps_set (i := 7) sc_law.nd rfl (Or.inr rfl) (pe_lc (own := [("_law_letter", 8)]) (g := (gName 8)) (tt := tOr (tTest (tOp (rIn K false) (tVar 8) (tVar 5))) (tTest (tOp rEq (tCall spDraw [] E0 (tCons (tVar 1) (tCons (tC (.int 2)) tNil))) (tC (.int 0))))) (te := tVar 8) rfl sc_law.nd (pi_list (pv 4)) (blkOk_by (N := n_law) (sc := defScope s_law) (by decide +kernel)) (fun _ _ _ _ _ => (pg_name (i := 8) sc_law.nd rfl (Or.inl rfl))) (fun _ _ _ _ _ => (pts_one (PW.pt (pw_or (pt_cmpR op_in_seq (pv 8) (pv 5) (by rfl)) (pw_or1 (pt_cmpR op_eq (pca cD hr (by decide) rfl (pa_cons (pv 1) (pa_cons pe_int pa_nil))) pe_int (nomark _))))))) (fun _ _ _ _ _ => (pv 8))))
(pss_cons (ps_set (i := 9) sc_law.nd rfl (Or.inr rfl) (pe_lc (own := [("_law_use", 6)]) (g := (gName 6)) (tt := tYes) (te := tCall (spUb K U FC) [] E0 (tCons (tVar 6) tNil)) rfl sc_law.nd (pi_list (pv 3)) (blkOk_by (N := n_law) (sc := defScope s_law) (by decide +kernel)) (fun _ _ _ _ _ => (pg_name (i := 6) sc_law.nd rfl (Or.inl rfl))) (fun _ _ _ _ _ => pts_nil) (fun _ _ _ _ _ => (pca cB hr (by decide) rfl (pa_cons (pv 6) pa_nil)))))
(pss_cons (ps_set (i := 10) sc_law.nd rfl (Or.inl rfl) (pe_callTy call_list_of (by rfl) B.lst (by decide +kernel) (pa_cons (pv 7) pa_nil)))
(pss_cons (ps_set (i := 11) sc_law.nd rfl (Or.inl rfl) (pe_lamcall (t := fun E => tCall (spFo K U FC R) [] E (tCons (tVar 9) (tCons (tVar 7) tNil))) (T := [(P0, qLam)]) (TT := TTe R) (Ng := n_l_end) (k := 6) (a := "_law_deed") (by rfl) mRf kRf lkR hcR bRf sc_l_end rfl (Or.inl rfl) (end_gives T) TB rfl (List.mem_singleton.mpr rfl) (fun p hp _ => by rw [List.mem_singleton.mp hp]; rfl) (hr.mono (by decide)) (lamS_by (by show lamSB (defScope s_law) _ = true; decide +kernel)) rfl (fun _ _ _ _ _ => rfl) (fun A outer s H E f c' hr2 => pe_call (E := E) GF hr2 (by rfl) mF kF bF .nil (passes_call (takes_of rfl rfl rfl rfl) (fun _ _ _ _ h => h)) (pa_cons (pv 9) (pa_cons (pv 7) pa_nil)))))
(pss_cons (ps_if (pt_cmpR (op_neD hr.units) (pv 7) (pv 10) (nomark _))
(pss_one (ps_ret pe_bl)) pss_nil)
(pss_cons (ps_set (i := 12) sc_law.nd rfl (Or.inl rfl) (pca cLo hr (by decide) rfl (pa_cons (pv 3) (pa_cons (pv 7) pa_nil))))
(pss_cons (ps_if (PW.pt (pw_and (pt_cmpR op_notN (pv 12) pe_non (nomark _)) (pw_and1 (pt_not (pt_val (pca cE hr (by decide) rfl (pa_cons (pv 11) (pa_cons (pe_tup (pa_cons pe_str (pa_cons (pv 12) pa_nil))) pa_nil))))))))
(pss_one (ps_ret pe_bl)) pss_nil)
(pss_cons (ps_set (i := 13) sc_law.nd rfl (Or.inl rfl) (pe_listRg rfl (by rfl) B.lst (prg_1 (by rfl) B.range (pe_callB call_len_seq (by rfl) B.len PySem.boot_len (pa_cons (pv 3) pa_nil)))))
(pss_one (ps_if (PW.pt (pw_and (pt_cmpR op_isN (pv 12) pe_non (nomark _)) (pw_and1 (PW.pt (pw_or (pt_cmpR op_ne (pe_ix ix_tup (pv 11) pe_int (fun _ _ => rfl)) pe_str (nomark _)) (pw_or1 (pt_not (pt_val (pca cIr hr (by decide) rfl (pa_cons (pe_ix ix_tup (pv 11) pe_int (fun _ _ => rfl)) (pa_cons (pv 3) (pa_cons (pv 13) pa_nil))))))))))))
(pss_one (ps_ret pe_bl)) pss_nil)))))))))))))
(pss_one (ps_ret pe_bl)))), ?_⟩
    refine ⟨_, rfl, a, ns, rfl, hS, hn, fun st q H1 g1 hs1 => ?_⟩
    have hT1 : Tabs [(P0, qLam)] H1 := fun p hp => by
      rw [List.mem_singleton.mp hp]
      exact TabS.nil (g1 _ _ hP0)
    refine ⟨6, rfl, by decide, by decide, for_range (lo := 0) (n := 6) (fun i σ' H' => ∃ (b : Int) (u2 u3 u4 u5 u6 u7 u8 u9 u10 u11 u12 u13 : Option V), σ' = [some (.ref a), some (.ref st), u2, u3, u4, u5, u6, u7, u8, u9, u10, u11, u12, u13] ∧ Tabs [(P0, qLam)] H' ∧ Spr H' st q b ∧ 0 ≤ b ∧ b ≤ 70 * i)
      ⟨0, _, _, _, _, _, _, _, _, _, _, _, _, rfl, hT1, hs1, by decide, by decide⟩ ?_ (fun _ _ _ => k _)⟩
    rintro i σ' H2 hi ⟨b, u2, u3, u4, u5, u6, u7, u8, u9, u10, u11, u12, u13, rfl, hT2, hs2, hb0, hb1⟩
    refine ⟨_, rfl, _, rfl, st, q, b, 5, rfl, hs2, hb0, by omega, by decide, by decide, fun d H3 d0 d1 hs3 g3 => ?_⟩
    obtain ⟨m, rfl⟩ : ∃ m : Nat, d = m := ⟨d.toNat, by omega⟩
    refine ⟨st, q, b + 1, m, rfl, hs3, by omega, by omega, by omega, fun t A L us xs lets b4 H4 ht hA hU hG hxl hL hnd habc hlen hb4 hb4' hs4 g4 hA0 hL0 => ?_⟩
    refine ⟨t, _, rfl, ht, rfl, _, _, rfl, _, _, rfl, rfl, ?_⟩
    obtain ⟨nA1, nA2⟩ := hs3.out hA0
    obtain ⟨nL1, nL2⟩ := hs3.out hL0
    have hG3 : ∀ x ∈ xs, GoodU x := fun x hx => (hG x hx).1
    have ul : us.length = xs.length := hU.1
    have xl4 : xs.length ≤ 4 := by omega
    -- the letters of the uses
    refine ⟨_, rfl, A, rfl, ⟨_, SqL.of hA⟩, fun D hD => ?_⟩
    refine lc_list (K := K) (a := A) (xs := us) (InvUs K H4 D xs) ⟨[], upd_same, rfl, (fun i v e => by cases e), same_new hD _⟩ (fun i H' _ ⟨_, _, _, _, g⟩ => SqL.of (g _ _ hA)) (fun j x H5 hx hv => ?_) ?_
    · obtain ⟨acc, hd, ha, hw, g⟩ := hv
      have hj : j < us.length := (List.getElem?_eq_some_iff.mp hx).1
      have hjx : j < xs.length := by omega
      obtain ⟨u, eu, hu⟩ := hU.2 j _ (List.getElem?_eq_getElem hjx)
      rw [hx] at eu
      cases eu
      obtain ⟨tl, tf, uu, k1, k2, k3, k4⟩ := hu.mono (.of g)
      have gl : TK K H5 (upd H5 D (.lst (acc ++ [.ref tl]))) := TK.lst hd
      refine ⟨rfl, kept ⟨_, rfl, u, _, (1 : Int), .ref tl, rfl, rfl, k1, atI_nat (j := 1) rfl, acc, hd, small1000 (by omega), acc ++ [.ref tl], upd_same, by rw [List.length_append, ha] <;> rfl, fun i' v e => ?_, same_over g hD _⟩⟩
      rcases at_snoc e with e | ⟨rfl, rfl⟩
      · obtain ⟨t', ls', e1, e2, e3, e4⟩ := hw i' v e
        exact ⟨t', ls', e1, e2, gl _ _ e3, e4⟩
      · exact ⟨tl, xs[j].2.1, rfl, by rw [ha, List.getElem?_map, List.getElem?_eq_getElem hjx] <;> rfl, gl _ _ k2, (hG3 _ (List.getElem_mem hjx)).nd⟩
    rintro H5 ⟨acc, hd5, ha, hw, g5⟩
    have f3 := flat3 (xs := xs) fun x hx => (hG3 x hx).len
    refine ⟨D, acc, xs.map fun x => x.2.1, rfl, SqL.of hd5, by rw [ha, List.length_map, ul], hw, by omega, fun r used l H6 g6 hr0 hr6 ndl hml perm srt => ?_⟩
    have g46 := g5.trans g6
    have hs6 := hs4.same g46
    have hL6 := g46 _ _ hL
    obtain ⟨nr1, nr2⟩ := (hs4.same g5).out hr0
    -- the letters that are asked
    refine ⟨_, rfl, L, rfl, ⟨_, SqL.of hL6⟩, fun D7 hD7 => ?_⟩
    obtain ⟨n71, n72⟩ := hs6.out hD7
    have g7 := same_new hD7 (.lst [])
    refine lc_list (K := K) (a := L) (xs := lets.map V.str) (InvAk H6 st q D7 b4 lets used) ⟨[], b4, upd_same, (by simp), (fun z hz => by simp at hz), hs6.same g7, by omega, by omega, .of g7⟩ (fun i H' _ ⟨_, _, _, _, _, _, _, _, g⟩ => SqL.of (g _ _ nL1 nL2 hL6)) (fun j y H7 hy hv => ?_) ?_
    · obtain ⟨z, ez, rfl⟩ := at_map hy
      obtain ⟨acc, b7, hd, hsub, hin, hs7, hb7, hb7', gx⟩ := hv
      have hr7 := gx _ _ nr1 nr2 hr6
      have jl : j < lets.length := (List.getElem?_eq_some_iff.mp ez).1
      have tk : lets.take (j + 1) = lets.take j ++ [z] := by rw [List.take_add_one, ez] <;> rfl
      have al : acc.length ≤ 4 := by
        have := hsub.length_le
        rw [List.length_take] at this
        omega
      have yes : ∀ (b' : Int) (H' : Hp), b7 ≤ b' → b' ≤ b7 + 1 → Spr H' st q b' → SX st q H7 H' → ∃ acc', H' D7 = some (.lst acc') ∧ acc'.length < sizeLine ∧ InvAk H6 st q D7 b4 lets used (j + 1) (upd H' D7 (.lst (acc' ++ [.str z]))) := fun b' H' q1 q2 hs' g' => by
        refine ⟨_, g' _ _ n71 n72 hd, by rw [List.length_map]; exact small1000 (by omega), acc ++ [z], b', by rw [upd_same, List.map_append] <;> rfl, ?_, fun y hy hu => ?_, hs'.upd n71 n72, by omega, by omega, (gx.trans g').upd_out hD7⟩
        · rw [tk]
          exact hsub.append (List.Sublist.refl _)
        · rw [tk] at hy
          rcases List.mem_append.mp hy with hy | hy
          · exact List.mem_append.mpr (.inl (hin y hy hu))
          · exact List.mem_append.mpr (.inr hy)
      refine ⟨rfl, ?_⟩
      refine ⟨_, rfl, _, rfl, r, used.map V.str, rfl, .inl (SqL.of hr7), rfl, flat_strs' used, _, rfl, ?_⟩
      by_cases hz : z ∈ used
      · refine iteC (by rw [if_neg (by decide), in_strs, decide_eq_true hz]) (iteT ⟨_, rfl, yes b7 H7 (by omega) (by omega) hs7 SX.refl⟩)
      · refine iteN (by rw [if_neg (by decide), in_strs, decide_eq_false hz]) ?_
        refine ⟨_, rfl, st, q, b7, 2, rfl, hs7, by omega, by omega, by decide, by decide, fun d2 H8 _ _ hs8 g8 => ?_⟩
        refine ⟨rfl, _, rfl, ?_⟩
        by_cases c0 : d2 = 0
        · subst c0
          exact iteC rfl ⟨_, rfl, yes _ H8 (by omega) (by omega) hs8 g8⟩
        · refine iteN (decide_eq_false fun e => c0 (by injection e)) ⟨acc, _, g8 _ _ n71 n72 hd, by rw [tk]; exact hsub.trans (List.sublist_append_left _ _), fun y hy hu => ?_, hs8, by omega, by omega, gx.trans g8⟩
          rw [tk] at hy
          rcases List.mem_append.mp hy with hy | hy
          · exact hin y hy hu
          · rw [List.mem_singleton.mp hy] at hu
            exact absurd hu hz
    rintro H7 ⟨ls, b7, hd7, hsub, hin, hs7, hb7, hb7', gx7⟩
    rw [List.length_map] at hsub hin hb7'
    rw [List.take_length] at hsub hin
    have lsn : ls.Nodup := hnd.sublist hsub
    have ls4 : ls.length ≤ 4 := by
      have := hsub.length_le
      omega
    have lsok : ∀ z ∈ ls, PyData.strOk z = true := fun z hz => abc_strOk z (habc z (hsub.subset hz))
    have xin : ∀ x ∈ xs, ∀ z ∈ x.2.1, z ∈ ls := fun x hx z hz => by
      refine hin z ((hG x hx).2 z hz) (perm.mem_iff.mpr ((hml z).mpr ?_))
      exact List.mem_flatten.mpr ⟨x.2.1, List.mem_map.mpr ⟨x, hx, rfl⟩, hz⟩
    have xok : ∀ x ∈ xs, ∀ z ∈ x.2.1, PyData.strOk z = true := fun x hx z hz => lsok z (xin x hx z hz)
    have g47 : SX st q H4 H7 := (SX.of g46).trans gx7
    have hA7 := g47 _ _ nA1 nA2 hA
    have hU7 := hU.mono (TK.sx hs4 g47)
    have hT7 : Tabs [(P0, qLam)] H7 := tabs_sx hs2 ((g3.trans g4).trans g47) hT2
    -- the program's uses
    refine ⟨_, rfl, A, rfl, ⟨_, SqL.of hA7⟩, fun D9 hD9 => ?_⟩
    refine lc_list (K := K) (a := A) (xs := us) (InvMd K U FC H7 D9 xs) ⟨[], upd_same, rfl, (fun j x hj _ => absurd hj (Nat.not_lt_zero _)), same_new hD9 _⟩ (fun i H' _ ⟨_, _, _, _, g⟩ => SqL.of (g _ _ hA7)) (fun j x H8 hx hv => ?_) ?_
    · obtain ⟨acc2, hd, ha2, hw2, g⟩ := hv
      have hj : j < us.length := (List.getElem?_eq_some_iff.mp hx).1
      have hjx : j < xs.length := by omega
      have ej := List.getElem?_eq_getElem hjx
      obtain ⟨u, eu, hu⟩ := hU7.2 j _ ej
      rw [hx] at eu
      cases eu
      have hx3 := hG3 _ (List.getElem_mem hjx)
      refine ⟨rfl, kept ⟨_, rfl, u, xs[j].1, xs[j].2.1, xs[j].2.2, rfl, hu.mono (.of g), hx3.good, hx3.len, hx3.nd, fun p qf H9 g9 hp => ?_⟩⟩
      have hd9 := g9 _ _ hd
      refine ⟨acc2, hd9, small1000 (by omega), acc2 ++ [.ref p], upd_same, by rw [List.length_append, ha2] <;> rfl, fun j' x' hj' ex' => ?_, same_over (g.trans g9) hD9 _⟩
      by_cases hjj : j' < j
      · obtain ⟨p', e1, e2⟩ := hw2 j' x' hjj ex'
        exact ⟨p', by rw [List.getElem?_append_left (by omega)]; exact e1, muse_upd hd9 (e2.same g9)⟩
      · have e : j' = j := by omega
        subst e
        rw [ej] at ex'
        cases ex'
        exact ⟨p, by rw [← ha2, List.getElem?_append_right (Nat.le_refl _), Nat.sub_self] <;> rfl, muse_upd hd9 ⟨qf, hp⟩⟩
    rintro H8 ⟨ms, hd9, hml9, hw9, g8⟩
    -- before
    refine ⟨_, rfl, D7, _, rfl, .inl (SqL.of (g8 _ _ hd7)), fun D10 hD10 => ?_⟩
    have g10 := same_new hD10 (.lst (ls.map V.str))
    have M0 : Mid K U FC [(P0, qLam)] st q A D7 D9 D10 b7 us ms xs ls (upd H8 D10 (.lst (ls.map V.str))) :=
      { tabs := hT7.ext (g8.trans g10), spr := hs7.same (g8.trans g10), hA := (g8.trans g10) _ _ hA7, hU := hU7.mono (.of (g8.trans g10)), hM := g10 _ _ hd9, mU := (show MUses K U FC H8 ms xs from ⟨by omega, fun i x e => hw9 i x (by rw [ul]; exact (List.getElem?_eq_some_iff.mp e).1) e⟩).same g10, h7 := (g8.trans g10) _ _ hd7, h10 := upd_same }
    generalize (upd H8 D10 (.lst (ls.map V.str))) = H9 at M0 ⊢
    have okS : ∀ as : List Str, LetOk as ls → Topo.OkS (stAll xs) as := fun as hlet s0 hs0 => by
      obtain ⟨x, ex, h2⟩ := stAll_mem.mp hs0
      have xm := List.mem_of_getElem? ex
      obtain ⟨o1, o2, o3⟩ := st_ok (hG3 x xm) h2
      exact ⟨(hlet.mem _).mpr (xin x xm _ o1), (hlet.mem _).mpr (xin x xm _ o2), o3⟩
    have shp := strs_shaped lsok
    have neq : (!PyData.eqv (.list (ls.map PyData.str)) (.list (ls.map PyData.str))) = false := by
      rw [PyData.eqv, eqv_strs] <;> rfl
    have inv : ∀ (x2 x3 x4 x5 x6 x7 x8 x9 x10 x11 x12 x13 : Option V) (H' : Hp), Mid K U FC [(P0, qLam)] st q A D7 D9 D10 b7 us ms xs ls H' → ∃ (b : Int) (u2 u3 u4 u5 u6 u7 u8 u9 u10 u11 u12 u13 : Option V), [some (V.ref a), some (V.ref st), x2, x3, x4, x5, x6, x7, x8, x9, x10, x11, x12, x13] = [some (.ref a), some (.ref st), u2, u3, u4, u5, u6, u7, u8, u9, u10, u11, u12, u13] ∧ Tabs [(P0, qLam)] H' ∧ Spr H' st q b ∧ 0 ≤ b ∧ b ≤ 70 * ((i + 1 : Nat) : Int) := fun _ _ _ _ _ _ _ _ _ _ _ _ H' M =>
      ⟨b7, _, _, _, _, _, _, _, _, _, _, _, _, rfl, M.tabs, M.spr, by omega, by omega⟩
    -- the deed
    refine ⟨M0.tabs, fun He ee Te Hd gd => ?_⟩
    have M1 := (M0.ext ee Te).same gd
    refine ⟨_, rfl, _, rfl, D9, D7, ms, xs, ls, rfl, SqL.of M1.hM, M1.mU, hG3, by omega, SqL.of M1.h7, by omega, fun as hlet => ⟨fun order eo o Hf gf ho => ?_, fun eo => ?_⟩⟩
    · refine ⟨by show 2 ≤ sizeLine; decide, fun tf htf => ?_⟩
      have gt := same_new htf (.tup [.str "told", .ref o])
      have M2 := M1.same (gf.trans gt)
      have ho2 := seqT gt ho
      have htf2 : SqT K (upd Hf tf (.tup [.str "told", .ref o])) tf [.str "told", .ref o] := SqT.of upd_same
      generalize (upd Hf tf (.tup [.str "told", .ref o])) = Hg at M2 ho2 htf2 ⊢
      refine ⟨_, rfl, _, rfl, .list (ls.map PyData.str), .list (ls.map PyData.str), .lst (SqL.of M2.h7) (dp_strs ls), .lst (SqL.of M2.h10) (dp_strs ls), shp, shp, _, rfl, iteN neq ?_⟩
      have find := Topo.least_topo hlet.nd (okS as hlet)
      rw [eo] at find
      refine ⟨_, rfl, _, rfl, A, D7, us, xs, ls, as, rfl, SqL.of M2.hA, M2.hU, hG3, by omega, SqL.of M2.h7, lsn, ls4, hlet, xin, fun order' eo' o2 Hh gh ho' => ?_, fun eo' => ?_⟩
      · rw [find] at eo'
        cases eo'
        have M3 := M2.same gh
        have ol : order.length ≤ 1000 := by
          have q1 := ord_mem (List.mem_of_find?_eq_some find)
          have := hlet.len_eq lsn
          omega
        refine ⟨_, rfl, rfl, _, rfl, iteT ?_⟩
        refine ⟨_, rfl, _, rfl, (by show 2 ≤ sizeLine; decide), fun td htd => ?_⟩
        have gtd := same_new htd (.tup [.str "told", .ref o2])
        refine ⟨.ref tf, .ref td, rfl, Sm.tup (seqT (gh.trans gtd) htf2) (SqT.of upd_same) (by show 2 ≤ 1000; decide) (.cons (Sm.str _) (.cons (sm_strs (seqT (gh.trans gtd) ho2) (seqT gtd ho') ol) .nil)), fun Hi gi => ?_⟩
        refine ⟨_, rfl, iteF ?_⟩
        have M4 := M3.same (gtd.trans gi)
        refine ⟨_, rfl, A, _, rfl, .inl (SqL.of M4.hA), (us.length : Nat), rfl, RgOk.of_le (by decide) (by omega) (by decide) (by omega), fun nb hnb => ?_⟩
        refine ⟨_, rfl, rfl, _, rfl, iteN (decide_eq_false fun z => by cases z) ?_⟩
        exact iteF (inv _ _ _ _ _ _ _ _ _ _ _ _ _ (M4.same (same_new hnb _)))
      · rw [find] at eo'
        cases eo'
    · intro dd tt Ms Hf gf hdd htt hMs hMl ring
      refine ⟨rfl, dd, _, rfl, hdd, fun tf htf => ?_⟩
      have gt := same_new htf (.tup [.str "Ring", .ref tt])
      have M2 := M1.same (gf.trans gt)
      have htt2 := seqT gt htt
      have hMs2 := hMs.mono (.of gt)
      have htf2 : SqT K (upd Hf tf (.tup [.str "Ring", .ref tt])) tf [.str "Ring", .ref tt] := SqT.of upd_same
      generalize (upd Hf tf (.tup [.str "Ring", .ref tt])) = Hg at M2 htt2 hMs2 htf2 ⊢
      refine ⟨_, rfl, _, rfl, .list (ls.map PyData.str), .list (ls.map PyData.str), .lst (SqL.of M2.h7) (dp_strs ls), .lst (SqL.of M2.h10) (dp_strs ls), shp, shp, _, rfl, iteN neq ?_⟩
      have find := Topo.least_topo hlet.nd (okS as hlet)
      rw [eo] at find
      refine ⟨_, rfl, _, rfl, A, D7, us, xs, ls, as, rfl, SqL.of M2.hA, M2.hU, hG3, by omega, SqL.of M2.h7, lsn, ls4, hlet, xin, fun order' eo' o2 Hh gh ho' => ?_, fun eo' Hh gh => ?_⟩
      · rw [find] at eo'
        cases eo'
      · have M3 := M2.same gh
        refine ⟨_, rfl, rfl, _, rfl, iteN rfl (iteF ?_)⟩
        refine ⟨_, rfl, A, _, rfl, .inl (SqL.of M3.hA), (us.length : Nat), rfl, RgOk.of_le (by decide) (by omega) (by decide) (by omega), fun nb hnb => ?_⟩
        rw [rg_iota]
        have gnb := same_new hnb (.lst ((iota us.length).map V.int))
        have M4 := M3.same gnb
        have hnb4 : (upd Hh nb (.lst ((iota us.length).map V.int))) nb = some (.lst ((iota us.length).map V.int)) := upd_same
        have g4 := gh.trans gnb
        generalize (upd Hh nb (.lst ((iota us.length).map V.int))) = Hi at M4 hnb4 g4 ⊢
        refine ⟨_, rfl, rfl, _, rfl, iteT ?_⟩
        refine ⟨_, rfl, tf, _, (0 : Int), .str "Ring", rfl, rfl, seqT g4 htf2, atI_nat (j := 0) rfl, rfl, _, rfl, iteN (by rw [dstr, decide_eq_true rfl] <;> rfl) ?_⟩
        refine ⟨_, rfl, tf, _, (1 : Int), .ref tt, rfl, rfl, seqT g4 htf2, atI_nat (j := 1) rfl, _, rfl, _, rfl, tt, A, nb, us, xs, Ms, rfl, seqT g4 htt2, hMs2.mono (.of g4), hMl, ring, SqL.of M4.hA, M4.hU, hG3, xok, by rw [← ul]; exact SqL.of hnb4, fun Hj gj => ?_⟩
        exact ⟨_, rfl, iteF (inv _ _ _ _ _ _ _ _ _ _ _ _ _ (M4.same gj))⟩
  obtain ⟨t, ht, hq⟩ := fin
  exact ⟨t, ht.nox, hq⟩
end
end Lw
namespace Lw
open PySem L2 TL LamX TzR
/-- a def of the text, as the top leaves it -/
structure Dx (K : PySem.W.Frag) (mg : Str → Option Value) (x : Str) (st : Stmt) (f : Addr) (fd : FuncData) : Prop where
  F : Fun K x x st f fd
  m : mg x = some (.ref f)
theorem dx_mk {K : PySem.W.Frag} {h : Heap} {mg : Str → Option Value} {x : Str} {st : Stmt} {f : Addr} (X : K.In h) (G : h.Ns mainGlobals mg) {od an : Option Addr} {sl : Array (Option Value)} {oc kV dc pm cd ct : Value}
    (a : PySem.W.nsIn K mainGlobals x = some (some (.ref f))) (l : K.lookup f = some ⟨oc, od, .func (PySem.W.fnOf x x (defArgs st) (defBody st) (defScope st) .none kV dc pm an cd ct), sl⟩) (c : PySem.W.codeIn K cd x = true) (k : PySem.W.keepIn K (.ref f) = true) :
    Dx K mg x st f (PySem.W.fnOf x x (defArgs st) (defBody st) (defScope st) .none kV dc pm an cd ct) := ⟨fun_mk l c k, PySem.W.mg_of X G a⟩
theorem sq_const {K : PySem.W.Frag} {H : Hp} {a : Addr} {xs : List V} {od : Option Addr} {its : Array Value} {n : Nat} {sl : Array (Option Value)} (l : K.lookup a = some ⟨.type "tuple", od, .seq its n, sl⟩) (h : its.size ≤ sizeLine) (v : Vals xs its.toList) : SqT K H a xs :=
  .inr ⟨_, its, n, l, rfl, rfl, h, v⟩
/-- an own error class and its __init__, as the top leaves them -/
structure Tx (K : PySem.W.Frag) (mg : Str → Option Value) (x qual fld : Str) (st : Stmt) (C fI : Addr) (fd : FuncData) : Prop where
  T : Er K mg C fI x fld
  xf : XfC K C
  ty : PySem.W.typeIn K (.ref C) = some (.type "type")
  F : Fun K "__init__" qual st fI fd
theorem tx_mk {K : PySem.W.Frag} {h : Heap} {mg : Str → Option Value} {x qual fld : Str} {st : Stmt} {C fI Wk : Addr} (X : K.In h) (G : h.Ns mainGlobals mg)
    {nm q : Str} {N : Addr} {bs : List Value} {sn : List Str} {sub : List Value} {ab : Bool} {col : Option Bool} {dd od an : Option Addr} {m0 m1 m2 m3 m5 : Option Value} {sl : Array (Option Value)} {oc kV dc pm cd ct : Value}
    (aC : PySem.W.nsIn K mainGlobals x = some (some (.ref C)))
    (xL : K.lookup C = some (excClassObj nm q C N bs [.ref Wk, .type "ValueError", .type "Exception", .type "BaseException", .type "object"] true sn sub ab col dd m0 m1 m2 m3 m5 "ValueError.__new__"))
    (sa : PySem.W.findIn K (.ref C) "__setattr__" = some (some (.builtin "object.__setattr__"))) (ga : PySem.W.findIn K (.ref C) "__getattribute__" = some (some (.builtin "BaseException.__getattribute__"))) (gg : PySem.W.findIn K (.ref C) "__getattr__" = some none)
    (no : PySem.W.findIn K (.ref C) fld = some none) (a1 : PySem.W.findIn K (.ref C) "__init__" = some (some (.ref fI))) (t1 : PySem.W.typeIn K (.ref fI) = some (.type "function"))
    (l1 : K.lookup fI = some ⟨oc, od, .func (PySem.W.fnOf "__init__" qual (defArgs st) (defBody st) (defScope st) .none kV dc pm an cd ct), sl⟩) (c1 : PySem.W.codeIn K cd qual = true) (k1 : PySem.W.keepIn K (.ref fI) = true)
    (kC : PySem.W.keepIn K (.ref C) = true) (eC : PySem.W.subIn K (.ref C) (.type "BaseException") = some true) (tC : PySem.W.typeIn K (.ref C) = some (.type "type")) (hC : PySem.W.hasDictIn K C = true) :
    Tx K mg x qual fld st C fI (PySem.W.fnOf "__init__" qual (defArgs st) (defBody st) (defScope st) .none kV dc pm an cd ct) where
  T := { ox := { cls := ⟨nm, q, N, bs, _, sn, sub, ab, col, dd, m0, m1, m2, m3, m5, xL, by show PySem.HandSPX.refsVE PySem.HandSPX.veTail = true; decide +kernel⟩, sa := sa, exC := eC, tyC := tC, kC := kC }, ini := a1, ty := t1, no := no, m := PySem.W.mg_of X G aC }
  xf := ⟨ga, gg, eC, hC⟩
  ty := tC
  F := fun_mk l1 c1 k1
theorem ok_sames {P : Program} {w : World} {K : PySem.W.Frag} {mg : Str → Option Value} {base : Heap} {f : Addr} {fd : FuncData} (F : Fun K "_law_same" "_law_same" sSame f fd) (bF : Binds K fd ["_law_found", "_law_due"] []) (mF : mg "_law_same" = some (.ref f)) (B : Bt mg) :
    ∀ n : Nat, FnOk P w K mg base CX0 n f fd ["_law_found", "_law_due"] (spSame K n)
  | 0 => none_left fun vs H Q E ⟨_, _, _, h, _⟩ => h
  | n + 1 => ok_same F (ok_sames F bF mF B n) bF F.kp mF B
theorem ca_of {P : Program} {w : World} {K : PySem.W.Frag} {mg : Str → Option Value} {base : Heap} {x : Str} {s : Stmt} {f : Addr} {fd : FuncData} {n : Nat} {ps : List Str} {sp : Sp} (D : Dx K mg x s f fd) (b : Binds K fd ps []) (G : FnOk P w K mg base CX0 n f fd ps sp) : Ca P w K mg base n x ps sp := ⟨f, fd, G, b, D.F.kp, D.m⟩
theorem all_mk {l : PySem.W.OpenLaw} {w : World} {K : PySem.W.Frag} {h : Heap} {mg : Str → Option Value} {fa : Addr} (X : K.In h) (G : h.Ns mainGlobals mg) (hfa : mg "law" = some (.ref fa)) (own : OwnTab K fa h)
    {fL cL P0 fRf C U fI fU BF AW KD Dk pR gR WE Rg iR f_is_whole f_frozen f_ascending f_are_axes f_check_letters f_level_letters f_use_steps f_steps_of f_ring_in f_order_or_ring f_fitting_order f__law_level_letters f__law_resolved f__law_fits f__law_merged f__law_use_built f__law_orders f__law_least_order f__law_is_ring f__law_ringed f__law_draw f__law_start f__law_pick f__law_mixed f__law_same f__law_letters f__law_form_text : Addr} {dR d_is_whole d_frozen d_ascending d_are_axes d_check_letters d_level_letters d_use_steps d_steps_of d_ring_in d_order_or_ring d_fitting_order d__law_level_letters d__law_resolved d__law_fits d__law_merged d__law_use_built d__law_orders d__law_least_order d__law_is_ring d__law_ringed d__law_draw d__law_start d__law_pick d__law_mixed d__law_same d__law_letters d__law_form_text : FuncData} {cd1 cd3 cd6 cd9 ct0 ct1 ct3 ct6 ct9 dc0 dc1 dc3 dc6 dc9 kV0 kV1 kV6 kV9 oc0 oc1 oc3 oc6 oc8 oc9 pm0 pm1 pm3 pm6 pm9 : Value} {an0 an1 an3 an6 an9 od0 od1 od3 od4 od5 od6 od8 od9 : Option Addr} {sl0 sl1 sl3 sl4 sl5 sl6 sl8 sl9 : Array (Option Value)} {vs1 its4 its5 : Array Value} {n4 n5 : Nat} {rest6 : List Value} {t3 : Tok}
    (lA : PySem.W.nsIn K mainGlobals "law" = some (some (.ref fL)))
    (lL : K.lookup fL = some ⟨oc0, od0, .func (PySem.W.fnOf "law" "law" (defArgs s_law) (defBody s_law) (defScope s_law) .none kV0 dc0 pm0 an0 (.ref cL) ct0), sl0⟩)
    (lC : PySem.W.codeIn K (.ref cL) "law" = true)
    (lK : K.lookup cL = some ⟨oc8, od8, .fields vs1, sl8⟩)
    (lV : vs1[11]? = some (.ref P0))
    (lH : PySem.W.codeHdIn K cL P0 = true)
    (lN : K.lookup P0 = none)
    (rA : PySem.W.nsIn K mainGlobals "_law_end" = some (some (.ref fRf)))
    (rL : K.lookup fRf = some ⟨oc9, od9, .func (PySem.W.fnOf "_law_end" "_law_end" (defArgs s_l_end) (defBody s_l_end) (defScope s_l_end) .none kV9 dc9 pm9 an9 cd9 ct9), sl9⟩)
    (rC : PySem.W.codeIn K cd9 "_law_end" = true)
    (rK : PySem.W.keepIn K (.ref fRf) = true)
    (aC : PySem.W.nsIn K mainGlobals "Form" = some (some (.ref C)))
    (aB : PySem.W.nsIn K mainGlobals "BadForm" = some (some (.ref BF)))
    (aM : PySem.W.nsIn K mainGlobals "MOST_LEVELS" = some (some (.int 3 t3)))
    (aA : PySem.W.nsIn K mainGlobals "AXIS_WORDS" = some (some (.ref AW)))
    (a1 : PySem.W.findIn K (.ref C) "__init__" = some (some (.ref fI)))
    (i1 : PySem.W.isFn K (.ref fI) = true)
    (l1 : K.lookup fI = some ⟨oc3, od3, .func (PySem.W.fnOf "__init__" "Form.__init__" (defArgs sInit) (defBody sInit) (defScope sInit) .none (.ref Dk) dc3 pm3 an3 cd3 ct3), sl3⟩)
    (c1 : PySem.W.codeIn K cd3 "Form.__init__" = true)
    (n1 : PySem.W.nsIn K Dk "axes" = some (some .none))
    (mk : PySem.W.makesIn K C = true)
    (kC : PySem.W.keepIn K (.ref C) = true)
    (pg : PySem.W.plainGet K C Str.empty = true)
    (hd : PySem.W.hasDictIn K C = true)
    (po : PySem.W.plainOver K C = true)
    (sa : PySem.W.findIn K (.ref C) "__setattr__" = some (some (.builtin "object.__setattr__")))
    (nK : PySem.W.findIn K (.ref C) "kinds" = some none)
    (nA : PySem.W.findIn K (.ref C) "axes" = some none)
    (r1 : PySem.W.readsIn K C (.type "type") = true)
    (r2 : PySem.W.specialIn K (.ref C) "__getattribute__" = some (some (.builtin "type.__getattribute__")))
    (kd : PySem.W.findCls K (.ref C) (.type "type") "KINDS" = some (.val (.ref KD)))
    (kl : K.lookup KD = some ⟨.type "tuple", od4, .seq its4 n4, sl4⟩)
    (kz : its4.size ≤ sizeLine)
    (kv : Vals (KINDS.map V.str) its4.toList)
    (al : K.lookup AW = some ⟨.type "tuple", od5, .seq its5 n5, sl5⟩)
    (az : its5.size ≤ sizeLine)
    (av : Vals (AWORDS.map V.str) its5.toList)
    (m1 : PySem.W.findCls K (.ref C) (.type "type") "read" = some (.get (.builtin "classmethod.__get__") (.ref pR) .none (.ref C)))
    (m2 : PySem.W.recIn K pR "classmethod" = some (.ref gR :: rest6))
    (m3 : PySem.W.fnIn K gR = true)
    (m4 : K.lookup gR = some ⟨oc6, od6, .func (PySem.W.fnOf "read" "Form.read" (defArgs sRead) (defBody sRead) (defScope sRead) .none kV6 dc6 pm6 an6 cd6 ct6), sl6⟩)
    (m5 : PySem.W.codeIn K cd6 "Form.read" = true)
    (m6 : PySem.W.keepIn K (.ref gR) = true)
    (xB : PySem.W.excIn K BF veB "ValueError.__new__" = true)
    (kB : PySem.W.keepIn K (.ref BF) = true)
    (rB : PySem.W.subIn K (.ref BF) (.type "BaseException") = some true)
    (tB : PySem.W.typeIn K (.ref BF) = some (.type "type"))
    (vA : PySem.W.nsIn K mainGlobals "Use" = some (some (.ref U)))
    (v1 : PySem.W.findIn K (.ref U) "__init__" = some (some (.ref fU)))
    (v2 : PySem.W.isFn K (.ref fU) = true)
    (v3 : K.lookup fU = some ⟨oc1, od1, .func (PySem.W.fnOf "__init__" "Use.__init__" (defArgs sUini) (defBody sUini) (defScope sUini) .none kV1 dc1 pm1 an1 cd1 ct1), sl1⟩)
    (v4 : PySem.W.codeIn K cd1 "Use.__init__" = true)
    (v5 : PySem.W.keepIn K (.ref fU) = true)
    (vmk : PySem.W.makesIn K U = true)
    (vk : PySem.W.keepIn K (.ref U) = true)
    (vpg : PySem.W.plainGet K U Str.empty = true)
    (vhd : PySem.W.hasDictIn K U = true)
    (vpo : PySem.W.plainOver K U = true)
    (vsa : PySem.W.findIn K (.ref U) "__setattr__" = some (some (.builtin "object.__setattr__")))
    (vn : PySem.W.findIn K (.ref U) "name" = some none)
    (vl : PySem.W.findIn K (.ref U) "letters" = some none)
    (vf : PySem.W.findIn K (.ref U) "form" = some none)
    (wW : PySem.W.nsIn K mainGlobals "WalkError" = some (some (.ref WE)))
    (xs : PySem.W.subIn K (.ref Rg) (.ref Rg) = some true)
    (z_isinstance : PySem.W.nsIn K mainGlobals "isinstance" = some none)
    (z_list : PySem.W.nsIn K mainGlobals "list" = some none)
    (z_tuple : PySem.W.nsIn K mainGlobals "tuple" = some none)
    (z_len : PySem.W.nsIn K mainGlobals "len" = some none)
    (z_all : PySem.W.nsIn K mainGlobals "all" = some none)
    (z_zip : PySem.W.nsIn K mainGlobals "zip" = some none)
    (z_dict : PySem.W.nsIn K mainGlobals "dict" = some none)
    (z_int : PySem.W.nsIn K mainGlobals "int" = some none)
    (z_bool : PySem.W.nsIn K mainGlobals "bool" = some none)
    (z_range : PySem.W.nsIn K mainGlobals "range" = some none)
    (z_str : PySem.W.nsIn K mainGlobals "str" = some none)
    (z_any : PySem.W.nsIn K mainGlobals "any" = some none)
    (z_sorted : PySem.W.nsIn K mainGlobals "sorted" = some none)
    (z_ValueError : PySem.W.nsIn K mainGlobals "ValueError" = some none)
    (z_enumerate : PySem.W.nsIn K mainGlobals "enumerate" = some none)
    (z_set : PySem.W.nsIn K mainGlobals "set" = some none)
    (D_is_whole : Dx K mg "is_whole" sWhole f_is_whole d_is_whole)
    (D_frozen : Dx K mg "frozen" sFrozen f_frozen d_frozen)
    (D_ascending : Dx K mg "ascending" sAsc f_ascending d_ascending)
    (D_are_axes : Dx K mg "are_axes" sAxes f_are_axes d_are_axes)
    (D_check_letters : Dx K mg "check_letters" sChkL f_check_letters d_check_letters)
    (D_level_letters : Dx K mg "level_letters" s_level_letters f_level_letters d_level_letters)
    (D_use_steps : Dx K mg "use_steps" s_use_steps f_use_steps d_use_steps)
    (D_steps_of : Dx K mg "steps_of" s_steps_of f_steps_of d_steps_of)
    (D_ring_in : Dx K mg "ring_in" s_ring_in f_ring_in d_ring_in)
    (D_order_or_ring : Dx K mg "order_or_ring" s_order_or_ring f_order_or_ring d_order_or_ring)
    (D_fitting_order : Dx K mg "fitting_order" s_fitting_order f_fitting_order d_fitting_order)
    (D__law_level_letters : Dx K mg "_law_level_letters" s_l_level_letters f__law_level_letters d__law_level_letters)
    (D__law_resolved : Dx K mg "_law_resolved" s_l_resolved f__law_resolved d__law_resolved)
    (D__law_fits : Dx K mg "_law_fits" s_l_fits f__law_fits d__law_fits)
    (D__law_merged : Dx K mg "_law_merged" s_l_merged f__law_merged d__law_merged)
    (D__law_use_built : Dx K mg "_law_use_built" s_l_use_built f__law_use_built d__law_use_built)
    (D__law_orders : Dx K mg "_law_orders" s_l_orders f__law_orders d__law_orders)
    (D__law_least_order : Dx K mg "_law_least_order" s_l_least_order f__law_least_order d__law_least_order)
    (D__law_is_ring : Dx K mg "_law_is_ring" s_l_is_ring f__law_is_ring d__law_is_ring)
    (D__law_ringed : Dx K mg "_law_ringed" s_l_ringed f__law_ringed d__law_ringed)
    (D__law_draw : Dx K mg "_law_draw" sDraw f__law_draw d__law_draw)
    (D__law_start : Dx K mg "_law_start" sStart f__law_start d__law_start)
    (D__law_pick : Dx K mg "_law_pick" sPick f__law_pick d__law_pick)
    (D__law_mixed : Dx K mg "_law_mixed" sMixed f__law_mixed d__law_mixed)
    (D__law_same : Dx K mg "_law_same" sSame f__law_same d__law_same)
    (D__law_letters : Dx K mg "_law_letters" Tt.sLet f__law_letters d__law_letters)
    (D__law_form_text : Dx K mg "_law_form_text" sFtext f__law_form_text d__law_form_text)
    (E_R : Tx K mg "Ring" "Ring.__init__" "steps" s_rg_init Rg iR dR)
    : LawAtS l w K CX0 9 63 "_law_script" mg fa h := by
  have e := hfa.symm.trans (PySem.W.mg_of X G lA)
  cases e
  have hh : PySem.W.CodeHd h cL P0 := PySem.W.codeHd_of_K X lH
  have own0 : h.get? P0 = some { cls := .none, data := .fields #[] } := own cL P0 _ _ _ _ vs1 _ lL rfl rfl lK lV
  have B : Bt mg := ⟨PySem.W.mg_none_of X G z_isinstance, PySem.W.mg_none_of X G z_list, PySem.W.mg_none_of X G z_tuple, PySem.W.mg_none_of X G z_len, PySem.W.mg_none_of X G z_all, PySem.W.mg_none_of X G z_zip, PySem.W.mg_none_of X G z_dict, PySem.W.mg_none_of X G z_int, PySem.W.mg_none_of X G z_bool, PySem.W.mg_none_of X G z_range⟩
  have S : Bs mg := ⟨PySem.W.mg_none_of X G z_str, PySem.W.mg_none_of X G z_any, PySem.W.mg_none_of X G z_sorted, PySem.W.mg_none_of X G z_ValueError⟩
  have B2 : Bx mg := ⟨PySem.W.mg_none_of X G z_sorted, PySem.W.mg_none_of X G z_enumerate, PySem.W.mg_none_of X G z_str⟩
  have T : Fm K mg C fI BF AW KD (.type "type") := { cl := ⟨pg, hd, po, sa⟩, nK := nK, nA := nA, mkC := ⟨mk, a1, i1, kC⟩, mC := PySem.W.mg_of X G aC, mB := PySem.W.mg_of X G aB, xB := xB, kB := kB, rB := rB, tB := tB, most := ⟨t3, PySem.W.mg_of X G aM⟩, cr := ⟨r1, r2⟩, kd := ⟨kd, rfl⟩, kdT := fun H => sq_const kl kz kv, mAW := PySem.W.mg_of X G aA, awT := fun H => sq_const al az av }
  have Uc : Us K U C := ⟨⟨vpg, vhd, vpo, vsa⟩, vn, vl, vf, ⟨pg, hd, po, sa⟩, nK⟩
  have Y : Uy K U C := ⟨Uc, nA⟩
  have MU : Mk K U fU := ⟨vmk, v1, v2, vk⟩
  have mU := PySem.W.mg_of X G vA
  have Fu : Fun K "__init__" "Use.__init__" sUini fU _ := fun_mk v3 v4 v5
  have bU := Fu.binds (ps := ["self", "name", "letters", "form"]) fun _ _ _ _ _ _ us hl => match us, hl with | [_, _, _, _], _ => rfl
  have Frd : Fun K "read" "Form.read" sRead gR _ := fun_mk m4 m5 m6
  have bRd := Frd.binds (ps := ["cls", "text"]) fun _ _ _ _ _ _ us hl => match us, hl with | [_, _], _ => rfl
  have FRf : Fun K "_law_end" "_law_end" s_l_end fRf _ := fun_mk rL rC rK
  have bRf := FRf.binds (ps := ["_law_deed"]) fun _ _ _ _ _ _ us hl => match us, hl with | [_], _ => rfl
  have b_R := E_R.F.binds (ps := ["self", "steps"]) fun _ _ _ _ _ _ us hl => match us, hl with | [_, _], _ => rfl
  have b_is_whole := D_is_whole.F.binds (ps := ["n"]) fun _ _ _ _ _ _ us hl => match us, hl with | [_], _ => rfl
  have b_frozen := D_frozen.F.binds (ps := ["worth"]) fun _ _ _ _ _ _ us hl => match us, hl with | [_], _ => rfl
  have b_ascending := D_ascending.F.binds (ps := ["names"]) fun _ _ _ _ _ _ us hl => match us, hl with | [_], _ => rfl
  have b_are_axes := D_are_axes.F.binds (ps := ["axes", "many"]) fun _ _ _ _ _ _ us hl => match us, hl with | [_, _], _ => rfl
  have b_check_letters := D_check_letters.F.binds (ps := ["letters"]) fun _ _ _ _ _ _ us hl => match us, hl with | [_], _ => rfl
  have b_level_letters := D_level_letters.F.binds (ps := ["use"]) fun _ _ _ _ _ _ us hl => match us, hl with | [_], _ => rfl
  have b_use_steps := D_use_steps.F.binds (ps := ["number", "use"]) fun _ _ _ _ _ _ us hl => match us, hl with | [_, _], _ => rfl
  have b_steps_of := D_steps_of.F.binds (ps := ["uses", "numbers"]) fun _ _ _ _ _ _ us hl => match us, hl with | [_, _], _ => rfl
  have b_ring_in := D_ring_in.F.binds (ps := ["steps", "letters"]) fun _ _ _ _ _ _ us hl => match us, hl with | [_, _], _ => rfl
  have b_order_or_ring := D_order_or_ring.F.binds (ps := ["steps", "letters"]) fun _ _ _ _ _ _ us hl => match us, hl with | [_, _], _ => rfl
  have b_fitting_order := D_fitting_order.F.binds (ps := ["uses", "letters"]) fun _ _ _ _ _ _ us hl => match us, hl with | [_, _], _ => rfl
  have b__law_level_letters := D__law_level_letters.F.binds (ps := ["_law_use"]) fun _ _ _ _ _ _ us hl => match us, hl with | [_], _ => rfl
  have b__law_resolved := D__law_resolved.F.binds (ps := ["_law_use", "_law_bound"]) fun _ _ _ _ _ _ us hl => match us, hl with | [_, _], _ => rfl
  have b__law_fits := D__law_fits.F.binds (ps := ["_law_use", "_law_order"]) fun _ _ _ _ _ _ us hl => match us, hl with | [_, _], _ => rfl
  have b__law_merged := D__law_merged.F.binds (ps := ["_law_lists"]) fun _ _ _ _ _ _ us hl => match us, hl with | [_], _ => rfl
  have b__law_use_built := D__law_use_built.F.binds (ps := ["_law_use"]) fun _ _ _ _ _ _ us hl => match us, hl with | [_], _ => rfl
  have b__law_orders := D__law_orders.F.binds (ps := ["_law_letters_here"]) fun _ _ _ _ _ _ us hl => match us, hl with | [_], _ => rfl
  have b__law_least_order := D__law_least_order.F.binds (ps := ["_law_uses", "_law_letters_here"]) fun _ _ _ _ _ _ us hl => match us, hl with | [_, _], _ => rfl
  have b__law_is_ring := D__law_is_ring.F.binds (ps := ["_law_steps", "_law_uses", "_law_numbers"]) fun _ _ _ _ _ _ us hl => match us, hl with | [_, _, _], _ => rfl
  have b__law_ringed := D__law_ringed.F.binds (ps := ["_law_stream", "_law_many"]) fun _ _ _ _ _ _ us hl => match us, hl with | [_, _], _ => rfl
  have b__law_draw := D__law_draw.F.binds (ps := ["_law_stream", "_law_many"]) fun _ _ _ _ _ _ us hl => match us, hl with | [_, _], _ => rfl
  have b__law_start := D__law_start.F.binds (ps := ["_law_script"]) fun _ _ _ _ _ _ us hl => match us, hl with | [_], _ => rfl
  have b__law_pick := D__law_pick.F.binds (ps := ["_law_stream", "_law_some"]) fun _ _ _ _ _ _ us hl => match us, hl with | [_, _], _ => rfl
  have b__law_mixed := D__law_mixed.F.binds (ps := ["_law_stream", "_law_some"]) fun _ _ _ _ _ _ us hl => match us, hl with | [_, _], _ => rfl
  have b__law_same := D__law_same.F.binds (ps := ["_law_found", "_law_due"]) fun _ _ _ _ _ _ us hl => match us, hl with | [_, _], _ => rfl
  have b__law_letters := D__law_letters.F.binds (ps := ["_law_stream", "_law_many"]) fun _ _ _ _ _ _ us hl => match us, hl with | [_, _], _ => rfl
  have b__law_form_text := D__law_form_text.F.binds (ps := ["_law_form"]) fun _ _ _ _ _ _ us hl => match us, hl with | [_], _ => rfl
  refine ⟨_, [(cL, P0)], spLaw K P0, fun p hp => ?_, fun p hp => ?_, fun p hp => ?_, fun s v => .of_eq (fd := PySem.W.fnOf "law" "law" (defArgs s_law) (defBody s_law) (defScope s_law) .none kV0 dc0 pm0 an0 (.ref cL) ct0) rfl, fun H a ns hl _ hT hS => ⟨a, ns, rfl, hS, hl, hT (cL, P0) (List.mem_singleton.mpr rfl), fun _ => rfl⟩, fun base _ _ hTB => ?_⟩
  · rw [List.mem_singleton.mp hp]
    exact own0
  · rw [List.mem_singleton.mp hp]
    exact lN
  · rw [List.mem_singleton.mp hp]
    exact hh
  have GD := ok_draw (P := l.prog) (w := w) (base := base) D__law_draw.F B
  have CD := ca_of D__law_draw b__law_draw GD
  have CS := ca_of D__law_start b__law_start (ok_start (P := l.prog) (w := w) (base := base) D__law_start.F B)
  have CP := ca_of D__law_pick b__law_pick (ok_pick D__law_pick.F GD b__law_draw D__law_draw.F.kp D__law_draw.m B)
  have CMi := ca_of D__law_mixed b__law_mixed (ok_mixed D__law_mixed.F GD b__law_draw D__law_draw.F.kp D__law_draw.m B)
  have CMs := ca_of D__law_mixed b__law_mixed (Tt.ok_mixed D__law_mixed.F GD b__law_draw D__law_draw.F.kp D__law_draw.m B)
  have CL := ca_of D__law_letters b__law_letters (Tt.ok_let D__law_letters.F GD b__law_draw D__law_draw.F.kp D__law_draw.m B)
  have CRg := ca_of D__law_ringed b__law_ringed (ok_l_ringed D__law_ringed.F B CL CMs CMi CP)
  have CMg := ca_of D__law_merged b__law_merged (ok_l_merged (P := l.prog) (w := w) (base := base) D__law_merged.F B B2)
  have GX := ok_ftext (P := l.prog) (w := w) (base := base) D__law_form_text.F B S
  have GW := ok_whole (P := l.prog) (w := w) (base := base) D_is_whole.F B
  have GZ := ok_frz (P := l.prog) (w := w) (base := base) D_frozen.F b_frozen D_frozen.m B
  have GZs := ok_frzS (P := l.prog) (w := w) (base := base) D_frozen.F b_frozen D_frozen.m B
  have GA := ok_axes D_are_axes.F GW b_is_whole D_is_whole.F.kp D_is_whole.m B
  have FI := ok_init (P := l.prog) (w := w) (base := base) (du := .none) l1 c1 n1 T B GZ b_frozen D_frozen.F.kp D_frozen.m GA b_are_axes D_are_axes.F.kp D_are_axes.m
  have GR := fnR_of (ok_read Frd T B FI) bRd
  have GC := ok_chkL (P := l.prog) (w := w) (base := base) D_check_letters.F B2
  have GU := ok_uini Fu Uc B GZs b_frozen D_frozen.F.kp D_frozen.m GC b_check_letters D_check_letters.F.kp D_check_letters.m
  have CUb := ca_of D__law_use_built b__law_use_built (ok_l_use_built D__law_use_built.F MU GU bU mU GX b__law_form_text D__law_form_text.F.kp D__law_form_text.m T GR ⟨m1, ⟨_, m2⟩, m3⟩)
  have CLv := ca_of D__law_level_letters b__law_level_letters (ok_l_level_letters (P := l.prog) (w := w) (mg := mg) (base := base) D__law_level_letters.F)
  have CRs := ca_of D__law_resolved b__law_resolved (ok_l_resolved D__law_resolved.F B B2 CLv)
  have CFi := ca_of D__law_fits b__law_fits (ok_l_fits D__law_fits.F B CLv CRs)
  have COr := ca_of D__law_orders b__law_orders (ok_l_orders (P := l.prog) (w := w) (base := base) D__law_orders.F B B2)
  have CLo := ca_of D__law_least_order b__law_least_order (ok_l_least_order D__law_least_order.F B COr CFi)
  have CIr := ca_of D__law_is_ring b__law_is_ring (ok_l_is_ring D__law_is_ring.F B B2 CLv)
  have CE := ca_of D__law_same b__law_same (ok_sames (P := l.prog) (w := w) (base := base) D__law_same.F b__law_same D__law_same.m B 3)
  have CPl := ca_of D_level_letters b_level_letters (ok_level_letters (P := l.prog) (w := w) (mg := mg) (base := base) D_level_letters.F Y)
  have CUs := ca_of D_use_steps b_use_steps (ok_use_steps D_use_steps.F Y B2 CPl)
  have CSo := ca_of D_steps_of b_steps_of (ok_steps_of D_steps_of.F CUs)
  have CAs := ca_of D_ascending b_ascending (ok_asc (P := l.prog) (w := w) (base := base) D_ascending.F B B2 (PySem.W.mg_none_of X G z_set))
  have CRi := ca_of D_ring_in b_ring_in (ok_ring_in (P := l.prog) (w := w) (base := base) D_ring_in.F B)
  have COo := ca_of D_order_or_ring b_order_or_ring (ok_order_or_ring D_order_or_ring.F B CAs CRi)
  have CF1 := ca_of D_frozen b_frozen (ok_frV (P := l.prog) (w := w) (base := base) D_frozen.F B)
  have CF2 := ca_of D_frozen b_frozen (ok_fr1 D_frozen.F B CF1)
  have CF3 := ca_of D_frozen b_frozen (ok_fr2 D_frozen.F B CF2)
  have GRg := ok_rg E_R.F E_R.T CF3
  have GF := ok_fitting_order D_fitting_order.F B CSo COo E_R.T GRg b_R
  have Te : En K mg Rg WE := { mR := E_R.T.m, mW := PySem.W.mg_of X G wW, xR := E_R.xf, nR := E_R.T.no, m1 := PySem.W.exm_ref E_R.xf.exC E_R.xf.hdC E_R.ty xs }
  exact ok_law lL lC B B2 Te CS CD CRg CMg CUb CLo CE CIr GF b_fitting_order D_fitting_order.F.kp D_fitting_order.m rL rC bRf rK (PySem.W.mg_of X G rA) (hTB (cL, P0) (List.mem_singleton.mpr rfl))
end Lw
open PySem PySem.W PyProof.Rows
set_option maxRecDepth 100000 in
set_option maxHeartbeats 0 in
theorem PySem.Challenge.cw_levelwalks_k62_fitting_order_holds : PySem.Challenge.rw_levelwalks_k62_fitting_order.Holds := by
  w_on; o_law; k_head; (case hw => w_witness2)
  k_fill
  refine LamX.walk_ofOwn (l := PySem.Challenge.rw_levelwalks_k62_fitting_order) (n := 63) (k := 9) (x := "_law_script") (CX := fun _ => L2.CX0) rfl (by decide) rfl ⟨rfl, by decide, by decide⟩ (by decide +kernel) (fun w h Y => PySem.W.km_in_of Y) ?F (fun _ _ _ _ _ z => z)
  case F =>
    intro w mg fa h Y KX G hmg own
    refine' Lw.all_mk KX G hmg own ?lA ?lL ?lC ?lK ?lV ?lH ?lN ?rA ?rL ?rC ?rK ?aC ?aB ?aM ?aA ?a1 ?i1 ?l1 ?c1 ?n1 ?mk ?kC ?pg ?hd ?po ?sa ?nK ?nA ?r1 ?r2 ?kd ?kl ?kz ?kv ?al ?az ?av ?m1 ?m2 ?m3 ?m4 ?m5 ?m6 ?xB ?kB ?rB ?tB ?vA ?v1 ?v2 ?v3 ?v4 ?v5 ?vmk ?vk ?vpg ?vhd ?vpo ?vsa ?vn ?vl ?vf ?wW ?xs ?z_isinstance ?z_list ?z_tuple ?z_len ?z_all ?z_zip ?z_dict ?z_int ?z_bool ?z_range ?z_str ?z_any ?z_sorted ?z_ValueError ?z_enumerate ?z_set ?D_is_whole ?D_frozen ?D_ascending ?D_are_axes ?D_check_letters ?D_level_letters ?D_use_steps ?D_steps_of ?D_ring_in ?D_order_or_ring ?D_fitting_order ?D__law_level_letters ?D__law_resolved ?D__law_fits ?D__law_merged ?D__law_use_built ?D__law_orders ?D__law_least_order ?D__law_is_ring ?D__law_ringed ?D__law_draw ?D__law_start ?D__law_pick ?D__law_mixed ?D__law_same ?D__law_letters ?D__law_form_text ?E_R
    (case E_R => (refine' Lw.tx_mk KX G ?yaC ?yxL ?ysa ?yga ?ygg ?yno ?ya1 ?yt1 ?yl1 ?yc1 ?yk1 ?ykC ?yeC ?ytC ?yhC; (case yaC => k_is); (case yxL => k_is); (case ysa => k_is); (case yga => k_is); (case ygg => k_is); (case yno => k_is); (case ya1 => k_is); (case yt1 => k_is); (case yl1 => k_is); (case yc1 => k_is); (case yk1 => k_is); (case ykC => k_is); (case yeC => k_is); (case ytC => k_is); (case yhC => k_is)))
    (case lA => k_is)
    (case lL => k_is)
    (case lC => k_is)
    (case lK => k_is)
    (case lV => rfl)
    (case lH => rfl)
    (case lN => rfl)
    (case rA => k_is)
    (case rL => k_is)
    (case rC => k_is)
    (case rK => k_is)
    (case aC => k_is)
    (case aB => k_is)
    (case aM => k_is)
    (case aA => k_is)
    (case a1 => k_is)
    (case i1 => k_is)
    (case l1 => k_is)
    (case c1 => k_is)
    (case n1 => k_is)
    (case mk => k_is)
    (case kC => k_is)
    (case pg => k_is)
    (case hd => k_is)
    (case po => k_is)
    (case sa => k_is)
    (case nK => k_is)
    (case nA => k_is)
    (case r1 => k_is)
    (case r2 => k_is)
    (case kd => k_is)
    (case kl => k_is)
    (case kz => decide)
    (case kv => exact .cons ⟨_, rfl⟩ (.cons ⟨_, rfl⟩ (.cons ⟨_, rfl⟩ (.cons ⟨_, rfl⟩ (.nil)))))
    (case al => k_is)
    (case az => decide)
    (case av => exact .cons ⟨_, rfl⟩ (.cons ⟨_, rfl⟩ (.cons ⟨_, rfl⟩ (.nil))))
    (case m1 => k_is)
    (case m2 => k_is)
    (case m3 => k_is)
    (case m4 => k_is)
    (case m5 => k_is)
    (case m6 => k_is)
    (case xB => k_exc)
    (case kB => k_is)
    (case rB => k_is)
    (case tB => k_is)
    (case vA => k_is)
    (case v1 => k_is)
    (case v2 => k_is)
    (case v3 => k_is)
    (case v4 => k_is)
    (case v5 => k_is)
    (case vmk => k_is)
    (case vk => k_is)
    (case vpg => k_is)
    (case vhd => k_is)
    (case vpo => k_is)
    (case vsa => k_is)
    (case vn => k_is)
    (case vl => k_is)
    (case vf => k_is)
    (case wW => k_is)
    (case xs => first | rfl | k_is)
    (case z_isinstance => k_is)
    (case z_list => k_is)
    (case z_tuple => k_is)
    (case z_len => k_is)
    (case z_all => k_is)
    (case z_zip => k_is)
    (case z_dict => k_is)
    (case z_int => k_is)
    (case z_bool => k_is)
    (case z_range => k_is)
    (case z_str => k_is)
    (case z_any => k_is)
    (case z_sorted => k_is)
    (case z_ValueError => k_is)
    (case z_enumerate => k_is)
    (case z_set => k_is)
    (case D_is_whole => (refine' Lw.dx_mk KX G ?a ?l ?c ?k; (case a => k_is); (case l => k_is); (case c => k_is); (case k => k_is)))
    (case D_frozen => (refine' Lw.dx_mk KX G ?a ?l ?c ?k; (case a => k_is); (case l => k_is); (case c => k_is); (case k => k_is)))
    (case D_ascending => (refine' Lw.dx_mk KX G ?a ?l ?c ?k; (case a => k_is); (case l => k_is); (case c => k_is); (case k => k_is)))
    (case D_are_axes => (refine' Lw.dx_mk KX G ?a ?l ?c ?k; (case a => k_is); (case l => k_is); (case c => k_is); (case k => k_is)))
    (case D_check_letters => (refine' Lw.dx_mk KX G ?a ?l ?c ?k; (case a => k_is); (case l => k_is); (case c => k_is); (case k => k_is)))
    (case D_level_letters => (refine' Lw.dx_mk KX G ?a ?l ?c ?k; (case a => k_is); (case l => k_is); (case c => k_is); (case k => k_is)))
    (case D_use_steps => (refine' Lw.dx_mk KX G ?a ?l ?c ?k; (case a => k_is); (case l => k_is); (case c => k_is); (case k => k_is)))
    (case D_steps_of => (refine' Lw.dx_mk KX G ?a ?l ?c ?k; (case a => k_is); (case l => k_is); (case c => k_is); (case k => k_is)))
    (case D_ring_in => (refine' Lw.dx_mk KX G ?a ?l ?c ?k; (case a => k_is); (case l => k_is); (case c => k_is); (case k => k_is)))
    (case D_order_or_ring => (refine' Lw.dx_mk KX G ?a ?l ?c ?k; (case a => k_is); (case l => k_is); (case c => k_is); (case k => k_is)))
    (case D_fitting_order => (refine' Lw.dx_mk KX G ?a ?l ?c ?k; (case a => k_is); (case l => k_is); (case c => k_is); (case k => k_is)))
    (case D__law_level_letters => (refine' Lw.dx_mk KX G ?a ?l ?c ?k; (case a => k_is); (case l => k_is); (case c => k_is); (case k => k_is)))
    (case D__law_resolved => (refine' Lw.dx_mk KX G ?a ?l ?c ?k; (case a => k_is); (case l => k_is); (case c => k_is); (case k => k_is)))
    (case D__law_fits => (refine' Lw.dx_mk KX G ?a ?l ?c ?k; (case a => k_is); (case l => k_is); (case c => k_is); (case k => k_is)))
    (case D__law_merged => (refine' Lw.dx_mk KX G ?a ?l ?c ?k; (case a => k_is); (case l => k_is); (case c => k_is); (case k => k_is)))
    (case D__law_use_built => (refine' Lw.dx_mk KX G ?a ?l ?c ?k; (case a => k_is); (case l => k_is); (case c => k_is); (case k => k_is)))
    (case D__law_orders => (refine' Lw.dx_mk KX G ?a ?l ?c ?k; (case a => k_is); (case l => k_is); (case c => k_is); (case k => k_is)))
    (case D__law_least_order => (refine' Lw.dx_mk KX G ?a ?l ?c ?k; (case a => k_is); (case l => k_is); (case c => k_is); (case k => k_is)))
    (case D__law_is_ring => (refine' Lw.dx_mk KX G ?a ?l ?c ?k; (case a => k_is); (case l => k_is); (case c => k_is); (case k => k_is)))
    (case D__law_ringed => (refine' Lw.dx_mk KX G ?a ?l ?c ?k; (case a => k_is); (case l => k_is); (case c => k_is); (case k => k_is)))
    (case D__law_draw => (refine' Lw.dx_mk KX G ?a ?l ?c ?k; (case a => k_is); (case l => k_is); (case c => k_is); (case k => k_is)))
    (case D__law_start => (refine' Lw.dx_mk KX G ?a ?l ?c ?k; (case a => k_is); (case l => k_is); (case c => k_is); (case k => k_is)))
    (case D__law_pick => (refine' Lw.dx_mk KX G ?a ?l ?c ?k; (case a => k_is); (case l => k_is); (case c => k_is); (case k => k_is)))
    (case D__law_mixed => (refine' Lw.dx_mk KX G ?a ?l ?c ?k; (case a => k_is); (case l => k_is); (case c => k_is); (case k => k_is)))
    (case D__law_same => (refine' Lw.dx_mk KX G ?a ?l ?c ?k; (case a => k_is); (case l => k_is); (case c => k_is); (case k => k_is)))
    (case D__law_letters => (refine' Lw.dx_mk KX G ?a ?l ?c ?k; (case a => k_is); (case l => k_is); (case c => k_is); (case k => k_is)))
    (case D__law_form_text => (refine' Lw.dx_mk KX G ?a ?l ?c ?k; (case a => k_is); (case l => k_is); (case c => k_is); (case k => k_is)))
