import PyProof.Rows.All
import Wide.All
import OpenK.AllK
import Wide.FinOn
import HandS.ForExc
import HandS.ForMost
import HandS.Wide
import HandS.IsInst
import HandS.Walk
import HandS.Zip
import HandS.Style
import HandS.Codes
import HandS.Conv
import HandS.FStr
import HandS.Property
import HandS.ClsMeth
import HandS.Text
import HandS.Strs
import HandS.SortKw
import HandS.RaiseMore
import HandS.ExcIs
import HandS.TryMany
import HandS.Lambda
import HandS.EndTab
import HandS.EndBits
import HandS.TupAny
import HandS.Star
import HandS.MakeKw
import HandS.MakeKwOnly
import HandS.ReCall
import HandS.Zip0
import HandS.Iter
import HandS.SlotsOwn
import KE.KOpsOwn
import KE.DataCmp
import KE.KDictList
import PyProof.StrWalks
import HandS.SetTxt0
import HandS.Set
import HandS.SetFor
import KE.GoesZip
import KE.GoesMore
import HandS.DictComp
import HandS.WordsDict
import HandS.EndOwn
import KE.KNestM
import PySem.Challenge.RW_levelwalks_k64_whole_fewest_turned
set_option Elab.async false
set_option linter.all false
set_option maxRecDepth 100000
set_option maxHeartbeats 8000000
namespace Lw
open PySem L2
def topS (i : Nat) : Stmt := PySem.Challenge.pw_levelwalks_k64_whole_fewest_turned.main.body.getD i (.Pass ⟨0, 0, 0, 0⟩)
theorem seqT {K : PySem.W.Frag} {H H' : Hp} (g : Same H H') {a : Addr} {xs : List V} (h : SqT K H a xs) : SqT K H' a xs := by
  rcases h with (h | ⟨o, h⟩) | h
  · exact .inl (.inl (g _ _ h))
  · exact .inl (.inr ⟨o, g _ _ h⟩)
  · exact .inr h
theorem tyT {K : PySem.W.Frag} {H : Hp} {a : Addr} {xs : List V} (h : SqT K H a xs) : TyX K H (.ref a) (.type "tuple") := by
  rcases h with (h | ⟨o, h⟩) | ⟨o, its, n, h, c, _⟩
  · exact .base (.tup h)
  · exact .fTuple h
  · exact .kTuple h c
theorem tyL {K : PySem.W.Frag} {H : Hp} {a : Addr} {xs : List V} (h : SqL K H a xs) : TyX K H (.ref a) (.type "list") := by
  rcases h with (h | ⟨o, h⟩) | ⟨o, its, n, h, c, _⟩
  · exact .base (.lst h)
  · exact .base (.frz h)
  · exact .kList h c
/-! two values that show the same data: ints, texts, truth values, tuples and lists of such; at most n deep -/
def Sm (K : PySem.W.Frag) (H : Hp) : Nat → V → V → Prop
  | 0, _, _ => False
  | n + 1, v, w => (∃ i : Int, v = .int i ∧ w = .int i) ∨ (∃ s : Str, v = .str s ∧ w = .str s) ∨ (∃ b : Bool, v = .bl b ∧ w = .bl b) ∨
    (∃ (a b : Addr) (xs ys : List V), v = .ref a ∧ w = .ref b ∧ SqT K H a xs ∧ SqT K H b ys ∧ xs.length = ys.length ∧ xs.length ≤ 1000 ∧ ∀ (i : Nat) (x y : V), xs[i]? = some x → ys[i]? = some y → Sm K H n x y) ∨
    (∃ (a b : Addr) (xs ys : List V), v = .ref a ∧ w = .ref b ∧ H a = some (.lst xs) ∧ H b = some (.lst ys) ∧ xs.length = ys.length ∧ xs.length ≤ 1000 ∧ ∀ (i : Nat) (x y : V), xs[i]? = some x → ys[i]? = some y → Sm K H n x y)
theorem Sm.mono {K : PySem.W.Frag} {H H' : Hp} (g : Same H H') : ∀ {n : Nat} {v w : V}, Sm K H n v w → Sm K H' n v w
  | 0, _, _, h => h
  | n + 1, v, w, h => by
    rcases h with h | h | h | ⟨a, b, xs, ys, e1, e2, h1, h2, h3, h4, h5⟩ | ⟨a, b, xs, ys, e1, e2, h1, h2, h3, h4, h5⟩
    · exact .inl h
    · exact .inr (.inl h)
    · exact .inr (.inr (.inl h))
    · exact .inr (.inr (.inr (.inl ⟨a, b, xs, ys, e1, e2, seqT g h1, seqT g h2, h3, h4, fun i x y p q => Sm.mono g (h5 i x y p q)⟩)))
    · exact .inr (.inr (.inr (.inr ⟨a, b, xs, ys, e1, e2, g _ _ h1, g _ _ h2, h3, h4, fun i x y p q => Sm.mono g (h5 i x y p q)⟩)))
theorem Sm.int {K : PySem.W.Frag} {H : Hp} {n : Nat} (i : Int) : Sm K H (n + 1) (.int i) (.int i) := .inl ⟨i, rfl, rfl⟩
theorem Sm.str {K : PySem.W.Frag} {H : Hp} {n : Nat} (z : Str) : Sm K H (n + 1) (.str z) (.str z) := .inr (.inl ⟨z, rfl, rfl⟩)
theorem Sm.bl {K : PySem.W.Frag} {H : Hp} {n : Nat} (b : Bool) : Sm K H (n + 1) (.bl b) (.bl b) := .inr (.inr (.inl ⟨b, rfl, rfl⟩))
/-- place by place -/
def SmAll (K : PySem.W.Frag) (H : Hp) (n : Nat) (xs ys : List V) : Prop := xs.length = ys.length ∧ ∀ (i : Nat) (x y : V), xs[i]? = some x → ys[i]? = some y → Sm K H n x y
theorem SmAll.nil {K : PySem.W.Frag} {H : Hp} {n : Nat} : SmAll K H n [] [] := ⟨rfl, fun i x y e => by cases e⟩
theorem SmAll.cons {K : PySem.W.Frag} {H : Hp} {n : Nat} {x y : V} {xs ys : List V} (h : Sm K H n x y) (t : SmAll K H n xs ys) : SmAll K H n (x :: xs) (y :: ys) :=
  ⟨congrArg Nat.succ t.1, fun i a b e1 e2 => by
    cases i with
    | zero => cases e1; cases e2; exact h
    | succ i => exact t.2 i a b e1 e2⟩
theorem Sm.tup {K : PySem.W.Frag} {H : Hp} {n : Nat} {a b : Addr} {xs ys : List V} (h1 : SqT K H a xs) (h2 : SqT K H b ys) (hl : xs.length ≤ 1000) (t : SmAll K H n xs ys) : Sm K H (n + 1) (.ref a) (.ref b) :=
  .inr (.inr (.inr (.inl ⟨a, b, xs, ys, rfl, rfl, h1, h2, t.1, hl, t.2⟩)))
theorem Sm.lst {K : PySem.W.Frag} {H : Hp} {n : Nat} {a b : Addr} {xs ys : List V} (h1 : H a = some (.lst xs)) (h2 : H b = some (.lst ys)) (hl : xs.length ≤ 1000) (t : SmAll K H n xs ys) : Sm K H (n + 1) (.ref a) (.ref b) :=
  .inr (.inr (.inr (.inr ⟨a, b, xs, ys, rfl, rfl, h1, h2, t.1, hl, t.2⟩)))
def TK (K : PySem.W.Frag) (H H' : Hp) : Prop := ∀ (b : Addr) (xs : List V), SqT K H b xs → SqT K H' b xs
theorem TK.of {K : PySem.W.Frag} {H H' : Hp} (g : Same H H') : TK K H H' := fun b xs h => seqT g h
theorem TK.trans {K : PySem.W.Frag} {H H1 H2 : Hp} (g : TK K H H1) (g' : TK K H1 H2) : TK K H H2 := fun b xs h => g' b xs (g b xs h)
theorem TK.but {K : PySem.W.Frag} {H H' : Hp} (h : ∀ (b : Addr) (o : HO), (∀ xs, o ≠ .lst xs) → H b = some o → H' b = some o) : TK K H H' := fun b xs q => by
  rcases q with (q | ⟨o, q⟩) | q
  · exact .inl (.inl (h _ _ (by intro z e; cases e) q))
  · exact .inl (.inr ⟨o, h _ _ (by intro z e; cases e) q⟩)
  · exact .inr q
theorem TK.lst {K : PySem.W.Frag} {H : Hp} {D : Addr} {xs ys : List V} (h : H D = some (.lst xs)) : TK K H (upd H D (.lst ys)) := .but fun b o no q => by
  rw [upd_ne (fun e => by rw [e, h] at q; exact no _ (Option.some.inj q).symm)]
  exact q
theorem same_new {H : Hp} {p : Addr} (h : H p = none) (o : HO) : Same H (upd H p o) := fun b u q => by rw [upd_ne (ne_of_none q h)]; exact q
theorem same_over {H H' : Hp} {p : Addr} (g : Same H H') (h : H p = none) (o : HO) : Same H (upd H' p o) := fun b u q => by rw [upd_ne (ne_of_none q h)]; exact g _ _ q
/-- a comprehension's turn without a test -/
theorem kept {te : TE} {σ : St} {H : Hp} {R : V → Hp → Prop} {S : Hp → Prop} (h : te σ H R) : tYes σ H fun b H3 => if b = true then te σ H3 R else S H3 := iteT (A := te σ H R) (B := S H) h
/-- the built-in names that the program's text does not make its own -/
structure Bt (mg : Str → Option Value) : Prop where
  isi : mg "isinstance" = none
  lst : mg "list" = none
  tup : mg "tuple" = none
  len : mg "len" = none
  all : mg "all" = none
  zip : mg "zip" = none
  dict : mg "dict" = none
  int : mg "int" = none
  bool : mg "bool" = none
  range : mg "range" = none
section
variable {P : Program} {w : World} {K : PySem.W.Frag} {mg : Str → Option Value} {base : Heap} {f : Addr} {fd : FuncData}
theorem none_left {sp : Sp} {ps : List Str} {CX : CXT} (no : ∀ vs H Q E, ¬ sp vs H Q E) : FnOk P w K mg base CX 0 f fd ps sp :=
  ⟨fun vs H Q E h => absurd h (no vs H Q E), fun A outer s H args us vs Q E _ _ _ _ h => absurd h (no vs H Q E)⟩
theorem is_seq {K : PySem.W.Frag} {t : String} {b : Bool} (h1 : kitB t "list" = some false) (h2 : kitB t "tuple" = some b) : PySem.W.kitAny K (.type t) [.type "list", .type "tuple"] = some b :=
  kitAny_cons (kit_ty h1) (fun _ => kitAny_cons (kit_ty h2) (fun e => by rw [e]; exact kitAny_nil) (fun e => e)) (fun e => by cases e)
abbrev sSame : Stmt := topS 39
/-! zip of two tuples, as a walk -/
theorem walk_zipT {K : PySem.W.Frag} {a b : Addr} {xs ys : List V} (e : xs.length = ys.length) : Walk (RZ.ItzT K a b) xs.length (fun H => SqT K H a xs ∧ SqT K H b ys) (YPair (fun i => xs[i]?) (fun i => ys[i]?)) :=
  ⟨fun i _ hi q => ⟨xs, ys, xs[i], ys[i]'(by omega), q.1, q.2, List.getElem?_eq_getElem hi, List.getElem?_eq_getElem (by omega)⟩, fun _ q => ⟨xs, ys, q.1, q.2, .inl (Nat.le_refl _)⟩,
    fun i H v H' _ q ⟨T, x, y, h1, h2, h3, h4, h5⟩ => ⟨T, x, y, h1, h2, h3, h4 xs q.1, h5 ys q.2⟩⟩
def spSame (K : PySem.W.Frag) (n : Nat) : Sp := fun vs H Q _ => ∃ v u : V, vs = [v, u] ∧ Sm K H n v u ∧ ∀ H' : Hp, Same H H' → Q (.bl true) H'
abbrev namesS : List Str := ["_law_found", "_law_due_here", "_law_one", "_law_other"]
theorem scS : FnScope namesS ["_law_found", "_law_due_here"] (defScope sSame) := ⟨rfl, rfl, rfl, by decide +kernel, rfl, by decide +kernel, by decide +kernel⟩
theorem is_four {K : PySem.W.Frag} {t : String} (h1 : kitB t "int" = some false) (h2 : kitB t "list" = some false) (h3 : kitB t "tuple" = some false) (h4 : kitB t "dict" = some false) :
    PySem.W.kitAny K (.type t) [.type "int", .type "list", .type "tuple", .type "dict"] = some false :=
  kitAny_cons (kit_ty h1) (fun _ => kitAny_cons (kit_ty h2) (fun _ => kitAny_cons (kit_ty h3) (fun _ => kitAny_cons (kit_ty h4) (fun _ => kitAny_nil) (fun e => by cases e)) (fun e => by cases e)) (fun e => by cases e)) (fun e => by cases e)
theorem is_seqL {K : PySem.W.Frag} : PySem.W.kitAny K (.type "list") [.type "list", .type "tuple"] = some true :=
  kitAny_cons (kit_ty (r := true) (by decide +kernel)) (fun e => by cases e) (fun _ => rfl)
theorem iteC {c : Bool} {A B : Prop} (hc : c = true) (h : A) : if c = true then A else B := by
  rw [if_pos hc]
  exact h
theorem iteN {c : Bool} {A B : Prop} (hc : c = false) (h : B) : if c = true then A else B := by
  rw [if_neg (by rw [hc]; decide)]
  exact h
theorem all_true {n : Nat} : (List.replicate n true).all id = true := by
  rw [List.all_eq_true]
  intro x hx
  rw [(List.mem_replicate.mp hx).2]
  rfl
/-- the list of answers so far -/
def InvS (H0 : Hp) (D : Addr) (i : Nat) (H : Hp) : Prop := H D = some (.lst (List.replicate i (.bl true))) ∧ Same H0 H
theorem ok_same {n : Nat} (F : Fun K "_law_same" "_law_same" sSame f fd) (G : FnOk P w K mg base CX0 n f fd ["_law_found", "_law_due_here"] (spSame K n)) (bF : Binds K fd ["_law_found", "_law_due_here"] []) (kF : PySem.W.keepIn K (.ref f) = true) (mF : mg "_law_same" = some (.ref f)) (B : Bt mg) :
    FnOk P w K mg base CX0 (n + 1) f fd ["_law_found", "_law_due_here"] (spSame K (n + 1)) := by
  refine F.ok scS (fun vs H Q E h => ?_) (fun cdv A outer s H vs Q E hr h => ?_)
  · obtain ⟨v, u, rfl, _⟩ := h
    rfl
  obtain ⟨v, u, rfl, hA, q⟩ := h
  refine ⟨_, pss_cons (ps_if (pt_val (pe_callB call_isiT (by rfl) B.isi (by decide +kernel) (pa_cons (pv 1) (pa_cons (pe_tup (pa_cons (pe_bltn (v := .ty "list") (by rfl) B.lst (by decide +kernel) rfl) (pa_cons (pe_bltn (v := .ty "tuple") (by rfl) B.tup (by decide +kernel) rfl) pa_nil))) pa_nil))))
      (pss_cons (ps_if (PW.pt (pw_or (pt_cmpR op_ne (pe_callB call_isi (by rfl) B.isi (by decide +kernel) (pa_cons (pv 0) (pa_cons (pe_bltn (v := .ty "list") (by rfl) B.lst (by decide +kernel) rfl) pa_nil))) (pe_callB call_isi (by rfl) B.isi (by decide +kernel) (pa_cons (pv 1) (pa_cons (pe_bltn (v := .ty "list") (by rfl) B.lst (by decide +kernel) rfl) pa_nil))) (nomark _)) (pw_or1 (pt_cmpR op_ne (pe_callB call_isi (by rfl) B.isi (by decide +kernel) (pa_cons (pv 0) (pa_cons (pe_bltn (v := .ty "tuple") (by rfl) B.tup (by decide +kernel) rfl) pa_nil))) (pe_callB call_isi (by rfl) B.isi (by decide +kernel) (pa_cons (pv 1) (pa_cons (pe_bltn (v := .ty "tuple") (by rfl) B.tup (by decide +kernel) rfl) pa_nil))) (nomark _))))) (pss_one (ps_ret pe_bl)) pss_nil)
        (pss_one (ps_ret (pe_and (pe_cmpR op_eq (pe_callB call_len_seq (by rfl) B.len PySem.boot_len (pa_cons (pv 0) pa_nil)) (pe_callB call_len_seq (by rfl) B.len PySem.boot_len (pa_cons (pv 1) pa_nil)) (nomark _)) (pe_one (pe_callB (cr_all rfl) (by rfl) B.all (by decide +kernel) (pa_cons
          (pe_lc (own := [("_law_one", 2), ("_law_other", 3)]) (g := gTup K 2 (gCons (gName 2) (gCons (gName 3) gNil))) (tt := tYes) rfl scS.nd (RZ.pi_zipA (by rfl) B.zip (pa_cons (pv 0) (pa_cons (pv 1) pa_nil))) (blkOk_by (N := namesS) (sc := defScope sSame) (by decide +kernel))
            (fun _ _ _ _ _ => pg_tup rfl (pgs_cons (pg_name (i := 2) scS.nd rfl (Or.inl rfl)) (pgs_cons (pg_name (i := 3) scS.nd rfl (Or.inl rfl)) pgs_nil))) (fun _ _ _ _ _ => pts_nil)
            (fun _ _ _ _ _ => pe_call G hr rfl mF kF bF .nil pass0 (pa_cons (pv 2) (pa_cons (pv 3) pa_nil)))) pa_nil))))))) pss_nil)
    (pss_cons (ps_if (pt_val (pe_callB call_isi (by rfl) B.isi (by decide +kernel) (pa_cons (pv 1) (pa_cons (pe_bltn (v := .ty "dict") (by rfl) B.dict (by decide +kernel) rfl) pa_nil)))) (pss_cons ps_never (pss_one ps_never)) pss_nil)
    (pss_cons (ps_if (pt_val (pe_callB call_isi (by rfl) B.isi (by decide +kernel) (pa_cons (pv 1) (pa_cons (pe_bltn (v := .ty "int") (by rfl) B.int (by decide +kernel) rfl) pa_nil)))) (pss_one (ps_ret (pe_and (pe_callB call_isi (by rfl) B.isi (by decide +kernel) (pa_cons (pv 0) (pa_cons (pe_bltn (v := .ty "int") (by rfl) B.int (by decide +kernel) rfl) pa_nil))) (pe_and (pe_cmpR op_eq (pe_callB call_isi (by rfl) B.isi (by decide +kernel) (pa_cons (pv 0) (pa_cons (pe_bltn (v := .ty "bool") (by rfl) B.bool (by decide +kernel) rfl) pa_nil))) (pe_callB call_isi (by rfl) B.isi (by decide +kernel) (pa_cons (pv 1) (pa_cons (pe_bltn (v := .ty "bool") (by rfl) B.bool (by decide +kernel) rfl) pa_nil))) (nomark _)) (pe_one (pe_cmpR op_eq (pv 0) (pv 1) (nomark _))))))) pss_nil)
    (pss_one (ps_ret (pe_and (pe_cmpR op_eq (pv 0) (pv 1) (nomark _)) (pe_one (pe_cmpR op_isBl (pe_callB call_isiT (by rfl) B.isi (by decide +kernel) (pa_cons (pv 0) (pa_cons (pe_tup (pa_cons (pe_bltn (v := .ty "int") (by rfl) B.int (by decide +kernel) rfl) (pa_cons (pe_bltn (v := .ty "list") (by rfl) B.lst (by decide +kernel) rfl) (pa_cons (pe_bltn (v := .ty "tuple") (by rfl) B.tup (by decide +kernel) rfl) (pa_cons (pe_bltn (v := .ty "dict") (by rfl) B.dict (by decide +kernel) rfl) pa_nil))))) pa_nil))) pe_bl (nomark _)))))))), ?_⟩
  refine ⟨_, rfl, (by show 2 ≤ sizeLine; decide), fun t ht => ?_⟩
  have g1 : Same H (upd H t (.tup [.ty "list", .ty "tuple"])) := same_new ht _
  rcases hA with ⟨i, rfl, rfl⟩ | ⟨z, rfl, rfl⟩ | ⟨bb, rfl, rfl⟩ | ⟨a, b, xs, ys, rfl, rfl, h1, h2, h3, h4, h5⟩ | ⟨a, b, xs, ys, rfl, rfl, h1, h2, h3, h4, h5⟩
  · refine ⟨_, t, _, .type "int", [.type "list", .type "tuple"], false, rfl, upd_same, .cons (.ty _) (.cons (.ty _) .nil), .base (.int i), is_seq (by decide +kernel) (by decide +kernel), _, rfl, ?_⟩
    refine iteF ?_
    refine ⟨_, rfl, _, _, .type "int", .type "dict", false, rfl, .ty _, .base (.int i), kit_ty (by decide +kernel), _, rfl, ?_⟩
    refine iteF ?_
    refine ⟨_, rfl, _, _, .type "int", .type "int", true, rfl, .ty _, .base (.int i), kit_ty (by decide +kernel), _, rfl, ?_⟩
    refine iteT ?_
    refine ⟨_, rfl, _, _, .type "int", .type "int", true, rfl, .ty _, .base (.int i), kit_ty (by decide +kernel), _, rfl, ?_⟩
    refine iteT ?_
    refine ⟨_, rfl, _, _, .type "int", .type "bool", false, rfl, .ty _, .base (.int i), kit_ty (by decide +kernel), ?_⟩
    refine ⟨_, rfl, _, _, .type "int", .type "bool", false, rfl, .ty _, .base (.int i), kit_ty (by decide +kernel), ?_⟩
    refine ⟨rfl, _, rfl, iteC (decide_eq_true rfl) ?_⟩
    refine ⟨_, rfl, _, rfl, rfl, ?_⟩
    show Q (.bl (decide (V.int i = V.int i))) _
    rw [decide_eq_true rfl]
    exact q _ g1
  · refine ⟨_, t, _, .type "str", [.type "list", .type "tuple"], false, rfl, upd_same, .cons (.ty _) (.cons (.ty _) .nil), .base (.str z), is_seq (by decide +kernel) (by decide +kernel), _, rfl, ?_⟩
    refine iteF ?_
    refine ⟨_, rfl, _, _, .type "str", .type "dict", false, rfl, .ty _, .base (.str z), kit_ty (by decide +kernel), _, rfl, ?_⟩
    refine iteF ?_
    refine ⟨_, rfl, _, _, .type "str", .type "int", false, rfl, .ty _, .base (.str z), kit_ty (by decide +kernel), _, rfl, ?_⟩
    refine iteF ?_
    refine ⟨_, rfl, _, rfl, rfl, _, rfl, iteC (decide_eq_true rfl) ?_⟩
    refine ⟨_, rfl, (by show 4 ≤ sizeLine; decide), fun t2 ht2 => ?_⟩
    refine ⟨_, t2, _, .type "str", [.type "int", .type "list", .type "tuple", .type "dict"], false, rfl, upd_same, .cons (.ty _) (.cons (.ty _) (.cons (.ty _) (.cons (.ty _) .nil))), .base (.str z), is_four (by decide +kernel) (by decide +kernel) (by decide +kernel) (by decide +kernel), _, _, rfl, rfl, ?_⟩
    exact q _ (g1.trans (same_new ht2 _))
  · refine ⟨_, t, _, .type "bool", [.type "list", .type "tuple"], false, rfl, upd_same, .cons (.ty _) (.cons (.ty _) .nil), .base (.bl bb), is_seq (by decide +kernel) (by decide +kernel), _, rfl, ?_⟩
    refine iteF ?_
    refine ⟨_, rfl, _, _, .type "bool", .type "dict", false, rfl, .ty _, .base (.bl bb), kit_ty (by decide +kernel), _, rfl, ?_⟩
    refine iteF ?_
    refine ⟨_, rfl, _, _, .type "bool", .type "int", true, rfl, .ty _, .base (.bl bb), kit_ty (by decide +kernel), _, rfl, ?_⟩
    refine iteT ?_
    refine ⟨_, rfl, _, _, .type "bool", .type "int", true, rfl, .ty _, .base (.bl bb), kit_ty (by decide +kernel), _, rfl, ?_⟩
    refine iteT ?_
    refine ⟨_, rfl, _, _, .type "bool", .type "bool", true, rfl, .ty _, .base (.bl bb), kit_ty (by decide +kernel), ?_⟩
    refine ⟨_, rfl, _, _, .type "bool", .type "bool", true, rfl, .ty _, .base (.bl bb), kit_ty (by decide +kernel), ?_⟩
    refine ⟨rfl, _, rfl, iteC (decide_eq_true rfl) ?_⟩
    refine ⟨_, rfl, _, rfl, rfl, ?_⟩
    show Q (.bl (decide (V.bl bb = V.bl bb))) _
    rw [decide_eq_true rfl]
    exact q _ g1
  · refine ⟨_, t, _, .type "tuple", [.type "list", .type "tuple"], true, rfl, upd_same, .cons (.ty _) (.cons (.ty _) .nil), tyT (seqT g1 h2), is_seq (by decide +kernel) (by decide +kernel), _, rfl, ?_⟩
    refine iteT ?_
    have ka := seqT g1 h1
    have kb := seqT g1 h2
    refine ⟨_, rfl, _, _, .type "tuple", .type "list", false, rfl, .ty _, tyT ka, kit_ty (by decide +kernel), _, rfl, _, _, .type "tuple", .type "list", false, rfl, .ty _, tyT kb, kit_ty (by decide +kernel), rfl, _, rfl, ?_⟩
    refine iteN rfl ?_
    refine ⟨_, rfl, _, _, .type "tuple", .type "tuple", true, rfl, .ty _, tyT ka, kit_ty (by decide +kernel), _, rfl, _, _, .type "tuple", .type "tuple", true, rfl, .ty _, tyT kb, kit_ty (by decide +kernel), rfl, _, rfl, ?_⟩
    refine iteN rfl ?_
    refine ⟨_, rfl, a, xs, rfl, .inr (ka), _, rfl, b, ys, rfl, .inr (kb), rfl, _, rfl, iteC (decide_eq_true (by rw [h3])) ?_⟩
    refine ⟨_, rfl, _, rfl, a, b, xs, ys, rfl, .inr ⟨ka, kb, fun D hD => ?_⟩⟩
    have hD0 : H D = none := g1.free hD
    refine lc_it (walk_zipT (K := K) (a := a) (b := b) h3) (InvS H D) ⟨upd_same, same_over g1 hD0 _⟩ (fun i H' _ ⟨_, g⟩ => ⟨seqT g h1, seqT g h2⟩) ?_ ?_
    · rintro i v H' H'' hi ⟨hd, g⟩ ⟨T, x, y, rfl, hT, rfl, ex, ey⟩
      have gT : Same H' (upd H' T (.tup [x, y])) := same_new hT _
      have hi1 : i < 1001 := by omega
      refine ⟨T, [x, y], rfl, SqT.of upd_same, rfl, x, [y], rfl, y, [], rfl, rfl, ?_⟩
      refine ⟨rfl, kept ?_⟩
      refine ⟨_, rfl, _, rfl, x, y, rfl, (h5 i x y ex ey).mono (g.trans gT), fun H2 g2 => ?_⟩
      refine ⟨_, g2 _ _ (gT _ _ hd), by rw [List.length_replicate]; exact small1000 (by omega), by rw [upd_same, List.replicate_succ'], same_over ((g.trans gT).trans g2) hD0 _⟩
    · rintro H' ⟨hd, g⟩
      exact ⟨D, List.replicate xs.length true, rfl, SqL.of (by rw [hd, List.map_replicate]), by rw [all_true]; exact q _ g⟩
  · refine ⟨_, t, _, .type "list", [.type "list", .type "tuple"], true, rfl, upd_same, .cons (.ty _) (.cons (.ty _) .nil), .base (.lst (g1 _ _ h2)), is_seqL, _, rfl, ?_⟩
    refine iteT ?_
    have ka := g1 _ _ h1
    have kb := g1 _ _ h2
    refine ⟨_, rfl, _, _, .type "list", .type "list", true, rfl, .ty _, .base (.lst ka), kit_ty (by decide +kernel), _, rfl, _, _, .type "list", .type "list", true, rfl, .ty _, .base (.lst kb), kit_ty (by decide +kernel), rfl, _, rfl, ?_⟩
    refine iteN rfl ?_
    refine ⟨_, rfl, _, _, .type "list", .type "tuple", false, rfl, .ty _, .base (.lst ka), kit_ty (by decide +kernel), _, rfl, _, _, .type "list", .type "tuple", false, rfl, .ty _, .base (.lst kb), kit_ty (by decide +kernel), rfl, _, rfl, ?_⟩
    refine iteN rfl ?_
    refine ⟨_, rfl, a, xs, rfl, .inl (SqL.of ka), _, rfl, b, ys, rfl, .inl (SqL.of kb), rfl, _, rfl, iteC (decide_eq_true (by rw [h3])) ?_⟩
    refine ⟨_, rfl, _, rfl, a, b, xs, ys, rfl, .inl ⟨SqL.of ka, SqL.of kb, fun D hD => ?_⟩⟩
    have hD0 : H D = none := g1.free hD
    refine lc_it (walk_zip (K := K) (a := a) (b := b) (n := xs.length) (by omega)) (InvS H D) ⟨upd_same, same_over g1 hD0 _⟩ (fun i H' _ ⟨_, g⟩ => ⟨SqL.of (g _ _ h1), SqL.of (g _ _ h2)⟩) ?_ ?_
    · rintro i v H' H'' hi ⟨hd, g⟩ ⟨T, x, y, rfl, hT, rfl, ex, ey⟩
      have gT : Same H' (upd H' T (.tup [x, y])) := same_new hT _
      have hi1 : i < 1001 := by omega
      refine ⟨T, [x, y], rfl, SqT.of upd_same, rfl, x, [y], rfl, y, [], rfl, rfl, ?_⟩
      refine ⟨rfl, kept ?_⟩
      refine ⟨_, rfl, _, rfl, x, y, rfl, (h5 i x y ex ey).mono (g.trans gT), fun H2 g2 => ?_⟩
      refine ⟨_, g2 _ _ (gT _ _ hd), by rw [List.length_replicate]; exact small1000 (by omega), by rw [upd_same, List.replicate_succ'], same_over ((g.trans gT).trans g2) hD0 _⟩
    · rintro H' ⟨hd, g⟩
      exact ⟨D, List.replicate xs.length true, rfl, SqL.of (by rw [hd, List.map_replicate]), by rw [all_true]; exact q _ g⟩
abbrev sDraw : Stmt := topS 35
/-! the spring of numbers: a list of four, its first one a list of ints -/
def Spr (H : Hp) (st q : Addr) (b : Int) : Prop := ∃ (ns : List Int) (a c : Int), H st = some (.lst [.ref q, .int a, .int b, .int c]) ∧ H q = some (.lst (ns.map V.int)) ∧ 0 ≤ a ∧ 0 ≤ c ∧ c < 2147483647 ∧ ns.length ≤ 63
/-! all else is as it was -/
def SX (st q : Addr) (H H' : Hp) : Prop := ∀ (x : Addr) (o : HO), x ≠ st → x ≠ q → H x = some o → H' x = some o
theorem SX.refl {st q : Addr} {H : Hp} : SX st q H H := fun _ _ _ _ h => h
theorem SX.trans {st q : Addr} {H H1 H2 : Hp} (g : SX st q H H1) (g' : SX st q H1 H2) : SX st q H H2 := fun x o h1 h2 h => g' x o h1 h2 (g x o h1 h2 h)
theorem SX.of {st q : Addr} {H H' : Hp} (g : Same H H') : SX st q H H' := fun x o _ _ h => g x o h
theorem SX.st {st q : Addr} {H : Hp} {o : HO} : SX st q H (upd H st o) := fun x u h1 _ h => by rw [upd_ne h1]; exact h
theorem SX.q {st q : Addr} {H : Hp} {o : HO} : SX st q H (upd H q o) := fun x u _ h2 h => by rw [upd_ne h2]; exact h
theorem Spr.ne {H : Hp} {st q : Addr} {a b c : Int} {ns : List Int} (h1 : H st = some (.lst [.ref q, .int a, .int b, .int c])) (h2 : H q = some (.lst (ns.map V.int))) : q ≠ st := fun e => by
  rw [e, h1] at h2
  cases ns with
  | nil => cases h2
  | cons n r => cases h2
def spDraw : Sp := fun vs H Q _ => ∃ (st q : Addr) (b m : Int), vs = [.ref st, .int m] ∧ Spr H st q b ∧ 0 ≤ b ∧ b ≤ 1000 ∧ 0 < m ∧ m < 1073741824 ∧
  ∀ (r : Int) (H' : Hp), 0 ≤ r → r < m → Spr H' st q (b + 1) → SX st q H H' → Q (.int r) H'
theorem scD : FnScope ["_law_stream", "_law_many", "_law_digit", "_law_mixed_here"] ["_law_stream", "_law_many"] (defScope sDraw) := ⟨rfl, rfl, rfl, by decide +kernel, rfl, by decide +kernel, by decide +kernel⟩
theorem dp_ints {H : Hp} : ∀ ns : List Int, DpAll K H (ns.map V.int) (ns.map PyData.int)
  | [] => .nil
  | n :: r => .cons (.int n) (dp_ints r)
theorem first_ix {n : Nat} (h : 0 < n) : seqIndex? 0 n = some 0 := (ixN_seq (n := n) (i := 0) (j := 0) (by unfold ixN; rw [if_pos (by decide), if_pos (by omega)]; rfl)).1
theorem ok_draw (F : Fun K "_law_draw" "_law_draw" sDraw f fd) (B : Bt mg) : FnOk P w K mg base CX0 1 f fd ["_law_stream", "_law_many"] spDraw := by
  refine F.ok scD (fun vs H Q E h => ?_) (fun cdv A outer s H vs Q E hr h => ?_)
  · obtain ⟨st, q, b, m, rfl, _⟩ := h
    rfl
  obtain ⟨st, q, b, m, rfl, ⟨ns, a, c, h1, h2, ha, hc, hc2, hns⟩, hb0, hb1, hm0, hm1, k⟩ := h
  refine ⟨_, pss_cons (ps_asg (pe_op op_add (pe_ix ix_list (pv 0) pe_int (fun _ _ => rfl)) pe_int) (pg_sub (pv 0) pe_int set_list))
    (C8.pss_cut (ps_if (PW.pt (pw_and (pt_cmpR op_eq (pe_ix ix_list (pv 0) pe_int (fun _ _ => rfl)) pe_int (nomark _)) (pw_and1 (pt_cmpR (op_neD hr.units) (pe_ix ix_list (pv 0) pe_int (fun _ _ => rfl)) (pe_lst pa_nil) (nomark _))))) (pss_cons (ps_asg (pe_bm PySem.F.plainAttrs_list PySem.F.slot_list_pop PySem.F.type_list_pop mt_popAt (pe_ix ix_list (pv 0) pe_int (fun _ _ => rfl)) (pa_cons pe_int pa_nil)) (pg_sub (pv 0) pe_int set_list)) (pss_one (ps_if (pt_cmpR op_lt (pe_ix ix_list (pv 0) pe_int (fun _ _ => rfl)) (pe_op op_pow pe_int pe_int) (nomark _)) (pss_cons (ps_asg (pe_op op_mod (pe_callTy call_int1 (by rfl) B.int (by decide +kernel) (pa_cons (pe_op op_add (pe_op op_add (pe_op op_mul (pe_ix ix_list (pv 0) pe_int (fun _ _ => rfl)) pe_int) (pe_ix ix_list (pv 0) pe_int (fun _ _ => rfl))) pe_int) pa_nil)) pe_int) (pg_sub (pv 0) pe_int set_list)) (pss_one (ps_asg pe_int (pg_sub (pv 0) pe_int set_list)))) pss_nil))) pss_nil)
    (pss_cons (ps_if (pt_cmpR op_gt (pe_ix ix_list (pv 0) pe_int (fun _ _ => rfl)) pe_int (nomark _)) (pss_cons (ps_set (i := 2) scD.nd rfl (Or.inl rfl) (pe_op op_mod (pe_callTy call_int1 (by rfl) B.int (by decide +kernel) (pa_cons (pe_ix ix_list (pv 0) pe_int (fun _ _ => rfl)) pa_nil)) (pv 1))) (pss_cons (ps_asg (pe_op op_fdiv (pe_ix ix_list (pv 0) pe_int (fun _ _ => rfl)) (pv 1)) (pg_sub (pv 0) pe_int set_list)) (pss_one (ps_ret (pv 2))))) pss_nil)
    (pss_cons (ps_set (i := 3) scD.nd rfl (Or.inl rfl) (pe_op op_mod (pe_op op_pow (pe_op op_add (pe_op op_add (pe_ix ix_list (pv 0) pe_int (fun _ _ => rfl)) (pe_op op_mul pe_int (pe_ix ix_list (pv 0) pe_int (fun _ _ => rfl)))) pe_int) pe_int) pe_int))
    (pss_one (ps_ret (pe_op op_mod (pe_op op_mod (pe_op op_pow (pe_op op_add (pe_op op_add (pe_op op_mul (pv 3) pe_int) (pe_op op_mul (pe_op op_mul pe_int (pe_ix ix_list (pv 0) pe_int (fun _ _ => rfl))) (pe_ix ix_list (pv 0) pe_int (fun _ _ => rfl)))) pe_int) pe_int) pe_int) (pv 1))))))), ?_⟩
  have nqs : q ≠ st := Spr.ne h1 h2
  refine ⟨_, rfl, st, _, _, _, rfl, rfl, SqL.of h1, rfl, _, _, rfl, rfl, _, rfl, st, _, _, _, rfl, rfl, h1, rfl, ?_⟩
  have e1 : upd H st (.lst [.ref q, .int a, .int (b + 1), .int c]) st = some (.lst [.ref q, .int a, .int (b + 1), .int c]) := upd_same
  have e2 : upd H st (.lst [.ref q, .int a, .int (b + 1), .int c]) q = some (.lst (ns.map V.int)) := by rw [upd_ne nqs]; exact h2
  have gx : SX st q H (upd H st (.lst [.ref q, .int a, .int (b + 1), .int c])) := SX.st
  refine ⟨fun σ' H' => σ' = [some (.ref st), some (.int m), none, none] ∧ Spr H' st q (b + 1) ∧ SX st q H H', ?_, ?_⟩
  · refine ⟨_, rfl, st, _, _, _, rfl, rfl, SqL.of e1, rfl, rfl, _, rfl, ?_⟩
    refine ite2 (fun ca => ?_) (fun _ => ⟨rfl, ⟨ns, a, c, e1, e2, ha, hc, hc2, hns⟩, gx⟩)
    have ca0 : a = 0 := by
      have z := of_decide_eq_true ca
      cases z
      rfl
    refine ⟨_, rfl, st, _, _, _, rfl, rfl, SqL.of e1, rfl, Nat.zero_le _, fun l hl => ?_⟩
    have g2 := same_new hl (.lst [])
    have f1 := g2 _ _ e1
    have f2 := g2 _ _ e2
    have gx2 := gx.trans (.of g2)
    cases ns with
    | nil =>
      refine ⟨.list [], .list [], .lst (SqL.of f2) .nil, .lst (SqL.of upd_same) .nil, by decide +kernel, by decide +kernel, _, rfl, ?_⟩
      refine iteN (by decide +kernel) ⟨rfl, ⟨[], a, c, f1, f2, ha, hc, hc2, hns⟩, gx2⟩
    | cons n r =>
      refine ⟨.list ((n :: r).map PyData.int), .list [], .lst (SqL.of f2) (dp_ints _), .lst (SqL.of upd_same) .nil, PySem.W.ke_shaped_ints _, by decide +kernel, _, rfl, ?_⟩
      refine iteC rfl ?_
      refine ⟨_, rfl, st, _, _, _, rfl, rfl, SqL.of f1, rfl, .inl ⟨rfl, _, SqL.of f2⟩, q, _, 0, 0, _, rfl, rfl, f2, by decide, by decide, first_ix (by simp), rfl, ?_⟩
      have p1 := (upd_ne (o := .lst (r.map V.int)) nqs.symm).trans f1
      have gx3 := gx2.trans (SX.q (o := .lst (r.map V.int)))
      refine ⟨_, rfl, st, _, _, _, rfl, rfl, p1, rfl, ?_⟩
      have gx4 := gx3.trans (SX.st (o := .lst [.ref q, .int n, .int (b + 1), .int c]))
      refine ⟨_, rfl, st, _, _, _, rfl, rfl, SqL.of upd_same, rfl, _, _, rfl, rfl, ⟨by decide, by decide, by decide⟩, _, _, rfl, rfl, _, rfl, ?_⟩
      refine ite2 (fun cn => ?_) (fun cn => ?_)
      · refine ⟨_, rfl, st, _, _, _, rfl, rfl, SqL.of upd_same, rfl, _, _, rfl, rfl, .inr ⟨by decide, by decide⟩, _, rfl, st, _, _, _, rfl, rfl, SqL.of upd_same, rfl, _, _, rfl, rfl, _, _, rfl, rfl, .inl ⟨_, rfl, ?_⟩⟩
        refine ⟨_, _, rfl, rfl, (by show (0 : Int) < 2147483647; decide), _, rfl, st, _, _, _, rfl, rfl, upd_same, rfl, _, rfl, st, _, _, _, rfl, rfl, upd_same, rfl, ?_⟩
        refine ⟨rfl, ⟨r, 0, (c * 31 + n + 7) % 2147483647, upd_same, ?_, by decide, Int.emod_nonneg _ (by decide), Int.emod_lt_of_pos _ (by decide), by simp at hns; omega⟩, (gx4.trans SX.st).trans SX.st⟩
        rw [upd_ne nqs, upd_ne nqs, upd_ne nqs, upd_same]
        rfl
      · have cn1 : ¬ n < (10 : Int) ^ 18 := of_decide_eq_false (Bool.eq_false_iff.mpr cn)
        refine ⟨rfl, ⟨r, n, c, upd_same, ?_, by omega, hc, hc2, by simp at hns; omega⟩, gx4⟩
        rw [upd_ne nqs, upd_same]
        rfl
  · rintro σ' H' ⟨rfl, ⟨ns', a', c', d1, d2, ha', hc', hc2', hns'⟩, g'⟩
    refine ⟨_, rfl, st, _, _, _, rfl, rfl, SqL.of d1, rfl, _, _, rfl, rfl, _, rfl, ?_⟩
    refine ite2 (fun cp => ?_) (fun cp => ?_)
    · have cp1 : a' > 0 := of_decide_eq_true cp
      refine ⟨_, rfl, st, _, _, _, rfl, rfl, SqL.of d1, rfl, .inl ⟨_, rfl, ?_⟩⟩
      refine ⟨_, rfl, _, _, rfl, rfl, hm0, _, rfl, st, _, _, _, rfl, rfl, SqL.of d1, rfl, _, rfl, _, _, rfl, rfl, ⟨hm0, hm1⟩, _, rfl, st, _, _, _, rfl, rfl, d1, rfl, _, rfl, ?_⟩
      exact k _ _ (Int.emod_nonneg _ (by omega)) (Int.emod_lt_of_pos _ hm0) ⟨ns', a' / m, c', upd_same, by rw [upd_ne nqs]; exact d2, Int.ediv_nonneg ha' (by omega), hc', hc2', hns'⟩ (g'.trans SX.st)
    · refine ⟨_, rfl, st, _, _, _, rfl, rfl, SqL.of d1, rfl, _, rfl, st, _, _, _, rfl, rfl, SqL.of d1, rfl, _, _, rfl, rfl, .inl ⟨by decide, by decide⟩, _, _, rfl, rfl, _, _, rfl, rfl, _, _, rfl, rfl, ⟨by decide, by decide, ?_⟩, _, _, rfl, rfl, (by show (0 : Int) < 2147483629; decide), ?_⟩
      · show (c' + 104729 * (b + 1) + 17).natAbs < 18446744073709551616
        omega
      have x0 : 0 ≤ (c' + 104729 * (b + 1) + 17) ^ (5 : Int).toNat % 2147483629 := Int.emod_nonneg _ (by decide)
      have x1 : (c' + 104729 * (b + 1) + 17) ^ (5 : Int).toNat % 2147483629 < 2147483629 := Int.emod_lt_of_pos _ (by decide)
      refine ⟨_, rfl, _, _, rfl, rfl, .inr ⟨by decide, by decide⟩, _, rfl, st, _, _, _, rfl, rfl, SqL.of d1, rfl, _, _, rfl, rfl, .inl ⟨by decide, by decide⟩, _, rfl, st, _, _, _, rfl, rfl, SqL.of d1, rfl, _, _, rfl, rfl, .inr ⟨?_, ?_⟩, _, _, rfl, rfl, _, _, rfl, rfl, _, _, rfl, rfl, ⟨by decide, by decide, ?_⟩, _, _, rfl, rfl, (by show (0 : Int) < 1000000007; decide), _, rfl, _, _, rfl, rfl, hm0, ?_⟩
      · show -(18446744073709551616 : Int) < b + 1
        omega
      · show b + 1 < (18446744073709551616 : Int)
        omega
      · show ((c' + 104729 * (b + 1) + 17) ^ (5 : Int).toNat % 2147483629 * 48271 + 40503 * (b + 1) * (b + 1) + 13).natAbs < 18446744073709551616
        have y0 : 0 ≤ 40503 * (b + 1) * (b + 1) := Int.mul_nonneg (by omega) (by omega)
        have y1 : 40503 * (b + 1) * (b + 1) ≤ 40543503 * 1001 := Int.mul_le_mul (by omega) (by omega) (by omega) (by omega)
        revert x0 x1 y0 y1
        generalize (c' + 104729 * (b + 1) + 17) ^ (5 : Int).toNat % 2147483629 = x
        generalize 40503 * (b + 1) * (b + 1) = y
        intro x0 x1 y0 y1
        omega
      · exact k _ _ (Int.emod_nonneg _ (by omega)) (Int.emod_lt_of_pos _ hm0) ⟨ns', a', c', d1, d2, ha', hc', hc2', hns'⟩ g'
theorem Spr.same {H H' : Hp} {st q : Addr} {b : Int} (g : Same H H') : Spr H st q b → Spr H' st q b
  | ⟨ns, a, c, h1, h2, r⟩ => ⟨ns, a, c, g _ _ h1, g _ _ h2, r⟩
theorem TK.sx {H H' : Hp} {st q : Addr} {b : Int} (s : Spr H st q b) (g : SX st q H H') : TK K H H' := by
  obtain ⟨ns, a, c, h1, h2, _⟩ := s
  exact .but fun t o no h => g _ _ (fun e => by rw [e, h1] at h; exact no _ (Option.some.inj h).symm) (fun e => by rw [e, h2] at h; exact no _ (Option.some.inj h).symm) h
abbrev sStart : Stmt := topS 36
abbrev sPick : Stmt := topS 37
def spStart (K : PySem.W.Frag) : Sp := fun vs H Q _ => ∃ (a : Addr) (ns : List Int), vs = [.ref a] ∧ SqL K H a (ns.map V.int) ∧ ns.length ≤ 63 ∧
  ∀ (st q : Addr) (H' : Hp), Same H H' → Spr H' st q 0 → Q (.ref st) H'
theorem scT : FnScope ["_law_script"] ["_law_script"] (defScope sStart) := ⟨rfl, rfl, rfl, by decide +kernel, rfl, by decide +kernel, by decide +kernel⟩
theorem ok_start (F : Fun K "_law_start" "_law_start" sStart f fd) (B : Bt mg) : FnOk P w K mg base CX0 1 f fd ["_law_script"] (spStart K) := by
  refine F.ok scT (fun vs H Q E h => ?_) (fun cdv A outer s H vs Q E hr h => ?_)
  · obtain ⟨a, ns, rfl, _⟩ := h
    rfl
  obtain ⟨a, ns, rfl, hS, hn, k⟩ := h
  refine ⟨_, pss_one (ps_ret (pe_lst (pa_cons (pe_callTy call_list_of (by rfl) B.lst (by decide +kernel) (pa_cons (pv 0) pa_nil)) (pa_cons pe_int (pa_cons pe_int (pa_cons pe_int pa_nil)))))), ?_⟩
  refine ⟨_, rfl, a, _, rfl, .inl hS, fun l hl => ?_⟩
  have g1 := same_new hl (.lst (ns.map V.int))
  refine ⟨(by show 4 ≤ sizeLine; decide), fun t ht => ?_⟩
  have g2 := same_new ht (.lst [.ref l, .int 0, .int 0, .int 0])
  exact k t l _ (g1.trans g2) ⟨ns, 0, 0, upd_same, g2 _ _ upd_same, by decide, by decide, by decide, hn⟩
def spPick (K : PySem.W.Frag) : Sp := fun vs H Q _ => ∃ (st q p : Addr) (b : Int) (xs : List V), vs = [.ref st, .ref p] ∧ Spr H st q b ∧ 0 ≤ b ∧ b ≤ 1000 ∧ H p = some (.lst xs) ∧ p ≠ st ∧ p ≠ q ∧ 0 < xs.length ∧ xs.length ≤ 1000 ∧
  ∀ (v : V) (H' : Hp), v ∈ xs → Spr H' st q (b + 1) → SX st q H H' → Q v H'
theorem scP : FnScope ["_law_stream", "_law_some"] ["_law_stream", "_law_some"] (defScope sPick) := ⟨rfl, rfl, rfl, by decide +kernel, rfl, by decide +kernel, by decide +kernel⟩
theorem at_int {xs : List V} {r : Int} (h0 : 0 ≤ r) (h1 : r < (xs.length : Int)) : ∃ v, v ∈ xs ∧ atI xs r = some v := by
  have hk : r.toNat < xs.length := by omega
  refine ⟨xs[r.toNat], List.getElem_mem hk, ?_⟩
  have q := atI_nat (xs := xs) (j := r.toNat) (v := xs[r.toNat]) (List.getElem?_eq_getElem hk)
  rwa [show ((r.toNat : Nat) : Int) = r by omega] at q
theorem ok_pick (F : Fun K "_law_pick" "_law_pick" sPick f fd) {g : Addr} {gd : FuncData} (G : FnOk P w K mg base CX0 1 g gd ["_law_stream", "_law_many"] spDraw) (bG : Binds K gd ["_law_stream", "_law_many"] []) (kG : PySem.W.keepIn K (.ref g) = true) (mG : mg "_law_draw" = some (.ref g)) (B : Bt mg) :
    FnOk P w K mg base CX0 2 f fd ["_law_stream", "_law_some"] (spPick K) := by
  refine F.ok scP (fun vs H Q E h => ?_) (fun cdv A outer s H vs Q E hr h => ?_)
  · obtain ⟨st, q, p, b, xs, rfl, _⟩ := h
    rfl
  obtain ⟨st, q, p, b, xs, rfl, hs, hb0, hb1, hp, n1, n2, hx0, hx1, k⟩ := h
  refine ⟨_, pss_one (ps_ret (pe_ix ix_list (pv 1) (pe_call G hr rfl mG kG bG .nil pass0 (pa_cons (pv 0) (pa_cons (pe_callB call_len_seq (by rfl) B.len PySem.boot_len (pa_cons (pv 1) pa_nil)) pa_nil))) (fun _ _ => rfl))), ?_⟩
  refine ⟨_, rfl, _, rfl, _, rfl, p, xs, rfl, .inl (SqL.of hp), st, q, b, _, rfl, hs, hb0, hb1, by omega, by omega, fun r H' r0 r1 hs' gx => ?_⟩
  obtain ⟨v, hv, ev⟩ := at_int r0 r1
  exact ⟨p, xs, r, v, rfl, rfl, SqL.of (gx _ _ n1 n2 hp), ev, k v H' hv hs' gx⟩
theorem all_nil {p : V → Prop} : ∀ x ∈ ([] : List V), p x := fun x h => by cases h
theorem all_cons {p : V → Prop} {a : V} {l : List V} (h : p a) (t : ∀ x ∈ l, p x) : ∀ x ∈ a :: l, p x := fun x q => by
  cases q with
  | head => exact h
  | tail _ q => exact t x q
end
end Lw
namespace PySem.W
open PySem PySem.Calls PyProof.Rows
section
variable {M : Model} {A : Around} {E : Value → Shared → Prop} {s : Shared} {K : Frag} {env : Env} {pos p : Pos} {f : Value} {first : List Value} {Q : Value → Shared → Prop} {h₀ : Heap} {e : Expr} {rest : List Expr}
/-- f(*x, k = v): the starred one is read last -/
theorem lone_kw {x : Sem Value} {kw : List (Option Str × Sem Value)} {R : Args → Shared → Prop} (hall : kw.all (·.1.isSome) = true)
    (h : wpAny M A x (fun v s1 => wpAny M A (evalAll (kw.map (·.2))) (fun ks s2 => StarOf M A E v (fun vs s3 => R ⟨vs, (kw.filterMap (·.1)).zip ks⟩ s3) s2) E s1) E s) :
    wpAny M A (evalArgs f true [(true, (do let v ← x; standAt pos; pure v))] kw) R E s := by
  unfold evalArgs
  first
    | refine wpAny_bind (wpAny_bind (wpAny_mono h (fun v s1 h1 => wpAny_bind (wpAny_standAt (wpAny_pure ?_))) fun _ _ x => x))
    | refine wpAny_bind (wpAny_bind (wpAny_bind (wpAny_mono h (fun v s1 h1 => wpAny_bind (wpAny_standAt (wpAny_pure (wpAny_pure ?_)))) fun _ _ x => x)))
  refine wpAny_holding ?_
  simp only [hall, if_true]
  refine wpAny_bind (wpAny_mono h1 (fun ks s2 h2 => ?_) fun _ _ x => x)
  unfold StarOf at h2
  refine wpAny_bind (wpAny_bind (wpAny_mono h2 (fun b s3 h3 => ?_) fun _ _ x => x))
  obtain ⟨rfl, h3⟩ := h3
  have z := wpAny_holding (vs := ((kw.filterMap (·.1)).zip ks).map (·.2)) (wpAny_mono h3 (fun vs s4 h4 => (wpAny_pure h4 : wpAny M A (pure (⟨vs, (kw.filterMap (·.1)).zip ks⟩ : Args)) R E s4)) fun _ _ x => x)
  try simp only [Bool.false_eq_true, if_false]
  first
    | exact z
    | exact wpAny_bind (wpAny_pure z)
    | exact wpAny_bind z
theorem call_star_kw {P : Heap → Prop} {args : List (Bool × Sem Value)} {kw : List (Option Str × Sem Value)} (hst : args.any (·.1) = true)
    (hk : ∀ h, P h → ∃ k, (k = Keeper.frame ∨ k = Keeper.machine ∨ k = Keeper.boundFrame) ∧ Looks M h (keeperOf f) k)
    (h : wpAny M A (evalArgs f true args kw) (fun a s1 => P s1.heap ∧ wpAny M A (call f (first ++ a.pos) a.kw) Q E s1) E s) : wpAny M A (callWith pos f first args kw) Q E s := by
  unfold callWith
  refine wpAny_bind (wpAny_holding (wpAny_mono h (fun a s1 h1 => wpAny_bind (wpAny_standAt ?_)) fun _ _ x => x))
  obtain ⟨k, hk', L⟩ := hk _ h1.1
  simp only [hst, Bool.true_or]
  refine wpAny_bind (L.here ?_)
  have fin : ∀ {t : Sem Value}, wpAny M A t Q E s1 → wpAny M A (t >>= fun r => holding [r] point >>= fun _ => pure r) Q E s1 :=
    fun ht => wpAny_bind (wpAny_mono ht (fun r s2 hr => wpAny_bind (wpAny_holding (wpAny_point (wpAny_pure hr)))) fun _ _ x => x)
  have mrk (mk : Value) : wpAny M A (callMarked mk f (first ++ a.pos) a.kw) Q E s1 := by unfold callMarked; exact Calls.wpAny_keep h1.2
  rcases hk' with rfl | rfl | rfl <;> dsimp only <;> first | exact fin (mrk _) | exact fin h1.2 | exact fin (wpAny_operating h1.2)
end
end PySem.W
namespace L2
open PySem PySem.Spec PyProof.Rows
/-- raise C(): an own class without an __init__ of its own -/
theorem pmk_own0 {X : Cx} {C : Addr} {bmB : List Value} {B newId initId : String} {x : Str} {p pos : Pos} (F : ExcBaseFacts B newId initId bmB) (q : PySem.W.excIn X.K C bmB newId = true) (gC : X.mg x = some (.ref C))
    (kC : PySem.W.keepIn X.K (.ref C) = true) (r : Raises X (.ref C)) (hg : Gl X x) (hdb : (x == ("__debug__" : Str)) = false := by decide) : PMk X (.Call (.Name x p) [] [] pos) (fun _ H Q => Q (.ref C) none H) := by
  intro pins s σ H Q I h
  refine wpAny_Call_Name_kw (ld_glob I hg gC ?_ hdb)
  refine PySem.W.callWith_KW0 (h₀ := X.base) (kws := []) I.ok.mod.kin kC rfl ?_ rfl
  refine wpAny_evalAll_nil ⟨I.kIn, ?_⟩
  show wpAny _ _ (call (.ref C) []) _ _ _
  obtain ⟨bm, N, nm, qn, bs, hdct, sn, sub, ab, col, dd, k0, k1, k2, k3, k5, mN, hC, hN, hni, T⟩ := exc_obj I.kIn q
  refine wpAny_call_exc_subT F T hC hN hni (fun h' e hm => ?_) (by show 0 ≤ sizeLine; decide)
  exact mk_of I hm r h (I.hok.gone hm.new)
/-! a class whose __init__ is (self, *v, k=d): what it promises, by the items of v and the value of k -/
/-- self, the positional items, the keyword's value -/
abbrev SpF := V → List V → V → Hp → VK → XK → Prop
/-- how such a call is written: the keyword there (its value), or not -/
def KwOf (kn : Str) : Option Value → List (Str × Value)
  | some u => [(kn, u)]
  | none => []
def FnF (P : Program) (w : World) (K : PySem.W.Frag) (mg : Str → Option Value) (base : Heap) (CX : CXT) (k : Nat) (f : Addr) (kn : Str) (d : V) (sp : SpF) : Prop :=
  ∀ (A : Around) (outer : List Env) (s : Shared) (H : Hp) (x : V) (xu : Value) (us : List Value) (vs : List V) (ku : Option Value) (kv : V) (Q : VK) (E : XK), Room k A → Env0 P w K mg base A outer s H → RelV x xu → Vals vs us → vs.length ≤ sizeLine →
    (∀ u, ku = some u → RelV kv u) → (ku = none → kv = d) → sp x vs kv H Q E → codeAny (model P w) A (.call (.ref f) ⟨xu :: us, KwOf kn ku⟩) (CR CX outer P w H s Q E) s
section
variable {CX : CXT} {P : Program} {w : World} {K : PySem.W.Frag} {mg : Str → Option Value} {base : Heap} {k : Nat} {f D : Addr} {name qual : Str} {params : Arguments} {body : List Stmt} {scope : Scope} {doc pm cdv ct oc : Value} {an od : Option Addr}
  {osl : Array (Option Value)} {N : List Str}
theorem fn_F {p1 kn pv : Str} {d : V} {du : Value} {sp : SpF} (lk : K.lookup f = some ⟨oc, od, .func (PySem.W.fnOf name qual params body scope .none (.ref D) doc pm an cdv ct), osl⟩) (hcd : PySem.W.codeIn K cdv qual = true) (S : FnScope N [p1, kn, pv] scope) (hCX : StX.CXUp CX)
    (hd : PySem.W.nsIn K D kn = some (some du)) (rd : RelV d du)
    (hb1 : ∀ (x u : Value) (us : List Value), bindArgs (PySem.W.fnOf name qual params body scope .none (.ref D) doc pm an cdv ct) ⟨x :: us, [(kn, u)]⟩ = (newTuple us >>= fun t => pure [(p1, x), (kn, u), (pv, t)]))
    (hb0 : ∀ (x : Value) (us : List Value), ∃ (β γ : Type) (k1 : Option Value → Sem β) (k2 : β → Sem γ) (k3 : γ → Sem (List (Str × Value))) (a : β), bindArgs (PySem.W.fnOf name qual params body scope .none (.ref D) doc pm an cdv ct) ⟨x :: us, []⟩ = ((nsGet D kn >>= k1) >>= k2) >>= k3 ∧
      k1 (some du) = pure a ∧ (k2 a >>= k3) = (newTuple us >>= fun t => pure [(p1, x), (kn, du), (pv, t)]))
    (hbody : ∀ (A : Around) (outer : List Env) (s : Shared) (H : Hp) (x : V) (vs : List V) (kv : V) (p : Addr) (H0 : Hp) (Q : VK) (E : XK), Room k (A.deeper (envOfC qual scope s.heap.objs.size f cdv)) → H0 p = none → H = upd H0 p (.tup vs) → sp x vs kv H0 Q E →
      ∃ t, PSs (cxOf CX P w K mg base N qual scope f cdv A outer s H E) body t ∧ t { nx := fun _ H' => Q .non H', rt := Q } (start N [x, kv, .ref p]) H) :
    FnF P w K mg base CX (k + 1) f kn d sp := by
  intro A outer s H x xu us vs ku kv Q E hr e0 rx rv hz hk1 hk0 hsp
  have hn : H s.heap.objs.size = Option.none := e0.hok.fresh (Nat.le_refl _)
  have hl2 : us.length ≤ sizeLine := by rw [← rv.length]; exact hz
  have KX : K.In s.heap := e0.mod.kin.keeps fun b o e => (e0.bs b o e).1
  refine StX.run_bnd lk hcd S hr e0 (G := fun xs H2 => ∃ p, H p = Option.none ∧ xs = [x, kv, V.ref p] ∧ H2 = upd H p (.tup vs)) (fun A' Ex Q' h => ?_) fun s2 H2 xs ⟨p, hp, ex, eH⟩ hr' => ?_
  · have fin : ∀ ku', RelV kv ku' → wpAny (model P w) A' (newTuple us >>= fun t => pure [(p1, xu), (kn, ku'), (pv, t)]) Q' Ex s := fun ku' rk => by
      refine wpAny_bind (wpAny_newTuple (wpAny_pure ?_) hl2)
      have new : ObjOk P w (upd H s.heap.objs.size (.tup vs)) (s.heap.push ({ cls := .type "tuple", data := .seq us.toArray } : Obj)) s.heap.objs.size (.tup vs) := ⟨hz, us, rv, ⟨_, Heap.get?_push_size _ rfl, rfl, _, rfl⟩⟩
      have un := StX.un_laid (fs := frs outer) (s := s) (o := ({ cls := .type "tuple", data := .seq us.toArray } : Obj)) (u := .tup vs) hn
      exact h _ _ [x, kv, V.ref s.heap.objs.size] [xu, ku', Value.ref s.heap.objs.size] (StX.env0_laid e0 new) un rfl (fun e s' => hCX outer s H _ _ E e s' un (fun b o q => Heap.get?_push_of_some _ q) rfl) (.cons rx (.cons rk (.cons rfl .nil))) rfl ⟨_, hn, rfl, rfl⟩
    cases ku with
    | some u =>
      show wpAny _ _ (bindArgs _ ⟨xu :: us, [(kn, u)]⟩) _ _ _
      rw [hb1]
      exact fin u (hk1 u rfl)
    | none =>
      obtain ⟨β, γ, k1, k2, k3, a, e1, e2, e3⟩ := hb0 xu us
      show wpAny _ _ (bindArgs _ ⟨xu :: us, []⟩) _ _ _
      rw [e1, bind_assoc]
      refine wpAny_bind (((PySem.W.looks_nsIn KX hd).andThen (PySem.W.Looks.of_pure e2)).here ?_)
      rw [e3]
      exact fin du (by rw [hk0 rfl]; exact rd)
  · subst ex
    exact hbody A outer s2 H2 x vs kv p H Q E hr' hp eH hsp
end
/-- C(..): a new instance and its dict, then the promise of its __init__ -/
def mkF (C : Addr) (sp : SpF) (E : XK) (vs : List V) (kv : V) (H : Hp) (Q : VK) : Prop := ∀ x dx, H x = none → H dx = none → dx ≠ x → sp (.ref x) vs kv (upd (upd H dx (.own x)) x (.ins C dx [])) (fun v H2 => v = .non ∧ Q (.ref x) H2) E
section
variable {X : Cx} {CX : CXT} {k : Nat} {f C : Addr} {kn x : Str} {d : V} {sp : SpF} {E : XK} {e : Expr} {es : List Expr} {te tk : TE} {t : TA} {p pos kpos sp_ : Pos}
theorem run_makeF {pins : List (Addr × Obj)} {σ : St} {H : Hp} {s : Shared} {Q : VK} {us : List Value} {vs : List V} {ku : Option Value} {kv : V} (M : Mk X.K C f) (F : FnF X.prog X.w X.K X.mg X.base CX k f kn d sp) (hr : Room (k + 1) X.A) (hx : Passes CX X E)
    (I : Inv X pins σ H s) (r : Vals vs us) (hz : vs.length ≤ sizeLine) (hk1 : ∀ u, ku = some u → RelV kv u) (hk0 : ku = none → kv = d) (h : mkF C sp E vs kv H Q) :
    wpAny (model X.prog X.w) X.A (call (.ref C) us (KwOf kn ku)) (EP X pins σ Q) X.xe s := by
  have hq := h (s.heap.objs.size + 1) s.heap.objs.size (I.hok.fresh (Nat.le_succ _)) (I.hok.fresh (Nat.le_refl _)) (Nat.ne_of_lt (Nat.lt_succ_self _))
  have I2 := Inv.made (C := C) I
  refine wpAny_call (make_map (f := f) I.kIn M.makes M.init (beq_iff_eq.mp M.fn) (codeAny_mono (F _ X.stack _ _ (.ref (s.heap.objs.size + 1)) (.ref (s.heap.objs.size + 1)) us vs ku kv _ E (hr.make C us (KwOf kn ku)) (I2.env0.make C us (KwOf kn ku)) rfl r hz hk1 hk0 hq) fun r s' hq' => ?_))
  cases r with
  | error e => exact hx pins σ _ _ e s' I2 hq'
  | ok fl =>
    cases fl with
    | ret u =>
      obtain ⟨v, H', I3, rv, ev, q3⟩ := I2.after hq'
      subst ev
      exact ⟨rv, ⟨V.ref (s.heap.objs.size + 1), H', I3, rfl, q3⟩⟩
    | next => exact False.elim hq'
    | brk => exact False.elim hq'
    | cont => exact False.elim hq'
/-- C() -/
theorem pe_F0 (M : Mk X.K C f) (F : FnF X.prog X.w X.K X.mg X.base CX k f kn d sp) (hr : Room (k + 1) X.A) (hg : Gl X x) (hm : X.mg x = some (.ref C)) (hx : Passes CX X E) (hdb : (x == ("__debug__" : Str)) = false := by decide) :
    PE X (.Call (.Name x p) [] [] pos) (fun _ H Q => mkF C sp E [] d H Q) := by
  refine ⟨fun pins s σ H Q I h => ?_⟩
  refine wpAny_Call_Name_kw (ld_glob I hg hm ?_ hdb)
  refine PySem.W.callWith_KW0 (h₀ := X.base) (kws := []) I.ok.mod.kin M.kp rfl ?_ rfl
  refine wpAny_evalAll_nil ⟨I.kIn, ?_⟩
  exact run_makeF (us := []) (ku := none) M F hr hx I .nil (Nat.zero_le _) (fun u z => nomatch z) (fun _ => rfl) h
/-- C(kn = e) -/
theorem pe_Fk (M : Mk X.K C f) (F : FnF X.prog X.w X.K X.mg X.base CX k f kn d sp) (hr : Room (k + 1) X.A) (hg : Gl X x) (hm : X.mg x = some (.ref C)) (hx : Passes CX X E) (hk : PE X e tk) (hdb : (x == ("__debug__" : Str)) = false := by decide) :
    PE X (.Call (.Name x p) [] [⟨some kn, e, kpos⟩] pos) (fun σ H Q => tk σ H fun kv H1 => mkF C sp E [] kv H1 Q) := by
  refine ⟨fun pins s σ H Q I h => ?_⟩
  refine wpAny_Call_Name_kw (ld_glob I hg hm ?_ hdb)
  refine PySem.W.callWith_KW0 (h₀ := X.base) I.ok.mod.kin M.kp rfl ?_ rfl
  refine kwAll_cons (thn (hk.run pins s σ H _ I h) fun u s1 ⟨kv, H1, I1, rk, q1⟩ => ?_)
  refine wpAny_evalAll_nil ⟨I1.kIn, ?_⟩
  exact run_makeF (us := []) (ku := some u) M F hr hx I1 .nil (Nat.zero_le _) (fun u' z => by cases z; exact rk) (fun z => nomatch z) q1
/-- C(e, .., kn = e) -/
theorem pe_Fpk (M : Mk X.K C f) (F : FnF X.prog X.w X.K X.mg X.base CX k f kn d sp) (hr : Room (k + 1) X.A) (hg : Gl X x) (hm : X.mg x = some (.ref C)) (hx : Passes CX X E) {a : Expr} {as : List Expr} (ha : PA X (a :: as) t) (hk : PE X e tk) (hdb : (x == ("__debug__" : Str)) = false := by decide)
    (he : starEach (a :: as) X.env = (false, eval a X.env) :: starEach as X.env := by rfl) (hpl : ((backTo pos (starEach (a :: as) X.env)).any (·.1) || (backToKw pos (keywordEach [⟨some kn, e, kpos⟩] X.env)).any (·.1.isNone)) = false := by rfl) :
    PE X (.Call (.Name x p) (a :: as) [⟨some kn, e, kpos⟩] pos) (fun σ H Q => t σ H fun vs H1 => tk σ H1 fun kv H2 => vs.length ≤ sizeLine ∧ mkF C sp E vs kv H2 Q) := by
  refine ⟨fun pins s σ H Q I h => ?_⟩
  refine wpAny_Call_Name_kw (ld_glob I hg hm ?_ hdb)
  refine PySem.W.callWith_KW (h₀ := X.base) I.ok.mod.kin M.kp rfl (thn (ha.run pos pins s σ H _ I h) fun us s1 ⟨vs, H1, I1, r, q⟩ => ?_) hpl he
  refine kwAll_cons (thn (hk.run pins s1 σ H1 _ I1 q) fun u s2 ⟨kv, H2, I2, rk, hz, q2⟩ => ?_)
  refine wpAny_evalAll_nil ⟨I2.kIn, ?_⟩
  exact run_makeF (ku := some u) M F hr hx I2 r hz (fun u' z => by cases z; exact rk) (fun z => nomatch z) q2
/-- C(*e, kn = e) -/
theorem pe_Fsk (M : Mk X.K C f) (F : FnF X.prog X.w X.K X.mg X.base CX k f kn d sp) (hr : Room (k + 1) X.A) (hg : Gl X x) (hm : X.mg x = some (.ref C)) (hx : Passes CX X E) {a : Expr} (ha : PE X a te) (hk : PE X e tk) (hdb : (x == ("__debug__" : Str)) = false := by decide)
    (he : starEach [.Starred a sp_] X.env = [(true, eval a X.env)] := by rfl) :
    PE X (.Call (.Name x p) [.Starred a sp_] [⟨some kn, e, kpos⟩] pos) (fun σ H Q => te σ H fun y H1 => tk σ H1 fun kv H2 => ∃ q xs, y = .ref q ∧ (SqT X.K H2 q xs ∨ SqL X.K H2 q xs) ∧ xs.length ≤ sizeLine ∧ mkF C sp E xs kv H2 Q) := by
  refine ⟨fun pins s σ H Q I h => ?_⟩
  refine wpAny_Call_Name_kw (ld_glob I hg hm ?_ hdb)
  rw [he]
  refine PySem.W.call_star_kw rfl (PySem.W.keeps_K M.kp) ?_
  refine PySem.W.lone_kw rfl (thn (ha.run pins s σ H _ I h) fun yv s1 ⟨y, H1, I1, ry, q⟩ => ?_)
  refine kwAll_cons (thn (hk.run pins s1 σ H1 _ I1 q) fun u s2 ⟨kv, H2, I2, rk, q0, xs, ey, hs, hz, q2⟩ => ?_)
  subst ey
  obtain rfl : yv = Value.ref q0 := ry
  refine wpAny_evalAll_nil (StX.star_any I2 hs fun us s3 I3 rv => ⟨I3.kIn, ?_⟩)
  exact run_makeF (ku := some u) M F hr hx I3 rv hz (fun u' z => by cases z; exact rk) (fun z => nomatch z) q2
end
end L2
namespace Lw
open PySem L2
abbrev sWhole : Stmt := topS 1
abbrev sFrozen : Stmt := topS 2
abbrev sAxes : Stmt := topS 12
/-! the mathematics of forms -/
def axesOk (is : List Int) (n : Nat) : Bool := decide (is.length = n) && (List.range n).all fun j => decide ((j : Int) ∈ is)
theorem inV_int (k : Int) : ∀ is : List Int, inV (.int k) (is.map V.int) = decide (k ∈ is)
  | [] => by simp [inV]
  | i :: r => by
    have q := inV_int k r
    unfold inV at q ⊢
    rw [List.map_cons, List.any_cons, q]
    show ((i == k) || decide (k ∈ r)) = decide (k ∈ i :: r)
    by_cases h : i = k
    · subst h
      simp
    · have h2 : ¬ k = i := fun e => h e.symm
      simp [h, h2]
theorem flat_ints (is : List Int) : (is.map V.int).all flatV = true := by
  rw [List.all_eq_true]
  intro x hx
  obtain ⟨i, _, rfl⟩ := List.mem_map.mp hx
  rfl
theorem flat_strs (ss : List Str) : (ss.map V.str).all flatV = true := by
  rw [List.all_eq_true]
  intro x hx
  obtain ⟨i, _, rfl⟩ := List.mem_map.mp hx
  rfl
theorem inV_str (k : Str) : ∀ ss : List Str, inV (.str k) (ss.map V.str) = decide (k ∈ ss)
  | [] => by simp [inV]
  | i :: r => by
    have q := inV_str k r
    unfold inV at q ⊢
    rw [List.map_cons, List.any_cons, q]
    show ((i == k) || decide (k ∈ r)) = decide (k ∈ i :: r)
    by_cases h : i = k
    · subst h
      simp
    · have h2 : ¬ k = i := fun e => h e.symm
      simp [h, h2]
/-- the list of answers so far -/
def InvB (H0 : Hp) (D : Addr) (f : Nat → Bool) (i : Nat) (H : Hp) : Prop := H D = some (.lst (((List.range i).map f).map V.bl)) ∧ Same H0 H
theorem InvB.next {H0 H : Hp} {D : Addr} {f : Nat → Bool} {i : Nat} (hd0 : H0 D = none) (h : InvB H0 D f i H) : InvB H0 D f (i + 1) (upd H D (.lst (((List.range i).map f).map V.bl ++ [.bl (f i)]))) :=
  ⟨by rw [upd_same, List.range_succ, List.map_append, List.map_append] <;> rfl, same_over h.2 hd0 _⟩
theorem len_b {f : Nat → Bool} {i : Nat} (h : i ≤ 1000) : (((List.range i).map f).map V.bl).length < sizeLine := by
  rw [List.length_map, List.length_map, List.length_range]
  exact small1000 h
section
variable {P : Program} {w : World} {K : PySem.W.Frag} {mg : Str → Option Value} {base : Heap} {f : Addr} {fd : FuncData}
def spWhole : Sp := fun vs H Q _ => ∃ i : Int, vs = [.int i] ∧ Q (.bl true) H
theorem scW : FnScope ["n"] ["n"] (defScope sWhole) := ⟨rfl, rfl, rfl, by decide +kernel, rfl, by decide +kernel, by decide +kernel⟩
theorem ok_whole (F : Fun K "is_whole" "is_whole" sWhole f fd) (B : Bt mg) : FnOk P w K mg base CX0 1 f fd ["n"] spWhole := by
  refine F.ok scW (fun vs H Q E h => ?_) (fun cdv A outer s H vs Q E hr h => ?_)
  · obtain ⟨i, rfl, _⟩ := h
    rfl
  obtain ⟨i, rfl, q⟩ := h
  refine ⟨_, pss_one (ps_ret (pe_and (pe_callB call_isi (by rfl) B.isi (by decide +kernel) (pa_cons (pv 0) (pa_cons (pe_bltn (v := .ty "int") (by rfl) B.int (by decide +kernel) rfl) pa_nil)))
    (pe_one (pe_not (pe_callB call_isi (by rfl) B.isi (by decide +kernel) (pa_cons (pv 0) (pa_cons (pe_bltn (v := .ty "bool") (by rfl) B.bool (by decide +kernel) rfl) pa_nil))))))), ?_⟩
  refine ⟨_, rfl, _, _, .type "int", .type "int", true, rfl, .ty _, .base (.int i), kit_ty (by decide +kernel), _, rfl, ?_⟩
  refine iteT ?_
  exact ⟨_, rfl, _, _, .type "int", .type "bool", false, rfl, .ty _, .base (.int i), kit_ty (by decide +kernel), _, rfl, q⟩
def spFrI : Sp := fun vs H Q _ => ∃ i : Int, vs = [.int i] ∧ ∀ H' : Hp, Same H H' → Q (.int i) H'
def spFrz (K : PySem.W.Frag) : Sp := fun vs H Q _ => ∃ (a : Addr) (is : List Int), vs = [.ref a] ∧ (SqL K H a (is.map V.int) ∨ SqT K H a (is.map V.int)) ∧ is.length ≤ 1000 ∧
  ∀ (p : Addr) (H' : Hp), Same H H' → H p = none → H' p = some (.tup (is.map V.int)) → Q (.ref p) H'
theorem scF : FnScope ["worth", "part"] ["worth"] (defScope sFrozen) := ⟨rfl, rfl, rfl, by decide +kernel, rfl, by decide +kernel, by decide +kernel⟩
theorem ok_frI (F : Fun K "frozen" "frozen" sFrozen f fd) (B : Bt mg) : FnOk P w K mg base CX0 1 f fd ["worth"] spFrI := by
  refine F.ok scF (fun vs H Q E h => ?_) (fun cdv A outer s H vs Q E hr h => ?_)
  · obtain ⟨i, rfl, _⟩ := h
    rfl
  obtain ⟨i, rfl, q⟩ := h
  refine ⟨_, pss_cons (ps_if (pt_val (pe_callB call_isiT (by rfl) B.isi (by decide +kernel) (pa_cons (pv 0) (pa_cons (pe_tup (pa_cons (pe_bltn (v := .ty "list") (by rfl) B.lst (by decide +kernel) rfl) (pa_cons (pe_bltn (v := .ty "tuple") (by rfl) B.tup (by decide +kernel) rfl) pa_nil))) pa_nil)))) (pss_one ps_never) pss_nil)
    (pss_one (ps_ret (pv 0))), ?_⟩
  refine ⟨_, rfl, (by show 2 ≤ sizeLine; decide), fun t ht => ?_⟩
  refine ⟨_, t, _, .type "int", [.type "list", .type "tuple"], false, rfl, upd_same, .cons (.ty _) (.cons (.ty _) .nil), .base (.int i), is_seq (by decide +kernel) (by decide +kernel), _, rfl, ?_⟩
  exact iteF ⟨_, rfl, q _ (same_new ht _)⟩
/-- the ints so far -/
def InvI (H0 : Hp) (D : Addr) (is : List Int) (i : Nat) (H : Hp) : Prop := H D = some (.lst ((is.take i).map V.int)) ∧ Same H0 H
theorem take_map_succ {is : List Int} {i : Nat} {x : V} (h : (is.map V.int)[i]? = some x) : ∃ n, x = .int n ∧ (is.take (i + 1)).map V.int = (is.take i).map V.int ++ [.int n] := by
  rw [List.getElem?_map] at h
  cases e : is[i]? with
  | none => rw [e] at h; cases h
  | some n =>
    rw [e] at h
    refine ⟨n, (Option.some.inj h).symm, ?_⟩
    rw [List.take_succ, e, List.map_append] <;> rfl
theorem ok_frz (F : Fun K "frozen" "frozen" sFrozen f fd) (bF : Binds K fd ["worth"] []) (mF : mg "frozen" = some (.ref f)) (B : Bt mg) : FnOk P w K mg base CX0 2 f fd ["worth"] (spFrz K) := by
  have G : FnOk P w K mg base CX0 1 f fd ["worth"] spFrI := ok_frI F B
  refine F.ok scF (fun vs H Q E h => ?_) (fun cdv A outer s H vs Q E hr h => ?_)
  · obtain ⟨a, is, rfl, _⟩ := h
    rfl
  obtain ⟨a, is, rfl, hS, hl, q⟩ := h
  have turn : ∀ {te : TE} {D : Addr}, H D = none → ∀ i x H', (is.map V.int)[i]? = some x → InvI H D is i H' → tCall spFrI [] E0 (tCons (tVar 1) tNil) [some (.ref a), some x] H' fun y H4 => ∃ acc, H4 D = some (.lst acc) ∧ acc.length < sizeLine ∧ InvI H D is (i + 1) (upd H4 D (.lst (acc ++ [y]))) := by
    rintro te D hD i x H' hx ⟨hd, g⟩
    obtain ⟨n, rfl, en⟩ := take_map_succ hx
    refine ⟨_, rfl, n, rfl, fun H2 g2 => ⟨_, g2 _ _ hd, ?_, by rw [upd_same, en], same_over (g.trans g2) hD _⟩⟩
    rw [List.length_map]
    exact small1000 (by rw [List.length_take]; omega)
  rcases hS with hS | hS
  · refine ⟨_, pss_cons (ps_if (pt_val (pe_callB call_isiT (by rfl) B.isi (by decide +kernel) (pa_cons (pv 0) (pa_cons (pe_tup (pa_cons (pe_bltn (v := .ty "list") (by rfl) B.lst (by decide +kernel) rfl) (pa_cons (pe_bltn (v := .ty "tuple") (by rfl) B.tup (by decide +kernel) rfl) pa_nil))) pa_nil))))
        (pss_one (ps_ret (pe_callTy call_tuple_of (by rfl) B.tup (by decide +kernel) (pa_cons (pe_lc (own := [("part", 1)]) (g := gName 1) (tt := tYes) rfl scF.nd (pi_list (pv 0)) (blkOk_by (N := ["worth", "part"]) (sc := defScope sFrozen) (by decide +kernel))
          (fun _ _ _ _ _ => pg_name (i := 1) scF.nd rfl (Or.inl rfl)) (fun _ _ _ _ _ => pts_nil) (fun _ _ _ _ _ => pe_call G hr rfl mF F.kp bF .nil pass0 (pa_cons (pv 1) pa_nil))) pa_nil)))) pss_nil)
      (pss_one (ps_ret (pv 0))), ?_⟩
    refine ⟨_, rfl, (by show 2 ≤ sizeLine; decide), fun t ht => ?_⟩
    have g1 : Same H (upd H t (.tup [.ty "list", .ty "tuple"])) := same_new ht _
    refine ⟨_, t, _, .type "list", [.type "list", .type "tuple"], true, rfl, upd_same, .cons (.ty _) (.cons (.ty _) .nil), tyL (g1.seq hS), is_seqL, _, rfl, ?_⟩
    refine iteT ?_
    refine ⟨_, rfl, a, rfl, ⟨_, g1.seq hS⟩, fun D hD => ?_⟩
    have hD0 : H D = none := g1.free hD
    refine lc_list (K := K) (a := a) (xs := is.map V.int) (InvI H D is) ⟨upd_same, same_over g1 hD0 _⟩ (fun i H' _ ⟨_, g⟩ => g.seq hS) (fun i x H' hx hi => ⟨rfl, kept (turn (te := fun _ _ _ => True) hD0 i x H' hx hi)⟩) ?_
    rintro H' ⟨hd, g⟩
    rw [List.length_map, List.take_length] at hd
    refine ⟨D, _, rfl, .inl ⟨SqL.of hd, fun l hl0 => ?_⟩⟩
    exact q l _ (g.trans (same_new hl0 _)) (g.free hl0) upd_same
  · refine ⟨_, pss_cons (ps_if (pt_val (pe_callB call_isiT (by rfl) B.isi (by decide +kernel) (pa_cons (pv 0) (pa_cons (pe_tup (pa_cons (pe_bltn (v := .ty "list") (by rfl) B.lst (by decide +kernel) rfl) (pa_cons (pe_bltn (v := .ty "tuple") (by rfl) B.tup (by decide +kernel) rfl) pa_nil))) pa_nil))))
        (pss_one (ps_ret (pe_callTy call_tuple_of (by rfl) B.tup (by decide +kernel) (pa_cons (pe_lc (own := [("part", 1)]) (g := gName 1) (tt := tYes) rfl scF.nd (pi_tup (pv 0)) (blkOk_by (N := ["worth", "part"]) (sc := defScope sFrozen) (by decide +kernel))
          (fun _ _ _ _ _ => pg_name (i := 1) scF.nd rfl (Or.inl rfl)) (fun _ _ _ _ _ => pts_nil) (fun _ _ _ _ _ => pe_call G hr rfl mF F.kp bF .nil pass0 (pa_cons (pv 1) pa_nil))) pa_nil)))) pss_nil)
      (pss_one (ps_ret (pv 0))), ?_⟩
    refine ⟨_, rfl, (by show 2 ≤ sizeLine; decide), fun t ht => ?_⟩
    have g1 : Same H (upd H t (.tup [.ty "list", .ty "tuple"])) := same_new ht _
    refine ⟨_, t, _, .type "tuple", [.type "list", .type "tuple"], true, rfl, upd_same, .cons (.ty _) (.cons (.ty _) .nil), tyT (seqT g1 hS), is_seq (by decide +kernel) (by decide +kernel), _, rfl, ?_⟩
    refine iteT ?_
    refine ⟨_, rfl, a, rfl, ⟨_, seqT g1 hS⟩, fun D hD => ?_⟩
    have hD0 : H D = none := g1.free hD
    refine lc_tup (K := K) (a := a) (xs := is.map V.int) (InvI H D is) ⟨upd_same, same_over g1 hD0 _⟩ (fun i H' _ ⟨_, g⟩ => seqT g hS) (fun i x H' hx hi => ⟨rfl, kept (turn (te := fun _ _ _ => True) hD0 i x H' hx hi)⟩) ?_
    rintro H' ⟨hd, g⟩
    rw [List.length_map, List.take_length] at hd
    refine ⟨D, _, rfl, .inl ⟨SqL.of hd, fun l hl0 => ?_⟩⟩
    exact q l _ (g.trans (same_new hl0 _)) (g.free hl0) upd_same
def spAxes (K : PySem.W.Frag) : Sp := fun vs H Q _ => ∃ (a : Addr) (is : List Int) (n : Nat), vs = [.ref a, .int n] ∧ SqT K H a (is.map V.int) ∧ is.length ≤ 1000 ∧ n ≤ 1000 ∧ ∀ H' : Hp, Same H H' → Q (.bl (axesOk is n)) H'
theorem scA : FnScope ["axes", "many", "axis"] ["axes", "many"] (defScope sAxes) := ⟨rfl, rfl, rfl, by decide +kernel, rfl, by decide +kernel, by decide +kernel⟩
theorem ok_axes {g : Addr} {gd : FuncData} (F : Fun K "are_axes" "are_axes" sAxes f fd) (G : FnOk P w K mg base CX0 1 g gd ["n"] spWhole) (bG : Binds K gd ["n"] []) (kG : PySem.W.keepIn K (.ref g) = true) (mG : mg "is_whole" = some (.ref g)) (B : Bt mg) :
    FnOk P w K mg base CX0 2 f fd ["axes", "many"] (spAxes K) := by
  refine F.ok scA (fun vs H Q E h => ?_) (fun cdv A outer s H vs Q E hr h => ?_)
  · obtain ⟨a, is, n, rfl, _⟩ := h
    rfl
  obtain ⟨a, is, n, rfl, hS, hl, hn, q⟩ := h
  refine ⟨_, pss_cons (ps_if (PW.pt (pw_or (pt_not (pt_val (pe_callB call_isi (by rfl) B.isi (by decide +kernel) (pa_cons (pv 0) (pa_cons (pe_bltn (v := .ty "tuple") (by rfl) B.tup (by decide +kernel) rfl) pa_nil)))))
        (pw_or1 (pt_cmpR op_ne (pe_callB call_len_seq (by rfl) B.len PySem.boot_len (pa_cons (pv 0) pa_nil)) (pv 1) (nomark _))))) (pss_one (ps_ret pe_bl)) pss_nil)
    (pss_cons (ps_if (pt_not (pt_val (pe_callB (cr_all rfl) (by rfl) B.all (by decide +kernel) (pa_cons (pe_lc (own := [("axis", 2)]) (g := gName 2) (tt := tYes) rfl scA.nd (pi_tup (pv 0)) (blkOk_by (N := ["axes", "many", "axis"]) (sc := defScope sAxes) (by decide +kernel))
        (fun _ _ _ _ _ => pg_name (i := 2) scA.nd rfl (Or.inl rfl)) (fun _ _ _ _ _ => pts_nil) (fun _ _ _ _ _ => pe_call G hr rfl mG kG bG .nil pass0 (pa_cons (pv 2) pa_nil))) pa_nil)))) (pss_one (ps_ret pe_bl)) pss_nil)
    (pss_one (ps_ret (pe_callB (cr_all rfl) (by rfl) B.all (by decide +kernel) (pa_cons (pe_lc (own := [("axis", 2)]) (g := gName 2) (tt := tYes) rfl scA.nd (pi_range1 (by rfl) B.range (pa_cons (pv 1) pa_nil)) (blkOk_by (N := ["axes", "many", "axis"]) (sc := defScope sAxes) (by decide +kernel))
        (fun _ _ _ _ _ => pg_name (i := 2) scA.nd rfl (Or.inl rfl)) (fun _ _ _ _ _ => pts_nil) (fun _ _ _ _ _ => pe_cmpR (r := rIn K false) op_in_seq (pv 2) (pv 0) (by rfl))) pa_nil))))), ?_⟩
  refine ⟨_, rfl, _, _, .type "tuple", .type "tuple", true, rfl, .ty _, tyT hS, kit_ty (by decide +kernel), _, rfl, ?_⟩
  refine iteF ?_
  refine ⟨_, rfl, a, _, rfl, .inr hS, _, rfl, rfl, _, rfl, ?_⟩
  refine ite2 (fun c => ?_) (fun c => ?_)
  · have e : axesOk is n = false := by
      rw [List.length_map] at c
      have c2 : ¬ is.length = n := fun e => by
        rw [e, decide_eq_true rfl] at c
        cases c
      unfold axesOk
      rw [decide_eq_false c2]
      rfl
    have z := q H (Same.refl H)
    rw [e] at z
    exact z
  · have e : is.length = n := by
      rw [List.length_map] at c
      by_cases z : is.length = n
      · exact z
      · exact absurd (by rw [decide_eq_false (fun y => z (by cases y; rfl))]; rfl) c
    refine ⟨_, rfl, a, rfl, ⟨_, hS⟩, fun D hD => ?_⟩
    refine lc_tup (K := K) (a := a) (xs := is.map V.int) (InvB H D fun _ => true) ⟨upd_same, same_new hD _⟩ (fun i H' _ ⟨_, g⟩ => seqT g hS) (fun i x H' hx hi => ⟨rfl, kept ?_⟩) ?_
    · obtain ⟨m, rfl, _⟩ := take_map_succ hx
      have hi2 : i < is.length := by
        have z := (List.getElem?_eq_some_iff.mp hx).1
        rwa [List.length_map] at z
      exact ⟨_, rfl, m, rfl, _, hi.1, len_b (by omega), hi.next hD⟩
    rintro H' ⟨hd, g⟩
    refine ⟨D, _, rfl, SqL.of hd, _, rfl, ?_⟩
    have ea : (((List.range (is.map V.int).length).map fun _ => true)).all id = true := by simp
    rw [ea]
    refine iteF ?_
    refine ⟨_, rfl, n, rfl, by omega, by omega, fun D2 hD2 => ?_⟩
    have hD20 : H D2 = none := g.free hD2
    refine lc_range (lo := 0) (n := n) (InvB H D2 fun j => decide ((j : Int) ∈ is)) ⟨upd_same, same_over g hD20 _⟩ (fun i H2 hi hv => ⟨rfl, kept ?_⟩) ?_
    · refine ⟨_, rfl, _, rfl, a, _, rfl, .inr (seqT hv.2 hS), rfl, flat_ints is, _, hv.1, len_b (by omega), ?_⟩
      have z := hv.next hD20
      rw [show inV (.int (0 + (i : Int))) (is.map V.int) = decide ((i : Int) ∈ is) by rw [Int.zero_add, inV_int]]
      exact z
    rintro H2 ⟨hd2, g2⟩
    refine ⟨D2, _, rfl, SqL.of hd2, ?_⟩
    have ez : axesOk is n = ((List.range n).map fun j : Nat => decide ((j : Int) ∈ is)).all id := by
      unfold axesOk
      rw [decide_eq_true e, Bool.true_and, List.all_map] <;> rfl
    rw [← ez]
    exact q _ g2
end
end Lw
namespace Lw
open PySem L2
abbrev sInit : Stmt := inClass (topS 13) 1
abbrev sText : Stmt := inClass (topS 13) 2
abbrev sRead : Stmt := inClass (topS 13) 3
def KINDS : List Str := ["dense", "packed", "bits", "hashed"]
def AWORDS : List Str := ["0", "1", "2"]
def valid (ks : List Str) (is : List Int) : Bool := decide (ks.length ≤ 3) && (ks.all (fun k => decide (k ∈ KINDS)) && axesOk is ks.length)
def iota (n : Nat) : List Int := (List.range n).map fun i : Nat => (i : Int)
theorem rg_iota (n : Nat) : rgV 0 (n : Int) = (iota n).map V.int := by
  unfold rgV iota
  rw [List.map_map, show ((n : Int) - 0).toNat = n by omega]
  refine List.map_congr_left fun i _ => ?_
  show V.int (0 + (i : Int)) = V.int (i : Int)
  rw [Int.zero_add]
theorem iota_len (n : Nat) : (iota n).length = n := by unfold iota; rw [List.length_map, List.length_range]
/-- the chain of a class over ValueError, behind its own ones -/
abbrev veB : List Value := [.type "ValueError", .type "Exception", .type "BaseException", .type "object"]
structure Fm (K : PySem.W.Frag) (mg : Str → Option Value) (C fI BF AW KD : Addr) (MC : Value) : Prop where
  cl : Cls K C
  nK : NoAttr K C "kinds"
  nA : NoAttr K C "axes"
  mkC : Mk K C fI
  mC : mg "Form" = some (.ref C)
  mB : mg "BadForm" = some (.ref BF)
  xB : PySem.W.excIn K BF veB "ValueError.__new__" = true
  kB : PySem.W.keepIn K (.ref BF) = true
  rB : PySem.W.subIn K (.ref BF) (.type "BaseException") = some true
  tB : PySem.W.typeIn K (.ref BF) = some (.type "type")
  most : ∃ t, mg "MOST_LEVELS" = some (.int 3 t)
  cr : ClX.CRead K C MC
  kd : ClX.CVal K C MC "KINDS" (.ref KD) (.ref KD)
  kdT : ∀ H : Hp, SqT K H KD (KINDS.map V.str)
  mAW : mg "AXIS_WORDS" = some (.ref AW)
  awT : ∀ H : Hp, SqT K H AW (AWORDS.map V.str)
theorem ka_ : ¬ (("kinds" : Str) = "axes") := by decide +kernel
theorem ak_ : ¬ (("axes" : Str) = "kinds") := by decide +kernel
def flds (tk ta : Addr) : List (Str × V) := putF "axes" (.ref ta) (putF "kinds" (.ref tk) [])
theorem flds_k (tk ta : Addr) : (flds tk ta).lookup ("kinds" : Str) = some (.ref tk) := by
  unfold flds
  rw [lookup_putF, if_neg ka_, lookup_putF, if_pos rfl]
theorem flds_a (tk ta : Addr) : (flds tk ta).lookup ("axes" : Str) = some (.ref ta) := by
  unfold flds
  rw [lookup_putF, if_pos rfl]
theorem fld1_k (tk : Addr) : (putF "kinds" (V.ref tk) []).lookup ("kinds" : Str) = some (.ref tk) := by
  rw [lookup_putF, if_pos rfl]
/-- what a comprehension without a test has made so far -/
def InvM {α : Type} (H0 : Hp) (D : Addr) (f : α → V) (l : List α) (i : Nat) (H : Hp) : Prop := H D = some (.lst ((l.take i).map f)) ∧ Same H0 H
theorem InvM.next {α : Type} {H0 H : Hp} {D : Addr} {f : α → V} {l : List α} {i : Nat} {a : α} (hd0 : H0 D = none) (hH : Same H0 H) (e : l[i]? = some a) (acc : List V) (ea : acc = (l.take i).map f) : InvM H0 D f l (i + 1) (upd H D (.lst (acc ++ [f a]))) :=
  ⟨by rw [upd_same, ea, List.take_succ, e, List.map_append] <;> rfl, same_over hH hd0 _⟩
theorem at_map {α : Type} {g : α → V} {l : List α} {i : Nat} {x : V} (h : (l.map g)[i]? = some x) : ∃ a, l[i]? = some a ∧ x = g a := by
  rw [List.getElem?_map] at h
  cases e : l[i]? with
  | none => rw [e] at h; cases h
  | some a =>
    rw [e] at h
    exact ⟨a, rfl, (Option.some.inj h).symm⟩
theorem len_m {α : Type} {f : α → V} {l : List α} {i : Nat} (h : l.length ≤ 1000) : ((l.take i).map f).length < sizeLine := by
  rw [List.length_map, List.length_take]
  exact small1000 (by omega)
def Kp (p : Addr) (H H' : Hp) : Prop := ∀ b o, b ≠ p → H b = some o → H' b = some o
theorem Kp.same {p : Addr} {H H1 H2 : Hp} (k : Kp p H H1) (g : Same H1 H2) : Kp p H H2 := fun b o n e => g _ _ (k b o n e)
theorem Kp.seq {K : PySem.W.Frag} {p a : Addr} {H H' : Hp} {xs : List V} {C dx : Addr} {fs : List (Str × V)} (k : Kp p H H') (hp : H p = some (.ins C dx fs)) (h : SqT K H a xs) : SqT K H' a xs := by
  rcases h with (h | ⟨o, h⟩) | h
  · exact .inl (.inl (k _ _ (fun e => by rw [e, hp] at h; cases h) h))
  · exact .inl (.inr ⟨o, k _ _ (fun e => by rw [e, hp] at h; cases h) h⟩)
  · exact .inr h
theorem Kp.seqL {K : PySem.W.Frag} {p a : Addr} {H H' : Hp} {xs : List V} {C dx : Addr} {fs : List (Str × V)} (k : Kp p H H') (hp : H p = some (.ins C dx fs)) (h : SqL K H a xs) : SqL K H' a xs := by
  rcases h with (h | ⟨o, h⟩) | h
  · exact .inl (.inl (k _ _ (fun e => by rw [e, hp] at h; cases h) h))
  · exact .inl (.inr ⟨o, k _ _ (fun e => by rw [e, hp] at h; cases h) h⟩)
  · exact .inr h
/-- the promise of Form.__init__ -/
def spInit (K : PySem.W.Frag) (C BF : Addr) : SpF := fun x vs kv H Q E => ∃ (p dx : Addr) (ks : List Str) (is : List Int), x = .ref p ∧ vs = ks.map V.str ∧ H p = some (.ins C dx []) ∧ ks.length ≤ 1000 ∧ is.length ≤ 1000 ∧
  ((kv = .non ∧ is = iota ks.length) ∨ ∃ a, kv = .ref a ∧ (SqL K H a (is.map V.int) ∨ SqT K H a (is.map V.int))) ∧
  (∀ (H' : Hp) (tk ta : Addr), valid ks is = true → Kp p H H' → H' p = some (.ins C dx (flds tk ta)) → SqT K H' tk (ks.map V.str) → SqT K H' ta (is.map V.int) → Q .non H') ∧
  (∀ H' : Hp, valid ks is = false → Kp p H H' → E (.ref BF) none H')
section
variable {P : Program} {w : World} {K : PySem.W.Frag} {mg : Str → Option Value} {base : Heap} {C fI BF AW KD gF gA : Addr} {MC : Value} {dF dA : FuncData}
theorem pe_kinds {X : Cx} {p pos : PySem.Pos} (hg : Gl X "Form") (hm : X.mg "Form" = some (.ref C)) : PE X (.Attribute (.Name "Form" p) "KINDS" pos) (ClX.tCVal X.K (tC (.ref C)) "KINDS") := ClX.pe_cval (pe_glob hg hm rfl)
abbrev namesI : List Str := ["self", "axes", "kinds", "kind"]
theorem scI : FnScope namesI ["self", "axes", "kinds"] (defScope sInit) := ⟨rfl, rfl, rfl, by decide +kernel, rfl, by decide +kernel, by decide +kernel⟩
theorem ok_init {oc cdv ct dc pm du : Value} {od an : Option Addr} {osl : Array (Option Value)} {D : Addr} (lk : K.lookup fI = some ⟨oc, od, .func (PySem.W.fnOf "__init__" "Form.__init__" (defArgs sInit) (defBody sInit) (defScope sInit) .none (.ref D) dc pm an cdv ct), osl⟩) (hcd : PySem.W.codeIn K cdv "Form.__init__" = true)
    (hD : PySem.W.nsIn K D "axes" = some (some .none)) (T : Fm K mg C fI BF AW KD MC) (B : Bt mg)
    (GF : FnOk P w K mg base CX0 2 gF dF ["worth"] (spFrz K)) (bF : Binds K dF ["worth"] []) (kF : PySem.W.keepIn K (.ref gF) = true) (mF : mg "frozen" = some (.ref gF))
    (GA : FnOk P w K mg base CX0 2 gA dA ["axes", "many"] (spAxes K)) (bA : Binds K dA ["axes", "many"] []) (kA : PySem.W.keepIn K (.ref gA) = true) (mA : mg "are_axes" = some (.ref gA)) :
    FnF P w K mg base (L2.CX P w) 3 fI "axes" .non (spInit K C BF) := by
  obtain ⟨tm, hmost⟩ := T.most
  refine fn_F (N := namesI) (p1 := "self") (kn := "axes") (pv := "kinds") lk hcd scI StX.cxUp hD rfl (fun x u us => ?_) (fun x us => ?_) (fun A outer s H x vs kv tk H0 Q E hr htk eH h => ?_)
  · cases us <;> rfl
  · cases us <;> exact ⟨_, _, _, _, _, _, rfl, rfl, rfl⟩
  obtain ⟨p, dx, ks, is, rfl, rfl, hp, hk, hi, hkv, q, qe⟩ := h
  subst eH
  refine ⟨_, C8.pss_cut (ps_if (pt_cmpR op_isN (pv 1) pe_non (nomark _)) (pss_one (ps_set (i := 1) scI.nd rfl (Or.inl rfl) (pe_listRg rfl (by rfl) B.lst (prg_1 (by rfl) B.range (pe_callB call_len_seq (by rfl) B.len PySem.boot_len (pa_cons (pv 2) pa_nil)))))) pss_nil)
    (pss_cons (ps_fld (pv 0) (pe_callTy call_tuple_of (by rfl) B.tup (by decide +kernel) (pa_cons (pv 2) pa_nil)) rfl)
    (pss_cons (ps_fld (pv 0) (pe_call GF hr rfl mF kF bF .nil pass0 (pa_cons (pv 1) pa_nil)) rfl)
    (pss_cons (ps_if (pt_cmpR op_gt (pe_callB call_len_seq (by rfl) B.len PySem.boot_len (pa_cons (pe_fld (pv 0) rfl) pa_nil)) (pe_glob (v := .int 3) (by rfl) hmost ⟨_, rfl⟩) (nomark _))
      (pss_one (ps_raise rfl (takes_of rfl rfl rfl rfl) (pmk_own0 PySem.F.excBase_ValueError T.xB T.mB T.kB (raises_own T.rB T.tB) (by rfl)))) pss_nil)
    (pss_cons (ps_if (pt_not (pt_val (pe_callB (cr_all rfl) (by rfl) B.all (by decide +kernel) (pa_cons (pe_lc (own := [("kind", 3)]) (g := gName 3) (tt := tYes) rfl scI.nd (pi_tup (pe_fld (pv 0) rfl)) (blkOk_by (N := namesI) (sc := defScope sInit) (by decide +kernel))
        (fun _ _ _ _ _ => pg_name (i := 3) scI.nd rfl (Or.inl rfl)) (fun _ _ _ _ _ => pts_nil) (fun _ _ _ _ _ => pe_cmpR (r := rIn K false) (tb := ClX.tCVal K (tC (.ref C)) "KINDS") op_in_seq (pv 3) (pe_kinds (by rfl) T.mC) (by rfl))) pa_nil))))
      (pss_one (ps_raise rfl (takes_of rfl rfl rfl rfl) (pmk_own0 PySem.F.excBase_ValueError T.xB T.mB T.kB (raises_own T.rB T.tB) (by rfl)))) pss_nil)
    (pss_one (ps_if (pt_not (pt_val (pe_call GA hr rfl mA kA bA .nil pass0 (pa_cons (pe_fld (pv 0) rfl) (pa_cons (pe_callB call_len_seq (by rfl) B.len PySem.boot_len (pa_cons (pe_fld (pv 0) rfl) pa_nil)) pa_nil)))))
      (pss_one (ps_raise rfl (takes_of rfl rfl rfl rfl) (pmk_own0 PySem.F.excBase_ValueError T.xB T.mB T.kB (raises_own T.rB T.tB) (by rfl)))) pss_nil)))))), ?_⟩
  have h0 : (upd H0 tk (.tup (ks.map V.str))) p = some (.ins C dx []) := by rw [upd_ne (ne_of_none hp htk)]; exact hp
  have ht : SqT K (upd H0 tk (.tup (ks.map V.str))) tk (ks.map V.str) := SqT.of upd_same
  have g0 : Same H0 (upd H0 tk (.tup (ks.map V.str))) := same_new htk _
  revert h0 ht g0
  generalize upd H0 tk (.tup (ks.map V.str)) = H1
  intro h0 ht g0
  refine ⟨fun σ' H' => ∃ a, σ' = [some (.ref p), some (.ref a), some (.ref tk), none] ∧ (SqL K H' a (is.map V.int) ∨ SqT K H' a (is.map V.int)) ∧ Same H1 H', ?_, ?_⟩
  · rcases hkv with ⟨rfl, rfl⟩ | ⟨a, rfl, hS⟩
    · refine ⟨_, rfl, rfl, _, rfl, iteC (decide_eq_true rfl) ?_⟩
      refine ⟨_, rfl, tk, _, rfl, .inr ht, _, rfl, RgOk.of_le (by decide) (by rw [List.length_map]; omega) (by decide) (by omega), fun q' hq' => ?_⟩
      refine ⟨q', rfl, .inl (SqL.of ?_), same_new hq' _⟩
      rw [upd_same, List.length_map, rg_iota]
    · refine ⟨_, rfl, rfl, _, rfl, iteN (decide_eq_false (by intro z; cases z)) ?_⟩
      exact ⟨a, rfl, hS.imp (fun z => g0.seq z) (fun z => seqT g0 z), Same.refl _⟩
  · rintro σ' H' ⟨a, rfl, hS, g1⟩
    have kp0 : Kp p H0 H' := fun b o _ e => g1 _ _ (g0 _ _ e)
    have hp1 := g1 _ _ h0
    have ht1 := seqT g1 ht
    refine ⟨_, rfl, tk, _, rfl, .inr ⟨ht1, _, rfl, p, C, dx, _, rfl, hp1, T.cl, T.nK, (by show 0 < 1000; decide), ?_⟩⟩
    have k1 : Kp p H' (upd H' p (.ins C dx (putF "kinds" (.ref tk) []))) := fun b o n e => by rw [upd_ne n]; exact e
    have hS1 := hS.imp (fun z => k1.seqL hp1 z) (fun z => k1.seq hp1 z)
    have ht2 := k1.seq hp1 ht1
    refine ⟨_, rfl, a, is, rfl, hS1, hi, fun ta H3 g3 n3 h3 => ?_⟩
    have hp3 := g3 _ _ (upd_same (H := H') (a := p) (o := .ins C dx (putF "kinds" (.ref tk) [])))
    have ht3 := seqT g3 ht2
    refine ⟨_, rfl, p, C, dx, _, rfl, hp3, T.cl, T.nA, (by show 1 < 1000; decide), ?_⟩
    have k3 : Kp p H3 (upd H3 p (.ins C dx (flds tk ta))) := fun b o n e => by rw [upd_ne n]; exact e
    have ht4 := k3.seq hp3 ht3
    have ha4 := k3.seq (K := K) hp3 (SqT.of h3)
    have hp4 : upd H3 p (.ins C dx (flds tk ta)) p = some (.ins C dx (flds tk ta)) := upd_same
    have kp4 : Kp p H0 (upd H3 p (.ins C dx (flds tk ta))) := fun b o n e => k3 b o n (g3 _ _ (k1 b o n (kp0 b o n e)))
    revert ht4 ha4 hp4 kp4
    show SqT K (upd H3 p (.ins C dx (flds tk ta))) tk (ks.map V.str) → SqT K (upd H3 p (.ins C dx (flds tk ta))) ta (is.map V.int) → upd H3 p (.ins C dx (flds tk ta)) p = some (.ins C dx (flds tk ta)) → Kp p H0 (upd H3 p (.ins C dx (flds tk ta))) → _
    intro ht4 ha4 hp4 kp4
    refine ⟨_, rfl, p, C, dx, _, _, rfl, hp4, T.cl, T.nK, flds_k _ _, tk, _, rfl, .inr ht4, _, _, rfl, rfl, _, rfl, ?_⟩
    refine ite2 (fun c => ?_) (fun c => ?_)
    · refine qe _ ?_ kp4
      have c2 : (3 : Int) < (((ks.map V.str).length : Nat) : Int) := of_decide_eq_true c
      rw [List.length_map] at c2
      unfold valid
      rw [decide_eq_false (by omega), Bool.false_and]
    have c2 : ¬ (3 : Int) < (((ks.map V.str).length : Nat) : Int) := of_decide_eq_false (Bool.eq_false_iff.mpr c)
    rw [List.length_map] at c2
    have e3 : decide (ks.length ≤ 3) = true := decide_eq_true (by omega)
    refine ⟨_, rfl, p, C, dx, _, _, rfl, hp4, T.cl, T.nK, flds_k _ _, tk, rfl, ⟨_, ht4⟩, fun D hD => ?_⟩
    refine lc_tup (K := K) (a := tk) (xs := ks.map V.str) (InvM _ D (fun k : Str => V.bl (decide (k ∈ KINDS))) ks) ⟨upd_same, same_new hD _⟩ (fun i H5 _ ⟨_, g⟩ => seqT g ht4) (fun i x H5 hx hv => ?_) ?_
    · obtain ⟨k, ek, rfl⟩ := at_map hx
      refine ⟨rfl, kept ?_⟩
      refine ⟨_, rfl, C, MC, _, _, rfl, T.cr, T.kd, KD, _, rfl, .inr (T.kdT _), rfl, flat_strs _, _, hv.1, len_m (by omega), ?_⟩
      have z := InvM.next (f := fun k : Str => V.bl (decide (k ∈ KINDS))) hD hv.2 ek _ rfl
      rw [show inV (.str k) (KINDS.map V.str) = decide (k ∈ KINDS) from inV_str k KINDS]
      exact z
    rintro H5 ⟨hd5, g5⟩
    rw [List.length_map, List.take_length] at hd5
    have kp5 := kp4.same g5
    have hp5 := g5 _ _ hp4
    refine ⟨D, ks.map (fun k : Str => decide (k ∈ KINDS)), rfl, SqL.of (by rw [hd5, List.map_map] <;> rfl), _, rfl, ?_⟩
    have eall : (ks.map (fun k : Str => decide (k ∈ KINDS))).all id = ks.all fun k => decide (k ∈ KINDS) := by rw [List.all_map] <;> rfl
    rw [eall]
    refine ite2 (fun c5 => ?_) (fun c5 => ?_)
    · refine qe _ ?_ kp5
      unfold valid
      rw [show (ks.all fun k => decide (k ∈ KINDS)) = false by simpa using c5, Bool.false_and, Bool.and_false]
    have e5 : (ks.all fun k => decide (k ∈ KINDS)) = true := by
      cases z : (ks.all fun k => decide (k ∈ KINDS)) with
      | true => rfl
      | false => exact absurd (by rw [z]; rfl) c5
    refine ⟨_, rfl, p, C, dx, _, _, rfl, hp5, T.cl, T.nA, flds_a _ _, _, rfl, p, C, dx, _, _, rfl, hp5, T.cl, T.nK, flds_k _ _, tk, _, rfl, .inr (seqT g5 ht4), ta, is, (ks.map V.str).length, rfl, seqT g5 ha4, hi, by rw [List.length_map]; exact hk, fun H6 g6 => ⟨_, rfl, ?_⟩⟩
    have kp6 := kp5.same g6
    have hp6 := g6 _ _ hp5
    rw [List.length_map]
    refine ite2 (fun c6 => ?_) (fun c6 => ?_)
    · refine qe _ ?_ kp6
      unfold valid
      rw [show axesOk is ks.length = false by simpa using c6, Bool.and_false, Bool.and_false]
    have e6 : axesOk is ks.length = true := by
      cases z : axesOk is ks.length with
      | true => rfl
      | false => exact absurd (by rw [z]; rfl) c6
    exact q _ tk ta (by unfold valid; rw [e3, e5, e6]; rfl) kp6 hp6 (seqT g6 (seqT g5 ht4)) (seqT g6 (seqT g5 ha4))
end
end Lw
namespace Lw
open PySem L2 TL
/-! cutting a text at a separator, and joining the parts -/
theorem spl_lens (S : List Nat) : ∀ (l : List Nat) (k : Nat) (acc : List Nat), (∀ p ∈ spl S k acc l, p.length ≤ acc.length + l.length) ∧ (spl S k acc l).length ≤ l.length + 1
  | [], k, acc => by
    rw [spl_nil]
    exact ⟨fun p hp => by rw [List.mem_singleton.mp hp]; exact Nat.le_add_right _ _, Nat.le_refl _⟩
  | c :: r, 0, acc => by
    cases h : pre S (c :: r) with
    | true =>
      rw [spl_hit h]
      obtain ⟨i1, i2⟩ := spl_lens S r (S.length - 1) []
      refine ⟨fun p hp => ?_, by rw [List.length_cons, List.length_cons]; omega⟩
      rcases List.mem_cons.mp hp with e | hp
      · rw [e]; exact Nat.le_add_right _ _
      · have z := i1 p hp
        rw [List.length_nil] at z
        rw [List.length_cons]
        omega
    | false =>
      rw [spl_miss h]
      obtain ⟨i1, i2⟩ := spl_lens S r 0 (acc ++ [c])
      refine ⟨fun p hp => ?_, by rw [List.length_cons]; omega⟩
      have z := i1 p hp
      rw [List.length_append, List.length_singleton] at z
      rw [List.length_cons]
      omega
  | c :: r, k + 1, acc => by
    obtain ⟨i1, i2⟩ := spl_lens S r k acc
    refine ⟨fun p hp => ?_, by rw [List.length_cons]; show (spl S k acc r).length ≤ _; omega⟩
    have z := i1 p hp
    rw [List.length_cons]
    omega
theorem spl_ne (S : List Nat) : ∀ (l : List Nat) (k : Nat) (acc : List Nat), spl S k acc l ≠ []
  | [], k, acc => by rw [spl_nil]; simp
  | c :: r, 0, acc => by
    cases h : pre S (c :: r) with
    | true => rw [spl_hit h]; simp
    | false => rw [spl_miss h]; exact spl_ne S r 0 _
  | c :: r, k + 1, acc => spl_ne S r k acc
theorem joinL_cons {S p : List Nat} : ∀ {l : List (List Nat)}, l ≠ [] → joinL S (p :: l) = p ++ (S ++ joinL S l)
  | [], h => absurd rfl h
  | q :: r, _ => rfl
theorem spl_back {S : List Nat} (hS : S ≠ []) : ∀ (n : Nat) (l : List Nat), l.length ≤ n → ∀ acc, joinL S (spl S 0 acc l) = acc ++ l
  | _, [], _, acc => by
    rw [spl_nil, List.append_nil] <;> rfl
  | 0, c :: r, h, acc => by simp at h
  | n + 1, c :: r, h, acc => by
    rw [List.length_cons] at h
    cases hp : pre S (c :: r) with
    | true =>
      rw [spl_hit hp, joinL_cons (spl_ne S r _ _), spl_pass, spl_back hS n _ (by rw [List.length_drop]; omega) [], List.nil_append]
      have e1 : (c :: r).take S.length = S := by
        unfold pre at hp
        exact eq_of_beq hp
      have e2 : (c :: r).drop S.length = r.drop (S.length - 1) := by
        cases S with
        | nil => exact absurd rfl hS
        | cons a S' => rfl
      rw [← e2]
      have e3 := List.take_append_drop S.length (c :: r)
      rw [e1] at e3
      rw [e3]
    | false =>
      rw [spl_miss hp, spl_back hS n r (by omega), List.append_assoc] <;> rfl
theorem split_back (z y : Str) (hy : tl y ≠ []) (hk : y.cps.all (· < 256) = true) : Txt.join y (Txt.split z y) = z := by
  refine ext_tl ?_
  rw [join_eq, tl_join, split_spl z y hy (kind_ok hk), spl_back hy _ _ (Nat.le_refl _), List.nil_append]
theorem split_lens (z y : Str) (hy : tl y ≠ []) (hk : y.cps.all (· < 256) = true) : (∀ p ∈ Txt.split z y, p.length ≤ z.length) ∧ (Txt.split z y).length ≤ z.length + 1 := by
  have e := split_spl z y hy (kind_ok hk)
  obtain ⟨i1, i2⟩ := spl_lens (tl y) (tl z) 0 []
  rw [← e] at i1 i2
  refine ⟨fun p hp => ?_, ?_⟩
  · have q := i1 (tl p) (List.mem_map_of_mem hp)
    rw [List.length_nil, Nat.zero_add] at q
    rw [len_tl, len_tl]
    exact q
  · rw [List.length_map] at i2
    rw [len_tl]
    exact i2
/-! forms as texts -/
def aval (a : Str) : Int := if a = "0" then 0 else if a = "1" then 1 else 2
/-- one level of a text -/
def lvl (p : Str) : Option (Str × Int) := match Txt.split p " " with
  | [k, a] => if a ∈ AWORDS then some (k, aval a) else none
  | _ => none
def lks (ps : List Str) : List Str := (ps.filterMap lvl).map (·.1)
def lis (ps : List Str) : List Int := (ps.filterMap lvl).map (·.2)
/-- what Form.read makes of a text -/
def rd (z : Str) : Option (List Str × List Int) :=
  if z = "-" then some ([], []) else if ((Txt.split z ", ").all fun p => (lvl p).isSome) = true ∧ valid (lks (Txt.split z ", ")) (lis (Txt.split z ", ")) = true then some (lks (Txt.split z ", "), lis (Txt.split z ", ")) else none
def itm (k : Str) (i : Int) : Str := Str.empty ++ k ++ " " ++ ((toString i : String) : Str)
def ftext (ks : List Str) (is : List Int) : Str := if ks.length = 0 then "-" else Txt.join ", " ((ks.zip is).map fun p => itm p.1 p.2)
theorem small_itm : ∀ k ∈ KINDS, ∀ i ∈ ([0, 1, 2] : List Int), (Str.empty ++ k).length ≤ 20 ∧ (Str.empty ++ k ++ " ").length ≤ 20 ∧ (itm k i).length ≤ 20 ∧ k.length ≤ 20 ∧ i.natAbs.log2 < 1920 := by decide +kernel
theorem axes_small {is : List Int} {n : Nat} (h : axesOk is n = true) (hn : n ≤ 3) : is.length = n ∧ ∀ i ∈ is, i ∈ ([0, 1, 2] : List Int) := by
  unfold axesOk at h
  rw [Bool.and_eq_true] at h
  obtain ⟨h1, h2⟩ := h
  have e1 : is.length = n := of_decide_eq_true h1
  refine ⟨e1, ?_⟩
  rw [List.all_eq_true] at h2
  have m : ∀ j, j < n → ((j : Nat) : Int) ∈ is := fun j hj => of_decide_eq_true (h2 j (List.mem_range.mpr hj))
  match n, is, e1, hn, m with
  | 0, [], _, _, _ => intro i hi; cases hi
  | 1, [a], _, _, m =>
    have m0 := m 0 (by omega)
    simp at m0
    intro i hi
    simp at hi
    simp [hi, ← m0]
  | 2, [a, b], _, _, m =>
    have m0 := m 0 (by omega)
    have m1 := m 1 (by omega)
    simp at m0 m1
    intro i hi
    simp at hi ⊢
    omega
  | 3, [a, b, c], _, _, m =>
    have m0 := m 0 (by omega)
    have m1 := m 1 (by omega)
    have m2 := m 2 (by omega)
    simp at m0 m1 m2
    intro i hi
    simp at hi ⊢
    omega
  | n + 4, _, _, hn, _ => omega
theorem valid_parts {ks : List Str} {is : List Int} (h : valid ks is = true) : ks.length ≤ 3 ∧ (∀ k ∈ ks, k ∈ KINDS) ∧ is.length = ks.length ∧ ∀ i ∈ is, i ∈ ([0, 1, 2] : List Int) := by
  unfold valid at h
  rw [Bool.and_eq_true, Bool.and_eq_true] at h
  obtain ⟨h1, h2, h3⟩ := h
  have e1 : ks.length ≤ 3 := of_decide_eq_true h1
  rw [List.all_eq_true] at h2
  obtain ⟨h4, h5⟩ := axes_small h3 e1
  exact ⟨e1, fun k hk => of_decide_eq_true (h2 k hk), h4, h5⟩
theorem sum_le : ∀ {ys : List Str}, (∀ y ∈ ys, y.length ≤ 20) → (ys.map (·.length)).sum ≤ 20 * ys.length
  | [], _ => by simp
  | y :: r, h => by
    have q := sum_le (ys := r) fun y hy => h y (List.mem_cons_of_mem _ hy)
    have z := h y (List.mem_cons_self ..)
    rw [List.map_cons, List.sum_cons, List.length_cons]
    omega
end Lw
namespace Lw
open PySem L2
/-- a form stands at p -/
def FormAt (K : PySem.W.Frag) (C p : Addr) (ks : List Str) (is : List Int) (H : Hp) : Prop := ∃ dx tk ta : Addr, H p = some (.ins C dx (flds tk ta)) ∧ SqT K H tk (ks.map V.str) ∧ SqT K H ta (is.map V.int)
theorem FormAt.same {K : PySem.W.Frag} {C p : Addr} {ks : List Str} {is : List Int} {H H' : Hp} (g : Same H H') : FormAt K C p ks is H → FormAt K C p ks is H'
  | ⟨dx, tk, ta, h1, h2, h3⟩ => ⟨dx, tk, ta, g _ _ h1, seqT g h2, seqT g h3⟩
def spText (K : PySem.W.Frag) (C : Addr) : Sp := fun vs H Q _ => ∃ (p : Addr) (ks : List Str) (is : List Int), vs = [.ref p] ∧ FormAt K C p ks is H ∧ valid ks is = true ∧ ∀ H' : Hp, Same H H' → Q (.str (ftext ks is)) H'
def spRead (K : PySem.W.Frag) (C BF : Addr) : Sp := fun vs H Q E => ∃ z : Str, vs = [.ref C, .str z] ∧ z.length ≤ 900 ∧ (∀ (ks : List Str) (is : List Int), rd z = some (ks, is) → ∀ (p : Addr) (H' : Hp), Same H H' → FormAt K C p ks is H' → Q (.ref p) H') ∧ (rd z = none → ∀ H' : Hp, Same H H' → E (.ref BF) none H')
section
variable {P : Program} {w : World} {K : PySem.W.Frag} {mg : Str → Option Value} {base : Heap} {C fI BF AW KD f : Addr} {MC : Value} {fd : FuncData}
theorem scX : FnScope ["self", "kind", "axis"] ["self"] (defScope sText) := ⟨rfl, rfl, rfl, by decide +kernel, rfl, by decide +kernel, by decide +kernel⟩
theorem ok_text (F : Fun K "text" "Form.text" sText f fd) (T : Fm K mg C fI BF AW KD MC) (B : Bt mg) : FnOk P w K mg base CX0 1 f fd ["self"] (spText K C) := by
  refine F.ok scX (fun vs H Q E h => ?_) (fun cdv A outer s H vs Q E hr h => ?_)
  · obtain ⟨p, ks, is, rfl, _⟩ := h
    rfl
  obtain ⟨p, ks, is, rfl, ⟨dx, tk, ta, hp, ht, ha⟩, hv, q⟩ := h
  obtain ⟨v1, v2, v3, v4⟩ := valid_parts hv
  refine ⟨_, pss_cons (ps_if (pt_cmpR op_eq (pe_callB call_len_seq (by rfl) B.len PySem.boot_len (pa_cons (pe_fld (pv 0) rfl) pa_nil)) pe_int (nomark _)) (pss_one (ps_ret pe_str)) pss_nil)
    (pss_one (ps_ret (pe_join pe_str (pe_lc (own := [("kind", 1), ("axis", 2)]) (g := gTup K 2 (gCons (gName 1) (gCons (gName 2) gNil))) (tt := tYes) rfl scX.nd (RZ.pi_zipA (by rfl) B.zip (pa_cons (pe_fld (pv 0) rfl) (pa_cons (pe_fld (pv 0) rfl) pa_nil))) (blkOk_by (N := ["self", "kind", "axis"]) (sc := defScope sText) (by decide +kernel))
      (fun _ _ _ _ _ => pg_tup rfl (pgs_cons (pg_name (i := 1) scX.nd rfl (Or.inl rfl)) (pgs_cons (pg_name (i := 2) scX.nd rfl (Or.inl rfl)) pgs_nil))) (fun _ _ _ _ _ => pts_nil)
      (fun _ _ _ _ _ => pe_joined (.cons (pe_fmt (pv 1)) (.cons pe_str (.cons (pe_fmt (pv 2)) .nil)))))))), ?_⟩
  refine ⟨_, rfl, p, C, dx, _, _, rfl, hp, T.cl, T.nK, flds_k _ _, tk, _, rfl, .inr ht, rfl, _, rfl, ?_⟩
  refine ite2 (fun c => ?_) (fun c => ?_)
  · have e : ks.length = 0 := by
      have z := of_decide_eq_true c
      rw [List.length_map] at z
      simpa using z
    have z := q H (Same.refl H)
    unfold ftext at z
    rw [if_pos e] at z
    exact z
  · have e : ¬ ks.length = 0 := fun e => c (by rw [List.length_map, e]; rfl)
    refine ⟨⟨_, rfl⟩, _, rfl, p, C, dx, _, _, rfl, hp, T.cl, T.nK, flds_k _ _, _, rfl, p, C, dx, _, _, rfl, hp, T.cl, T.nA, flds_a _ _, tk, ta, _, _, rfl, .inr ⟨ht, ha, fun D hD => ?_⟩⟩
    have elen : (ks.map V.str).length = (is.map V.int).length := by rw [List.length_map, List.length_map, v3]
    refine lc_it (te := fun σ H Q => tJs [tFmt (tVar 1), tC (.str " "), tFmt (tVar 2)] Str.empty σ H fun out H1 => Q (.str out) H1) (walk_zipT (K := K) (a := tk) (b := ta) elen) (InvM H D (fun p : Str × Int => V.str (itm p.1 p.2)) (ks.zip is)) ⟨upd_same, same_new hD _⟩ (fun i H' _ ⟨_, g⟩ => ⟨seqT g ht, seqT g ha⟩) ?_ ?_
    · rintro i v H' H'' hi ⟨hd, g⟩ ⟨U, x, y, rfl, hU, rfl, ex, ey⟩
      obtain ⟨k, ek, rfl⟩ := at_map ex
      obtain ⟨j, ej, rfl⟩ := at_map ey
      obtain ⟨l1, l2, l3, l4, l5⟩ := small_itm k (v2 k (List.mem_of_getElem? ek)) j (v4 j (List.mem_of_getElem? ej))
      have gU : Same H' (upd H' U (.tup [.str k, .int j])) := same_new hU _
      have sz : ∀ {n : Nat}, n ≤ 20 → n ≤ sizeLine := fun h => Nat.le_of_lt (small1000 (by omega))
      refine ⟨U, [.str k, .int j], rfl, SqT.of upd_same, rfl, _, _, rfl, _, _, rfl, rfl, ?_⟩
      refine ⟨rfl, kept ?_⟩
      refine ⟨_, rfl, .inl ⟨k, rfl, sz l4, k, rfl, sz l1, " ", rfl, sz l2, _, rfl, .inr ⟨j, rfl, l5, _, rfl, sz l3, ?_⟩⟩⟩
      have ez : (ks.zip is)[i]? = some (k, j) := List.getElem?_zip_eq_some.mpr ⟨ek, ej⟩
      exact ⟨_, gU _ _ hd, len_m (by rw [List.length_zip]; omega), InvM.next (f := fun p : Str × Int => V.str (itm p.1 p.2)) hD (g.trans gU) ez _ rfl⟩
    · rintro H' ⟨hd, g⟩
      have el : ((ks.zip is).take (ks.map V.str).length) = ks.zip is := List.take_of_length_le (by rw [List.length_zip, List.length_map]; omega)
      rw [el] at hd
      refine ⟨_, D, (ks.zip is).map (fun p => itm p.1 p.2), rfl, rfl, .inl (SqL.of (by rw [hd, List.map_map] <;> rfl)), ?_, ?_⟩
      · have z := sum_le (ys := (ks.zip is).map (fun p => itm p.1 p.2)) fun y hy => by
          obtain ⟨⟨k, j⟩, hm, rfl⟩ := List.mem_map.mp hy
          obtain ⟨m1, m2⟩ := List.of_mem_zip hm
          exact (small_itm k (v2 k m1) j (v4 j m2)).2.2.1
        have z2 : ((ks.zip is).map (fun p => itm p.1 p.2)).length ≤ 3 := by rw [List.length_map, List.length_zip]; omega
        have z3 : ((ks.zip is).map (fun p => itm p.1 p.2)).length * Str.length ", " ≤ 3 * 2 := Nat.mul_le_mul z2 (by decide)
        omega
      · have z := q H' g
        unfold ftext at z
        rw [if_neg e] at z
        exact z
end
end Lw
namespace Lw
open PySem L2
theorem fnR_of {P : Program} {w : World} {K : PySem.W.Frag} {mg : Str → Option Value} {base : Heap} {CX : CXT} {k : Nat} {f : Addr} {fd : FuncData} {ps : List Str} {sp : Sp} (F : FnOk P w K mg base CX k f fd ps sp) (hb : Binds K fd ps []) : FnR P w K mg base CX k f sp := by
  intro A outer s H us vs Q E hr e0 r hsp
  have KX : K.In s.heap := e0.mod.kin.keeps fun b o e => (e0.bs b o e).1
  have hl : us.length = ps.length := by rw [← r.length]; exact F.len _ _ _ _ hsp
  have hb2 := hb s us KX (by rw [List.append_nil]; exact hl)
  rw [List.append_nil] at hb2
  exact F.run A outer s H ⟨us, []⟩ us vs Q E hr e0 hb2 r hsp
theorem lvl_two {p k a : Str} (h : Txt.split p " " = [k, a]) : lvl p = if a ∈ AWORDS then some (k, aval a) else none := by
  unfold lvl
  rw [h]
theorem lvl_not {p : Str} (h : (Txt.split p " ").length ≠ 2) : lvl p = none := by
  unfold lvl
  split
  · rename_i k a e
    rw [e] at h
    exact absurd rfl h
  · rfl
theorem int_word {a : Str} (h : a ∈ AWORDS) : PySem.intText? a = some (aval a) ∧ a.length ≤ 640 := by
  have z : ∀ a ∈ AWORDS, PySem.intText? a = some (aval a) ∧ a.length ≤ 640 := by decide +kernel
  exact z a h
theorem rd_none {z p : Str} (hz : z ≠ "-") (hp : p ∈ Txt.split z ", ") (h : lvl p = none) : rd z = none := by
  unfold rd
  rw [if_neg hz, if_neg]
  rintro ⟨h1, _⟩
  rw [List.all_eq_true] at h1
  have q := h1 p hp
  rw [h] at q
  cases q
section
variable {P : Program} {w : World} {K : PySem.W.Frag} {mg : Str → Option Value} {base : Heap} {C fI BF AW KD f : Addr} {MC : Value} {fd : FuncData}
abbrev namesR : List Str := ["cls", "text", "kinds", "axes", "level", "words"]
theorem scR : FnScope namesR ["cls", "text"] (defScope sRead) := ⟨rfl, rfl, rfl, by decide +kernel, rfl, by decide +kernel, by decide +kernel⟩
/-- between the turns -/
def InvR (K : PySem.W.Frag) (H0 : Hp) (C L k a : Addr) (z : Str) (i : Nat) (σ : St) (H : Hp) : Prop := ∃ u4 u5 : Option V, σ = [some (.ref C), some (.str z), some (.ref k), some (.ref a), u4, u5] ∧ Same H0 H ∧ H L = some (.lst ((Txt.split z ", ").map V.str)) ∧
  H k = some (.lst ((lks ((Txt.split z ", ").take i)).map V.str)) ∧ H a = some (.lst ((lis ((Txt.split z ", ").take i)).map V.int)) ∧ (∀ p ∈ (Txt.split z ", ").take i, (lvl p).isSome = true) ∧ (lks ((Txt.split z ", ").take i)).length ≤ i ∧ (lis ((Txt.split z ", ").take i)).length ≤ i
/-- Form(..): from the promise of its __init__ to the new form -/
theorem mk_form {H : Hp} {Q : VK} {E : XK} {ks : List Str} {is : List Int} {kv : V} (hk : ks.length ≤ 1000) (hi : is.length ≤ 1000) (hkv : (kv = .non ∧ is = iota ks.length) ∨ ∃ a, kv = .ref a ∧ (SqL K H a (is.map V.int) ∨ SqT K H a (is.map V.int)))
    (h1 : valid ks is = true → ∀ (p : Addr) (H' : Hp), Same H H' → FormAt K C p ks is H' → Q (.ref p) H') (h2 : valid ks is = false → ∀ H' : Hp, Same H H' → E (.ref BF) none H') : mkF C (spInit K C BF) E (ks.map V.str) kv H Q := by
  intro x dx nx ndx ne
  have g : Same H (upd (upd H dx (.own x)) x (.ins C dx [])) := fun b o e => by rw [upd_ne (ne_of_none e nx), upd_ne (ne_of_none e ndx)]; exact e
  have sm : ∀ {H' : Hp}, Kp x (upd (upd H dx (.own x)) x (.ins C dx [])) H' → Same H H' := fun kp b o e => kp b o (ne_of_none e nx) (g _ _ e)
  refine ⟨x, dx, ks, is, rfl, rfl, upd_same, hk, hi, ?_, fun H' tk ta hv kp hp ht ha => ⟨rfl, h1 hv x H' (sm kp) ⟨dx, tk, ta, hp, ht, ha⟩⟩, fun H' hv kp => h2 hv H' (sm kp)⟩
  rcases hkv with z | ⟨a, e, z⟩
  · exact .inl z
  · exact .inr ⟨a, e, z.imp (fun q => g.seq q) (fun q => seqT g q)⟩
theorem ok_read (F : Fun K "read" "Form.read" sRead f fd) (T : Fm K mg C fI BF AW KD MC) (B : Bt mg) (FI : FnF P w K mg base (L2.CX P w) 3 fI "axes" .non (spInit K C BF)) : FnOk P w K mg base (L2.CX P w) 5 f fd ["cls", "text"] (spRead K C BF) := by
  refine F.okX scR (fun vs H Q E h => ?_) (fun cdv A outer s H vs Q E hr h => ?_)
  · obtain ⟨z, rfl, _⟩ := h
    rfl
  obtain ⟨z, rfl, hz, q, qe⟩ := h
  obtain ⟨pl, pn⟩ := split_lens z ", " (by decide +kernel) (by decide +kernel)
  refine ⟨_, pss_cons (ps_if (pt_cmpR op_eq (pv 1) pe_str (nomark _)) (pss_one (ps_ret (pe_F0 T.mkC FI hr (by rfl) T.mC (passes_call (takes_of rfl rfl rfl rfl) (fun _ _ _ _ h => h))))) pss_nil)
    (pss_cons (ps_set (i := 2) scR.nd rfl (Or.inl rfl) (pe_lst pa_nil))
    (pss_cons (ps_set (i := 3) scR.nd rfl (Or.inl rfl) (pe_lst pa_nil))
    (pss_cons (ps_for (passes_of rfl) rfl (pi_list (pe_split (pv 1) pe_str)) (pg_name (i := 4) scR.nd rfl (Or.inl rfl))
      (pss_cons (ps_set (i := 5) scR.nd rfl (Or.inl rfl) (pe_split (pv 4) pe_str))
      (pss_cons (ps_if (PW.pt (pw_or (pt_cmpR op_ne (pe_callB call_len_seq (by rfl) B.len PySem.boot_len (pa_cons (pv 5) pa_nil)) pe_int (nomark _)) (pw_or1 (pt_cmpR op_notIn_seq (pe_ix ix_list (pv 5) pe_int (fun _ _ => rfl)) (pe_glob (v := .ref AW) (by rfl) T.mAW rfl) (by rfl)))))
        (pss_one (ps_raise rfl (takes_of rfl rfl rfl rfl) (pmk_own0 PySem.F.excBase_ValueError T.xB T.mB T.kB (raises_own T.rB T.tB) (by rfl)))) pss_nil)
      (pss_cons (ps_expr (pe_bm PySem.F.plainAttrs_list PySem.F.slot_list_append PySem.F.type_list_append mt_append (pv 2) (pa_cons (pe_ix ix_list (pv 5) pe_int (fun _ _ => rfl)) pa_nil)))
      (pss_one (ps_expr (pe_bm PySem.F.plainAttrs_list PySem.F.slot_list_append PySem.F.type_list_append mt_append (pv 3) (pa_cons (pe_callTy call_int_str (by rfl) B.int (by decide +kernel) (pa_cons (pe_ix ix_list (pv 5) pe_int (fun _ _ => rfl)) pa_nil)) pa_nil))))))))
    (pss_one (ps_ret (pe_Fsk T.mkC FI hr (by rfl) T.mC (passes_call (takes_of rfl rfl rfl rfl) (fun _ _ _ _ h => h)) (pv 2) (pv 3))))))), ?_⟩
  refine ⟨_, rfl, rfl, _, rfl, ?_⟩
  refine ite2 (fun c => ?_) (fun c => ?_)
  · have ez : z = "-" := by
      have y := of_decide_eq_true c
      cases y
      rfl
    have er : rd z = some ([], []) := by
      unfold rd
      rw [if_pos ez]
    exact mk_form (ks := []) (is := []) (Nat.zero_le _) (Nat.zero_le _) (.inl ⟨rfl, rfl⟩) (fun _ p H' g h => q _ _ er p H' g h) (fun hv => by cases hv)
  · have nz : z ≠ "-" := fun e => c (by rw [e]; exact decide_eq_true rfl)
    refine ⟨Nat.zero_le _, fun k hk0 => ⟨Nat.zero_le _, fun a ha0 => ?_⟩⟩
    have gk := same_new hk0 (.lst [])
    have ga := same_new ha0 (.lst [])
    have hkH : H k = none := hk0
    have haH : H a = none := gk.free ha0
    have sz : ∀ {n : Nat}, n ≤ 1010 → n ≤ sizeLine := fun h => Nat.le_trans h (by decide)
    refine ⟨_, rfl, ⟨_, rfl⟩, _, _, rfl, rfl, rfl, sz (by omega), fun L hL => ?_⟩
    have gL := same_new hL (.lst ((Txt.split z ", ").map V.str))
    have hLH : H L = none := gk.free (ga.free hL)
    have k0 := gL _ _ (ga _ _ (upd_same (H := H) (a := k) (o := .lst [])))
    have a0 := gL _ _ (upd_same (H := upd H k (.lst [])) (a := a) (o := .lst []))
    have nak : a ≠ k := (ne_of_none (upd_same (H := H) (a := k) (o := .lst [])) ha0).symm
    have nLk : L ≠ k := (ne_of_none (ga _ _ (upd_same (H := H) (a := k) (o := .lst []))) hL).symm
    have nLa : L ≠ a := (ne_of_none (upd_same (H := upd H k (.lst [])) (a := a) (o := .lst [])) hL).symm
    refine ⟨L, rfl, ⟨_, SqL.of upd_same⟩, for_list (K := K) (a := L) (xs := (Txt.split z ", ").map V.str) (InvR K H C L k a z)
      ⟨none, none, rfl, gk.trans (ga.trans gL), upd_same, k0, a0, fun p hp => by simp at hp, Nat.le_refl _, Nat.le_refl _⟩ (fun i σ H' _ ⟨_, _, _, _, hl, _⟩ => SqL.of hl) ?_ ?_⟩
    · rintro i y σ H' hi ⟨u4, u5, rfl, g, hl, hk, ha, hp, n1, n2⟩
      obtain ⟨p, ep, rfl⟩ := at_map hi
      have hi2 : i < (Txt.split z ", ").length := (List.getElem?_eq_some_iff.mp ep).1
      have hpm : p ∈ Txt.split z ", " := List.mem_of_getElem? ep
      have plen := pl p hpm
      have gW : ∀ {W : Addr}, H' W = none → Same H' (upd H' W (.lst ((Txt.split p " ").map V.str))) := fun h => same_new h _
      refine ⟨_, rfl, ⟨_, rfl⟩, _, _, rfl, rfl, rfl, sz (by omega), fun W hW => ?_⟩
      refine ⟨_, rfl, W, _, rfl, .inl (SqL.of upd_same), rfl, _, rfl, ?_⟩
      by_cases hl2 : (Txt.split p " ").length = 2
      · refine iteN (by rw [List.length_map, hl2]; rfl) ?_
        obtain ⟨kw, aw, ew⟩ : ∃ kw aw, Txt.split p " " = [kw, aw] := by
          match hh : Txt.split p " ", hl2 with
          | [x, y], _ => exact ⟨x, y, rfl⟩
        have eW : upd H' W (.lst ((Txt.split p " ").map V.str)) W = some (.lst [.str kw, .str aw]) := by rw [upd_same, ew] <;> rfl
        refine ⟨_, rfl, W, _, _, _, rfl, rfl, SqL.of eW, rfl, AW, _, rfl, .inr (T.awT _), rfl, flat_strs _, _, rfl, ?_⟩
        rw [show inV (.str aw) (AWORDS.map V.str) = decide (aw ∈ AWORDS) from inV_str aw AWORDS]
        by_cases haw : aw ∈ AWORDS
        · have ev : lvl p = some (kw, aval aw) := by rw [lvl_two ew, if_pos haw]
          obtain ⟨w1, w2⟩ := int_word haw
          refine iteN (by rw [decide_eq_true haw]; rfl) ?_
          have et : (Txt.split z ", ").take (i + 1) = (Txt.split z ", ").take i ++ [p] := by rw [List.take_succ, ep]; rfl
          have ek : lks ((Txt.split z ", ").take (i + 1)) = lks ((Txt.split z ", ").take i) ++ [kw] := by
            unfold lks
            rw [et, List.filterMap_append, List.map_append]
            show _ ++ (List.filterMap lvl [p]).map _ = _
            rw [List.filterMap_cons_some ev] <;> rfl
          have ei : lis ((Txt.split z ", ").take (i + 1)) = lis ((Txt.split z ", ").take i) ++ [aval aw] := by
            unfold lis
            rw [et, List.filterMap_append, List.map_append]
            show _ ++ (List.filterMap lvl [p]).map _ = _
            rw [List.filterMap_cons_some ev] <;> rfl
          have nWk : W ≠ k := (ne_of_none hk hW).symm
          have nWa : W ≠ a := (ne_of_none ha hW).symm
          have hk2 := gW hW _ _ hk
          have ha2 := gW hW _ _ ha
          refine ⟨_, rfl, .inl ⟨rfl, _, SqL.of hk2⟩, _, rfl, W, _, _, _, rfl, rfl, SqL.of eW, rfl, k, _, _, rfl, rfl, hk2, by rw [List.length_map]; exact small1000 (by omega), ?_⟩
          have ha3 := (upd_ne (o := .lst ((lks ((Txt.split z ", ").take i)).map V.str ++ [.str kw])) nak).trans ha2
          have eW3 := (upd_ne (o := .lst ((lks ((Txt.split z ", ").take i)).map V.str ++ [.str kw])) nWk).trans eW
          refine ⟨_, rfl, .inl ⟨rfl, _, SqL.of ha3⟩, _, rfl, W, _, _, _, rfl, rfl, SqL.of eW3, rfl, aw, _, rfl, w1, w2, a, _, _, rfl, rfl, ha3, by rw [List.length_map]; exact small1000 (by omega), ?_⟩
          refine ⟨_, _, rfl, same_over (same_over (g.trans (gW hW)) hkH _) haH _, ?_, ?_, ?_, fun q' hq' => ?_, by rw [ek, List.length_append, List.length_singleton]; omega, by rw [ei, List.length_append, List.length_singleton]; omega⟩
          · rw [upd_ne nLa, upd_ne nLk]
            exact gW hW _ _ hl
          · rw [upd_ne nak.symm, upd_same, ek, List.map_append] <;> rfl
          · rw [upd_same, ei, List.map_append] <;> rfl
          · rw [et] at hq'
            rcases List.mem_append.mp hq' with h | h
            · exact hp q' h
            · rw [List.mem_singleton.mp h, ev] <;> rfl
        · refine iteC (by rw [decide_eq_false haw]; rfl) ?_
          exact qe (rd_none nz hpm (by rw [lvl_two ew, if_neg haw])) _ (g.trans (gW hW))
      · refine iteC (by rw [List.length_map]; exact by rw [decide_eq_false (fun e => hl2 (by injection e with e; omega))]; rfl) ?_
        refine iteC rfl ?_
        exact qe (rd_none nz hpm (lvl_not hl2)) _ (g.trans (gW hW))
    · rintro σ H' ⟨u4, u5, rfl, g, hl, hk, ha, hp, n1, n2⟩
      rw [List.length_map] at hk ha hp n1 n2
      rw [List.take_length] at hk ha hp n1 n2
      have hall : ((Txt.split z ", ").all fun p => (lvl p).isSome) = true := by
        rw [List.all_eq_true]
        exact hp
      refine ⟨_, rfl, _, rfl, k, _, rfl, .inr (SqL.of hk), sz (by rw [List.length_map]; omega), ?_⟩
      refine mk_form (ks := lks (Txt.split z ", ")) (is := lis (Txt.split z ", ")) ?_ ?_ (.inr ⟨a, rfl, .inl (SqL.of ha)⟩) (fun hv p H2 g2 h2 => q _ _ ?_ p H2 (g.trans g2) h2) (fun hv H2 g2 => qe ?_ H2 (g.trans g2))
      · omega
      · omega
      · unfold rd
        rw [if_neg nz, if_pos ⟨hall, hv⟩]
      · unfold rd
        rw [if_neg nz, if_neg (fun z => by rw [z.2] at hv; cases hv)]
end
end Lw
namespace Lw
open PySem L2
abbrev sMixed : Stmt := topS 38
abbrev sFtext : Stmt := topS 41
theorem SX.upd_out {st q D : Addr} {H H' : Hp} {o : HO} (g : SX st q H H') (n : H D = none) : SX st q H (upd H' D o) := fun b u h1 h2 e => by rw [upd_ne (ne_of_none e n)]; exact g b u h1 h2 e
theorem Spr.upd {st q D : Addr} {H : Hp} {b : Int} {o : HO} (s : Spr H st q b) (n1 : D ≠ st) (n2 : D ≠ q) : Spr (upd H D o) st q b := by
  obtain ⟨ns, a, c, h1, h2, r⟩ := s
  exact ⟨ns, a, c, by rw [upd_ne n1.symm]; exact h1, by rw [upd_ne n2.symm]; exact h2, r⟩
theorem Spr.out {st q D : Addr} {H : Hp} {b : Int} (s : Spr H st q b) (n : H D = none) : D ≠ st ∧ D ≠ q := by
  obtain ⟨ns, a, c, h1, h2, _⟩ := s
  exact ⟨(ne_of_none h1 n).symm, (ne_of_none h2 n).symm⟩
section
variable {P : Program} {w : World} {K : PySem.W.Frag} {mg : Str → Option Value} {base : Heap} {f g : Addr} {fd gd : FuncData}
def spMixed : Sp := fun vs H Q _ => ∃ (st q p : Addr) (b : Int) (is : List Int), vs = [.ref st, .ref p] ∧ Spr H st q b ∧ 0 ≤ b ∧ b ≤ 900 ∧ H p = some (.lst (is.map V.int)) ∧ is.length ≤ 10 ∧
  ∀ (r : Addr) (os : List Int) (H' : Hp), os.Perm is → Spr H' st q (b + is.length) → SX st q H H' → H' r = some (.lst (os.map V.int)) → H r = none → Q (.ref r) H'
abbrev namesM : List Str := ["_law_stream", "_law_some", "_law_left", "_law_k"]
theorem scM : FnScope namesM ["_law_stream", "_law_some"] (defScope sMixed) := ⟨rfl, rfl, rfl, by decide +kernel, rfl, by decide +kernel, by decide +kernel⟩
def InvMx (H0 : Hp) (st q L D : Addr) (b : Int) (is : List Int) (i : Nat) (H : Hp) : Prop := ∃ acc ls : List Int, H D = some (.lst (acc.map V.int)) ∧ H L = some (.lst (ls.map V.int)) ∧ acc.length = i ∧ ls.length + i = is.length ∧ (acc ++ ls).Perm is ∧ Spr H st q (b + i) ∧ SX st q H0 H
theorem er_perm {α : Type} : ∀ (l : List α) (k : Nat) (h : k < l.length), (l[k] :: l.eraseIdx k).Perm l
  | a :: r, 0, _ => List.Perm.refl _
  | a :: r, k + 1, h => (List.Perm.swap _ _ _).trans (List.Perm.cons a (er_perm r k (Nat.lt_of_succ_lt_succ h)))
theorem er_map {α β : Type} (f : α → β) : ∀ (l : List α) (k : Nat), (l.map f).eraseIdx k = (l.eraseIdx k).map f
  | [], _ => rfl
  | a :: r, 0 => rfl
  | a :: r, k + 1 => congrArg (f a :: ·) (er_map f r k)
theorem pop_at {ls : List Int} {r : Int} (h0 : 0 ≤ r) (h1 : r < (ls.length : Int)) : ∃ (k : Nat) (n : Int), seqIndex? r (ls.map V.int).length = some k ∧ (ls.map V.int)[k]? = some (.int n) ∧ (ls.map V.int).eraseIdx k = (ls.eraseIdx k).map V.int ∧ (n :: ls.eraseIdx k).Perm ls ∧ (ls.eraseIdx k).length + 1 = ls.length := by
  have hk : r.toNat < ls.length := by omega
  refine ⟨r.toNat, ls[r.toNat], ?_, by rw [List.getElem?_map, List.getElem?_eq_getElem hk] <;> rfl, ?_, er_perm ls _ hk, by rw [List.length_eraseIdx_of_lt hk]; omega⟩
  · refine (ixN_seq (n := (ls.map V.int).length) (i := r) (j := r.toNat) ?_).1
    unfold ixN
    rw [if_pos h0, if_pos (by rw [List.length_map]; exact h1)]
  · rw [er_map]
theorem ok_mixed (F : Fun K "_law_mixed" "_law_mixed" sMixed f fd) (G : FnOk P w K mg base CX0 1 g gd ["_law_stream", "_law_many"] spDraw) (bG : Binds K gd ["_law_stream", "_law_many"] []) (kG : PySem.W.keepIn K (.ref g) = true) (mG : mg "_law_draw" = some (.ref g)) (B : Bt mg) :
    FnOk P w K mg base CX0 2 f fd ["_law_stream", "_law_some"] spMixed := by
  refine F.ok scM (fun vs H Q E h => ?_) (fun cdv A outer s H vs Q E hr h => ?_)
  · obtain ⟨st, q, p, b, is, rfl, _⟩ := h
    rfl
  obtain ⟨st, q, p, b, is, rfl, hs, hb0, hb1, hp, hl, k⟩ := h
  refine ⟨_, pss_cons (ps_set (i := 2) scM.nd rfl (Or.inr rfl) (pe_callTy call_list_of (by rfl) B.lst (by decide +kernel) (pa_cons (pv 1) pa_nil)))
    (pss_one (ps_ret (pe_lc (own := [("_law_k", 3)]) (g := gName 3) (tt := tYes) (te := tBM K "list" rPopAt (tVar 2) (tCons (tCall spDraw [] E0 (tCons (tVar 0) (tCons (tCB (fun xs H Q => ∃ p ys, xs = [.ref p] ∧ (SqL K H p ys ∨ SqT K H p ys) ∧ Q (.int ys.length) H) (tCons (tVar 2) tNil)) tNil))) tNil)) rfl scM.nd (pi_range1 (by rfl) B.range (pa_cons (pe_callB call_len_seq (by rfl) B.len PySem.boot_len (pa_cons (pv 2) pa_nil)) pa_nil)) (blkOk_by (N := namesM) (sc := defScope sMixed) (by decide +kernel))
      (fun _ _ _ _ _ => pg_name (i := 3) scM.nd rfl (Or.inl rfl)) (fun _ _ _ _ _ => pts_nil)
      (fun _ _ _ _ _ => pe_bm PySem.F.plainAttrs_list PySem.F.slot_list_pop PySem.F.type_list_pop mt_popAt (pv 2) (pa_cons (pe_call G hr rfl mG kG bG .nil pass0 (pa_cons (pv 0) (pa_cons (pe_callB call_len_seq (by rfl) B.len PySem.boot_len (pa_cons (pv 2) pa_nil)) pa_nil))) pa_nil))))), ?_⟩
  refine ⟨_, rfl, p, _, rfl, .inl (SqL.of hp), fun L hL => ?_⟩
  have gL := same_new hL (.lst (is.map V.int))
  obtain ⟨nL1, nL2⟩ := hs.out hL
  have hsL := hs.same gL
  refine ⟨_, rfl, L, _, rfl, .inl (SqL.of upd_same), _, rfl, by rw [List.length_map]; omega, by rw [List.length_map]; omega, fun D hD => ?_⟩
  obtain ⟨nD1, nD2⟩ := hsL.out hD
  have nDL : D ≠ L := (ne_of_none (upd_same (H := H) (a := L) (o := .lst (is.map V.int))) hD).symm
  have hD0 : H D = none := gL.free hD
  have gD := same_new hD (.lst [])
  have elm : (is.map V.int).length = is.length := List.length_map _
  refine lc_range (lo := 0) (n := (is.map V.int).length) (InvMx H st q L D b is) ⟨[], is, upd_same, gD _ _ upd_same, rfl, rfl, List.Perm.refl _, ?_, .of (gL.trans gD)⟩ ?_ ?_
  · rw [show b + ((0 : Nat) : Int) = b from Int.add_zero b]
    exact hsL.same gD
  · rintro i H2 hi ⟨acc, ls, hd, hl2, ha, hn, hp2, hs2, gx⟩
    have hlen : (((ls.map V.int).length : Nat) : Int) = (ls.length : Int) := by rw [List.length_map]
    refine ⟨rfl, kept ?_⟩
    refine ⟨_, rfl, .inl ⟨rfl, _, SqL.of hl2⟩, _, rfl, _, rfl, L, _, rfl, .inl (SqL.of hl2), st, q, b + i, _, rfl, hs2, by omega, by omega, by rw [hlen]; omega, by rw [hlen]; omega, fun r H3 r0 r1 hs3 g3 => ?_⟩
    have hd3 := g3 _ _ nD1 nD2 hd
    have hl3 := g3 _ _ nL1 nL2 hl2
    obtain ⟨j, n, e1, e2, e3, e4, e5⟩ := pop_at r0 (by rw [hlen] at r1; exact r1)
    refine ⟨L, _, r, j, _, rfl, rfl, hl3, by omega, by rw [hlen] at r1; omega, e1, e2, ?_⟩
    have hd4 := (upd_ne (o := .lst ((ls.map V.int).eraseIdx j)) nDL).trans hd3
    refine ⟨_, hd4, by rw [List.length_map]; exact small1000 (by omega), acc ++ [n], ls.eraseIdx j, by rw [upd_same, List.map_append] <;> rfl, by rw [upd_ne nDL.symm, upd_same, e3], by rw [List.length_append, ha] <;> rfl, by omega, ?_, ?_, ?_⟩
    · rw [List.append_assoc]
      exact (List.Perm.append_left acc e4).trans hp2
    · have e6 : b + (i : Int) + 1 = b + ((i + 1 : Nat) : Int) := by omega
      rw [← e6]
      exact (hs3.upd nL1 nL2).upd nD1 nD2
    · exact ((gx.trans g3).upd_out hL).upd_out hD0
  · rintro H2 ⟨acc, ls, hd, hl2, ha, hn, hp2, hs2, gx⟩
    rw [elm] at hs2
    have els : ls = [] := List.length_eq_zero_iff.mp (by omega)
    subst els
    rw [List.append_nil] at hp2
    exact k D acc H2 hp2 hs2 gx hd hD0
end
end Lw
namespace Lw
open PySem L2 TL
/-- a form's levels as pairs -/
def Tups (K : PySem.W.Frag) (H : Hp) (vs : List V) (l : List (Str × Int)) : Prop := vs.length = l.length ∧ ∀ (i : Nat) (v : V) (p : Str × Int), vs[i]? = some v → l[i]? = some p → ∃ a, v = .ref a ∧ SqT K H a [.str p.1, .int p.2]
theorem Tups.mono {K : PySem.W.Frag} {H H' : Hp} {vs : List V} {l : List (Str × Int)} (g : TK K H H') (h : Tups K H vs l) : Tups K H' vs l :=
  ⟨h.1, fun i v p e1 e2 => by obtain ⟨a, r, z⟩ := h.2 i v p e1 e2; exact ⟨a, r, g _ _ z⟩⟩
def Good (l : List (Str × Int)) (n : Nat) : Prop := l.length = n ∧ (∀ p ∈ l, p.1 ∈ KINDS) ∧ (l.map (·.2)).Perm (iota n)
def K5 : List Str := ["dense", "packed", "bits", "hashed", "packed"]
theorem k5_kinds : ∀ k ∈ K5, k ∈ KINDS := by decide +kernel
section
variable {P : Program} {w : World} {K : PySem.W.Frag} {mg : Str → Option Value} {base : Heap} {f g g2 : Addr} {fd gd gd2 : FuncData}
theorem zip_maps : ∀ l : List (Str × Int), (l.map (·.1)).zip (l.map (·.2)) = l
  | [] => rfl
  | (a, b) :: r => by
    show (a, b) :: (r.map (·.1)).zip (r.map (·.2)) = _
    rw [zip_maps r]
theorem iota_valid {l : List (Str × Int)} {n : Nat} (h : Good l n) (hn : n ≤ 3) : valid (l.map (·.1)) (l.map (·.2)) = true := by
  obtain ⟨h1, h2, h3⟩ := h
  unfold valid axesOk
  rw [List.length_map, List.length_map, h1]
  have e1 : decide (n ≤ 3) = true := decide_eq_true hn
  have e2 : ((l.map (·.1)).all fun k => decide (k ∈ KINDS)) = true := by
    rw [List.all_eq_true]
    intro k hk
    obtain ⟨p, hp, rfl⟩ := List.mem_map.mp hk
    exact decide_eq_true (h2 p hp)
  have e3 : ((List.range n).all fun j => decide ((j : Int) ∈ l.map (·.2))) = true := by
    rw [List.all_eq_true]
    intro j hj
    refine decide_eq_true (h3.symm.mem_iff.mp ?_)
    unfold iota
    exact List.mem_map.mpr ⟨j, hj, rfl⟩
  rw [e1, e2, e3, decide_eq_true rfl] <;> rfl
def litm (p : Str × Int) : Str := p.1 ++ " " ++ ((toString p.2 : String) : Str)
theorem litm_itm (p : Str × Int) : litm p = itm p.1 p.2 := by
  refine ext_tl ?_
  unfold litm itm
  rw [tl_append, tl_append, tl_append, tl_append, tl_append] <;> rfl
def spFtext (K : PySem.W.Frag) : Sp := fun vs H Q _ => ∃ (t : Addr) (us : List V) (l : List (Str × Int)) (n : Nat), vs = [.ref t] ∧ SqT K H t us ∧ Tups K H us l ∧ Good l n ∧ n ≤ 3 ∧ ∀ H' : Hp, Same H H' → Q (.str (ftext (l.map (·.1)) (l.map (·.2)))) H'
theorem dp_tups {H : Hp} : ∀ {us : List V} {l : List (Str × Int)}, Tups K H us l → DpAll K H us (l.map fun p => PyData.tuple [.str p.1, .int p.2])
  | [], [], _ => .nil
  | [], _ :: _, h => by cases h.1
  | _ :: _, [], h => by cases h.1
  | u :: us, p :: l, h => by
    obtain ⟨a, rfl, z⟩ := h.2 0 u p rfl rfl
    exact .cons (.tup z (.cons (.str _) (.cons (.int _) .nil))) (dp_tups ⟨Nat.succ.inj h.1, fun i v p e1 e2 => h.2 (i + 1) v p e1 e2⟩)
end
end Lw
namespace Lw
open PySem L2 TL
/-- more built-in names -/
structure Bs (mg : Str → Option Value) : Prop where
  str : mg "str" = none
  any : mg "any" = none
  sorted : mg "sorted" = none
  ve : mg "ValueError" = none
section
variable {P : Program} {w : World} {K : PySem.W.Frag} {mg : Str → Option Value} {base : Heap} {C fI BF AW KD f g g2 : Addr} {MC : Value} {fd gd gd2 : FuncData}
theorem sz20 {n : Nat} (h : n ≤ 1000) : n ≤ sizeLine := Nat.le_of_lt (small1000 h)
theorem kinds_ok : ∀ k ∈ KINDS, PyData.strOk k = true := by decide +kernel
theorem shaped_form : ∀ {l : List (Str × Int)}, l.length ≤ 3 → (∀ p ∈ l, p.1 ∈ KINDS) → SeqAt.shaped (.tuple (l.map fun p => PyData.tuple [.str p.1, .int p.2])) = true
  | [], _, _ => by decide +kernel
  | [a], _, h => by
    have h1 := kinds_ok _ (h a (by simp))
    simp [SeqAt.shaped, PyData.canLay0, PyData.canLayAll0, PyData.depth, PyData.depthAll, h1]
  | [a, b], _, h => by
    have h1 := kinds_ok _ (h a (by simp))
    have h2 := kinds_ok _ (h b (by simp))
    simp [SeqAt.shaped, PyData.canLay0, PyData.canLayAll0, PyData.depth, PyData.depthAll, h1, h2]
  | [a, b, c], _, h => by
    have h1 := kinds_ok _ (h a (by simp))
    have h2 := kinds_ok _ (h b (by simp))
    have h3 := kinds_ok _ (h c (by simp))
    simp [SeqAt.shaped, PyData.canLay0, PyData.canLayAll0, PyData.depth, PyData.depthAll, h1, h2, h3]
  | _ :: _ :: _ :: _ :: _, h, _ => by simp at h
abbrev namesFt : List Str := ["_law_form", "_law_kind", "_law_axis"]
theorem scFt : FnScope namesFt ["_law_form"] (defScope sFtext) := ⟨rfl, rfl, rfl, by decide +kernel, rfl, by decide +kernel, by decide +kernel⟩
theorem ok_ftext (F : Fun K "_law_form_text" "_law_form_text" sFtext f fd) (B : Bt mg) (S : Bs mg) : FnOk P w K mg base CX0 1 f fd ["_law_form"] (spFtext K) := by
  refine F.ok scFt (fun vs H Q E h => ?_) (fun cdv A outer s H vs Q E hr h => ?_)
  · obtain ⟨t, us, l, n, rfl, _⟩ := h
    rfl
  obtain ⟨t, us, l, n, rfl, hT, htu, hg, hn, q⟩ := h
  have hll : l.length ≤ 3 := by rw [hg.1]; exact hn
  have hax : ∀ p ∈ l, p.1 ∈ KINDS ∧ p.2 ∈ ([0, 1, 2] : List Int) := fun p hp => by
    obtain ⟨_, _, _, z⟩ := valid_parts (iota_valid hg hn)
    exact ⟨hg.2.1 p hp, z _ (List.mem_map_of_mem hp)⟩
  refine ⟨_, pss_one (ps_ret (pe_ifExp (pt_cmpR (op_neD hr.units) (pv 0) (pe_tup pa_nil) (nomark _)) (pe_join pe_str (pe_lc (own := [("_law_kind", 1), ("_law_axis", 2)]) (g := gTup K 2 (gCons (gName 1) (gCons (gName 2) gNil))) (tt := tYes) rfl scFt.nd (pi_tup (pv 0)) (blkOk_by (N := namesFt) (sc := defScope sFtext) (by decide +kernel))
      (fun _ _ _ _ _ => pg_tup rfl (pgs_cons (pg_name (i := 1) scFt.nd rfl (Or.inl rfl)) (pgs_cons (pg_name (i := 2) scFt.nd rfl (Or.inl rfl)) pgs_nil))) (fun _ _ _ _ _ => pts_nil)
      (fun _ _ _ _ _ => pe_op op_add_str (pe_op op_add_str (pv 1) pe_str) (pe_callTy call_str_int (by rfl) S.str (by decide +kernel) (pa_cons (pv 2) pa_nil))))) pe_str)), ?_⟩
  refine ⟨_, rfl, (by show 0 ≤ sizeLine; decide), fun e he => ?_⟩
  have ge := same_new he (.tup [])
  refine ⟨_, .tuple [], .tup (seqT ge hT) (dp_tups (htu.mono (.of ge))), .tup (SqT.of upd_same) .nil, shaped_form hll hg.2.1, by decide +kernel, _, rfl, ?_⟩
  cases l with
  | nil =>
    refine iteN (by decide +kernel) ?_
    have z := q _ ge
    exact z
  | cons p r =>
    refine iteC rfl ?_
    refine ⟨⟨_, rfl⟩, _, rfl, t, rfl, ⟨_, seqT ge hT⟩, fun D hD => ?_⟩
    have hD0 : H D = none := ge.free hD
    refine lc_tup (K := K) (a := t) (xs := us) (InvM H D (fun p : Str × Int => V.str (litm p)) (p :: r)) ⟨upd_same, same_over ge hD0 _⟩ (fun i H' _ ⟨_, g⟩ => seqT g hT) (fun i x H' hx hv => ?_) ?_
    · have hi : i < (p :: r).length := by rw [← htu.1]; exact (List.getElem?_eq_some_iff.mp hx).1
      obtain ⟨a, rfl, za⟩ := htu.2 i x _ hx (List.getElem?_eq_getElem hi)
      have hm := hax _ (List.getElem_mem hi)
      obtain ⟨l1, l2, l3, l4, l5⟩ := small_itm _ hm.1 _ hm.2
      refine ⟨a, _, rfl, seqT hv.2 za, rfl, _, _, rfl, _, _, rfl, rfl, rfl, kept ?_⟩
      refine ⟨_, rfl, _, _, rfl, rfl, sz20 (by show _ + 1 ≤ 1000; omega), _, rfl, _, rfl, l5, _, _, rfl, rfl, sz20 ?_, ?_⟩
      · rw [← litm_itm] at l3
        have e1 : (litm ((p :: r)[i])).length = ((p :: r)[i].1 ++ (" " : Str)).length + ((toString (p :: r)[i].2 : String) : Str).length := Str.length_append _ _
        rw [e1] at l3
        omega
      · exact ⟨_, hv.1, len_m (by omega), InvM.next (f := fun p : Str × Int => V.str (litm p)) hD0 hv.2 (List.getElem?_eq_getElem hi) _ rfl⟩
    · rintro H' ⟨hd, g⟩
      rw [List.take_of_length_le (by rw [htu.1]; exact Nat.le_refl _)] at hd
      have el : ((p :: r).map litm) = ((((p :: r).map (·.1)).zip ((p :: r).map (·.2))).map fun p => itm p.1 p.2) := by
        rw [zip_maps]
        exact List.map_congr_left fun p _ => litm_itm p
      refine ⟨_, D, (p :: r).map litm, rfl, rfl, .inl (SqL.of (by rw [hd, List.map_map] <;> rfl)), ?_, ?_⟩
      · have z := sum_le (ys := (p :: r).map litm) fun y hy => by
          obtain ⟨p', hp', rfl⟩ := List.mem_map.mp hy
          rw [litm_itm]
          exact (small_itm _ (hax p' hp').1 _ (hax p' hp').2).2.2.1
        have z2 : ((p :: r).map litm).length ≤ 3 := by rw [List.length_map]; exact hll
        have z3 : ((p :: r).map litm).length * Str.length ", " ≤ 3 * 2 := Nat.mul_le_mul z2 (by decide)
        omega
      · have z := q H' g
        unfold ftext at z
        rw [if_neg (by simp), ← el] at z
        exact z
/-! a form made from parts -/
end
end Lw
/-! tuples that are known to have no dict: their methods -/
namespace TzR
open PySem PySem.Spec PyProof.Rows L2
/-- the tuple at p, its object known -/
def TzAt (H : Hp) (p : Addr) (xs : List V) : Prop := ∃ o : Obj, H p = some (.frz o (.tup xs)) ∧ o.cls = .type "tuple" ∧ o.dict = none
theorem TzAt.seq {K : PySem.W.Frag} {H : Hp} {p : Addr} {xs : List V} : TzAt H p xs → SqT K H p xs
  | ⟨o, h, _⟩ => .inl (.inr ⟨o, h⟩)
theorem TzAt.of {H : Hp} {p : Addr} {o : Obj} {xs : List V} (h : H p = some (.frz o (.tup xs))) (hc : o.cls = .type "tuple") (hd : o.dict = none) : TzAt H p xs := ⟨o, h, hc, hd⟩
section
variable {X : Cx} {pins : List (Addr × Obj)} {σ : L2.St} {H : Hp} {s : Shared} {p : Addr} {xs : List V}
theorem TzAt.obj (I : L2.Inv X pins σ H s) : TzAt H p xs → ∃ (o : Obj) (its : List Value) (n : Nat), s.heap.get? p = some o ∧ o.cls = .type "tuple" ∧ o.dict = none ∧ o.data = .seq its.toArray n ∧ Vals xs its
  | ⟨o, h1, h2, h3⟩ => by
    obtain ⟨e, _, its, r, ⟨o', e', _, n, hd⟩⟩ := I.hok p _ h1
    rw [e] at e'
    cases e'
    exact ⟨o, its, n, e, h2, h3, hd, r⟩
theorem ty_tz : TyOk X "tuple" (fun x H => ∃ (p : Addr) (xs : List V), x = .ref p ∧ TzAt H p xs) := by
  intro pins σ H s x v I r ty
  obtain ⟨p, xs, rfl, t⟩ := ty
  cases r
  obtain ⟨o, its, n, e, hc, hd, _, _⟩ := t.obj I
  refine ⟨⟨o, e, hc⟩, fun b z => ?_⟩
  cases z
  exact ⟨o, e, hd⟩
/-- tuple(l), the new tuple's object known -/
theorem call_tuple_frz : CallR X (.type "tuple") (fun xs H Q => ∃ (p : Addr) (ys : List V), xs = [.ref p] ∧ SqL X.K H p ys ∧ ∀ (l : Addr) (o : Obj), H l = none → o.cls = .type "tuple" → o.dict = none → Q (.ref l) (upd H l (.frz o (.tup ys)))) := by
  intro pins s σ H xs us Q I r h
  obtain ⟨p, ys, rfl, hq, q⟩ := h
  obtain ⟨u, rfl, rx⟩ := vals1 r
  cases rx
  obtain ⟨its, r', pl, hz⟩ := I.list hq
  have hlen := r'.length
  refine call_tuple_list pl.isList (fun h' kp => ?_) (by simp only [List.size_toArray] <;> omega)
  have I1 : L2.Inv X pins σ H { s with heap := h' } := I.kept (t' := s.toks) kp
  have e : (h'.push { cls := .type "tuple", data := .seq its.toArray }).get? h'.objs.size = some { cls := .type "tuple", data := .seq its.toArray } := Heap.get?_push_size _ rfl
  have I2 : L2.Inv X pins σ (upd H h'.objs.size (.frz { cls := .type "tuple", data := .seq its.toArray } (.tup ys))) { s with heap := h'.push { cls := .type "tuple", data := .seq its.toArray } } :=
    I1.laid (t' := s.toks) (fun b o e => Heap.get?_push_of_some _ e) (Nat.le_refl _) (show ObjOk X.prog X.w _ _ _ (.frz _ (.tup ys)) from ⟨e, hz, its, r', IsTup.new _ _⟩)
  exact ⟨.ref h'.objs.size, _, I2, rfl, q _ _ (I1.hok.fresh (Nat.le_refl _)) rfl rfl⟩
/-- t.index(x) of texts -/
def tIxZ (K : PySem.W.Frag) (to : TE) (t : TA) : TE := tMG (fun x H => ∃ (p : Addr) (xs : List V), x = .ref p ∧ TzAt H p xs) (fun x xs H Q => ∃ p, ∃ ys : List Str, ∃ z j, x = .ref p ∧ xs = [.str z] ∧ SqT K H p (ys.map V.str) ∧ ys[j]? = some z ∧ (∀ m, m < j → ys[m]? ≠ some z) ∧ Q (.int (j : Nat)) H) to t
theorem pe_ixZ {o e : Expr} {to : TE} {t : TA} {apos cpos : Pos} (ho : PE X o to) (ha : PA X [e] t)
    (hbase : attributeBase o "index" X.env (eval o X.env) = eval o X.env := by rfl)
    (hfew : ((backTo cpos (starEach [e] X.env)).all (fun x => !x.1) && (backToKw cpos (keywordEach [] X.env)).all (fun x => x.1.isSome)
      && decide (([e] : List Expr).length + ([] : List Keyword).length + (if ([] : List Keyword).isEmpty then 0 else 1) < 30)) = true := by rfl)
    (hline : (apos.endLine == cpos.line) = true := by rfl) (hs : starEach [e] X.env = (false, eval e X.env) :: starEach [] X.env := by rfl) :
    PE X (.Call (.Attribute o "index" apos) [e] [] cpos) (tIxZ X.K to t) :=
  pe_mG ty_tz PySem.F.plainAttrs_tuple PySem.F.slot_tuple_index PySem.F.type_tuple_index mt_tup_index ho ha hbase hfew hline hs
end
/-- the first place of a text -/
theorem idx_at {ys : List Str} {z : Str} (h : z ∈ ys) : ys[ys.idxOf z]? = some z ∧ ∀ m, m < ys.idxOf z → ys[m]? ≠ some z := by
  have lt := List.idxOf_lt_length_iff.mpr h
  refine ⟨by rw [List.getElem?_eq_getElem lt, List.getElem_idxOf lt], fun m hm e => ?_⟩
  obtain ⟨h1, h2⟩ := List.getElem?_eq_some_iff.mp e
  have := List.not_of_lt_findIdx (p := (· == z)) (xs := ys) (i := m) hm
  simp [h2] at this
end TzR
/-! enumerate(t), t a tuple -/
namespace EnT
open PySem PySem.Spec PyProof.Rows L2
theorem drawsT {prog : Program} {w : World} {A : Around} (hh : A.handled = none) (it t : Addr) (hne : t ≠ it) (items : Array Value) :
    Draws prog w A it [it, t] items.size (fun i v => items[i]? = some v) (fun i h => h.IsTupleIter it t i ∧ h.IsTuple t items) where
  live := fun _ _ st => let ⟨o, ho, _⟩ := st.1; ⟨o, ho⟩
  frame := fun _ _ _ st k => ⟨let ⟨o, ho, r⟩ := st.1; ⟨o, k it (by simp) o ho, r⟩, let ⟨o, ho, r⟩ := st.2; ⟨o, k t (by simp) o ho, r⟩⟩
  item := fun i s Q E hi st hQ => by
    refine RZ.nextOf_tuple_item st.1 st.2 (x := items[i]) (by simp [hi]) fun h' hit' hs' => ?_
    exact hQ _ h' s.toks (by simp [hi]) ⟨hit', let ⟨o, ho, r⟩ := st.2; ⟨o, (hs'.2 t hne).trans ho, r⟩⟩ hs'
  done := fun s Q E st hE => RZ.nextOf_tuple_end hh st.1 st.2 (by simp) hE
theorem meets_new (t : Addr) (items : Array Value) :
    Meets (Builtin.«enumerate.__new__» ⟨[.type "enumerate", .ref t], []⟩) (fun _ R s => s.heap.IsTuple t items ∧
      R (.ok (.ret (.ref (s.heap.push { cls := .type "tuple_iterator", data := .fields #[.ref t, .int 0 0] }).objs.size)))
        { s with heap := (s.heap.push { cls := .type "tuple_iterator", data := .fields #[.ref t, .int 0 0] }).push { cls := .type "enumerate", data := .fields #[.none, .bool false, .ref s.heap.objs.size, rawInt 0, .none, .none] } }) :=
  .of_wp fun prog w A R s h => by
    obtain ⟨hp, g, d, tk, os⟩ := s
    obtain ⟨hl, h⟩ := h
    have hsub := sub_enumerate
    have hL : Heap.IsTuple (Shared.heap ⟨hp, g, d, tk, os⟩) t items := hl
    obtain ⟨⟨c0, d0, dt0, sl0⟩, ho, hc, n, hd⟩ := hl
    replace hc : c0 = .type "tuple" := hc
    replace hd : dt0 = .seq items n := hd
    subst hc hd
    wp_walk using AutoSeq1.wpAny_loadPart' ho
    refine wpAny_stack_any fun st => wpAny_pure ?_
    split
    · rename_i c _ _ _ _ _
      cases (c == Value.type "enumerate")
      · wp_walk using AutoSeq1.wpAny_loadPart' ho, wpAny_pyIter_tuple hL
        exact ⟨_, rfl, h⟩
      · wp_walk using AutoSeq1.wpAny_loadPart' ho, wpAny_pyIter_tuple hL
        exact ⟨_, rfl, h⟩
    · wp_walk using AutoSeq1.wpAny_loadPart' ho, wpAny_pyIter_tuple hL
      exact ⟨_, rfl, h⟩
section
variable {prog : Program} {w : World} {A : Around} {E : Value → Shared → Prop} {s : Shared}
theorem call_enum {t : Addr} {items : Array Value} {Q : Value → Shared → Prop} (hL : s.heap.IsTuple t items)
    (h : ∀ h', IsEnum h' (s.heap.objs.size + 1) s.heap.objs.size 0 .none → h'.IsTupleIter s.heap.objs.size t 0 → (∀ b o, s.heap.get? b = some o → h'.get? b = some o) → Q (.ref (s.heap.objs.size + 1)) { s with heap := h' }) :
    wpAny (model prog w) A (call (.type "enumerate") [.ref t]) Q E s := by
  refine callType_new PySem.F.called_enumerate (by decide) (PySem.F.typeCall_enumerate_1 _) (PySem.F.newCall_enumerate_1 _) (fun obj => PySem.F.args_object_init_2 obj _) PySem.F.entry_enumerate_new (meets_new t items) ⟨hL, ?_⟩
  have hz : (s.heap.push { cls := .type "tuple_iterator", data := .fields #[.ref t, .int 0 0] }).objs.size = s.heap.objs.size + 1 := Heap.size_push ..
  show _ ∧ _
  rw [hz]
  have he : IsEnum ((s.heap.push { cls := .type "tuple_iterator", data := .fields #[.ref t, .int 0 0] }).push { cls := .type "enumerate", data := .fields #[.none, .bool false, .ref s.heap.objs.size, rawInt 0, .none, .none] }) (s.heap.objs.size + 1) s.heap.objs.size 0 .none := by
    have q := Heap.get?_push_size (s.heap.push { cls := .type "tuple_iterator", data := .fields #[.ref t, .int 0 0] }) (o := { cls := .type "enumerate", data := .fields #[.none, .bool false, .ref s.heap.objs.size, rawInt 0, .none, .none] }) rfl
    rw [hz] at q
    exact q
  exact ⟨⟨_, he, rfl⟩, h _ he ⟨_, Heap.get?_push_of_some _ (Heap.get?_push_size _ rfl), rfl, rfl⟩ fun b o x => Heap.get?_push_of_some _ (Heap.get?_push_of_some _ x)⟩
end
/-- the tuple at a, each item in a new pair with its place -/
def IteT (K : PySem.W.Frag) (a : Addr) : It :=
  ⟨fun i H => ∃ (xs : List V) (x : V), SqT K H a xs ∧ xs[i]? = some x, fun i H v H' => ∃ T x, v = .ref T ∧ H T = none ∧ H' = upd H T (.tup [.int (i : Nat), x]) ∧ ∀ xs, SqT K H a xs → xs[i]? = some x, fun i H => ∃ xs : List V, SqT K H a xs ∧ xs.length = i⟩
theorem turn_enumT {P : Program} {w : World} {K : PySem.W.Frag} {elts : List Expr} {kk : Nat} {tpos : Pos} (a e it : Addr) (items : Array Value) :
    Turn P w K (.Tuple elts kk tpos) (IteT K a) [e, it] e (fun i h => (∃ old, IsEnum h e it ((i : Nat) : Int) old) ∧ h.IsTupleIter it a i ∧ e ≠ it ∧ a ≠ it ∧ e ≠ a) where
  mem := by simp
  obj := fun i h st b hb => by
    obtain ⟨⟨old, he⟩, ⟨o, ho, hc, hd⟩, _⟩ := st
    have e' : b = e ∨ b = it := by simpa using hb
    rcases e' with z | z
    · rw [z]; exact ⟨_, he, fun v q => nomatch q⟩
    · rw [z]; exact ⟨o, ho, fun v q => by rw [hd] at q; cases q⟩
  keep := fun i h h' st k => let ⟨⟨old, he⟩, ⟨o, ho, r⟩, hne⟩ := st; ⟨⟨old, k e (by simp) _ he⟩, ⟨o, k it (by simp) _ ho, r⟩, hne⟩
  item := by
    intro X hP hw hK hc i pins s σ H E I hf st hg
    subst hP hw hK
    obtain ⟨⟨old, he⟩, hit, hne, hat, hea⟩ := st
    obtain ⟨xs, x, hq, hx⟩ := hg
    obtain ⟨its, rv, p, hz⟩ := I.tuple hq
    obtain ⟨u, hu, ru⟩ := rv.get hx
    have hel : e < s.heap.objs.size := Heap.lt_size he
    have hi : i < its.toArray.size := by simpa using (List.getElem?_eq_some_iff.mp hu).1
    refine wpAny_pyNext_enum_itemD (drawsT (A := X.A.in1) (I.ok.hd hc) it a hat its.toArray) he ⟨hit, p⟩ hi hne (by simp [hne, hea]) fun v h' tk hv ho hst' hT hsz hk => ?_
    have ev : v = u := by
      have q : its.toArray[i]? = some v := hv
      rw [List.getElem?_toArray, hu] at q
      exact (Option.some.inj q).symm
    subst ev
    refine ⟨_, rfl, wpAny_letOwnedTupleGo_enum (s := { s with heap := h', toks := tk + 1 }) ho fun h'' he' sb => ?_⟩
    have hT2 : h''.get? s.heap.objs.size = some { cls := .type "tuple", data := .seq #[.int i tk, v] } := (sb.2 _ (Nat.ne_of_gt hel)).trans hT
    have new : ObjOk X.prog X.w (upd H s.heap.objs.size (.tup [.int (i : Nat), x])) h'' s.heap.objs.size (.tup [.int (i : Nat), x]) :=
      ⟨by show 2 ≤ sizeLine; decide, [.int i tk, v], .cons ⟨_, rfl⟩ (.cons ru .nil), ⟨_, hT2, rfl, _, rfl⟩⟩
    have I1 : Inv X pins σ (upd H s.heap.objs.size (.tup [.int (i : Nat), x])) { s with heap := h'', toks := tk + 1 } :=
      I.turnedNew (ch := [e, it]) (fun b ob hb q => (sb.2 b (fun z => hb (by simp [z]))).trans (hk b ob (fun z => hb (by simp [z])) (fun z => hb (by simp [z])) q)) hf (Nat.le_refl _) new
    refine ⟨.ref s.heap.objs.size, _, I1, rfl, ⟨_, x, rfl, I.hok.fresh (Nat.le_refl _), rfl, fun ys hy => by rw [I.tuple_inj hy hq]; exact hx⟩, ⟨⟨v, ?_⟩, ?_, hne, hat, hea⟩, fun b hb => ?_⟩
    · have e1 : ((i + 1 : Nat) : Int) = (i : Int) + 1 := by omega
      rw [e1]
      exact he'
    · obtain ⟨o, ho2, r⟩ := hst'.1
      exact ⟨o, (sb.2 it (Ne.symm hne)).trans ho2, r⟩
    · have hb' : b < s.heap.objs.size := by
        have e' : b = e ∨ b = it := by simpa using hb
        rcases e' with z | z
        · rw [z]; exact hel
        · obtain ⟨o, q, _⟩ := hit
          rw [z]; exact Heap.lt_size q
      rw [upd_ne (Nat.ne_of_lt hb')]
      exact (hf b hb).1
  done := by
    intro X hP hw hK hc i pins s σ H E I hf st hg
    subst hP hw hK
    obtain ⟨⟨old, he⟩, hit, hne, hat, hea⟩ := st
    obtain ⟨xs, hq, hx⟩ := hg
    obtain ⟨its, rv, p, hz⟩ := I.tuple hq
    obtain ⟨f0, f1, f2, f3, f4, f5⟩ := hf it (by simp)
    have hl := rv.length
    have ei : its.toArray.size = i := by simp; omega
    subst ei
    exact wpAny_pyNext_enum_endD (drawsT (A := X.A.in1) (I.ok.hd hc) it a hat its.toArray) he ⟨hit, p⟩ fun h' eb => ⟨rfl, I.turned (t' := s.toks) (fun b o hb q => eb b o hb q) f0 f1 f3 f4 f5⟩
  self := fun A i s Q E st h => let ⟨⟨_, he⟩, _⟩ := st; wpAny_pyIter_enum he h
def iEnumT (K : PySem.W.Frag) (ta : TA) : TI := fun σ H R => ta σ H fun vs H1 => ∃ a xs, vs = [.ref a] ∧ SqT K H1 a xs ∧ R (IteT K a) H1
theorem pi_enumT {X : Cx} {e : Expr} {ta : TA} {p pos tpos : Pos} {elts : List Expr} {kk : Nat} (hg : Gl X "enumerate") (hm : X.mg "enumerate" = none) (ha : PA X [e] ta) (hs : starEach [e] X.env = [(false, eval e X.env)] := by rfl) :
    PI X (.Tuple elts kk tpos) (.Call (.Name "enumerate" p) [e] [] pos) (iEnumT X.K ta) := by
  refine ⟨fun pins s σ H R I h => ?_⟩
  refine Call_ (ld_blt I hg hm boot_enumerate (PyProof.Rows.callWith_type1 (thn (ha.run pos pins s σ H _ I h) fun us s1 ⟨vs, H1, I1, r1, q1⟩ => ?_) hs rfl))
  obtain ⟨a, xs, ex, hq, q⟩ := q1
  subst ex
  cases r1 with
  | cons r rr =>
    cases rr
    cases r
    obtain ⟨its, rv, p', hz⟩ := I1.tuple hq
    have hal : a < s1.heap.objs.size := by
      obtain ⟨o, ho, _⟩ := p'
      exact Heap.lt_size ho
    refine call_enum p' fun h' he hit hk => wpAny_pyIter_enum he ?_
    have I2 : Inv X pins σ H1 { s1 with heap := h' } := I1.kept (t' := s1.toks) hk
    refine ⟨s1.heap.objs.size + 1, [s1.heap.objs.size + 1, s1.heap.objs.size], _, _, H1, rfl, I2, turn_enumT a (s1.heap.objs.size + 1) s1.heap.objs.size its.toArray, ⟨⟨.none, he⟩, hit, Nat.succ_ne_self _, Nat.ne_of_lt hal, Nat.ne_of_gt (Nat.lt_succ_of_lt hal)⟩, fun b hb => ?_, q⟩
    have e' : b = s1.heap.objs.size + 1 ∨ b = s1.heap.objs.size := by simpa using hb
    have hle : s1.heap.objs.size ≤ b := by
      rcases e' with z | z
      · rw [z]; exact Nat.le_add_right _ _
      · rw [z]; exact Nat.le_refl _
    exact I1.fpOk hle (I1.hok.fresh hle)
end EnT
namespace Lw
open PySem L2 TzR
theorem tzS {H H' : Hp} {p : Addr} {xs : List V} (g : Same H H') : TzAt H p xs → TzAt H' p xs
  | ⟨o, h, z⟩ => ⟨o, g _ _ h, z⟩
section
variable {P : Program} {w : World} {K : PySem.W.Frag} {mg : Str → Option Value} {base : Heap} {f : Addr} {fd : FuncData}
def spFrS1 : Sp := fun vs H Q _ => ∃ i : Str, vs = [.str i] ∧ ∀ H' : Hp, Same H H' → Q (.str i) H'
def spFrzS (K : PySem.W.Frag) : Sp := fun vs H Q _ => ∃ (a : Addr) (is : List Str), vs = [.ref a] ∧ (SqL K H a (is.map V.str) ∨ SqT K H a (is.map V.str)) ∧ is.length ≤ 1000 ∧
  ∀ (p : Addr) (H' : Hp), Same H H' → H p = none → TzAt H' p (is.map V.str) → Q (.ref p) H'
theorem ok_frS1 (F : Fun K "frozen" "frozen" sFrozen f fd) (B : Bt mg) : FnOk P w K mg base CX0 1 f fd ["worth"] spFrS1 := by
  refine F.ok scF (fun vs H Q E h => ?_) (fun cdv A outer s H vs Q E hr h => ?_)
  · obtain ⟨i, rfl, _⟩ := h
    rfl
  obtain ⟨i, rfl, q⟩ := h
  refine ⟨_, pss_cons (ps_if (pt_val (pe_callB call_isiT (by rfl) B.isi (by decide +kernel) (pa_cons (pv 0) (pa_cons (pe_tup (pa_cons (pe_bltn (v := .ty "list") (by rfl) B.lst (by decide +kernel) rfl) (pa_cons (pe_bltn (v := .ty "tuple") (by rfl) B.tup (by decide +kernel) rfl) pa_nil))) pa_nil)))) (pss_one ps_never) pss_nil)
    (pss_one (ps_ret (pv 0))), ?_⟩
  refine ⟨_, rfl, (by show 2 ≤ sizeLine; decide), fun t ht => ?_⟩
  refine ⟨_, t, _, .type "str", [.type "list", .type "tuple"], false, rfl, upd_same, .cons (.ty _) (.cons (.ty _) .nil), .base (.str i), is_seq (by decide +kernel) (by decide +kernel), _, rfl, ?_⟩
  exact iteF ⟨_, rfl, q _ (same_new ht _)⟩
/-- the ints so far -/
def InvSt (H0 : Hp) (D : Addr) (is : List Str) (i : Nat) (H : Hp) : Prop := H D = some (.lst ((is.take i).map V.str)) ∧ Same H0 H
theorem take_map_succS {is : List Str} {i : Nat} {x : V} (h : (is.map V.str)[i]? = some x) : ∃ n, x = .str n ∧ (is.take (i + 1)).map V.str = (is.take i).map V.str ++ [.str n] := by
  rw [List.getElem?_map] at h
  cases e : is[i]? with
  | none => rw [e] at h; cases h
  | some n =>
    rw [e] at h
    refine ⟨n, (Option.some.inj h).symm, ?_⟩
    rw [List.take_succ, e, List.map_append] <;> rfl
theorem ok_frzS (F : Fun K "frozen" "frozen" sFrozen f fd) (bF : Binds K fd ["worth"] []) (mF : mg "frozen" = some (.ref f)) (B : Bt mg) : FnOk P w K mg base CX0 2 f fd ["worth"] (spFrzS K) := by
  have G : FnOk P w K mg base CX0 1 f fd ["worth"] spFrS1 := ok_frS1 F B
  refine F.ok scF (fun vs H Q E h => ?_) (fun cdv A outer s H vs Q E hr h => ?_)
  · obtain ⟨a, is, rfl, _⟩ := h
    rfl
  obtain ⟨a, is, rfl, hS, hl, q⟩ := h
  have turn : ∀ {te : TE} {D : Addr}, H D = none → ∀ i x H', (is.map V.str)[i]? = some x → InvSt H D is i H' → tCall spFrS1 [] E0 (tCons (tVar 1) tNil) [some (.ref a), some x] H' fun y H4 => ∃ acc, H4 D = some (.lst acc) ∧ acc.length < sizeLine ∧ InvSt H D is (i + 1) (upd H4 D (.lst (acc ++ [y]))) := by
    rintro te D hD i x H' hx ⟨hd, g⟩
    obtain ⟨n, rfl, en⟩ := take_map_succS hx
    refine ⟨_, rfl, n, rfl, fun H2 g2 => ⟨_, g2 _ _ hd, ?_, by rw [upd_same, en], same_over (g.trans g2) hD _⟩⟩
    rw [List.length_map]
    exact small1000 (by rw [List.length_take]; omega)
  rcases hS with hS | hS
  · refine ⟨_, pss_cons (ps_if (pt_val (pe_callB call_isiT (by rfl) B.isi (by decide +kernel) (pa_cons (pv 0) (pa_cons (pe_tup (pa_cons (pe_bltn (v := .ty "list") (by rfl) B.lst (by decide +kernel) rfl) (pa_cons (pe_bltn (v := .ty "tuple") (by rfl) B.tup (by decide +kernel) rfl) pa_nil))) pa_nil))))
        (pss_one (ps_ret (pe_callTy call_tuple_frz (by rfl) B.tup (by decide +kernel) (pa_cons (pe_lc (own := [("part", 1)]) (g := gName 1) (tt := tYes) rfl scF.nd (pi_list (pv 0)) (blkOk_by (N := ["worth", "part"]) (sc := defScope sFrozen) (by decide +kernel))
          (fun _ _ _ _ _ => pg_name (i := 1) scF.nd rfl (Or.inl rfl)) (fun _ _ _ _ _ => pts_nil) (fun _ _ _ _ _ => pe_call G hr rfl mF F.kp bF .nil pass0 (pa_cons (pv 1) pa_nil))) pa_nil)))) pss_nil)
      (pss_one (ps_ret (pv 0))), ?_⟩
    refine ⟨_, rfl, (by show 2 ≤ sizeLine; decide), fun t ht => ?_⟩
    have g1 : Same H (upd H t (.tup [.ty "list", .ty "tuple"])) := same_new ht _
    refine ⟨_, t, _, .type "list", [.type "list", .type "tuple"], true, rfl, upd_same, .cons (.ty _) (.cons (.ty _) .nil), tyL (g1.seq hS), is_seqL, _, rfl, ?_⟩
    refine iteT ?_
    refine ⟨_, rfl, a, rfl, ⟨_, g1.seq hS⟩, fun D hD => ?_⟩
    have hD0 : H D = none := g1.free hD
    refine lc_list (K := K) (a := a) (xs := is.map V.str) (InvSt H D is) ⟨upd_same, same_over g1 hD0 _⟩ (fun i H' _ ⟨_, g⟩ => g.seq hS) (fun i x H' hx hi => ⟨rfl, kept (turn (te := fun _ _ _ => True) hD0 i x H' hx hi)⟩) ?_
    rintro H' ⟨hd, g⟩
    rw [List.length_map, List.take_length] at hd
    refine ⟨D, _, rfl, SqL.of hd, fun l o hl0 hc hdn => ?_⟩
    exact q l _ (g.trans (same_new hl0 _)) (g.free hl0) (TzAt.of upd_same hc hdn)
  · refine ⟨_, pss_cons (ps_if (pt_val (pe_callB call_isiT (by rfl) B.isi (by decide +kernel) (pa_cons (pv 0) (pa_cons (pe_tup (pa_cons (pe_bltn (v := .ty "list") (by rfl) B.lst (by decide +kernel) rfl) (pa_cons (pe_bltn (v := .ty "tuple") (by rfl) B.tup (by decide +kernel) rfl) pa_nil))) pa_nil))))
        (pss_one (ps_ret (pe_callTy call_tuple_frz (by rfl) B.tup (by decide +kernel) (pa_cons (pe_lc (own := [("part", 1)]) (g := gName 1) (tt := tYes) rfl scF.nd (pi_tup (pv 0)) (blkOk_by (N := ["worth", "part"]) (sc := defScope sFrozen) (by decide +kernel))
          (fun _ _ _ _ _ => pg_name (i := 1) scF.nd rfl (Or.inl rfl)) (fun _ _ _ _ _ => pts_nil) (fun _ _ _ _ _ => pe_call G hr rfl mF F.kp bF .nil pass0 (pa_cons (pv 1) pa_nil))) pa_nil)))) pss_nil)
      (pss_one (ps_ret (pv 0))), ?_⟩
    refine ⟨_, rfl, (by show 2 ≤ sizeLine; decide), fun t ht => ?_⟩
    have g1 : Same H (upd H t (.tup [.ty "list", .ty "tuple"])) := same_new ht _
    refine ⟨_, t, _, .type "tuple", [.type "list", .type "tuple"], true, rfl, upd_same, .cons (.ty _) (.cons (.ty _) .nil), tyT (seqT g1 hS), is_seq (by decide +kernel) (by decide +kernel), _, rfl, ?_⟩
    refine iteT ?_
    refine ⟨_, rfl, a, rfl, ⟨_, seqT g1 hS⟩, fun D hD => ?_⟩
    have hD0 : H D = none := g1.free hD
    refine lc_tup (K := K) (a := a) (xs := is.map V.str) (InvSt H D is) ⟨upd_same, same_over g1 hD0 _⟩ (fun i H' _ ⟨_, g⟩ => seqT g hS) (fun i x H' hx hi => ⟨rfl, kept (turn (te := fun _ _ _ => True) hD0 i x H' hx hi)⟩) ?_
    rintro H' ⟨hd, g⟩
    rw [List.length_map, List.take_length] at hd
    refine ⟨D, _, rfl, SqL.of hd, fun l o hl0 hc hdn => ?_⟩
    exact q l _ (g.trans (same_new hl0 _)) (g.free hl0) (TzAt.of upd_same hc hdn)
end
end Lw
namespace Lw
open PySem L2 EnT
abbrev sChkL : Stmt := topS 15
/-- more of the names that the text leaves to Python -/
structure Bx (mg : Str → Option Value) : Prop where
  sorted : mg "sorted" = none
  enum : mg "enumerate" = none
  str : mg "str" = none
theorem sIx_none (n d : Nat) : HT.sIx n d none = d := rfl
theorem sIx_nat (n d i : Nat) : HT.sIx n d (some (i : Int)) = min i n := by
  unfold HT.sIx
  simp only
  split
  · omega
  · omega
theorem cut_take (xs : List V) (i : Nat) (h : i ≤ xs.length) : cutV xs none (some (i : Int)) = xs.take i := by
  unfold cutV
  rw [sIx_nat, sIx_none, List.drop_zero, Nat.sub_zero, Nat.min_eq_left h]
theorem in_strs (z : Str) : ∀ ls : List Str, inV (.str z) (ls.map V.str) = decide (z ∈ ls)
  | [] => by simp [inV]
  | y :: r => by
    have q := in_strs z r
    unfold inV at q ⊢
    rw [List.map_cons, List.any_cons, q]
    show ((y == z) || decide (z ∈ r)) = decide (z ∈ y :: r)
    by_cases h : y = z
    · subst h
      simp
    · have h2 : ¬ z = y := fun e => h e.symm
      simp [h, h2]
theorem flat_strs' (ls : List Str) : (ls.map V.str).all flatV = true := by
  rw [List.all_eq_true]
  intro x hx
  obtain ⟨i, _, rfl⟩ := List.mem_map.mp hx
  rfl
theorem for_enumT {K : PySem.W.Frag} {a : Addr} {xs : List V} {g : TG} {tb : TS} {D : Ends} {σ : St} {H : Hp} (Pv : Nat → St → Hp → Prop) (h0 : Pv 0 σ H) (hl : ∀ i σ H, Pv i σ H → SqT K H a xs)
    (hs : ∀ i σ H x T, xs[i]? = some x → Pv i σ H → H T = none → g (.ref T) σ (upd H T (.tup [.int (i : Nat), x])) fun σ2 H2 => tb { D with nx := Pv (i + 1), ct := Pv (i + 1), bk := D.nx } σ2 H2) (hd : ∀ σ H, Pv xs.length σ H → D.nx σ H) :
    ∃ W : Nat → Nat → St → Hp → Prop, (∃ m, W 0 m σ H) ∧ ∀ i m σ H, W i m σ H →
      ((EnT.IteT K a).stop i H ∧ D.nx σ H) ∨ ((EnT.IteT K a).go i H ∧ ∃ N : St → Hp → Prop, (∀ σ' H', N σ' H' → ∃ m', m' < m ∧ W (i + 1) m' σ' H') ∧ ∀ x H', (EnT.IteT K a).yld i H x H' → g x σ H' fun σ2 H2 => tb { D with nx := N, ct := N, bk := D.nx } σ2 H2) := by
  refine ⟨fun i m σ H => m = xs.length - i ∧ i ≤ xs.length ∧ Pv i σ H, ⟨xs.length, by simp, Nat.zero_le _, h0⟩, ?_⟩
  rintro i m σ H ⟨rfl, hi, p⟩
  have sq := hl i σ H p
  by_cases hlt : i < xs.length
  · refine .inr ⟨⟨xs, xs[i], sq, List.getElem?_eq_getElem hlt⟩, Pv (i + 1), fun σ' H' p' => ⟨xs.length - (i + 1), by omega, rfl, hlt, p'⟩, fun x H' y => ?_⟩
    obtain ⟨T, x', rfl, hT, rfl, hx⟩ := y
    exact hs i σ H x' T (hx xs sq) p hT
  · have e : i = xs.length := by omega
    subst e
    exact .inl ⟨⟨xs, sq, rfl⟩, hd σ H p⟩
section
variable {P : Program} {w : World} {K : PySem.W.Frag} {mg : Str → Option Value} {base : Heap} {f : Addr} {fd : FuncData}
def spChkL (K : PySem.W.Frag) : Sp := fun vs H Q _ => ∃ (t : Addr) (ls : List Str), vs = [.ref t] ∧ SqT K H t (ls.map V.str) ∧ ls.length ≤ 100 ∧ ls.Nodup ∧ ∀ H' : Hp, Same H H' → Q .non H'
theorem scCL : FnScope ["letters", "at", "letter"] ["letters"] (defScope sChkL) := ⟨rfl, rfl, rfl, by decide +kernel, rfl, by decide +kernel, by decide +kernel⟩
theorem ok_chkL (F : Fun K "check_letters" "check_letters" sChkL f fd) (B2 : Bx mg) : FnOk P w K mg base CX0 1 f fd ["letters"] (spChkL K) := by
  refine F.ok scCL (fun vs H Q E h => ?_) (fun cdv A outer s H vs Q E hr h => ?_)
  · obtain ⟨t, ls, rfl, _⟩ := h
    rfl
  obtain ⟨t, ls, rfl, ht, hl, hn, k⟩ := h
  refine ⟨_, pss_one (ps_for PassesOwn.never rfl (EnT.pi_enumT (by rfl) B2.enum (pa_cons (pv 0) pa_nil)) (pg_tup rfl (pgs_cons (pg_name (i := 1) scCL.nd rfl (Or.inl rfl)) (pgs_cons (pg_name (i := 2) scCL.nd rfl (Or.inl rfl)) pgs_nil)))
    (pss_one (ps_if (pt_cmpR (r := rIn K false) op_in_seq (pv 2) (pe_slice sl_tupA (pv 0) po_none (po_some (pv 1))) (by rfl)) (pss_one ps_never) pss_nil))), ?_⟩
  refine ⟨_, rfl, t, _, rfl, ht, for_enumT (K := K) (a := t) (xs := ls.map V.str) (fun i σ' H' => (∃ u v : Option V, σ' = [some (.ref t), u, v]) ∧ Same H H') ⟨⟨_, _, rfl⟩, Same.refl H⟩ (fun i σ' H' ⟨_, g⟩ => seqT g ht) (fun i σ' H' x T hx ⟨⟨u, v, e⟩, g⟩ hT => ?_) (fun σ' H' ⟨_, g⟩ => k H' g)⟩
  subst e
  rw [List.getElem?_map] at hx
  cases ez : ls[i]? with
  | none => rw [ez] at hx; cases hx
  | some z =>
    rw [ez] at hx
    cases hx
    have hi : i < ls.length := (List.getElem?_eq_some_iff.mp ez).1
    have gT := same_new hT (.tup [.int (i : Nat), .str z])
    have htT := seqT (g.trans gT) ht
    have no : decide (z ∈ ls.take i) = false := by
      refine decide_eq_false fun hm => ?_
      obtain ⟨j, hj, ej⟩ := List.getElem_of_mem hm
      rw [List.length_take] at hj
      rw [List.getElem_take] at ej
      obtain ⟨_, e2⟩ := List.getElem?_eq_some_iff.mp ez
      exact absurd ((List.getElem_inj hn).mp (ej.trans e2.symm)) (by omega)
    have ecut : cutV (ls.map V.str) none (some (i : Int)) = (ls.take i).map V.str := by
      rw [cut_take _ _ (by rw [List.length_map]; omega), List.map_take]
    refine ⟨T, _, rfl, SqT.of upd_same, rfl, _, _, rfl, _, _, rfl, rfl, ?_⟩
    refine ⟨_, rfl, _, rfl, _, rfl, _, rfl, t, _, rfl, htT, fun hw => ?_, fun _ p hp => ?_⟩
    · exfalso
      have z2 := hw.2
      rw [sIx_nat, List.length_map] at z2
      omega
    · have gp := same_new hp (.tup (cutV (ls.map V.str) none (some (i : Int))))
      refine ⟨p, _, rfl, .inr (SqT.of upd_same), rfl, by rw [ecut]; exact flat_strs' _, _, rfl, ?_⟩
      have e3 : inV (.str z) (cutV (ls.map V.str) none (some (i : Int))) = false := by
        rw [ecut, in_strs]
        exact no
      exact iteN (c := inV (.str z) (cutV (ls.map V.str) none (some (i : Int)))) e3 ⟨⟨_, _, rfl⟩, (g.trans gT).trans gp⟩
end
end Lw
namespace Lw
open PySem L2 TzR
abbrev sUini : Stmt := inClass (topS 17) 0
/-- a use of the program: its name, its letters, its form -/
def UseAt (K : PySem.W.Frag) (U C : Addr) (H : Hp) (p : Addr) (nm : Str) (ls : List Str) (q : Addr) (ks : List Str) (is : List Int) : Prop :=
  ∃ dx tl : Addr, H p = some (.ins U dx [("name", .str nm), ("letters", .ref tl), ("form", .ref q)]) ∧ TzAt H tl (ls.map V.str) ∧ FormAt K C q ks is H
theorem UseAt.same {K : PySem.W.Frag} {U C : Addr} {H H' : Hp} {p q : Addr} {nm : Str} {ls ks : List Str} {is : List Int} (g : Same H H') : UseAt K U C H p nm ls q ks is → UseAt K U C H' p nm ls q ks is
  | ⟨dx, tl, h1, h2, h3⟩ => ⟨dx, tl, g _ _ h1, tzS g h2, h3.same g⟩
theorem tzK {H H' : Hp} {p q : Addr} {xs : List V} {U dx : Addr} {fs : List (Str × V)} (k : Kp p H H') (hp : H p = some (.ins U dx fs)) : TzAt H q xs → TzAt H' q xs
  | ⟨o, h, z⟩ => ⟨o, k _ _ (fun e => by rw [e, hp] at h; cases h) h, z⟩
structure Us (K : PySem.W.Frag) (U C : Addr) : Prop where
  cl : Cls K U
  nN : PySem.W.findIn K (.ref U) "name" = some none
  nL : PySem.W.findIn K (.ref U) "letters" = some none
  nF : PySem.W.findIn K (.ref U) "form" = some none
  clC : Cls K C
  nK : PySem.W.findIn K (.ref C) "kinds" = some none
theorem scUi : FnScope ["self", "name", "letters", "form"] ["self", "name", "letters", "form"] (defScope sUini) := ⟨rfl, rfl, rfl, by decide +kernel, rfl, by decide +kernel, by decide +kernel⟩
def spUini (K : PySem.W.Frag) (U C : Addr) : Sp := fun vs H Q _ => ∃ (p dx l q : Addr) (nm : Str) (ls ks : List Str) (is : List Int), vs = [.ref p, .str nm, .ref l, .ref q] ∧ H p = some (.ins U dx []) ∧ (SqL K H l (ls.map V.str) ∨ SqT K H l (ls.map V.str)) ∧ ls.length ≤ 100 ∧ ls.Nodup ∧ FormAt K C q ks is H ∧ ks.length = ls.length ∧
  ∀ (H' : Hp) (tl : Addr), Kp p H H' → H' p = some (.ins U dx [("name", .str nm), ("letters", .ref tl), ("form", .ref q)]) → TzAt H' tl (ls.map V.str) → Q .non H'
theorem FormAt.kp {K : PySem.W.Frag} {C p q U dx : Addr} {fs : List (Str × V)} {ks : List Str} {is : List Int} {H H' : Hp} (k : Kp p H H') (hp : H p = some (.ins U dx [])) : FormAt K C q ks is H → FormAt K C q ks is H'
  | ⟨dx', tk, ta, h1, h2, h3⟩ => by
    have nq : q ≠ p := fun e => by
      rw [e, hp] at h1
      cases h1
    exact ⟨dx', tk, ta, k _ _ nq h1, k.seq hp h2, k.seq hp h3⟩
section
variable {P : Program} {w : World} {K : PySem.W.Frag} {mg : Str → Option Value} {base : Heap} {f U C gF gC : Addr} {fd dF dC : FuncData}
theorem ok_uini (F : Fun K "__init__" "Use.__init__" sUini f fd) (T : Us K U C) (B : Bt mg) (GF : FnOk P w K mg base CX0 2 gF dF ["worth"] (spFrzS K)) (bF : Binds K dF ["worth"] []) (kF : PySem.W.keepIn K (.ref gF) = true) (mF : mg "frozen" = some (.ref gF))
    (GC : FnOk P w K mg base CX0 1 gC dC ["letters"] (spChkL K)) (bC : Binds K dC ["letters"] []) (kC : PySem.W.keepIn K (.ref gC) = true) (mC : mg "check_letters" = some (.ref gC)) : FnOk P w K mg base CX0 3 f fd ["self", "name", "letters", "form"] (spUini K U C) := by
  refine F.ok scUi (fun vs H Q E h => ?_) (fun cdv A outer s H vs Q E hr h => ?_)
  · obtain ⟨p, dx, l, q, nm, ls, ks, is, rfl, _⟩ := h
    rfl
  obtain ⟨p, dx, l, q, nm, ls, ks, is, rfl, hp, hS, hl, hn, hq, hkl, k⟩ := h
  refine ⟨_, pss_cons (ps_fld (pv 0) (pv 1) rfl) (pss_cons (ps_fld (pv 0) (pe_call GF hr rfl mF kF bF .nil pass0 (pa_cons (pv 2) pa_nil)) rfl) (pss_cons (ps_fld (pv 0) (pv 3) rfl)
    (pss_cons (ps_expr (pe_call GC (hr.mono (by decide)) rfl mC kC bC .nil pass0 (pa_cons (pe_fld (pv 0) rfl) pa_nil)))
    (pss_one (ps_if (pt_cmpR op_ne (pe_callB call_len_seq (by rfl) B.len PySem.boot_len (pa_cons (pe_fld (pv 3) rfl) pa_nil)) (pe_callB call_len_seq (by rfl) B.len PySem.boot_len (pa_cons (pe_fld (pv 0) rfl) pa_nil)) (nomark _)) (pss_one ps_never) pss_nil))))), ?_⟩
  have l0 : ls.length ≤ 1000 := by omega
  refine ⟨_, rfl, _, rfl, p, U, dx, _, rfl, hp, T.cl, T.nN, (by show 0 < 1000; decide), ?_⟩
  have k1 : Kp p H (upd H p (.ins U dx (putF "name" (.str nm) []))) := fun b o n e => by rw [upd_ne n]; exact e
  have hS1 := hS.imp (fun z => k1.seqL hp z) (fun z => k1.seq hp z)
  have hp1 : (upd H p (.ins U dx (putF "name" (.str nm) []))) p = _ := upd_same
  revert k1 hS1 hp1
  generalize upd H p (.ins U dx (putF "name" (.str nm) [])) = H1
  intro k1 hS1 hp1
  refine ⟨_, rfl, l, ls, rfl, hS1, l0, fun tl H2 g2 n2 h2 => ?_⟩
  have hp2 := g2 _ _ hp1
  refine ⟨_, rfl, p, U, dx, _, rfl, hp2, T.cl, T.nL, (by show 1 < 1000; decide), ?_⟩
  have k2 : Kp p H2 (upd H2 p (.ins U dx (putF "letters" (.ref tl) (putF "name" (.str nm) [])))) := fun b o n e => by rw [upd_ne n]; exact e
  have ht3 := tzK k2 hp2 h2
  have hp3 : (upd H2 p (.ins U dx (putF "letters" (.ref tl) (putF "name" (.str nm) [])))) p = _ := upd_same
  have k3 : Kp p H (upd H2 p (.ins U dx (putF "letters" (.ref tl) (putF "name" (.str nm) [])))) := fun b o n e => k2 b o n (g2 _ _ (k1 b o n e))
  revert ht3 hp3 k3
  generalize upd H2 p (.ins U dx (putF "letters" (.ref tl) (putF "name" (.str nm) []))) = H3
  intro ht3 hp3 k3
  refine ⟨_, rfl, _, rfl, p, U, dx, _, rfl, hp3, T.cl, T.nF, (by show 2 < 1000; decide), ?_⟩
  have k4 : Kp p H3 (upd H3 p (.ins U dx [("name", .str nm), ("letters", .ref tl), ("form", .ref q)])) := fun b o n e => by rw [upd_ne n]; exact e
  have ht4 := tzK k4 hp3 ht3
  have hp4 : (upd H3 p (.ins U dx [("name", .str nm), ("letters", .ref tl), ("form", .ref q)])) p = some (.ins U dx [("name", .str nm), ("letters", .ref tl), ("form", .ref q)]) := upd_same
  have k5 : Kp p H (upd H3 p (.ins U dx [("name", .str nm), ("letters", .ref tl), ("form", .ref q)])) := fun b o n e => k4 b o n (k3 b o n e)
  have hq5 := hq.kp (fs := []) k5 hp
  obtain ⟨dxq, tk, ta, hq1, hq2, hq3⟩ := hq5
  refine ⟨_, rfl, p, U, dx, _, _, rfl, hp4, T.cl, T.nL, rfl, tl, ls, rfl, ht4.seq, hl, hn, fun H5 g5 => ?_⟩
  refine ⟨_, rfl, q, C, dxq, _, _, rfl, g5 _ _ hq1, T.clC, T.nK, flds_k _ _, tk, _, rfl, .inr (seqT g5 hq2), _, rfl, p, U, dx, _, _, rfl, g5 _ _ hp4, T.cl, T.nL, rfl, tl, _, rfl, .inr (seqT g5 ht4.seq), rfl, _, rfl, ?_⟩
  refine iteN (by rw [List.length_map, List.length_map, hkl, dec_int]; simp) ?_
  exact k H5 tl (fun b o n e => g5 _ _ (k5 b o n e)) (g5 _ _ hp4) (tzS g5 ht4)
end
end Lw
/-! operators of the program's own classes: x op y, x op= y, op x by the class's own defs; order of data -/
namespace OwB
open PySem PySem.Spec PyProof.Rows L2
section
variable {X : Cx} {CX : CXT} {k : Nat} {g C : Addr} {gd : FuncData} {ps : List Str} {sp : Sp} {E : XK}
theorem inst_of {pins : List (Addr × Obj)} {σ : L2.St} {H : Hp} {s : Shared} {a dx : Addr} {fs : List (Str × V)} (I : Inv X pins σ H s) (h : H a = some (.ins C dx fs)) : ∃ od, PySem.W.InstAt s.heap a (PySem.W.instObj C dx) C (some od) := by
  obtain ⟨mA, O, _⟩ := ins_get I.hok h
  obtain ⟨od, J, _⟩ := O.look
  exact ⟨od, J⟩
theorem back_of {pins : List (Addr × Obj)} {σ : L2.St} {Q : VK} {v : Value} {s' : Shared} (h : EP X pins σ Q v s') : PySem.W.CmpBack (EP X pins σ Q) v s' := by
  obtain ⟨z, H', I', rz, qz⟩ := h
  exact SlX.cmpback rz ⟨z, H', I', rz, qz⟩
/-- the def at g stands for the class at C under the name x -/
structure OpD (K : PySem.W.Frag) (C g : Addr) (x : Str) : Prop where
  at_ : PySem.W.findIn K (.ref C) x = some (some (.ref g))
  fn : PySem.W.isFn K (.ref g) = true
/-- x op y, both instances of the class at C -/
def rOwnI (C : Addr) (sp : Sp) (E : XK) : R2 := fun x y H Q => ∃ a b dx dy fs gs, x = .ref a ∧ y = .ref b ∧ H a = some (.ins C dx fs) ∧ H b = some (.ins C dy gs) ∧ sp [x, y] H Q E
theorem op_ownB {op : Operator} (hc : PySem.W.selfFirst X.K C = true) (D : OpD X.K C g (PySem.dunder op.info.2)) (F : FnOk X.prog X.w X.K X.mg X.base CX k g gd ps sp) (hr : Room k X.A) (hb : Binds X.K gd ps []) (hx : Passes CX X E) :
    OpR X (binaryOp op) (rOwnI C sp E) := by
  intro pins s σ H x y v u Q I rx ry h
  obtain ⟨a, b, dx, dy, fs, gs, rfl, rfl, ha, hb', q⟩ := h
  cases (show v = Value.ref a from rx)
  cases (show u = Value.ref b from ry)
  obtain ⟨od, J⟩ := inst_of I ha
  obtain ⟨od', J'⟩ := inst_of I hb'
  obtain ⟨m, hF⟩ := I.fr
  refine PySem.W.binop_K hF I.ok.mod.kin J J'.type hc D.at_ D.fn ?_
  exact wpAny_mono (run_fn (us := [.ref a, .ref b]) (vs := [.ref a, .ref b]) F hr hb .nil hx I (.cons rfl (.cons rfl .nil)) q) (fun w s' z => back_of z) fun _ _ x => x
theorem op_ownC {op : CmpOp} (hop : ∀ a b, compareOp op a b = richCompare op a b) (D : OpD X.K C g (cmpInfo op).2.1) (F : FnOk X.prog X.w X.K X.mg X.base CX k g gd ps sp) (hr : Room k X.A) (hb : Binds X.K gd ps []) (hx : Passes CX X E) :
    OpR X (compareOp op) (rOwnI C sp E) := by
  intro pins s σ H x y v u Q I rx ry h
  obtain ⟨a, b, dx, dy, fs, gs, rfl, rfl, ha, hb', q⟩ := h
  cases (show v = Value.ref a from rx)
  cases (show u = Value.ref b from ry)
  obtain ⟨od, J⟩ := inst_of I ha
  obtain ⟨od', J'⟩ := inst_of I hb'
  obtain ⟨m, hF⟩ := I.fr
  rw [hop]
  refine PySem.W.cmp_K (op := op) (tb := .ref C) hr.units0 hF I.ok.mod.kin J J'.type ?_ D.at_ D.fn ?_
  · unfold PySem.W.notFirst
    rw [beq_self_eq_true, Bool.true_or]
  exact wpAny_mono (run_fn (us := [.ref a, .ref b]) (vs := [.ref a, .ref b]) F hr hb .nil hx I (.cons rfl (.cons rfl .nil)) q) (fun w s' z => back_of z) fun _ _ x => x
/-- x op= y, x an instance of the class at C -/
def rOwnA (C : Addr) (sp : Sp) (E : XK) : R2 := fun x y H Q => ∃ a dx fs, x = .ref a ∧ H a = some (.ins C dx fs) ∧ sp [x, y] H Q E
theorem op_ownA {op : Operator} (hc : PySem.W.selfFirst X.K C = true) (D : OpD X.K C g (PySem.dunderI op.info.2)) (F : FnOk X.prog X.w X.K X.mg X.base CX k g gd ps sp) (hr : Room k X.A) (hb : Binds X.K gd ps []) (hx : Passes CX X E) :
    OpR X (inplaceOp op) (rOwnA C sp E) := by
  intro pins s σ H x y v u Q I rx ry h
  obtain ⟨a, dx, fs, rfl, ha, q⟩ := h
  cases (show v = Value.ref a from rx)
  obtain ⟨od, J⟩ := inst_of I ha
  obtain ⟨m, hF⟩ := I.fr
  refine PySem.W.ksp_inplace hF I.ok.mod.kin J hc D.at_ D.fn ?_
  exact wpAny_mono (run_fn (us := [.ref a, u]) (vs := [.ref a, y]) F hr hb .nil hx I (.cons rfl (.cons ry .nil)) q) (fun w s' z => back_of z) fun _ _ x => x
/-- op x -/
def rOwnU (C : Addr) (sp : Sp) (E : XK) : V → Hp → VK → Prop := fun x H Q => ∃ a dx fs, x = .ref a ∧ H a = some (.ins C dx fs) ∧ sp [x] H Q E
theorem un_own_neg (D : OpD X.K C g "__neg__") (F : FnOk X.prog X.w X.K X.mg X.base CX k g gd ps sp) (hr : Room k X.A) (hb : Binds X.K gd ps []) (hx : Passes CX X E) : UnR X (unaryOp .USub) (rOwnU C sp E) := by
  intro pins s σ H x v Q I rx h
  obtain ⟨a, dx, fs, rfl, ha, q⟩ := h
  cases (show v = Value.ref a from rx)
  obtain ⟨od, J⟩ := inst_of I ha
  obtain ⟨m, hF⟩ := I.fr
  exact PySem.W.ksp_neg hF I.ok.mod.kin J D.at_ D.fn (run_fn (us := [.ref a]) (vs := [.ref a]) F hr hb .nil hx I (.cons rfl .nil) q)
theorem un_own_pos (D : OpD X.K C g "__pos__") (F : FnOk X.prog X.w X.K X.mg X.base CX k g gd ps sp) (hr : Room k X.A) (hb : Binds X.K gd ps []) (hx : Passes CX X E) : UnR X (unaryOp .UAdd) (rOwnU C sp E) := by
  intro pins s σ H x v Q I rx h
  obtain ⟨a, dx, fs, rfl, ha, q⟩ := h
  cases (show v = Value.ref a from rx)
  obtain ⟨od, J⟩ := inst_of I ha
  obtain ⟨m, hF⟩ := I.fr
  exact PySem.W.ksp_pos hF I.ok.mod.kin J D.at_ D.fn (run_fn (us := [.ref a]) (vs := [.ref a]) F hr hb .nil hx I (.cons rfl .nil) q)
theorem un_own_inv (D : OpD X.K C g "__invert__") (F : FnOk X.prog X.w X.K X.mg X.base CX k g gd ps sp) (hr : Room k X.A) (hb : Binds X.K gd ps []) (hx : Passes CX X E) : UnR X (unaryOp .Invert) (rOwnU C sp E) := by
  intro pins s σ H x v Q I rx h
  obtain ⟨a, dx, fs, rfl, ha, q⟩ := h
  cases (show v = Value.ref a from rx)
  obtain ⟨od, J⟩ := inst_of I ha
  obtain ⟨m, hF⟩ := I.fr
  exact PySem.W.ksp_inv hF I.ok.mod.kin J D.at_ D.fn (run_fn (us := [.ref a]) (vs := [.ref a]) F hr hb .nil hx I (.cons rfl .nil) q)
/-- x op i, x an instance, i an int -/
def rOwnN (C : Addr) (sp : Sp) (E : XK) : R2 := fun x y H Q => ∃ a dx fs i, x = .ref a ∧ y = .int i ∧ H a = some (.ins C dx fs) ∧ sp [x, y] H Q E
theorem op_ownN {op : Operator} {fo ro rc : Option Value} (hc : PySem.W.selfFirst X.K C = true) (D : OpD X.K C g (PySem.dunder op.info.2)) (hr' : PySem.W.findIn X.K (.ref C) (PySem.dunderR op.info.2) = some rc) (hp : rc = none ∨ ∃ g : Addr, rc = some (.ref g))
    (h1 : PySem.W.findIn X.K (.type "int") (PySem.dunder op.info.2) = some fo) (h2 : PySem.W.findIn X.K (.type "int") (PySem.dunderR op.info.2) = some ro) (hsub : PySem.W.subIn X.K (.type "int") (.ref C) = some false)
    (F : FnOk X.prog X.w X.K X.mg X.base CX k g gd ps sp) (hr : Room k X.A) (hb : Binds X.K gd ps []) (hx : Passes CX X E) : OpR X (binaryOp op) (rOwnN C sp E) := by
  intro pins s σ H x y v u Q I rx ry h
  obtain ⟨a, dx, fs, i, rfl, rfl, ha, q⟩ := h
  cases (show v = Value.ref a from rx)
  obtain ⟨t, rfl⟩ := (show ∃ t, u = Value.int i t from ry)
  obtain ⟨od, J⟩ := inst_of I ha
  obtain ⟨m, hF⟩ := I.fr
  refine PySem.W.ksp_binT (b := .int i t) hF I.ok.mod.kin J rfl hc D.at_ D.fn hr' hp h1 h2 hsub ?_
  exact wpAny_mono (run_fn (us := [.ref a, .int i t]) (vs := [.ref a, .int i]) F hr hb .nil hx I (.cons rfl (.cons ⟨t, rfl⟩ .nil)) q) (fun w s' z => back_of z) fun _ _ x => x
end
/-! ### the order of data -/
section
variable {X : Cx}
def rCmpD (K : PySem.W.Frag) (p : PyData → PyData → Bool) : R2 := fun x y H Q => ∃ d e, Dp K H x d ∧ Dp K H y e ∧ PySem.W.alike d e = true ∧ d ≠ .none ∧ min d.depth e.depth ≤ 32 ∧ Q (.bl (p d e)) H
theorem op_ltD (hu : X.A.units + 64 < cLine) : OpR X (compareOp .Lt) (rCmpD X.K fun d e => PySem.W.dataLt d e) := by
  intro pins s σ H x y v u Q I rx ry ⟨d, e, hd, he, ha, hn, hl, q⟩
  obtain ⟨as, r1⟩ := Dp.reads I d x v hd rx
  obtain ⟨bs, r2⟩ := Dp.reads I e y u he ry
  exact PySem.W.lt_data r1 r2 ha hn (by omega) ⟨.bl _, H, I, rfl, q⟩
theorem op_gtD (hu : X.A.units + 64 < cLine) : OpR X (compareOp .Gt) (rCmpD X.K fun d e => PySem.W.dataLt e d) := by
  intro pins s σ H x y v u Q I rx ry ⟨d, e, hd, he, ha, hn, hl, q⟩
  obtain ⟨as, r1⟩ := Dp.reads I d x v hd rx
  obtain ⟨bs, r2⟩ := Dp.reads I e y u he ry
  exact PySem.W.gt_data r1 r2 ha hn (by omega) ⟨.bl _, H, I, rfl, q⟩
theorem op_leD (hu : X.A.units + 64 < cLine) : OpR X (compareOp .LtE) (rCmpD X.K fun d e => !PySem.W.dataLt e d) := by
  intro pins s σ H x y v u Q I rx ry ⟨d, e, hd, he, ha, hn, hl, q⟩
  obtain ⟨as, r1⟩ := Dp.reads I d x v hd rx
  obtain ⟨bs, r2⟩ := Dp.reads I e y u he ry
  exact PySem.W.le_data r1 r2 ha hn (by omega) ⟨.bl _, H, I, rfl, q⟩
theorem op_geD (hu : X.A.units + 64 < cLine) : OpR X (compareOp .GtE) (rCmpD X.K fun d e => !PySem.W.dataLt d e) := by
  intro pins s σ H x y v u Q I rx ry ⟨d, e, hd, he, ha, hn, hl, q⟩
  obtain ⟨as, r1⟩ := Dp.reads I d x v hd rx
  obtain ⟨bs, r2⟩ := Dp.reads I e y u he ry
  exact PySem.W.ge_data r1 r2 ha hn (by omega) ⟨.bl _, H, I, rfl, q⟩
end
end OwB
/-! list(text): its signs -/
namespace LiS
open PySem PySem.Spec PyProof.Rows L2
section
variable {prog : Program} {w : World} {A : Around} {E : Value → Shared → Prop} {s : Shared} {x : Str} {t : Tok}
theorem hint_str {Q : Bool → Shared → Prop} (h : Q false s) : wpAny (model prog w) A (Builtin.List.listLengthHint (.str x t)) Q E s := by
  unfold Builtin.List.listLengthHint
  refine wpAny_bind (wpAny_specialOf (typeIs_str s x t) PySem.F.slot_str_len.lookup ?_)
  generalize hid : ("str.__len__" : String) = id0
  wp_delta
  rw [show splitId id0 = some ("str", "__len__") from by subst hid; decide +kernel]
  subst hid
  refine wpAny_bind (wpAny_isInstance (T := "str") (b := true) (typeIs_str s x t) (by rw [isSubtype_type]; kernel_rfl) ?_)
  refine wpAny_ite_split (fun hab => absurd hab (by decide)) (fun _ => ?_)
  refine wpAny_ite_split (fun _ => ?_) (fun hab => absurd (by decide +kernel) hab)
  refine wpAny_bind (wpAny_typeOf (typeIs_str s x t) ?_)
  exact wpAny_pure h
theorem ext_str {R : Result → Shared → Prop} (hh : A.handled = none) (ha : x.cps.all (· < 128) = true) (S : Addr) (res : Value) (c₀ : Nat) (hS : s.heap.get? S = some { cls := .type "list", data := .seq #[] c₀ })
    (hR : ∀ h' tk acc' c', (∀ b o, b ≠ S → s.heap.get? b = some o → h'.get? b = some o) → h'.get? S = some { cls := .type "list", dict := none, data := .seq acc' c', slots := #[] } → ItemsOf (SignAt x) acc' x.cps.size → R (.ok (.ret res)) { s with heap := h', toks := tk }) (hn : x.cps.size ≤ sizeLine) :
    wpAny (model prog w) A.in1 (Builtin.List.listExtendWith (.ref S) (.str x t) res)
      (fun fin s' => match fin with | .done f => R (.ok f) s' | .again c' => c'.quiet = true ∧ codeAny (model prog w) A c' R s') (fun e s' => R (.error e) s') s := by
  have hSI : S ≠ s.heap.objs.size := Nat.ne_of_lt (Heap.lt_size hS)
  have hSf : S ∉ [s.heap.objs.size] := by simp only [List.mem_cons, List.not_mem_nil, or_false]; exact hSI
  have W := Walks.strAscii (prog := prog) (w := w) (A := A.in1) hh s.heap.objs.size x t
  have key : ∀ (h : Heap) (c₁ tk : Nat), h.IsStrIter s.heap.objs.size "str_ascii_iterator" x t 0 → (∀ b o, b ≠ S → s.heap.get? b = some o → h.get? b = some o) →
      h.get? S = some { cls := .type "list", data := .seq #[] c₁ } → codeAny (model prog w) A (.builtin "list.extend.loop" ⟨[.ref S, .ref s.heap.objs.size, res], []⟩) R { s with heap := h, toks := tk } := by
    intro h c₁ tk hst hk hS₁
    refine codeAny_extend_loopS W.toS hn S hSf res x.cps.size 0 _ #[] c₁ rfl (Nat.zero_le _) hst hS₁ (ItemsOf.nil _) fun s' acc' c' hm hS' hacc => ?_
    rw [Moved.eq_with hm]
    refine hR s'.heap s'.toks acc' c' (fun b o hb e => hm.heap b o (fun hmem => ?_) (hk b o hb e)) hS' hacc
    rcases List.mem_cons.mp hmem with e' | hmem
    · exact hb e'
    · exact absurd (Heap.lt_size e) (by rw [List.mem_singleton.mp hmem]; exact Nat.lt_irrefl _)
  unfold Builtin.List.listExtendWith
  refine wpAny_bind (wpAny_typeOf (T := "str") (typeIs_str s x t) ?_)
  have h1 : Builtin.List.listSameRef (.ref S) (.str x t) = false := rfl
  have h2 : (Value.type "str" == Value.type "list") = false := by decide
  have h3 : (Value.type "str" == Value.type "tuple") = false := by decide
  simp only [h1, h2, h3, Bool.or_false, Bool.false_eq_true, if_false]
  refine wpAny_bind (wpAny_pyIter_ascii ha ?_)
  have hS₁ := Heap.get?_push_of_some { cls := .type "str_ascii_iterator", data := .fields #[.str x t, .int 0 0] } hS
  have st : (s.heap.push { cls := .type "str_ascii_iterator", data := .fields #[.str x t, .int 0 0] }).IsStrIter s.heap.objs.size "str_ascii_iterator" x t 0 := ⟨_, Heap.get?_push_size _ rfl, rfl, rfl⟩
  refine wpAny_bind (wpAny_holding (hint_str ?_))
  refine wpAny_ite_split (fun _ => ?_) (fun _ => wpAny_pure ⟨plainId_quiet PySem.F.plain_extend_loop _, key _ c₀ _ st (fun b o _ e => Heap.get?_push_of_some _ e) hS₁⟩)
  refine wpAny_bind (wpAny_rule ?_)
  refine wpAny_bind ?_
  show wpAny _ _ (updateSeq S (·.push .none) >>= fun _ => updateSeq S (·.pop)) _ _ _
  refine wpAny_bind (wpAny_updateSeq hS₁ rfl ?_)
  have hS₂ := Heap.get?_update_self (Obj.mapSeq (·.push Value.none)) hS₁ rfl
  refine wpAny_updateSeq (hz := by seq_fits) hS₂ rfl ?_
  have hS₃ := Heap.get?_update_self (Obj.mapSeq (·.pop)) hS₂ rfl
  refine wpAny_pure ⟨plainId_quiet PySem.F.plain_extend_loop _, key _ _ _ ?_ (fun b o hb e => ?_) hS₃⟩
  · refine W.frame 0 _ _ st fun b hb o e => ?_
    have hbS : b ≠ S := fun h => hSf (h ▸ hb)
    exact (Heap.get?_update_other _ _ (Ne.symm hbS)).trans ((Heap.get?_update_other _ _ (Ne.symm hbS)).trans e)
  · exact (Heap.get?_update_other _ _ (Ne.symm hb)).trans ((Heap.get?_update_other _ _ (Ne.symm hb)).trans (Heap.get?_push_of_some _ e))
theorem ini_str {R : Result → Shared → Prop} (hh : A.handled = none) (ha : x.cps.all (· < 128) = true) (S : Addr) (hS : s.heap.get? S = some { cls := .type "list", data := .seq #[] })
    (hR : ∀ h' tk acc' c', (∀ b o, b ≠ S → s.heap.get? b = some o → h'.get? b = some o) → h'.get? S = some { cls := .type "list", dict := none, data := .seq acc' c', slots := #[] } → ItemsOf (SignAt x) acc' x.cps.size → R (.ok (.ret .none)) { s with heap := h', toks := tk }) (hn : x.cps.size ≤ sizeLine) :
    wpAny (model prog w) A.in1 (Builtin.«list.__init__» ⟨[.ref S, .str x t], []⟩)
      (fun fin s' => match fin with | .done f => R (.ok f) s' | .again c' => c'.quiet = true ∧ codeAny (model prog w) A c' R s') (fun e s' => R (.error e) s') s := by
  show wpAny _ _ (do let old ← Builtin.List.listItems (.ref S); Builtin.List.listUpdate (.ref S) (fun _ => #[]); letGo old.toList.reverse; Builtin.List.listExtendWith (.ref S) (.str x t) .none) _ _ s
  refine wpAny_bind ?_
  unfold Builtin.List.listItems
  refine wpAny_bind (wpAny_seqItems hS rfl (wpAny_pure ?_))
  show wpAny _ _ (updateSeq S (fun _ => #[]) >>= fun _ => letGo (#[] : Array Value).toList.reverse >>= fun _ => Builtin.List.listExtendWith (.ref S) (.str x t) .none) _ _ s
  refine wpAny_bind (wpAny_updateSeq hS rfl ?_)
  have hS₂ := Heap.get?_update_self (Obj.mapSeq (fun _ => (#[] : Array Value))) hS rfl
  have oth : ∀ b o, b ≠ S → s.heap.get? b = some o → (s.heap.update S (Obj.mapSeq (fun _ => (#[] : Array Value)))).get? b = some o :=
    fun b o hb e => (Heap.get?_update_other _ _ (Ne.symm hb)).trans e
  refine wpAny_bind (wpAny_letGo ?_)
  refine ext_str hh ha S .none _ hS₂ (fun h' tk acc' c' hk hS' hacc => ?_) hn
  exact hR h' tk acc' c' (fun b o hb e => hk b o hb (oth b o hb e)) hS' hacc
theorem call_str {Q : Value → Shared → Prop} (hh : A.handled = none) (ha : x.cps.all (· < 128) = true) (hn : x.cps.size ≤ sizeLine)
    (hQ : ∀ h' tk acc' c', (∀ b o, s.heap.get? b = some o → h'.get? b = some o) → h'.get? s.heap.objs.size = some { cls := .type "list", dict := none, data := .seq acc' c', slots := #[] } → ItemsOf (SignAt x) acc' x.cps.size → Q (.ref s.heap.objs.size) { s with heap := h', toks := tk }) :
    wpAny (model prog w) A (call (.type "list") [.str x t]) Q E s := by
  refine callType_codes (Q₁ := fun obj s₁ => obj = .ref s.heap.objs.size ∧ s₁ = { s with heap := s.heap.push { cls := .type "list", data := .seq #[] } }) PySem.F.called_list (PySem.F.typeCall_list_1 _) PySem.F.entry_list_init
    (code_list_new _ ⟨rfl, rfl⟩) fun obj s₁ h₁ => ?_
  obtain ⟨rfl, rfl⟩ := h₁
  have hS : (s.heap.push { cls := .type "list", data := .seq #[] }).get? s.heap.objs.size = some { cls := .type "list", data := .seq #[] } := Heap.get?_push_size _ rfl
  refine ⟨⟨_, hS, rfl⟩, PySem.F.args_list_init_2 _ _, ini_str (A := A.in1) hh ha _ hS (fun h' tk acc' c' hk hS' hacc => ?_) hn⟩
  exact ⟨rfl, hQ h' tk acc' c' (fun b o e => hk b o (Nat.ne_of_lt (Heap.lt_size e)) (Heap.get?_push_of_some _ e)) hS' hacc⟩
end
/-- the signs of a text, each a text -/
def signs (z : Str) : List V := z.cps.toList.map fun c => V.str ⟨#[c]⟩
theorem call_listS {X : Cx} (hc : X.calm = true) : CallR X (.type "list") (fun xs H Q => ∃ z, xs = [.str z] ∧ z.cps.all (· < 128) = true ∧ z.cps.size ≤ sizeLine ∧ ∀ l, H l = none → Q (.ref l) (upd H l (.lst (signs z)))) := by
  intro pins s σ H xs us Q I r h
  obtain ⟨z, e, ha, hn, q⟩ := h
  subst e
  obtain ⟨u, rfl, rx⟩ := vals1 r
  obtain ⟨t, rfl⟩ := rx
  refine call_str (I.ok.hd hc) ha hn fun h' tk acc' c' hkeep hS hacc => ?_
  refine ⟨.ref s.heap.objs.size, upd H s.heap.objs.size (.lst (signs z)), I.laid hkeep (Nat.le_refl _) (show ObjOk X.prog X.w _ _ _ (.lst (signs z)) from ⟨?_, acc'.toList, c', ?_, ?_⟩), rfl, q _ (I.hok.fresh (Nat.le_refl _))⟩
  · unfold signs
    rw [List.length_map, Array.length_toList]
    exact hn
  · have el : acc'.toList.length = acc'.size := by simp
    refine vals_of_at (by unfold signs; rw [List.length_map, Array.length_toList, el, hacc.1]) fun j v u h1 h2 => ?_
    obtain ⟨c, tk', hc', rfl⟩ := hacc.2 j u (by rw [← Array.getElem?_toList]; exact h2)
    unfold signs at h1
    rw [List.getElem?_map, Array.getElem?_toList, hc'] at h1
    cases h1
    exact ⟨tk', rfl⟩
  · rw [Array.toArray_toList]; exact hS
end LiS
namespace Lw.Tt
open PySem L2 Lw OwB
abbrev sMixed : Stmt := topS 38
abbrev sLet : Stmt := topS 40
theorem SX.upd_out {st q D : Addr} {H H' : Hp} {o : HO} (g : SX st q H H') (n : H D = none) : SX st q H (upd H' D o) := fun b u h1 h2 e => by rw [upd_ne (ne_of_none e n)]; exact g b u h1 h2 e
theorem Spr.upd {st q D : Addr} {H : Hp} {b : Int} {o : HO} (s : Spr H st q b) (n1 : D ≠ st) (n2 : D ≠ q) : Spr (upd H D o) st q b := by
  obtain ⟨ns, a, c, h1, h2, r⟩ := s
  exact ⟨ns, a, c, by rw [upd_ne n1.symm]; exact h1, by rw [upd_ne n2.symm]; exact h2, r⟩
theorem Spr.out {st q D : Addr} {H : Hp} {b : Int} (s : Spr H st q b) (n : H D = none) : D ≠ st ∧ D ≠ q := by
  obtain ⟨ns, a, c, h1, h2, _⟩ := s
  exact ⟨(ne_of_none h1 n).symm, (ne_of_none h2 n).symm⟩
theorem er_perm {α : Type} : ∀ (l : List α) (k : Nat) (h : k < l.length), (l[k] :: l.eraseIdx k).Perm l
  | a :: r, 0, _ => List.Perm.refl _
  | a :: r, k + 1, h => (List.Perm.swap _ _ _).trans (List.Perm.cons a (er_perm r k (Nat.lt_of_succ_lt_succ h)))
theorem er_map {α β : Type} (f : α → β) : ∀ (l : List α) (k : Nat), (l.map f).eraseIdx k = (l.eraseIdx k).map f
  | [], _ => rfl
  | a :: r, 0 => rfl
  | a :: r, k + 1 => congrArg (f a :: ·) (er_map f r k)
theorem pop_at {ls : List Str} {r : Int} (h0 : 0 ≤ r) (h1 : r < (ls.length : Int)) : ∃ (k : Nat) (n : Str), seqIndex? r (ls.map V.str).length = some k ∧ (ls.map V.str)[k]? = some (.str n) ∧ (ls.map V.str).eraseIdx k = (ls.eraseIdx k).map V.str ∧ (n :: ls.eraseIdx k).Perm ls ∧ (ls.eraseIdx k).length + 1 = ls.length := by
  have hk : r.toNat < ls.length := by omega
  refine ⟨r.toNat, ls[r.toNat], ?_, by rw [List.getElem?_map, List.getElem?_eq_getElem hk] <;> rfl, ?_, er_perm ls _ hk, by rw [List.length_eraseIdx_of_lt hk]; omega⟩
  · refine (ixN_seq (n := (ls.map V.str).length) (i := r) (j := r.toNat) ?_).1
    unfold ixN
    rw [if_pos h0, if_pos (by rw [List.length_map]; exact h1)]
  · rw [er_map]
/-- drawing one by one, out of ls -/
def InvMx (H0 : Hp) (st q L D : Addr) (b : Int) (is : List Str) (i : Nat) (H : Hp) : Prop := ∃ acc ls : List Str, H D = some (.lst (acc.map V.str)) ∧ H L = some (.lst (ls.map V.str)) ∧ acc.length = i ∧ ls.length + i = is.length ∧ (acc ++ ls).Perm is ∧ Spr H st q (b + i) ∧ SX st q H0 H
section
variable {P : Program} {w : World} {K : PySem.W.Frag} {mg : Str → Option Value} {base : Heap} {f g : Addr} {fd gd : FuncData}
abbrev tPop (K : PySem.W.Frag) (i : Nat) : TE := tBM K "list" rPopAt (tVar i) (tCons (tCall spDraw [] E0 (tCons (tVar 0) (tCons (tCB (fun xs H Q => ∃ p ys, xs = [.ref p] ∧ (SqL K H p ys ∨ SqT K H p ys) ∧ Q (.int ys.length) H) (tCons (tVar i) tNil)) tNil))) tNil)
/-- one turn -/
theorem pop_turn {st q L D : Addr} {b : Int} {is : List Str} {i : Nat} {H H2 : Hp} {σ : St} {Nx : Hp → Prop} (nL1 : L ≠ st) (nL2 : L ≠ q) (nD1 : D ≠ st) (nD2 : D ≠ q) (nDL : D ≠ L) (hL : H L = none) (hD : H D = none) (hb0 : 0 ≤ b) (hb1 : b ≤ 900) (h26 : is.length ≤ 50)
    (e0 : σ[0]? = some (some (.ref st))) (e2 : σ[2]? = some (some (.ref L))) (inv : InvMx H st q L D b is i H2) (hi : i < is.length) (nx : ∀ H3, InvMx H st q L D b is (i + 1) H3 → Nx H3) :
    tPop K 2 σ H2 fun y H3 => ∃ acc, H3 D = some (.lst acc) ∧ acc.length < sizeLine ∧ Nx (upd H3 D (.lst (acc ++ [y]))) := by
  obtain ⟨acc, ls, hd, hl2, ha, hn, hp2, hs2, gx⟩ := inv
  have hlen : (((ls.map V.str).length : Nat) : Int) = (ls.length : Int) := by rw [List.length_map]
  refine ⟨_, e2, .inl ⟨rfl, _, SqL.of hl2⟩, _, e0, _, e2, L, _, rfl, .inl (SqL.of hl2), st, q, b + i, _, rfl, hs2, by omega, by omega, by rw [hlen]; omega, by rw [hlen]; omega, fun r H3 r0 r1 hs3 g3 => ?_⟩
  have hd3 := g3 _ _ nD1 nD2 hd
  have hl3 := g3 _ _ nL1 nL2 hl2
  obtain ⟨j, n, e1, e2, e3, e4, e5⟩ := pop_at r0 (by rw [hlen] at r1; exact r1)
  refine ⟨L, _, r, j, _, rfl, rfl, hl3, by omega, by rw [hlen] at r1; omega, e1, e2, ?_⟩
  have hd4 := (upd_ne (o := .lst ((ls.map V.str).eraseIdx j)) nDL).trans hd3
  refine ⟨_, hd4, by rw [List.length_map]; exact small1000 (by omega), nx _ ⟨acc ++ [n], ls.eraseIdx j, by rw [upd_same, List.map_append] <;> rfl, by rw [upd_ne nDL.symm, upd_same, e3], by rw [List.length_append, ha] <;> rfl, by omega, ?_, ?_, ?_⟩⟩
  · rw [List.append_assoc]
    exact (List.Perm.append_left acc e4).trans hp2
  · have e6 : b + (i : Int) + 1 = b + ((i + 1 : Nat) : Int) := by omega
    rw [← e6]
    exact (hs3.upd nL1 nL2).upd nD1 nD2
  · exact ((gx.trans g3).upd_out hL).upd_out hD
def spMixed : Sp := fun vs H Q _ => ∃ (st q p : Addr) (b : Int) (is : List Str), vs = [.ref st, .ref p] ∧ Spr H st q b ∧ 0 ≤ b ∧ b ≤ 900 ∧ H p = some (.lst (is.map V.str)) ∧ is.length ≤ 10 ∧
  ∀ (r : Addr) (os : List Str) (H' : Hp), os.Perm is → Spr H' st q (b + is.length) → SX st q H H' → H' r = some (.lst (os.map V.str)) → H r = none → Q (.ref r) H'
abbrev namesM : List Str := ["_law_stream", "_law_some", "_law_left", "_law_k"]
theorem scM : FnScope namesM ["_law_stream", "_law_some"] (defScope sMixed) := ⟨rfl, rfl, rfl, by decide +kernel, rfl, by decide +kernel, by decide +kernel⟩
theorem ok_mixed (F : Fun K "_law_mixed" "_law_mixed" sMixed f fd) (G : FnOk P w K mg base CX0 1 g gd ["_law_stream", "_law_many"] spDraw) (bG : Binds K gd ["_law_stream", "_law_many"] []) (kG : PySem.W.keepIn K (.ref g) = true) (mG : mg "_law_draw" = some (.ref g)) (B : Bt mg) :
    FnOk P w K mg base CX0 2 f fd ["_law_stream", "_law_some"] spMixed := by
  refine F.ok scM (fun vs H Q E h => ?_) (fun cdv A outer s H vs Q E hr h => ?_)
  · obtain ⟨st, q, p, b, is, rfl, _⟩ := h
    rfl
  obtain ⟨st, q, p, b, is, rfl, hs, hb0, hb1, hp, hl, k⟩ := h
  refine ⟨_, pss_cons (ps_set (i := 2) scM.nd rfl (Or.inr rfl) (pe_callTy call_list_of (by rfl) B.lst (by decide +kernel) (pa_cons (pv 1) pa_nil)))
    (pss_one (ps_ret (pe_lc (own := [("_law_k", 3)]) (g := gName 3) (tt := tYes) (te := tPop K 2) rfl scM.nd (pi_range1 (by rfl) B.range (pa_cons (pe_callB call_len_seq (by rfl) B.len PySem.boot_len (pa_cons (pv 2) pa_nil)) pa_nil)) (blkOk_by (N := namesM) (sc := defScope sMixed) (by decide +kernel))
      (fun _ _ _ _ _ => pg_name (i := 3) scM.nd rfl (Or.inl rfl)) (fun _ _ _ _ _ => pts_nil)
      (fun _ _ _ _ _ => pe_bm PySem.F.plainAttrs_list PySem.F.slot_list_pop PySem.F.type_list_pop mt_popAt (pv 2) (pa_cons (pe_call G hr rfl mG kG bG .nil pass0 (pa_cons (pv 0) (pa_cons (pe_callB call_len_seq (by rfl) B.len PySem.boot_len (pa_cons (pv 2) pa_nil)) pa_nil))) pa_nil))))), ?_⟩
  refine ⟨_, rfl, p, _, rfl, .inl (SqL.of hp), fun L hL => ?_⟩
  have gL := same_new hL (.lst (is.map V.str))
  obtain ⟨nL1, nL2⟩ := hs.out hL
  have hsL := hs.same gL
  refine ⟨_, rfl, L, _, rfl, .inl (SqL.of upd_same), _, rfl, by rw [List.length_map]; omega, by rw [List.length_map]; omega, fun D hD => ?_⟩
  obtain ⟨nD1, nD2⟩ := hsL.out hD
  have nDL : D ≠ L := (ne_of_none (upd_same (H := H) (a := L) (o := .lst (is.map V.str))) hD).symm
  have hD0 : H D = none := gL.free hD
  have gD := same_new hD (.lst [])
  have elm : (is.map V.str).length = is.length := List.length_map _
  refine lc_range (lo := 0) (n := (is.map V.str).length) (InvMx H st q L D b is) ⟨[], is, upd_same, gD _ _ upd_same, rfl, rfl, List.Perm.refl _, ?_, .of (gL.trans gD)⟩ ?_ ?_
  · rw [show b + ((0 : Nat) : Int) = b from Int.add_zero b]
    exact hsL.same gD
  · intro i H2 hi inv
    rw [elm] at hi
    exact ⟨rfl, kept (pop_turn nL1 nL2 nD1 nD2 nDL hL hD0 hb0 hb1 (by omega) rfl rfl inv hi fun _ h => h)⟩
  · rintro H2 ⟨acc, ls, hd, hl2, ha, hn, hp2, hs2, gx⟩
    rw [elm] at hs2
    have els : ls = [] := List.length_eq_zero_iff.mp (by omega)
    subst els
    rw [List.append_nil] at hp2
    exact k D acc H2 hp2 hs2 gx hd hD0
/-! the letters -/
def abc : Str := "abcdefghijklmnopqrstuvwxyz"
def abcL : List Str := abc.cps.toList.map fun c => (⟨#[c]⟩ : Str)
theorem abc_signs : LiS.signs abc = abcL.map V.str := by
  unfold LiS.signs abcL
  rw [List.map_map] <;> rfl
theorem abc_len : abcL.length = 26 := by decide +kernel
theorem abc_nd : abcL.Nodup := by decide +kernel
def spLet : Sp := fun vs H Q _ => ∃ (st q : Addr) (b : Int) (m : Nat), vs = [.ref st, .int m] ∧ Spr H st q b ∧ 0 ≤ b ∧ b ≤ 900 ∧ m ≤ 10 ∧
  ∀ (r : Addr) (os : List Str) (H' : Hp), os.Nodup → (∀ z ∈ os, z ∈ abcL) → os.length = m → Spr H' st q (b + m) → SX st q H H' → H' r = some (.lst (os.map V.str)) → H r = none → Q (.ref r) H'
abbrev namesL : List Str := ["_law_stream", "_law_many", "_law_left", "_law_k"]
theorem scLt : FnScope namesL ["_law_stream", "_law_many"] (defScope sLet) := ⟨rfl, rfl, rfl, by decide +kernel, rfl, by decide +kernel, by decide +kernel⟩
theorem ok_let (F : Fun K "_law_letters" "_law_letters" sLet f fd) (G : FnOk P w K mg base CX0 1 g gd ["_law_stream", "_law_many"] spDraw) (bG : Binds K gd ["_law_stream", "_law_many"] []) (kG : PySem.W.keepIn K (.ref g) = true) (mG : mg "_law_draw" = some (.ref g)) (B : Bt mg) :
    FnOk P w K mg base CX0 2 f fd ["_law_stream", "_law_many"] spLet := by
  refine F.ok scLt (fun vs H Q E h => ?_) (fun cdv A outer s H vs Q E hr h => ?_)
  · obtain ⟨st, q, b, m, rfl, _⟩ := h
    rfl
  obtain ⟨st, q, b, m, rfl, hs, hb0, hb1, hm, k⟩ := h
  refine ⟨_, pss_cons (ps_set (i := 2) scLt.nd rfl (Or.inr rfl) (pe_callTy (LiS.call_listS rfl) (by rfl) B.lst (by decide +kernel) (pa_cons pe_str pa_nil)))
    (pss_one (ps_ret (pe_lc (own := [("_law_k", 3)]) (g := gName 3) (tt := tYes) (te := tPop K 2) rfl scLt.nd (pi_range1 (by rfl) B.range (pa_cons (pv 1) pa_nil)) (blkOk_by (N := namesL) (sc := defScope sLet) (by decide +kernel))
      (fun _ _ _ _ _ => pg_name (i := 3) scLt.nd rfl (Or.inl rfl)) (fun _ _ _ _ _ => pts_nil)
      (fun _ _ _ _ _ => pe_bm PySem.F.plainAttrs_list PySem.F.slot_list_pop PySem.F.type_list_pop mt_popAt (pv 2) (pa_cons (pe_call G hr rfl mG kG bG .nil pass0 (pa_cons (pv 0) (pa_cons (pe_callB call_len_seq (by rfl) B.len PySem.boot_len (pa_cons (pv 2) pa_nil)) pa_nil))) pa_nil))))), ?_⟩
  refine ⟨abc, rfl, by decide +kernel, Nat.le_trans (show abc.cps.size ≤ 26 by decide +kernel) (by decide), fun L hL => ?_⟩
  rw [abc_signs]
  have gL := same_new hL (.lst (abcL.map V.str))
  obtain ⟨nL1, nL2⟩ := hs.out hL
  have hsL := hs.same gL
  refine ⟨_, rfl, _, rfl, by omega, by omega, fun D hD => ?_⟩
  obtain ⟨nD1, nD2⟩ := hsL.out hD
  have nDL : D ≠ L := (ne_of_none (upd_same (H := H) (a := L) (o := .lst (abcL.map V.str))) hD).symm
  have hD0 : H D = none := gL.free hD
  have gD := same_new hD (.lst [])
  have h26 := abc_len
  refine lc_range (lo := 0) (n := m) (InvMx H st q L D b abcL) ⟨[], abcL, upd_same, gD _ _ upd_same, rfl, rfl, List.Perm.refl _, ?_, .of (gL.trans gD)⟩ ?_ ?_
  · rw [show b + ((0 : Nat) : Int) = b from Int.add_zero b]
    exact hsL.same gD
  · intro i H2 hi inv
    exact ⟨rfl, kept (pop_turn nL1 nL2 nD1 nD2 nDL hL hD0 hb0 hb1 (by omega) rfl rfl inv (by omega) fun _ h => h)⟩
  · rintro H2 ⟨acc, ls, hd, hl2, ha, hn, hp2, hs2, gx⟩
    have nd : (acc ++ ls).Nodup := hp2.nodup_iff.mpr abc_nd
    exact k D acc H2 (List.Nodup.sublist (List.sublist_append_left acc ls) nd) (fun z hz => hp2.mem_iff.mp (List.mem_append.mpr (.inl hz))) ha hs2 gx hd hD0
end
end Lw.Tt
namespace Lw
open PySem L2 TL
/-- the law's own use: a name, letters, the form's pairs -/
def LuAt (K : PySem.W.Frag) (H : Hp) (u : Addr) (nm : Str) (ls : List Str) (l : List (Str × Int)) : Prop := ∃ (tl tf : Addr) (us : List V), SqT K H u [.str nm, .ref tl, .ref tf] ∧ SqT K H tl (ls.map V.str) ∧ SqT K H tf us ∧ Tups K H us l
theorem LuAt.mono {K : PySem.W.Frag} {H H' : Hp} {u : Addr} {nm : Str} {ls : List Str} {l : List (Str × Int)} (g : TK K H H') : LuAt K H u nm ls l → LuAt K H' u nm ls l
  | ⟨tl, tf, us, h1, h2, h3, h4⟩ => ⟨tl, tf, us, g _ _ h1, g _ _ h2, g _ _ h3, h4.mono g⟩
abbrev s_l_level_letters : Stmt := topS 27
theorem sc_l_level_letters : FnScope ["_law_use", "_law_kind", "_law_axis"] ["_law_use"] (defScope s_l_level_letters) := ⟨rfl, rfl, rfl, by decide +kernel, rfl, by decide +kernel, by decide +kernel⟩
/-- the letter of an axis -/
def letAt (ls : List Str) (p : Str × Int) : Str := ls.getD p.2.toNat Str.empty
def spLvl (K : PySem.W.Frag) : Sp := fun vs H Q _ => ∃ (u : Addr) (nm : Str) (ls : List Str) (l : List (Str × Int)), vs = [.ref u] ∧ LuAt K H u nm ls l ∧ l.length ≤ 3 ∧ (∀ p ∈ l, 0 ≤ p.2 ∧ p.2 < (ls.length : Int)) ∧ ∀ (D : Addr) (H' : Hp), Same H H' → H D = none → H' D = some (.lst ((l.map (letAt ls)).map V.str)) → Q (.ref D) H'
section
variable {P : Program} {w : World} {K : PySem.W.Frag} {mg : Str → Option Value} {base : Heap} {f : Addr} {fd : FuncData}
theorem ok_l_level_letters (F : Fun K "_law_level_letters" "_law_level_letters" s_l_level_letters f fd) : FnOk P w K mg base CX0 1 f fd ["_law_use"] (spLvl K) := by
  refine F.ok sc_l_level_letters (fun vs H Q E h => ?_) (fun cdv A outer s H vs Q E hr h => ?_)
  · obtain ⟨u, nm, ls, l, rfl, _⟩ := h
    rfl
  obtain ⟨u, nm, ls, l, rfl, ⟨tl, tf, us, h1, h2, h3, h4⟩, hl, hp, k⟩ := h
  refine ⟨_, (pss_one (ps_ret (pe_lc (own := [("_law_kind", 1), ("_law_axis", 2)]) (g := (gTup K 2 (gCons (gName 1) (gCons (gName 2) gNil)))) (tt := tYes) (te := tOp (rIxT K) (tOp (rIxT K) (tVar 0) (tC (.int 1))) (tVar 2)) rfl sc_l_level_letters.nd (pi_tup (pe_ix ix_tup (pv 0) pe_int (fun _ _ => rfl))) (blkOk_by (N := ["_law_use", "_law_kind", "_law_axis"]) (sc := defScope s_l_level_letters) (by decide +kernel)) (fun _ _ _ _ _ => (pg_tup rfl (pgs_cons (pg_name (i := 1) sc_l_level_letters.nd rfl (Or.inl rfl)) (pgs_cons (pg_name (i := 2) sc_l_level_letters.nd rfl (Or.inl rfl)) pgs_nil)))) (fun _ _ _ _ _ => pts_nil) (fun _ _ _ _ _ => (pe_ix ix_tup (pe_ix ix_tup (pv 0) pe_int (fun _ _ => rfl)) (pv 2) (fun _ _ => rfl)))))), ?_⟩
  have hul : us.length = l.length := h4.1
  refine ⟨_, rfl, u, _, (2 : Int), .ref tf, rfl, rfl, h1, atI_nat (j := 2) rfl, tf, rfl, ⟨us, h3⟩, fun D hD => ?_⟩
  refine lc_tup (K := K) (a := tf) (xs := us) (InvM H D (fun p : Str × Int => V.str (letAt ls p)) l) ⟨upd_same, same_new hD _⟩ (fun i H' _ ⟨_, g⟩ => seqT g h3) (fun j x H' hx hv => ?_) ?_
  · have hj : j < l.length := by rw [← hul]; exact (List.getElem?_eq_some_iff.mp hx).1
    have ej := List.getElem?_eq_getElem hj
    obtain ⟨y, rfl, zy⟩ := h4.2 j x _ hx ej
    obtain ⟨p0, p1⟩ := hp _ (List.getElem_mem hj)
    have lt : l[j].2.toNat < ls.length := by omega
    refine ⟨y, _, rfl, seqT hv.2 zy, rfl, _, _, rfl, _, _, rfl, rfl, rfl, kept ?_⟩
    have ea : atI (ls.map V.str) l[j].2 = some (.str (letAt ls l[j])) := by
      have z := atI_nat (xs := ls.map V.str) (j := l[j].2.toNat) (v := .str (letAt ls l[j])) (by rw [List.getElem?_map, List.getElem?_eq_getElem lt]; unfold letAt; rw [List.getD_eq_getElem?_getD, List.getElem?_eq_getElem lt] <;> rfl)
      rw [show ((l[j].2.toNat : Nat) : Int) = l[j].2 by omega] at z
      exact z
    refine ⟨_, rfl, u, _, (1 : Int), .ref tl, rfl, rfl, seqT hv.2 h1, atI_nat (j := 1) rfl, _, rfl, tl, _, _, _, rfl, rfl, seqT hv.2 h2, ea, ?_⟩
    exact ⟨_, hv.1, len_m (by omega), InvM.next (f := fun p : Str × Int => V.str (letAt ls p)) hD hv.2 ej _ rfl⟩
  rintro H' ⟨hd, g⟩
  rw [List.take_of_length_le (by rw [hul]; exact Nat.le_refl _)] at hd
  exact k D H' g hD (by rw [hd, List.map_map] <;> rfl)
end
end Lw
namespace Lw
open PySem L2 TL
theorem word_back {a : Str} (h : a ∈ AWORDS) : ((toString (aval a) : String) : Str) = a := by
  have z : ∀ a ∈ AWORDS, ((toString (aval a) : String) : Str) = a := by decide +kernel
  exact z a h
theorem lvl_itm {p : Str} {r : Str × Int} (h : lvl p = some r) : itm r.1 r.2 = p := by
  unfold lvl at h
  split at h
  · rename_i k a e
    by_cases m : a ∈ AWORDS
    · rw [if_pos m] at h
      cases h
      have b := split_back p " " (by decide +kernel) (by decide +kernel)
      rw [e] at b
      refine Eq.trans (ext_tl ?_) b
      show tl (itm k (aval a)) = _
      unfold itm
      rw [word_back m, join_eq, tl_join, tl_append, tl_append, tl_append]
      show tl Str.empty ++ tl k ++ tl " " ++ tl a = tl k ++ (tl " " ++ tl a)
      rw [show tl Str.empty = [] from rfl, List.nil_append, List.append_assoc]
    · rw [if_neg m] at h
      cases h
  · cases h
theorem lvl_all : ∀ {ps : List Str}, (ps.all fun p => (lvl p).isSome) = true → (ps.filterMap lvl).length = ps.length ∧ ((ps.filterMap lvl).map fun r => itm r.1 r.2) = ps
  | [], _ => ⟨rfl, rfl⟩
  | p :: r, h => by
    rw [List.all_cons, Bool.and_eq_true] at h
    obtain ⟨h1, h2⟩ := h
    obtain ⟨i1, i2⟩ := lvl_all h2
    obtain ⟨q, e⟩ := Option.isSome_iff_exists.mp h1
    rw [List.filterMap_cons_some e, List.map_cons, List.length_cons, List.length_cons, i1, i2, lvl_itm e]
    exact ⟨rfl, rfl⟩
theorem split_ne (z : Str) : Txt.split z ", " ≠ [] := fun e => by
  have q := split_spl z ", " (by decide +kernel) (kind_ok (by decide +kernel))
  rw [e] at q
  exact spl_ne _ _ _ _ q.symm
/-- what is read is the text of what was read -/
theorem rd_back {z : Str} {ks : List Str} {is : List Int} (h : rd z = some (ks, is)) : ftext ks is = z ∧ valid ks is = true := by
  unfold rd at h
  by_cases c : z = "-"
  · rw [if_pos c] at h
    cases h
    exact ⟨by rw [c]; rfl, by decide +kernel⟩
  rw [if_neg c] at h
  by_cases c2 : ((Txt.split z ", ").all fun p => (lvl p).isSome) = true ∧ valid (lks (Txt.split z ", ")) (lis (Txt.split z ", ")) = true
  · rw [if_pos c2] at h
    cases h
    obtain ⟨i1, i2⟩ := lvl_all c2.1
    refine ⟨?_, c2.2⟩
    unfold ftext
    rw [if_neg, show (lks (Txt.split z ", ")).zip (lis (Txt.split z ", ")) = (Txt.split z ", ").filterMap lvl from zip_maps _, i2]
    · exact split_back z ", " (by decide +kernel) (by decide +kernel)
    · unfold lks
      rw [List.length_map, i1]
      intro e
      exact split_ne z (List.length_eq_zero_iff.mp e)
  · rw [if_neg c2] at h
    cases h
theorem itm_facts : ∀ k ∈ KINDS, ∀ i ∈ ([0, 1, 2] : List Int), 44 ∉ tl (itm k i) ∧ 32 ∉ tl k ∧ 32 ∉ tl ((toString i : String) : Str) ∧ ((toString i : String) : Str) ∈ AWORDS ∧ aval ((toString i : String) : Str) = i ∧ PyData.strOk (itm k i) = true := by decide +kernel
theorem lvl_of {k : Str} {i : Int} (hk : k ∈ KINDS) (hi : i ∈ ([0, 1, 2] : List Int)) : lvl (itm k i) = some (k, i) := by
  obtain ⟨f1, f2, f3, f4, f5, _⟩ := itm_facts k hk i hi
  have e : Txt.split (itm k i) " " = [k, ((toString i : String) : Str)] := by
    have b := split_join (y := " ") (s := 32) (S := []) (by decide +kernel) (by decide +kernel) (parts := [k, ((toString i : String) : Str)]) (by simp) fun p hp => by
      rcases List.mem_cons.mp hp with rfl | hp
      · exact f2
      · rw [List.mem_singleton.mp hp]
        exact f3
    have e2 : itm k i = Txt.join " " [k, ((toString i : String) : Str)] := by
      refine ext_tl ?_
      unfold itm
      rw [join_eq, tl_join, tl_append, tl_append, tl_append]
      show tl Str.empty ++ tl k ++ tl " " ++ tl _ = tl k ++ (tl " " ++ tl _)
      rw [show tl Str.empty = [] from rfl, List.nil_append, List.append_assoc]
    rw [e2]
    exact b
  rw [lvl_two e, if_pos f4, f5]
theorem fm_itms : ∀ {l : List (Str × Int)}, (∀ p ∈ l, p.1 ∈ KINDS ∧ p.2 ∈ ([0, 1, 2] : List Int)) → ((l.map fun p => itm p.1 p.2).filterMap lvl) = l ∧ ((l.map fun p => itm p.1 p.2).all fun p => (lvl p).isSome) = true
  | [], _ => ⟨rfl, rfl⟩
  | p :: r, h => by
    obtain ⟨i1, i2⟩ := fm_itms (l := r) fun q hq => h q (List.mem_cons_of_mem _ hq)
    obtain ⟨a, b⟩ := h p (List.mem_cons_self ..)
    have e := lvl_of a b
    rw [List.map_cons, List.filterMap_cons_some e, i1, List.all_cons, i2, e]
    exact ⟨rfl, rfl⟩
theorem zip_all : ∀ {ks : List Str} {is : List Int}, is.length = ks.length → (∀ k ∈ ks, k ∈ KINDS) → (∀ i ∈ is, i ∈ ([0, 1, 2] : List Int)) →
    (ks.zip is).map (·.1) = ks ∧ (ks.zip is).map (·.2) = is ∧ ∀ p ∈ ks.zip is, p.1 ∈ KINDS ∧ p.2 ∈ ([0, 1, 2] : List Int)
  | [], [], _, _, _ => ⟨rfl, rfl, fun p h => by cases h⟩
  | [], _ :: _, h, _, _ => by cases h
  | _ :: _, [], h, _, _ => by cases h
  | k :: ks, i :: is, h, h1, h2 => by
    obtain ⟨a, b, c⟩ := zip_all (Nat.succ.inj h) (fun x hx => h1 x (List.mem_cons_of_mem _ hx)) fun x hx => h2 x (List.mem_cons_of_mem _ hx)
    rw [List.zip_cons_cons, List.map_cons, List.map_cons, a, b]
    refine ⟨rfl, rfl, fun p hp => ?_⟩
    rcases List.mem_cons.mp hp with rfl | hp
    · exact ⟨h1 _ (List.mem_cons_self ..), h2 _ (List.mem_cons_self ..)⟩
    · exact c p hp
theorem ok_list (z : Str) : PyData.strOk z = (tl z).all (· < 0x110000) := by
  unfold PyData.strOk
  rw [← Array.all_toList]
/-- the text of a form is read back -/
theorem rd_ftext {ks : List Str} {is : List Int} (h : valid ks is = true) : rd (ftext ks is) = some (ks, is) := by
  obtain ⟨h1, h2, h3, h4⟩ := valid_parts h
  by_cases c : ks.length = 0
  · have e1 : ks = [] := List.length_eq_zero_iff.mp c
    have e2 : is = [] := List.length_eq_zero_iff.mp (h3.trans c)
    subst e1
    subst e2
    rfl
  obtain ⟨z1, z2, z3⟩ := zip_all h3 h2 h4
  obtain ⟨f1, f2⟩ := fm_itms z3
  have ef : ftext ks is = Txt.join ", " ((ks.zip is).map fun p => itm p.1 p.2) := by
    unfold ftext
    rw [if_neg c]
  have ne : ((ks.zip is).map fun p => itm p.1 p.2) ≠ [] := fun e => by
    have e2 := congrArg List.length e
    rw [List.length_map, List.length_zip, h3, Nat.min_self] at e2
    exact c e2
  have es : Txt.split (ftext ks is) ", " = (ks.zip is).map fun p => itm p.1 p.2 := by
    rw [ef]
    refine split_join (s := 44) (S := [32]) (by decide +kernel) (by decide +kernel) ne fun p hp => ?_
    obtain ⟨q, hq, rfl⟩ := List.mem_map.mp hp
    obtain ⟨a, b⟩ := z3 q hq
    exact (itm_facts _ a _ b).1
  have nd : ftext ks is ≠ "-" := fun e => by
    rw [e] at es
    have e0 : Txt.split "-" ", " = [("-" : Str)] := by decide +kernel
    rw [e0] at es
    have m : lvl "-" = none := by decide +kernel
    rw [← es] at f2
    rw [List.all_cons, m] at f2
    cases f2
  unfold rd lks lis
  rw [if_neg nd, es, f1, z1, z2, if_pos ⟨f2, h⟩]
theorem join_len {S : List Nat} (hS : S.length ≤ 2) : ∀ {l : List (List Nat)}, (∀ p ∈ l, p.length ≤ 20) → (joinL S l).length ≤ 22 * l.length
  | [], _ => by simp [joinL]
  | [p], h => by
    have q := h p (List.mem_cons_self ..)
    show p.length ≤ 22 * 1
    omega
  | p :: q :: r, h => by
    have i := join_len hS (l := q :: r) fun x hx => h x (List.mem_cons_of_mem _ hx)
    have j := h p (List.mem_cons_self ..)
    rw [joinL_cons (by simp), List.length_append, List.length_append]
    simp only [List.length_cons] at i ⊢
    omega
theorem join_in {S : List Nat} : ∀ {l : List (List Nat)}, ∀ c ∈ joinL S l, c ∈ S ∨ ∃ p ∈ l, c ∈ p
  | [], c, h => by cases h
  | [p], c, h => .inr ⟨p, List.mem_cons_self .., h⟩
  | p :: q :: r, c, h => by
    rw [joinL_cons (by simp)] at h
    rcases List.mem_append.mp h with h | h
    · exact .inr ⟨p, List.mem_cons_self .., h⟩
    · rcases List.mem_append.mp h with h | h
      · exact .inl h
      · rcases join_in (l := q :: r) c h with z | ⟨x, a, b⟩
        · exact .inl z
        · exact .inr ⟨x, List.mem_cons_of_mem _ a, b⟩
theorem ftext_small {ks : List Str} {is : List Int} (h : valid ks is = true) : (ftext ks is).length ≤ 100 ∧ PyData.strOk (ftext ks is) = true := by
  obtain ⟨h1, h2, h3, h4⟩ := valid_parts h
  by_cases c : ks.length = 0
  · have e : ftext ks is = "-" := by
      unfold ftext
      rw [if_pos c]
    rw [e]
    exact ⟨by decide, by decide +kernel⟩
  obtain ⟨z1, z2, z3⟩ := zip_all h3 h2 h4
  have ef : ftext ks is = Txt.join ", " ((ks.zip is).map fun p => itm p.1 p.2) := by
    unfold ftext
    rw [if_neg c]
  have et : tl (ftext ks is) = joinL (tl ", ") (((ks.zip is).map fun p => itm p.1 p.2).map tl) := by rw [ef, join_eq, tl_join]
  constructor
  · rw [len_tl, et]
    have q := join_len (S := tl ", ") (by decide) (l := ((ks.zip is).map fun p => itm p.1 p.2).map tl) fun p hp => by
      obtain ⟨y, hy, rfl⟩ := List.mem_map.mp hp
      obtain ⟨q, hq, rfl⟩ := List.mem_map.mp hy
      obtain ⟨a, b⟩ := z3 q hq
      rw [← len_tl]
      exact (small_itm _ a _ b).2.2.1
    rw [List.length_map, List.length_map, List.length_zip, h3, Nat.min_self] at q
    omega
  · rw [ok_list, et, List.all_eq_true]
    intro x hx
    rcases join_in x hx with z | ⟨p, hp, hc⟩
    · have y : ∀ x ∈ tl ", ", decide (x < 0x110000) = true := by decide +kernel
      exact y x z
    · obtain ⟨y, hy, rfl⟩ := List.mem_map.mp hp
      obtain ⟨q, hq, rfl⟩ := List.mem_map.mp hy
      obtain ⟨a, b⟩ := z3 q hq
      have o := (itm_facts _ a _ b).2.2.2.2.2
      rw [ok_list, List.all_eq_true] at o
      exact o x hc
end Lw
namespace Lw
open PySem L2 TzR TL
abbrev s_l_use_built : Stmt := topS 30
theorem sc_l_use_built : FnScope ["_law_use"] ["_law_use"] (defScope s_l_use_built) := ⟨rfl, rfl, rfl, by decide +kernel, rfl, by decide +kernel, by decide +kernel⟩
def spUb (K : PySem.W.Frag) (U C : Addr) : Sp := fun vs H Q _ => ∃ (u : Addr) (nm : Str) (ls : List Str) (l : List (Str × Int)), vs = [.ref u] ∧ LuAt K H u nm ls l ∧ Good l ls.length ∧ ls.length ≤ 3 ∧ ls.Nodup ∧
  ∀ (p q : Addr) (H' : Hp), Same H H' → UseAt K U C H' p nm ls q (l.map (·.1)) (l.map (·.2)) → Q (.ref p) H'
section
variable {P : Program} {w : World} {K : PySem.W.Frag} {mg : Str → Option Value} {base : Heap} {U C fU fI BF AW KD gX gR pR f : Addr} {MC : Value} {dU dX fd : FuncData}
theorem ok_l_use_built (F : Fun K "_law_use_built" "_law_use_built" s_l_use_built f fd)
    (MU : Mk K U fU) (GU : FnOk P w K mg base CX0 3 fU dU ["self", "name", "letters", "form"] (spUini K U C)) (bU : Binds K dU ["self", "name", "letters", "form"] []) (mU : mg "Use" = some (.ref U))
    (GX : FnOk P w K mg base CX0 1 gX dX ["_law_form"] (spFtext K)) (bX : Binds K dX ["_law_form"] []) (kX : PySem.W.keepIn K (.ref gX) = true) (mX : mg "_law_form_text" = some (.ref gX))
    (T : Fm K mg C fI BF AW KD MC) (GR : FnR P w K mg base (L2.CX P w) 5 gR (spRead K C BF)) (cR : ClX.CMet K C MC "read" pR gR) :
    FnOk P w K mg base CX0 6 f fd ["_law_use"] (spUb K U C) := by
  refine F.ok sc_l_use_built (fun vs H Q E h => ?_) (fun cdv A outer s H vs Q E hr h => ?_)
  · obtain ⟨u, nm, ls, l, rfl, _⟩ := h
    rfl
  obtain ⟨u, nm, ls, l, rfl, ⟨tl, tf, us, h1, h2, h3, h4⟩, hg, hl, hn, k⟩ := h
  refine ⟨_, (pss_one (ps_ret (pe_make MU GU (hr.mono (by decide)) (by rfl) mU bU .nil pass0 (pa_cons (pe_ix ix_tup (pv 0) pe_int (fun _ _ => rfl)) (pa_cons (pe_ix ix_tup (pv 0) pe_int (fun _ _ => rfl)) (pa_cons (ClX.pe_cmeth (E := E0) (pe_glob (v := .ref C) (by rfl) T.mC rfl) T.cr cR GR (hr.mono (by decide)) (passL (X := (cxOf CX0 P w K mg base ["_law_use"] "_law_use_built" (defScope s_l_use_built) f cdv A outer s H E).nox)) (pa_cons (pe_call GX (hr.mono (by decide)) rfl mX kX bX .nil pass0 (pa_cons (pe_ix ix_tup (pv 0) pe_int (fun _ _ => rfl)) pa_nil)) pa_nil)) pa_nil)))))), ?_⟩
  have hv : valid (l.map (·.1)) (l.map (·.2)) = true := iota_valid hg hl
  refine ⟨_, rfl, u, _, (0 : Int), _, rfl, rfl, h1, atI_nat (j := 0) rfl, _, rfl, u, _, (1 : Int), _, rfl, rfl, h1, atI_nat (j := 1) rfl, ?_⟩
  refine ⟨rfl, _, rfl, u, _, (2 : Int), .ref tf, rfl, rfl, h1, atI_nat (j := 2) rfl, tf, us, l, _, rfl, h3, h4, hg, hl, fun H1 g1 => ?_⟩
  refine ⟨_, rfl, by have := (ftext_small hv).1; omega, fun ks is er pf H4 g4 hpf => ?_, fun z => by rw [rd_ftext hv] at z; cases z⟩
  rw [rd_ftext hv] at er
  cases er
  intro x dx nx ndx ne
  have g5 : Same H4 (upd (upd H4 dx (.own x)) x (.ins U dx [])) := fun b o e => by rw [upd_ne (ne_of_none e nx), upd_ne (ne_of_none e ndx)]; exact e
  refine ⟨x, dx, tl, pf, nm, ls, l.map (·.1), l.map (·.2), rfl, upd_same, .inr (seqT (g1.trans (g4.trans g5)) h2), by omega, hn, hpf.same g5, by rw [List.length_map, hg.1], fun H6 tl' k6 h6 ht6 => ⟨rfl, ?_⟩⟩
  have g6 : Same H4 H6 := fun b o e => k6 b o (ne_of_none e nx) (g5 _ _ e)
  exact k x pf H6 (g1.trans (g4.trans g6)) ⟨dx, tl', h6, ht6, hpf.same g6⟩
end
end Lw
/-! sets of texts: set(list of texts), sorted(such a set) -/
namespace TxS
open PySem PySem.Spec PyProof.Rows L2
abbrev SD := PySem.Froz.SD
abbrev sOb (D : SD) : Obj := PySem.Froz.sObj "set" D
/-- what a set's table holds: the texts l; it rises and can be walked -/
structure Pay (P : Program) (w : World) (D : SD) (l : List Str) : Prop where
  tx : PySem.Froz.TxOk P w D l
  ris : Ris D.2.2.place.toList
  led : w.params.followText "set-order" = true ∨ D.2.2.led = true
  nd : l.Nodup
section
variable {P : Program} {w : World} {A : Around} {E : Value → Shared → Prop} {s : Shared} {D : SD} {l : List Str} {k : Str} {a : Addr}
theorem tail_ris {ep : Nat} {es1 : Array (Int × Value)} {t2 : SetTable} {wd : Bool} (r : Ris t2.place.toList) : Ris (PySem.Froz.tailTx ep es1 t2 wd).2.2.place.toList := by
  unfold PySem.Froz.tailTx
  by_cases c : (!wd && t2.tooFull) = true
  · rw [if_pos c]
    exact relayAll_ris _ _ _
  · rw [if_neg c]
    exact r
theorem tail_led {ep : Nat} {es1 : Array (Int × Value)} {t2 : SetTable} {wd : Bool} (r : t2.led = true) : (PySem.Froz.tailTx ep es1 t2 wd).2.2.led = true := by
  unfold PySem.Froz.tailTx
  by_cases c : (!wd && t2.tooFull) = true
  · rw [if_pos c]
    exact (relayAll_led _ _ _).trans r
  · rw [if_neg c]
    exact r
theorem Pay.add (F : Pay P w D l) (hk : k ∉ l) (u : Tok) : Pay P w (PySem.Froz.addTx (hashStr w k) (.str k u) D) (k :: l) := by
  refine ⟨PySem.Froz.add_ok u F.tx, ?_, ?_, List.nodup_cons.mpr ⟨hk, F.nd⟩⟩
  · have r1 := layNew_ris D.2.2 D.1 (hashStr w k) (.str k u) F.ris
    refine tail_ris ?_
    by_cases c : (layNew D.2.2 D.1 (hashStr w k) (.str k u)).2.1.plain = true
    · rw [if_pos c]
      exact r1
    · rw [if_neg c]
      exact r1
  · refine F.led.imp id fun z => ?_
    have r1 := (layNew_led D.2.2 D.1 (hashStr w k) (.str k u)).trans z
    refine tail_led ?_
    by_cases c : (layNew D.2.2 D.1 (hashStr w k) (.str k u)).2.1.plain = true
    · rw [if_pos c]
      exact r1
    · rw [if_neg c]
      exact r1
theorem add_old {T : String} {u : Tok} {Q : Bool → Shared → Prop} (ho : s.heap.get? a = some (PySem.Froz.sObj T D)) (F : PySem.Froz.TxOk P w D l) (hk : k ∈ l) (hb : l.length < scanBound) (h : Q false s) :
    wpAny (model P w) A (setAddHashed a (.str k u) (hashStr w k)) Q E s := by
  obtain ⟨es, ep, t⟩ := D
  have hd : (PySem.Froz.sObj T (es, ep, t)).data = .set es ep t := rfl
  have hf : t.fits es.size = true := F.fit
  have hel : ElemsOf (PySem.strKind P w) es.toList := F.el
  have hsz : es.size = l.length := F.sz
  have hkey : (PySem.strKind P w).is k (.str k u) = true := PySem.Froz.is_str k u
  unfold setAddHashed setAddHashedIn
  refine wpAny_holding (wpAny_bind (wpAny_setState_of ho hd hf ?_))
  dsimp only
  rw [byScan_of (knd := PySem.strKind P w) rfl (by omega) hel]
  simp only [↓reduceIte]
  unfold setAddByScan
  refine wpAny_bind (wpAny_bind (wpAny_rule (wpAny_bind (wpAny_setScan_of (knd := PySem.strKind P w) (k := k) hkey ho hd hf hel ?_))))
  cases hr : List.findIdx? (fun e => (PySem.strKind P w).is k e.2) es.toList with
  | none =>
    obtain ⟨e, he, q⟩ := (F.mem k).mp hk
    have z := List.findIdx?_eq_none_iff.mp hr e he
    rw [q] at z
    cases z
  | some j =>
    dsimp only
    exact wpAny_pure (wpAny_pure h)
/-- one add: the text is there behind it -/
theorem add_one {u : Tok} {Q : Bool → Shared → Prop} (ho : s.heap.get? a = some (sOb D)) (F : Pay P w D l) (hb : l.length + 1 < scanBound)
    (h : ∀ (b : Bool) (h' : Heap) (D' : SD) (l' : List Str), Heap.SameBut a s.heap h' → h'.get? a = some (sOb D') → Pay P w D' l' → (∀ z, z ∈ l' ↔ z = k ∨ z ∈ l) → l'.length ≤ l.length + 1 → Q b { s with heap := h' }) :
    wpAny (model P w) A (setAddHashed a (.str k u) (hashStr w k)) Q E s := by
  by_cases hk : k ∈ l
  · exact add_old ho F.tx hk (by omega) (h false s.heap D l (Heap.SameBut.refl a s.heap) ho F (fun z => ⟨.inr, fun q => q.elim (fun e => e ▸ hk) id⟩) (Nat.le_succ _))
  · refine PySem.Froz.add_x ho F.tx hk hb (h true _ (PySem.Froz.addTx (hashStr w k) (.str k u) D) (k :: l) (Heap.SameBut.update s.heap a _) (PySem.Froz.get_upd _ ho rfl) (F.add hk u) (fun z => ?_) (Nat.le_refl _))
    rw [List.mem_cons]
/-- the loop of set(..) over texts -/
theorem upd_texts {R : Result → Shared → Prop} {I : Addr} {fp wr : List Addr} {G : Array GenState → Array GenState → Prop} {n : Nat} {Pv : Nat → Value → Prop} {St : Nat → Shared → Prop}
    (W : WalksS P w A.in1 I fp wr G n Pv St) (S : Addr) (hSf : S ∉ fp) (zs : List Str) (hn : n = zs.length) (hb : zs.length + 1 < scanBound) (hval : ∀ i v, Pv i v → ∃ z t, zs[i]? = some z ∧ v = .str z t) :
    ∀ (k i : Nat) (s : Shared), n - i = k → i ≤ n → St i s → (∃ D l, s.heap.get? S = some (sOb D) ∧ Pay P w D l ∧ (∀ z, z ∈ l ↔ z ∈ zs.take i) ∧ l.length ≤ i) →
      (∀ s', Moved (S :: wr) G s s' → (∃ D l, s'.heap.get? S = some (sOb D) ∧ Pay P w D l ∧ (∀ z, z ∈ l ↔ z ∈ zs) ∧ l.length ≤ n) → R (.ok (.ret .none)) s') →
      codeAny (model P w) A (.builtin "set.update.loop" ⟨[.ref S, .ref I], []⟩) R s := by
  have hSw : S ∉ wr := fun h => hSf (W.sub _ h)
  have hsub : ∀ b ∈ wr, b ∈ S :: wr := fun b hb => List.mem_cons_of_mem _ hb
  intro k
  induction k with
  | zero =>
    intro i s hk hi hst ⟨D, l, h1, h2, h3, h4⟩ hR
    obtain rfl : i = n := by omega
    refine codeAny_builtin F.entry_set_update_loop ?_
    rw [Around.under_plainId F.plain_set_update_loop _]
    show wpAny _ A.in1 (pyNext (.ref I) >>= _) _ _ s
    refine wpAny_bind (W.done s _ _ hst fun s' hm => ?_)
    show wpAny _ A.in1 (ret Value.none) _ _ s'
    rw [List.take_of_length_le (by omega)] at h3
    exact wpAny_pure (hR s' (hm.mono hsub) ⟨D, l, hm.heap S _ hSw h1, h2, h3, h4⟩)
  | succ k ih =>
    intro i s hk hi hst ⟨D, l, h1, h2, h3, h4⟩ hR
    have hlt : i < n := by omega
    refine codeAny_builtin F.entry_set_update_loop ?_
    rw [Around.under_plainId F.plain_set_update_loop _]
    show wpAny _ A.in1 (pyNext (.ref I) >>= _) _ _ s
    refine wpAny_bind (W.item i s _ _ hlt hst fun v s' hP hst' hm => ?_)
    obtain ⟨z, t, hz, rfl⟩ := hval i v hP
    have h1' := hm.heap S _ hSw h1
    show wpAny _ A.in1 (holding [Value.str z t] (setAdd S (.str z t)) >>= _) _ _ s'
    refine wpAny_bind (wpAny_holding ?_)
    unfold setAdd
    refine wpAny_holding (wpAny_bind ((PySem.strKind P w).pyHash (k := z) (PySem.Froz.is_str z t) ?_))
    refine add_one (k := z) (s := { s' with toks := s'.toks + 1 }) h1' h2 (by omega) fun b h' D' l' hsb q1 q2 q3 q4 => ?_
    refine wpAny_pure ⟨plainId_quiet F.plain_set_update_loop _, ih (i + 1) _ (by omega) hlt (W.frame _ s' _ _ hst' (Nat.le_succ _) fun b hb o e => ?_) ⟨D', l', q1, q2, fun y => ?_, by omega⟩ fun s'' hm2 hE => ?_⟩
    · rw [hsb.2 b (fun h : b = S => hSf (by rw [← h]; exact hb))]
      exact e
    · rw [q3 y, h3 y, List.take_add_one, hz, List.mem_append]
      show _ ↔ _ ∨ y ∈ [z]
      rw [List.mem_singleton]
      exact Or.comm
    · refine hR s'' (Moved.trans W.gtrans ((hm.mono hsub).then_heap (Nat.le_succ _) fun b o hb e => ?_) hm2) hE
      rw [hsb.2 b (fun h : b = S => hb (by rw [h]; exact List.mem_cons_self))]
      exact e
theorem pay_new {t : SetTable} {ep : Nat} (hf : t.fits 0 = true) (hp : t.place = #[]) (hl : w.params.followText "set-order" = true ∨ t.led = true) : Pay P w (#[], ep, t) [] :=
  ⟨PySem.Froz.TxOk.nil hf, by show Ris t.place.toList; rw [hp]; exact List.Pairwise.nil, hl, List.nodup_nil⟩
abbrev newSet (w : World) : Obj := { cls := .type "set", dict := none, data := .set #[] 0 (.fresh 0 0 (!w.params.followText "set-order")) }
theorem pay_fresh : Pay P w (#[], 0, .fresh 0 0 (!w.params.followText "set-order")) [] := by
  refine pay_new (by rfl) rfl ?_
  show _ ∨ (!w.params.followText "set-order") = true
  cases w.params.followText "set-order"
  · exact .inr rfl
  · exact .inl rfl
set_option maxHeartbeats 3200000 in
/-- set(xs), a list of texts -/
theorem call_set {L : Addr} {items : Array Value} (zs : List Str) {Q : Value → Shared → Prop} (hh : A.handled = none) (hl : s.heap.IsList L items) (hit : StrsAre items.toList zs) (hb : zs.length + 1 < scanBound)
    (h : ∀ (h' : Heap) (tk : Nat) (D : SD) (l : List Str), h'.get? s.heap.objs.size = some (sOb D) → Pay P w D l → (∀ z, z ∈ l ↔ z ∈ zs) → l.length ≤ zs.length → (∀ b o, s.heap.get? b = some o → h'.get? b = some o) → Q (.ref s.heap.objs.size) { s with heap := h', toks := tk }) :
    wpAny (model P w) A (call (.type "set") [.ref L]) Q E s := by
  have hisz : items.size = zs.length := by
    have q := StrsAre.len_eq hit
    rw [Array.length_toList] at q
    exact q
  obtain ⟨c, tl, hmro⟩ := PySem.F.called_set.mro
  have hmade := PySem.F.called_set.made
  have hsub := PySem.F.called_set.sub
  refine wpAny_call (codeAny_of_tree ?_)
  show wpAny _ _ (callAny (.type "set") _) _ _ _
  refine wpAny_pure ⟨Code.quiet_builtin _ (by decide +kernel), codeAny_builtin PySem.F.entry_type_call ?_⟩
  rw [Around.under_plain (weight_type_call_type "set" [.ref L] []) rfl]
  have h1 := PySem.F.called_set.notType
  have h2 := PySem.F.called_set.canCreate
  have hct := PySem.F.typeCall_set_1 (.ref L)
  repeat (any_goals (first | assumption | wp_step))
  refine codeAny_mono (code_set_led1 (.ref L) (E := E) (Q₁ := fun obj s₁ => obj = .ref s.heap.objs.size ∧ s₁ = { s with heap := s.heap.push (newSet w) }) ⟨rfl, rfl⟩) fun r s₁ hr => ?_
  cases r with
  | error e => exact hr
  | ok fl =>
    cases fl with
    | ret obj =>
      obtain ⟨rfl, rfl⟩ := hr
      have hS : (s.heap.push (newSet w)).get? s.heap.objs.size = some (newSet w) := Heap.get?_push_size _ rfl
      have hT : Shared.TypeIs { s with heap := s.heap.push (newSet w) } (.ref s.heap.objs.size) "set" := ⟨_, hS, rfl⟩
      have hli := PySem.F.called_set.init.lookup
      have hbi := PySem.F.called_set.init.bind (.ref s.heap.objs.size)
      repeat (any_goals (first | assumption | wp_step))
      refine codeAny_mono (codeAny_call_builtin (R := wants (fun r s₂ => r = .none ∧ ∃ h' tk, s₂ = { s with heap := h', toks := tk } ∧ (∃ D l, h'.get? s.heap.objs.size = some (sOb D) ∧ Pay P w D l ∧ (∀ z, z ∈ l ↔ z ∈ zs) ∧ l.length ≤ zs.length) ∧
          (∀ b o, s.heap.get? b = some o → h'.get? b = some o)) E) PySem.F.called_set.init.plain PySem.F.entry_set_init (check_set_init_1 hT ?_)) fun r₂ s₂ hr₂ => ?_
      · obtain ⟨⟨ocls, odict, odata, oslots⟩, hol, hcl, nl, hdl⟩ := hl
        simp only at hcl hdl
        subst hcl hdl
        have hol' : (s.heap.push (newSet w)).get? L = some { cls := .type "list", dict := odict, data := .seq items nl, slots := oslots } := Heap.get?_push_of_some _ hol
        have hsls := PySem.F.sub_list_set
        have hslf := PySem.F.sub_list_frozenset
        have hne : (Value.type "list" == Value.type "dict") = false := by decide
        have hl1 : (s.heap.push (newSet w)).IsList L items := ⟨_, hol', rfl, nl, rfl⟩
        unfold Builtin.«set.__init__» noKeywords Builtin.Frozenset.updateFrom
        generalize hPI : pyIter = PI
        wp_walk
        subst hPI
        refine wpAny_pyIter_list hl1 ?_
        refine wpAny_bind (wpAny_runValue ?_)
        have hlS : L < s.heap.objs.size := Heap.lt_size hol
        have hh3 : A.in1.in1.in1.handled = none := by simp [hh]
        have hneI : L ≠ (s.heap.push (newSet w)).objs.size := by
          rw [Heap.size_push]
          exact Nat.ne_of_lt (Nat.lt_succ_of_lt hlS)
        have hSf : s.heap.objs.size ∉ [(s.heap.push (newSet w)).objs.size, L] := by
          rw [Heap.size_push]
          simp only [List.mem_cons, List.mem_singleton, List.not_mem_nil, or_false, not_or]
          exact ⟨Nat.ne_of_lt (Nat.lt_succ_self _), Nat.ne_of_gt hlS⟩
        have hval : ∀ (i : Nat) (v : Value), items[i]? = some v → ∃ z t, zs[i]? = some z ∧ v = .str z t := fun i v hv => by
          have hi : i < zs.length := by rw [← hisz]; exact (Array.getElem?_eq_some_iff.mp hv).1
          obtain ⟨t, e⟩ := SS.strs_at hit i v (by rw [Array.getElem?_toList]; exact hv)
          refine ⟨zs[i], t, List.getElem?_eq_getElem hi, ?_⟩
          rw [e, List.getD_eq_getElem?_getD, List.getElem?_eq_getElem hi] <;> rfl
        refine upd_texts ((Walks.list hh3 _ L hneI items).toS) s.heap.objs.size hSf zs hisz hb hval (items.size - 0) 0 _ (by omega) (Nat.zero_le _) ⟨⟨_, Heap.get?_push_size _ rfl, rfl, rfl⟩, (hl1.push _)⟩ ?hS0 ?hR
        case hS0 =>
          refine ⟨(#[], 0, .fresh 0 0 (!w.params.followText "set-order")), [], ?_, pay_fresh, fun z => by simp, Nat.le_refl _⟩
          exact Heap.get?_push_of_some _ hS
        case hR =>
          intro s' hm hE
          obtain ⟨h', g', d', tk', os'⟩ := s'
          obtain rfl : g' = s.gens := hm.gens
          obtain rfl : d' = s.drawn := hm.drawn
          obtain rfl : os' = s.os := hm.os
          show wpAny _ _ _ _ _ _
          refine wpAny_pure ?_
          show wpAny _ _ (ret Value.none) _ _ _
          rw [hisz] at hE
          refine wpAny_pure ⟨rfl, h', tk', rfl, hE, fun b o e => ?_⟩
          have hb0 : b < s.heap.objs.size := Heap.lt_size e
          have hb2 : b ≠ (s.heap.push (newSet w)).objs.size := by
            rw [Heap.size_push]
            exact Nat.ne_of_lt (Nat.lt_succ_of_lt hb0)
          exact hm.heap b o (by simp only [List.mem_cons, List.mem_singleton, List.not_mem_nil, or_false, not_or]; exact ⟨Nat.ne_of_lt hb0, hb2⟩) (Heap.get?_push_of_some _ (Heap.get?_push_of_some _ e))
      · cases r₂ with
        | error e => exact hr₂
        | ok fl₂ =>
          cases fl₂ with
          | ret r =>
            obtain ⟨rfl, h', tk, rfl, ⟨D, l, q1, q2, q3, q4⟩, hk'⟩ := hr₂
            repeat (any_goals (first | assumption | wp_step))
            exact h _ _ D l q1 q2 q3 q4 hk'
          | _ => exact hr₂.elim
    | _ => exact hr.elim
theorem strs_out {es : List (Int × Value)} (h : ElemsOf (PySem.strKind P w) es) : ∀ v ∈ es.map (·.2), ∃ x t, v = Value.str x t := fun v hv => by
  obtain ⟨e, he, rfl⟩ := List.mem_map.mp hv
  obtain ⟨⟨x, q, _⟩, _⟩ := h e he
  have z : Value.isStrOf x e.2 = true := q
  obtain ⟨t, et⟩ := Value.isStrOf_shape (x := x) (v := e.2) z
  exact ⟨x, t, et⟩
/-- sorted(set of texts) -/
theorem call_sorted {Q : Value → Shared → Prop} (ho : s.heap.get? a = some (sOb D)) (F : Pay P w D l) (hh : A.handled = none) (h64 : l.length < 64)
    (h : ∀ s' p (out : Array Value) (c : Nat) (ys : List Str), (∀ b o, s.heap.get? b = some o → s'.heap.get? b = some o) → s'.gens = s.gens → s'.os = s.os → s.heap.objs.size ≤ p → s'.heap.get? p = some (seqObj "list" out c) → StrsAre out.toList ys → sortedS ys = true →
      (∀ z, z ∈ ys ↔ z ∈ l) → ys.length = l.length → Q (.ref p) s') : wpAny (model P w) A (call (.builtin "sorted") [.ref a]) Q E s := by
  obtain ⟨es, ep, t⟩ := D
  have hsz : es.size = l.length := F.tx.sz
  refine Calls.call_function_entry kind_sorted plain_sorted entry_sorted (args_sorted1 _) ?_
  unfold Builtin.«sorted»
  refine wpAny_bind (m := checkCount "sorted" 1 1 _) (wpAny_pure ?_)
  refine wpAny_bind (collect_set (A := A.in1) hh ⟨_, ho, rfl, rfl⟩ F.tx.fit (by show es.size < scanBound; rw [hsz]; exact Nat.lt_trans h64 (by decide)) F.ris F.led fun s1 vs k1 hz g1 o1 pm => ?_)
  have pm : vs.Perm (es.toList.map (·.2)) := pm
  have hvl : vs.length = l.length := by rw [pm.length_eq, List.length_map, Array.length_toList, hsz]
  have hall : ∀ v ∈ vs, ∃ x t, v = Value.str x t := fun v hv => strs_out F.tx.el v (pm.mem_iff.mp hv)
  have hS : StrsAre vs (vs.map strOf) := strsAre_map vs hall
  refine wpAny_bind (wpAny_newList ?_ (by rw [hvl, sizeLine_eq]; omega))
  have hoL : (s1.heap.push (seqObj "list" vs.toArray 0)).get? s1.heap.objs.size = some (seqObj "list" vs.toArray 0) := Heap.get?_push_size _ rfl
  refine wpAny_bind (wpAny_holding (wpAny_call_entry slot_list_sort ⟨_, hoL, rfl⟩ entry_list_sort (list_sort_treeK strKind_oneLt hoL hS.keysOf (fun v₁ v₂ rest e => keyKind_strs (by rw [← e]; exact hS)) (by rw [hvl]; exact h64) fun st' hp hs => ⟨_, rfl, ?_⟩) (args_list_sort _)))
  obtain ⟨ys, a1, a2, a3⟩ := sorted_out_str hS hp hs
  obtain ⟨c, hc⟩ := sortedHeap_at (vs := vs) (out := (arrOf st').map (·.2)) hoL
  refine wpAny_pure ⟨_, rfl, h _ s1.heap.objs.size _ c ys (fun b u e => ?_) g1 o1 hz hc a1 a3 (fun z => ?_) ?_⟩
  · have q := k1 b u e
    have hlt := Heap.lt_size q
    show (sortedHeap (s1.heap.push (seqObj "list" vs.toArray 0)) s1.heap.objs.size vs _).get? b = some u
    rw [sortedHeap_old (Nat.ne_of_lt hlt) (by rw [size_push']; exact Nat.lt_succ_of_lt hlt)]
    exact Heap.get?_push_of_some _ q
  · have m := F.tx.mem z
    rw [m, a2.mem_iff, List.mem_map]
    constructor
    · rintro ⟨v, hv, rfl⟩
      obtain ⟨x, t', rfl⟩ := hall v hv
      obtain ⟨e, he, q⟩ := List.mem_map.mp (pm.mem_iff.mp hv)
      exact ⟨e, he, by rw [q]; exact PySem.Froz.is_str x t'⟩
    · rintro ⟨e, he, q⟩
      have z1 : Value.isStrOf z e.2 = true := q
      obtain ⟨t', et⟩ := Value.isStrOf_shape (x := z) (v := e.2) z1
      exact ⟨e.2, pm.mem_iff.mpr (List.mem_map.mpr ⟨e, he, rfl⟩), by rw [et] <;> rfl⟩
  · rw [a2.length_eq, List.length_map, hvl]
end
/-- a set of the texts l -/
def SetT (P : Program) (w : World) (a : Addr) (l : List Str) : HO := .ext fun h => ∃ D, h.get? a = some (sOb D) ∧ Pay P w D l
theorem setT_ok {P : Program} {w : World} {H : Hp} {h : Heap} {a : Addr} {l : List Str} {D : SD} (ho : h.get? a = some (sOb D)) (F : Pay P w D l) : ObjOk P w H h a (SetT P w a l) :=
  ⟨⟨D, ho, F⟩, ⟨_, ho⟩, fun h1 h2 ⟨D', p, q⟩ k => ⟨D', k _ p, q⟩⟩
section
variable {X : Cx}
def rSetT (K : PySem.W.Frag) (P : Program) (w : World) : List V → Hp → VK → Prop := fun xs H Q => ∃ (L : Addr) (zs : List Str), xs = [V.ref L] ∧ SqL K H L (zs.map V.str) ∧ zs.length < 64 ∧
  ∀ (a : Addr) (l : List Str), H a = none → l.Nodup → (∀ z, z ∈ l ↔ z ∈ zs) → l.length ≤ zs.length → Q (.ref a) (upd H a (SetT P w a l))
theorem cr_setT (hc : X.calm = true) : CallR X (.type "set") (rSetT X.K X.prog X.w) := by
  intro pins s σ H xs us Q I r h
  obtain ⟨L, zs, rfl, hl, h64, q⟩ := h
  rw [Vals.ref1 r]
  obtain ⟨its, rv, pl, hz⟩ := I.list hl
  have hn : H s.heap.objs.size = none := I.hok.fresh (Nat.le_refl _)
  refine call_set (P := X.prog) (w := X.w) zs (I.ok.hd hc) pl.isList (by simpa using strsAre_of rv) (Nat.lt_trans (Nat.succ_lt_succ h64) (by decide)) fun h' tk D l q1 q2 q3 q4 k => ?_
  exact ⟨.ref s.heap.objs.size, upd H s.heap.objs.size (SetT X.prog X.w s.heap.objs.size l), I.laid (t' := tk) k (Nat.le_refl _) (setT_ok q1 q2), rfl, q _ l hn q2.nd q3 q4⟩
def rSortT (P : Program) (w : World) : List V → Hp → VK → Prop := fun xs H Q => ∃ (a : Addr) (l : List Str), xs = [V.ref a] ∧ H a = some (SetT P w a l) ∧ l.length < 64 ∧
  ∀ (ys : List Str) (p : Addr), sortedS ys = true → (∀ z, z ∈ ys ↔ z ∈ l) → ys.length = l.length → H p = none → Q (.ref p) (upd H p (.lst (ys.map V.str)))
theorem cr_sortT (hc : X.calm = true) : CallR X (.builtin "sorted") (rSortT X.prog X.w) := by
  intro pins s σ H vs us Q I r h
  obtain ⟨a, l, rfl, ha, h64, q⟩ := h
  obtain ⟨D, ho, F⟩ := (I.hok a _ ha).1
  rw [Vals.ref1 r]
  refine call_sorted ho F (I.ok.hd hc) h64 fun s' p out c ys k g o hp hg hi hs hm hl => ?_
  have hlen : (ys.map V.str).length ≤ sizeLine := by rw [List.length_map, hl, sizeLine_eq]; omega
  have hn : H p = none := I.hok.fresh hp
  have J : Inv X pins σ (upd H p (.lst (ys.map V.str))) { s with heap := s'.heap, gens := s'.gens, drawn := s'.drawn, toks := s'.toks } :=
    I.call (ch := []) (Un.laid k hp hn) (I.hok.laid k hp ⟨hlen, out.toList, c, vals_of_strs hi, hg⟩) (by rw [g]; exact I.bare) (fun _ z => nomatch z)
  have e : s' = { s with heap := s'.heap, gens := s'.gens, drawn := s'.drawn, toks := s'.toks } := by
    cases s'
    cases s
    cases o
    rfl
  rw [e]
  exact ⟨.ref p, _, J, rfl, q ys p hs hm hl hn⟩
end
end TxS
/-! zip of a tuple with a list -/
namespace ZiX
open PySem PySem.Spec PyProof.Rows L2
def ItX (K : PySem.W.Frag) (a b : Addr) : It where
  go := fun i H => ∃ (xs ys : List V) (x y : V), SqT K H a xs ∧ SqL K H b ys ∧ xs[i]? = some x ∧ ys[i]? = some y
  yld := fun i H v H' => ∃ (T : Addr) (x y : V), v = .ref T ∧ H T = none ∧ H' = upd H T (.tup [x, y]) ∧ (∀ xs, SqT K H a xs → xs[i]? = some x) ∧ ∀ ys, SqL K H b ys → ys[i]? = some y
  stop := fun i H => ∃ xs ys : List V, SqT K H a xs ∧ SqL K H b ys ∧ xs.length = i ∧ ys.length = i
abbrev Five (z TI TO i1 i2 : Addr) : List Addr := [z, TI, TO, i1, i2]
theorem five {z TI TO i1 i2 c : Addr} (h : c ∈ Five z TI TO i1 i2) : c = z ∨ c = TI ∨ c = TO ∨ c = i1 ∨ c = i2 := by simpa using h
def StX (a b z TI TO i1 i2 : Addr) (i : Nat) (h : Heap) : Prop := IsZip h z TI TO .none ∧ IsPair h TI (.ref i1) (.ref i2) ∧ (∃ x y, IsPair h TO x y) ∧ h.IsTupleIter i1 a i ∧ h.IsListIter i2 b i
theorem turnX {P : Program} {w : World} {K : PySem.W.Frag} {elts : List Expr} {kk : Nat} {tpos : Pos} {a b z TI TO i1 i2 : Addr} (S : ZipSep2 z TI TO i1 i2 [i1, a] [i2, b]) (na : a ≠ i1) (nb : b ≠ i2) :
    Turn P w K (.Tuple elts kk tpos) (ItX K a b) (Five z TI TO i1 i2) z (StX a b z TI TO i1 i2) where
  mem := by simp
  obj := fun i h st c hc => by
    obtain ⟨hz, hTI, ⟨x, y, hTO⟩, ⟨o1, e1, _, d1⟩, ⟨o2, e2, _, d2⟩⟩ := st
    rcases five hc with q | q | q | q | q <;> subst q
    · exact ⟨_, hz, fun v r => nomatch r⟩
    · exact ⟨_, hTI, fun v r => nomatch r⟩
    · exact ⟨_, hTO, fun v r => nomatch r⟩
    · exact ⟨o1, e1, fun v r => by rw [d1] at r; cases r⟩
    · exact ⟨o2, e2, fun v r => by rw [d2] at r; cases r⟩
  keep := fun i h h' st k => by
    obtain ⟨hz, hTI, ⟨x, y, hTO⟩, h1, h2⟩ := st
    refine ⟨k _ (by simp) _ hz, k _ (by simp) _ hTI, ⟨x, y, k _ (by simp) _ hTO⟩, ?_, ?_⟩
    · exact h1.at fun o r => k _ (by simp) o r
    · exact h2.at fun o r => k _ (by simp) o r
  item := by
    intro X eP ew eK hc i pins s σ H E I hf st hg
    subst eP ew eK
    obtain ⟨hz, hTI, ⟨x0, y0, hTO⟩, h1, h2⟩ := st
    obtain ⟨xs, ys, x, y, qx, qy, hx, hy⟩ := hg
    obtain ⟨us, rv, p, _⟩ := I.tuple qx
    obtain ⟨vs, rw2, p2, _⟩ := I.list qy
    obtain ⟨u, hu, ru⟩ := rv.get hx
    obtain ⟨v, hv, rvv⟩ := rw2.get hy
    have lu : i < us.toArray.size := by rw [List.size_toArray]; exact (List.getElem?_eq_some_iff.mp hu).1
    have lv : i < vs.toArray.size := by rw [List.size_toArray]; exact (List.getElem?_eq_some_iff.mp hv).1
    have zlt : z < s.heap.objs.size := Heap.lt_size hz
    have hA : X.A.in1.handled = none := I.ok.hd hc
    refine wpAny_pyNext_zipD2_item S (Draws.tuple hA i1 a na us.toArray) (Draws.list hA i2 b nb vs.toArray) hz hTI hTO ⟨h1, p⟩ ⟨h2, p2.isList⟩ lu lv fun x1 x2 h' tk e1 e2 z' TO' s1 s2 hT hsz hk => ?_
    have ex1 : u = x1 := by
      have e1 : us.toArray[i]? = some x1 := e1
      rw [List.getElem?_toArray, hu] at e1
      exact Option.some.inj e1
    have ex2 : v = x2 := by
      have e2 : vs.toArray[i]? = some x2 := e2
      rw [List.getElem?_toArray, hv] at e2
      exact Option.some.inj e2
    subst ex1 ex2
    refine ⟨_, rfl, wpAny_letOwnedTupleGo_zip (s := { s with heap := h', toks := tk }) z' fun h'' z'' sb => ?_⟩
    have pair : IsPair h'' s.heap.objs.size u v := (sb.2 _ (Nat.ne_of_gt zlt)).trans hT
    have new : ObjOk X.prog X.w (upd H s.heap.objs.size (.tup [x, y])) h'' s.heap.objs.size (.tup [x, y]) := ⟨Nat.le_trans (show 2 ≤ 3 by decide) (by decide), [u, v], .cons ru (.cons rvv .nil), ⟨_, pair, rfl, _, rfl⟩⟩
    have kp : ∀ c o, c ∉ Five z TI TO i1 i2 → s.heap.get? c = some o → h''.get? c = some o := fun c o hb q => by
      have nz : c ≠ z := fun e => hb (by simp [e])
      exact (sb.2 c nz).trans (hk c o nz (fun e => hb (by simp [e])) (fun e => hb (by simp [e])) (fun e => hb (by simp [e])) q)
    refine ⟨.ref s.heap.objs.size, _, I.turnedNew (t' := tk) (ch := Five z TI TO i1 i2) kp hf (Nat.le_refl _) new, rfl, ⟨_, x, y, rfl, I.hok.fresh (Nat.le_refl _), rfl, fun l hl => ?_, fun l hl => ?_⟩, ⟨z'', ?_, ⟨u, v, ?_⟩, ?_, ?_⟩, fun c hcm => ?_⟩
    · rw [I.tuple_inj hl qx]
      exact hx
    · rw [I.list_inj hl qy]
      exact hy
    · exact (sb.2 _ S.TIz).trans (hk _ _ S.TIz S.TITO S.TIi1 S.TIi2 hTI)
    · exact (sb.2 _ S.TOz).trans TO'
    · exact s1.1.at fun o q => (sb.2 _ S.zi1.symm).trans q
    · exact s2.1.at fun o q => (sb.2 _ S.zi2.symm).trans q
    · have lt : c < s.heap.objs.size := by
        rcases five hcm with q | q | q | q | q <;> subst q
        · exact zlt
        · exact Heap.lt_size hTI
        · exact Heap.lt_size hTO
        · obtain ⟨_, e, _⟩ := h1
          exact Heap.lt_size e
        · obtain ⟨_, e, _⟩ := h2
          exact Heap.lt_size e
      rw [upd_ne (Nat.ne_of_lt lt)]
      exact (hf c hcm).1
  done := by
    intro X eP ew eK hc i pins s σ H E I hf st hg
    subst eP ew eK
    obtain ⟨hz, hTI, ⟨x0, y0, hTO⟩, h1, h2⟩ := st
    obtain ⟨xs, ys, qx, qy, ei, ej⟩ := hg
    obtain ⟨us, rv, p, _⟩ := I.tuple qx
    obtain ⟨vs, rw2, p2, _⟩ := I.list qy
    have l1 : us.toArray.size = i := by rw [List.size_toArray, ← rv.length]; exact ei
    have l2 : vs.toArray.size = i := by rw [List.size_toArray, ← rw2.length]; exact ej
    have hA : X.A.in1.handled = none := I.ok.hd hc
    refine wpAny_pyNext_zipD2_end S (Draws.tuple hA i1 a na us.toArray) (Draws.list hA i2 b nb vs.toArray) hz hTI hTO ⟨h1, p⟩ ⟨h2, p2.isList⟩ (Nat.le_of_eq l1.symm) (Nat.le_of_eq l2.symm) (.inl l1.symm) fun h' tk hk => ⟨rfl, I.turnedL (t' := tk) (ch := Five z TI TO i1 i2) (fun c o hb q => ?_) hf⟩
    exact hk c o (fun e => hb (by simp [e])) (fun e => hb (by simp [e])) (fun e => hb (by simp [e])) (fun e => hb (by simp [e])) q
  self := fun A i s Q E st h => wpAny_pyIter_zip st.1 h
theorem ne_nat {x y : Nat} (h : ¬ x = y) : @Ne Addr x y := h
theorem out2 {x y z : Nat} (h : ¬ x = y) (h2 : ¬ x = z) : @Not ((x : Addr) ∈ ([y, z] : List Addr)) := fun m => by
  rcases List.mem_cons.mp m with e | m
  · exact h e
  · exact h2 (List.mem_singleton.mp m)
theorem sep_new (n a b : Nat) (ha : a < n) (hb : b < n) : ZipSep2 (n + 4) (n + 2) (n + 3) n (n + 1) [n, a] [n + 1, b] where
  TIz := ne_nat (by omega)
  TOz := ne_nat (by omega)
  TITO := ne_nat (by omega)
  TIi1 := ne_nat (by omega)
  mem1 := List.mem_cons_self ..
  zf1 := out2 (by omega) (by omega)
  Tf1 := out2 (by omega) (by omega)
  TIi2 := ne_nat (by omega)
  mem2 := List.mem_cons_self ..
  zf2 := out2 (by omega) (by omega)
  Tf2 := out2 (by omega) (by omega)
  sep1_2 := out2 (by omega) (by omega)
  sep2_1 := out2 (by omega) (by omega)
theorem ge_new {n c : Nat} (h : c = n + 4 ∨ c = n + 2 ∨ c = n + 3 ∨ c = n ∨ c = n + 1) : n ≤ c := by omega
def iZipX (K : PySem.W.Frag) (ta : TA) : TI := fun σ H R => ta σ H fun vs H1 => ∃ (a b : Addr) (xs ys : List V), vs = [.ref a, .ref b] ∧ SqT K H1 a xs ∧ SqL K H1 b ys ∧ R (ItX K a b) H1
theorem pi_zipX {X : Cx} {e e2 : Expr} {ta : TA} {p pos tpos : Pos} {elts : List Expr} {kk : Nat} (hg : Gl X "zip") (hm : X.mg "zip" = none) (ha : PA X [e, e2] ta)
    (hs : starEach [e, e2] X.env = (false, eval e X.env) :: starEach [e2] X.env := by rfl) (hpl : (backTo pos (starEach [e2] X.env)).any (·.1) = false := by rfl) :
    PI X (.Tuple elts kk tpos) (.Call (.Name "zip" p) [e, e2] [] pos) (iZipX X.K ta) := by
  refine ⟨fun pins s σ H R I h => ?_⟩
  refine Call_ (ld_blt I hg hm PyProof.Rows.boot_zip (PyProof.Rows.callWith_type1 (thn (ha.run pos pins s σ H _ I h) fun us s1 ⟨vs, H1, I1, r1, a, b, xs, ys, ex, qx, qy, q⟩ => ?_) hs hpl))
  subst ex
  obtain ⟨u1, u2, rfl, ra, rb⟩ := vals2 r1
  cases ra
  cases rb
  obtain ⟨us, rv, p1, _⟩ := I1.tuple qx
  obtain ⟨vs, rw2, p2, _⟩ := I1.list qy
  have la : a < s1.heap.objs.size := by
    obtain ⟨o, ho, _⟩ := id p1
    exact Heap.lt_size ho
  have lb : b < s1.heap.objs.size := p2.lt
  refine zip_begins2 (begins_tuple a us.toArray) (begins_list b vs.toArray) p1 p2.isList fun h' hz hTI hTO h1 h2 hsz hk => wpAny_pyIter_zip hz ?_
  have I2 : L2.Inv X pins σ H1 { s1 with heap := h' } := I1.kept (t' := s1.toks) hk
  refine ⟨s1.heap.objs.size + 4, Five (s1.heap.objs.size + 4) (s1.heap.objs.size + 2) (s1.heap.objs.size + 3) s1.heap.objs.size (s1.heap.objs.size + 1), _, _, H1, rfl, I2, turnX (sep_new s1.heap.objs.size a b la lb) (Nat.ne_of_lt la) (Nat.ne_of_lt (Nat.lt_succ_of_lt lb)), ⟨hz, hTI, ⟨_, _, hTO⟩, ⟨_, h1, rfl, rfl⟩, ⟨_, h2, rfl, rfl⟩⟩, fun c hcm => ?_, q⟩
  have hle : s1.heap.objs.size ≤ c := ge_new (five hcm)
  exact I1.fpOk hle (I1.hok.fresh hle)
theorem walkX {K : PySem.W.Frag} {a b : Addr} {xs ys : List V} (e : xs.length = ys.length) : Walk (ItX K a b) xs.length (fun H => SqT K H a xs ∧ SqL K H b ys) (YPair (fun i => xs[i]?) (fun i => ys[i]?)) where
  goes := fun i _ hi q => ⟨xs, ys, xs[i], ys[i]'(by omega), q.1, q.2, List.getElem?_eq_getElem hi, List.getElem?_eq_getElem (by omega)⟩
  stops := fun _ q => ⟨xs, ys, q.1, q.2, rfl, e.symm⟩
  yields := fun i H v H' _ q ⟨T, x, y, h1, h2, h3, h4, h5⟩ => ⟨T, x, y, h1, h2, h3, h4 xs q.1, h5 ys q.2⟩
end ZiX
/-! the greedy order is the least that fits (lists of texts alone) -/
namespace Topo
variable {α : Type} [DecidableEq α] {N : Type}
abbrev Stp (α N : Type) := α × N × α
def heldIn (S : List (Stp α N)) (left : List α) (x : α) : Bool := S.any fun s => decide (s.1 ∈ left) && decide (s.2.2 = x)
def free (S : List (Stp α N)) (left : List α) : List α := left.filter fun x => !heldIn S left x
def topo (S : List (Stp α N)) : Nat → List α → List α → Option (List α)
  | 0, _, order => some order
  | n + 1, left, order => match free S left with
    | [] => none
    | f :: _ => topo S n (left.filter fun z => decide (z ≠ f)) (order ++ [f])
def out (as p : List α) : List α := as.filter fun l => decide (l ∉ p)
def exts (as : List α) : Nat → List α → List (List α)
  | 0, p => [p]
  | k + 1, p => (out as p).flatMap fun l => exts as k (p ++ [l])
def ord (as : List α) : Nat → List (List α)
  | 0 => [[]]
  | k + 1 => (ord as k).flatMap fun p => (out as p).map fun l => p ++ [l]
def fitsS (S : List (Stp α N)) (q : List α) : Bool := S.all fun s => decide (q.idxOf s.1 ≤ q.idxOf s.2.2)
theorem exts_next (as : List α) : ∀ (k : Nat) (p : List α), (exts as k p).flatMap (fun p => (out as p).map fun l => p ++ [l]) = exts as (k + 1) p
  | 0, p => by
    show ([p].flatMap fun p => (out as p).map fun l => p ++ [l]) = (out as p).flatMap fun l => [p ++ [l]]
    rw [List.flatMap_singleton, List.map_eq_flatMap]
  | k + 1, p => by
    show ((out as p).flatMap fun l => exts as k (p ++ [l])).flatMap _ = (out as p).flatMap fun l => exts as (k + 1) (p ++ [l])
    rw [List.flatMap_assoc]
    congr 1
    funext l
    exact exts_next as k (p ++ [l])
theorem ord_eq (as : List α) : ∀ k : Nat, ord as k = exts as k []
  | 0 => rfl
  | k + 1 => by
    show (ord as k).flatMap _ = _
    rw [ord_eq as k, exts_next]
theorem mem_out {as p : List α} {z : α} : z ∈ out as p ↔ z ∈ as ∧ z ∉ p := by
  unfold out
  rw [List.mem_filter, decide_eq_true_iff]
theorem out_nd {as p : List α} (h : as.Nodup) : (out as p).Nodup := h.filter _
theorem out_snoc {as p : List α} {f : α} : (out as p).filter (fun z => decide (z ≠ f)) = out as (p ++ [f]) := by
  unfold out
  rw [List.filter_filter]
  congr 1
  funext z
  by_cases h1 : z = f <;> by_cases h2 : z ∈ p <;> simp [h1, h2]
theorem out_len {as p : List α} {f : α} (hn : as.Nodup) (hf : f ∈ out as p) {n : Nat} (hl : (out as p).length = n + 1) : (out as (p ++ [f])).length = n := by
  have e : out as (p ++ [f]) = (out as p).erase f := by
    rw [← out_snoc, List.Nodup.erase_eq_filter (out_nd hn)]
    congr 1
    funext z
    by_cases h : z = f <;> simp [h]
  rw [e, List.length_erase_of_mem hf, hl]
  rfl
theorem of_exts {as : List α} (hn : as.Nodup) : ∀ {n : Nat} {p q : List α}, (out as p).length = n → q ∈ exts as n p → ∃ r, q = p ++ r ∧ r.Nodup ∧ ∀ z, z ∈ r ↔ z ∈ as ∧ z ∉ p
  | 0, p, q, hl, hq => by
    have hq : q = p := List.mem_singleton.mp hq
    have e : out as p = [] := List.length_eq_zero_iff.mp hl
    refine ⟨[], by rw [hq, List.append_nil], List.nodup_nil, fun z => ?_⟩
    rw [← mem_out, e]
  | n + 1, p, q, hl, hq => by
    obtain ⟨l, hl2, hq2⟩ := List.mem_flatMap.mp hq
    obtain ⟨r, e, nd, hm⟩ := of_exts hn (out_len hn hl2 hl) hq2
    have hl3 := mem_out.mp hl2
    refine ⟨l :: r, by rw [e, List.append_assoc] <;> rfl, List.nodup_cons.mpr ⟨fun h => ((hm l).mp h).2 (by simp), nd⟩, fun z => ?_⟩
    rw [List.mem_cons, hm z]
    by_cases h1 : z = l
    · rw [h1]
      simp [hl3]
    · simp [h1]
theorem to_exts {as : List α} (hn : as.Nodup) : ∀ {n : Nat} {p r : List α}, (out as p).length = n → r.Nodup → (∀ z, z ∈ r ↔ z ∈ as ∧ z ∉ p) → p ++ r ∈ exts as n p
  | 0, p, r, hl, nd, hm => by
    have e : out as p = [] := List.length_eq_zero_iff.mp hl
    have er : r = [] := List.eq_nil_iff_forall_not_mem.mpr fun z hz => by
      have := mem_out.mpr ((hm z).mp hz)
      rw [e] at this
      cases this
    rw [er, List.append_nil]
    exact List.mem_singleton.mpr rfl
  | n + 1, p, r, hl, nd, hm => by
    cases r with
    | nil =>
      exfalso
      cases h : out as p with
      | nil => rw [h] at hl; cases hl
      | cons x xs =>
        have := (hm x).mpr (mem_out.mp (by rw [h]; exact List.mem_cons_self ..))
        cases this
    | cons l r =>
      have hl2 : l ∈ out as p := mem_out.mpr ((hm l).mp (List.mem_cons_self ..))
      obtain ⟨n1, n2⟩ := List.nodup_cons.mp nd
      refine List.mem_flatMap.mpr ⟨l, hl2, ?_⟩
      have e : p ++ l :: r = (p ++ [l]) ++ r := by rw [List.append_assoc] <;> rfl
      rw [e]
      refine to_exts hn (out_len hn hl2 hl) n2 fun z => ?_
      have hz := hm z
      by_cases h1 : z = l
      · rw [h1]
        simp [n1]
      · rw [List.mem_cons] at hz
        simp only [h1, false_or] at hz
        rw [hz]
        simp [h1]
theorem idx_in {p r : List α} {z : α} (h : z ∈ p) : (p ++ r).idxOf z = p.idxOf z := by
  rw [List.idxOf_append, if_pos h]
theorem idx_out {p r : List α} {z : α} (h : z ∉ p) : (p ++ r).idxOf z = r.idxOf z + p.length := by
  rw [List.idxOf_append, if_neg h]
theorem idx_lt {p : List α} {z : α} (h : z ∈ p) : p.idxOf z < p.length := List.idxOf_lt_length_iff.mpr h
theorem idx_ne {x a : α} {r : List α} (h : x ≠ a) : (x :: r).idxOf a = r.idxOf a + 1 := by
  rw [List.idxOf_cons, beq_false_of_ne h] <;> rfl
theorem erase_idx {a b f : α} (ha : a ≠ f) (hb : b ≠ f) : ∀ {r : List α}, r.idxOf a ≤ r.idxOf b → (r.erase f).idxOf a ≤ (r.erase f).idxOf b
  | [], h => h
  | x :: r, h => by
    by_cases hx : x = f
    · have e : (x :: r).erase f = r := by rw [hx, List.erase_cons_head]
      rw [e]
      rw [idx_ne (by rw [hx]; exact fun q => ha q.symm), idx_ne (by rw [hx]; exact fun q => hb q.symm)] at h
      omega
    · have e : (x :: r).erase f = x :: r.erase f := by rw [List.erase_cons_tail]; simpa using hx
      rw [e]
      by_cases h1 : x = a
      · rw [h1, List.idxOf_cons_self]
        exact Nat.zero_le _
      · by_cases h2 : x = b
        · exfalso
          rw [h2, List.idxOf_cons_self, idx_ne (by rw [← h2]; exact h1)] at h
          omega
        · rw [idx_ne h1, idx_ne h2] at h
          rw [idx_ne h1, idx_ne h2]
          have := erase_idx ha hb (r := r) (by omega)
          omega
def OkS (S : List (Stp α N)) (as : List α) : Prop := ∀ s ∈ S, s.1 ∈ as ∧ s.2.2 ∈ as ∧ s.1 ≠ s.2.2
def InvT (S : List (Stp α N)) (p : List α) : Prop := ∀ s ∈ S, s.2.2 ∈ p → s.1 ∈ p ∧ p.idxOf s.1 ≤ p.idxOf s.2.2
theorem held_bad {S : List (Stp α N)} {as p : List α} (hn : as.Nodup) (ok : OkS S as) {n : Nat} (hl : (out as p).length = n + 1) {l : α} (hl2 : l ∈ out as p) (hh : heldIn S (out as p) l = true) : (exts as n (p ++ [l])).find? (fitsS S) = none := by
  refine List.find?_eq_none.mpr fun q hq => ?_
  obtain ⟨r, e, nd, hm⟩ := of_exts hn (out_len hn hl2 hl) hq
  obtain ⟨s, hs, hs2⟩ := List.any_eq_true.mp hh
  rw [Bool.and_eq_true, decide_eq_true_iff, decide_eq_true_iff] at hs2
  obtain ⟨h1, h2⟩ := hs2
  have h1' := mem_out.mp h1
  have hl3 := mem_out.mp hl2
  intro hf
  have hf := List.all_eq_true.mp hf s hs
  have hf := of_decide_eq_true hf
  have ne : s.1 ≠ l := by rw [← h2]; exact (ok s hs).2.2
  rw [h2, e, idx_out (by simp [h1'.2, ne]), idx_in (by simp), idx_out hl3.2, List.length_append, List.idxOf_cons_self] at hf
  have : ([l] : List α).length = 1 := rfl
  omega
theorem inv_next {S : List (Stp α N)} {as p : List α} (ok : OkS S as) (inv : InvT S p) {f : α} (hf : f ∈ out as p) (nh : heldIn S (out as p) f = false) : InvT S (p ++ [f]) := fun s hs h => by
  have hf2 := mem_out.mp hf
  by_cases h2 : s.2.2 ∈ p
  · obtain ⟨a, b⟩ := inv s hs h2
    exact ⟨List.mem_append_left _ a, by rw [idx_in a, idx_in h2]; exact b⟩
  · have e : s.2.2 = f := by
      rcases List.mem_append.mp h with h | h
      · exact absurd h h2
      · exact List.mem_singleton.mp h
    have a : s.1 ∈ p := Decidable.byContradiction fun hn => by
      have : heldIn S (out as p) f = true := List.any_eq_true.mpr ⟨s, hs, by rw [Bool.and_eq_true, decide_eq_true_iff, decide_eq_true_iff]; exact ⟨mem_out.mpr ⟨(ok s hs).1, hn⟩, e⟩⟩
      rw [nh] at this
      cases this
    refine ⟨List.mem_append_left _ a, ?_⟩
    rw [idx_in a, idx_out h2]
    have := idx_lt a
    omega
theorem front_fits {S : List (Stp α N)} {as p : List α} (ok : OkS S as) (inv : InvT S p) {f : α} (hf : f ∈ out as p) (nh : heldIn S (out as p) f = false) {r : List α} (hr : fitsS S (p ++ r) = true) : fitsS S (p ++ f :: r.erase f) = true := by
  refine List.all_eq_true.mpr fun s hs => decide_eq_true ?_
  have h0 := of_decide_eq_true (List.all_eq_true.mp hr s hs)
  have hf2 := mem_out.mp hf
  by_cases hb : s.2.2 ∈ p
  · obtain ⟨a, b⟩ := inv s hs hb
    rw [idx_in a, idx_in hb]
    exact b
  · by_cases ha : s.1 ∈ p
    · rw [idx_in ha, idx_out hb]
      have := idx_lt ha
      omega
    · have nb : s.2.2 ≠ f := fun e => by
        have : heldIn S (out as p) f = true := List.any_eq_true.mpr ⟨s, hs, by rw [Bool.and_eq_true, decide_eq_true_iff, decide_eq_true_iff]; exact ⟨mem_out.mpr ⟨(ok s hs).1, ha⟩, e⟩⟩
        rw [nh] at this
        cases this
      rw [idx_out ha, idx_out hb] at h0 ⊢
      by_cases ea : s.1 = f
      · rw [ea, List.idxOf_cons_self]
        omega
      · rw [idx_ne (fun q => ea q.symm), idx_ne (fun q => nb q.symm)]
        have := erase_idx (r := r) ea nb (by omega)
        omega
theorem find_exts {S : List (Stp α N)} {as : List α} (hn : as.Nodup) (ok : OkS S as) : ∀ {n : Nat} {p : List α}, (out as p).length = n → InvT S p → (exts as n p).find? (fitsS S) = topo S n (out as p) p
  | 0, p, hl, inv => by
    have e : out as p = [] := List.length_eq_zero_iff.mp hl
    have hf : fitsS S p = true := List.all_eq_true.mpr fun s hs => decide_eq_true (inv s hs (Decidable.byContradiction fun h => by
      have := mem_out.mpr ⟨(ok s hs).2.1, h⟩
      rw [e] at this
      cases this)).2
    show ([p].find? (fitsS S)) = some p
    rw [List.find?_cons_of_pos hf]
  | n + 1, p, hl, inv => by
    have ex : (exts as (n + 1) p).find? (fitsS S) = (out as p).findSome? fun l => (exts as n (p ++ [l])).find? (fitsS S) := List.find?_flatMap
    rw [ex]
    show _ = match free S (out as p) with
      | [] => none
      | f :: _ => topo S n ((out as p).filter fun z => decide (z ≠ f)) (p ++ [f])
    cases hfr : free S (out as p) with
    | nil =>
      refine List.findSome?_eq_none_iff.mpr fun l hl2 => held_bad hn ok hl hl2 ?_
      have : l ∉ free S (out as p) := by rw [hfr]; exact List.not_mem_nil
      unfold free at this
      rw [List.mem_filter] at this
      have h2 : ¬ ((!heldIn S (out as p) l) = true) := fun h => this ⟨hl2, h⟩
      simpa using h2
    | cons f rest =>
      have hf : f ∈ free S (out as p) := by rw [hfr]; exact List.mem_cons_self ..
      have hf2 := List.mem_filter.mp hf
      have nh : heldIn S (out as p) f = false := by simpa using hf2.2
      -- split at f
      obtain ⟨F1, F2, eF, hF1⟩ : ∃ F1 F2, out as p = F1 ++ f :: F2 ∧ ∀ x ∈ F1, heldIn S (out as p) x = true := by
        have h0 : (out as p).filter (fun x => !heldIn S (out as p) x) = f :: rest := hfr
        obtain ⟨F1, F2, e1, e2, e3, e4⟩ := List.filter_eq_cons_iff.mp h0
        refine ⟨F1, F2, e1, fun x hx => ?_⟩
        have := e2 x hx
        simpa using this
      have ih := find_exts hn ok (out_len hn hf2.1 hl) (inv_next ok inv hf2.1 nh)
      show _ = topo S n ((out as p).filter fun z => decide (z ≠ f)) (p ++ [f])
      rw [out_snoc]
      have e1 : F1.findSome? (fun l => (exts as n (p ++ [l])).find? (fitsS S)) = none := List.findSome?_eq_none_iff.mpr fun l hl2 => held_bad hn ok hl (by rw [eF]; exact List.mem_append_left _ hl2) (hF1 l hl2)
      rw [eF, List.findSome?_append, e1, Option.none_or, List.findSome?_cons]
      rw [ih]
      cases ht : topo S n (out as (p ++ [f])) (p ++ [f]) with
      | some q => rfl
      | none =>
        rw [ht] at ih
        show F2.findSome? _ = none
        refine List.findSome?_eq_none_iff.mpr fun l hl2 => List.find?_eq_none.mpr fun q hq hfq => ?_
        have hlo : l ∈ out as p := by rw [eF]; exact List.mem_append_right _ (List.mem_cons_of_mem _ hl2)
        have hq1 : q ∈ exts as (n + 1) p := List.mem_flatMap.mpr ⟨l, hlo, hq⟩
        obtain ⟨r, e, nd, hm⟩ := of_exts hn hl hq1
        have hfr2 : f ∈ r := (hm f).mpr (mem_out.mp hf2.1)
        have hq2 : (p ++ [f]) ++ r.erase f ∈ exts as n (p ++ [f]) := to_exts hn (out_len hn hf2.1 hl) (nd.erase f) fun z => by
          rw [List.Nodup.mem_erase_iff nd, hm z]
          simp
          constructor
          · rintro ⟨a, b, c⟩
            exact ⟨b, c, a⟩
          · rintro ⟨a, b, c⟩
            exact ⟨c, a, b⟩
        have := List.find?_eq_none.mp ih _ hq2
        rw [e] at hfq
        have ff := front_fits ok inv hf2.1 nh hfq
        have ea : (p ++ [f]) ++ r.erase f = p ++ f :: r.erase f := by rw [List.append_assoc] <;> rfl
        rw [ea] at this
        exact this ff
/-- the first of all orders that fits is the greedy one -/
theorem least_topo {S : List (Stp α N)} {as : List α} (hn : as.Nodup) (ok : OkS S as) : (ord as as.length).find? (fitsS S) = topo S as.length as [] := by
  have e : out as ([] : List α) = as := by
    unfold out
    exact List.filter_eq_self.mpr fun a _ => by simp
  have := find_exts (S := S) (n := as.length) (p := []) hn ok (by rw [e]) (fun s _ h => by cases h)
  rw [ord_eq, this, e]
end Topo
/-! the ring -/
namespace Topo
variable {α : Type} [DecidableEq α] {N : Type}
structure RingOk (S W : List (Stp α N)) : Prop where
  ne : W ≠ []
  nd : (W.map fun s => s.2.2).Nodup
  link : ∀ (k : Nat) (s t : Stp α N), W[k]? = some s → W[(k + 1) % W.length]? = some t → s.2.2 = t.1
  sub : ∀ s ∈ W, s ∈ S
/-- steps found so far, from a letter up to c -/
structure RI (S : List (Stp α N)) (left : List α) (F : List (Stp α N)) (c : α) : Prop where
  nd : (F.map fun s => s.2.2).Nodup
  sub : ∀ x ∈ F.map fun s => s.2.2, x ∈ left
  cur : c ∈ left
  st : ∀ s ∈ F, s ∈ S
  link : ∀ (i : Nat) (s : Stp α N), F[i]? = some s → ((F.map fun s => s.2.2) ++ [c])[i + 1]? = some s.1
theorem RI.nil {S : List (Stp α N)} {left : List α} {c : α} (h : c ∈ left) : RI S left [] c := ⟨List.nodup_nil, (fun _ h => by cases h), h, (fun _ h => by cases h), (fun _ _ h => by cases h)⟩
theorem RI.next {S : List (Stp α N)} {left : List α} {F : List (Stp α N)} {c : α} {s : Stp α N} (h : RI S left F c) (hc : c ∉ F.map fun s => s.2.2) (h1 : s.2.2 = c) (h2 : s.1 ∈ left) (h3 : s ∈ S) : RI S left (F ++ [s]) s.1 := by
  have e : (F ++ [s]).map (fun s => s.2.2) = (F.map fun s => s.2.2) ++ [c] := by rw [List.map_append, List.map_singleton, h1]
  refine ⟨?_, ?_, h2, ?_, ?_⟩
  · rw [e, List.nodup_append]
    refine ⟨h.nd, by simp, fun a ha b hb q => ?_⟩
    rw [List.mem_singleton.mp hb] at q
    exact hc (q ▸ ha)
  · rw [e]
    intro x hx
    rcases List.mem_append.mp hx with hx | hx
    · exact h.sub x hx
    · rw [List.mem_singleton.mp hx]
      exact h.cur
  · intro x hx
    rcases List.mem_append.mp hx with hx | hx
    · exact h.st x hx
    · rw [List.mem_singleton.mp hx]
      exact h3
  · intro i t ht
    rw [e]
    by_cases hi : i < F.length
    · rw [List.getElem?_append_left hi] at ht
      rw [List.getElem?_append_left (by simp; omega)]
      exact h.link i t ht
    · rw [List.getElem?_append_right (by omega)] at ht
      have hz : i = F.length := by
        have := (List.getElem?_eq_some_iff.mp ht).1
        simp at this
        omega
      subst hz
      simp at ht
      subst ht
      rw [List.getElem?_append_right (by simp)]
      simp
theorem nd_le : ∀ {l m : List α}, l.Nodup → (∀ x ∈ l, x ∈ m) → l.length ≤ m.length
  | [], _, _, _ => Nat.zero_le _
  | a :: l, m, h, hs => by
    obtain ⟨h1, h2⟩ := List.nodup_cons.mp h
    have ha := hs a (List.mem_cons_self ..)
    have := nd_le (l := l) (m := m.erase a) h2 fun x hx => (List.mem_erase_of_ne fun q => h1 (by rw [← q]; exact hx)).mpr (hs x (List.mem_cons_of_mem _ hx))
    rw [List.length_erase_of_mem ha] at this
    have := List.length_pos_of_mem ha
    rw [List.length_cons]
    omega
theorem RI.le {S : List (Stp α N)} {left : List α} {F : List (Stp α N)} {c : α} (h : RI S left F c) : F.length ≤ left.length := by
  have := nd_le h.nd h.sub
  rw [List.length_map] at this
  exact this
theorem RI.ring {S : List (Stp α N)} {left : List α} {F : List (Stp α N)} {c : α} (h : RI S left F c) (hc : c ∈ F.map fun s => s.2.2) : RingOk S (F.drop (((F.map fun s => s.2.2) ++ [c]).idxOf c)).reverse := by
  have e0 : ((F.map fun s => s.2.2) ++ [c]).idxOf c = (F.map fun s => s.2.2).idxOf c := idx_in hc
  rw [e0]
  generalize hj : (F.map fun s => s.2.2).idxOf c = j
  have jl : j < F.length := by
    have := idx_lt hc
    rw [List.length_map, hj] at this
    exact this
  have jc : ∀ s, F[j]? = some s → s.2.2 = c := fun s hs => by
    have q : (F.map fun s => s.2.2)[j]? = some s.2.2 := by rw [List.getElem?_map, hs] <;> rfl
    have q2 : (F.map fun s => s.2.2)[j]? = some c := by
      have lt := idx_lt hc
      rw [hj] at lt
      rw [List.getElem?_eq_getElem lt]
      congr 1
      subst hj
      exact List.getElem_idxOf lt
    rw [q] at q2
    exact Option.some.inj q2
  have len : (F.drop j).reverse.length = F.length - j := by rw [List.length_reverse, List.length_drop]
  have at_ : ∀ k, k < F.length - j → (F.drop j).reverse[k]? = F[F.length - 1 - k]? := fun k hk => by
    rw [List.getElem?_reverse (by rw [List.length_drop]; exact hk), List.length_drop, List.getElem?_drop]
    congr 1
    omega
  refine ⟨?_, ?_, ?_, ?_⟩
  · intro q
    have := congrArg List.length q
    rw [len] at this
    have : F.length - j = 0 := this
    omega
  · rw [List.map_reverse, List.map_drop]
    exact (List.reverse_perm _).nodup_iff.mpr (h.nd.sublist (List.drop_sublist _ _))
  · intro k s t hs ht
    have hk : k < F.length - j := by
      have := (List.getElem?_eq_some_iff.mp hs).1
      rw [len] at this
      exact this
    rw [at_ k hk] at hs
    rw [len] at ht
    by_cases hl : k + 1 < F.length - j
    · rw [Nat.mod_eq_of_lt hl, at_ _ hl] at ht
      have q := h.link _ _ ht
      rw [show F.length - 1 - (k + 1) + 1 = F.length - 1 - k by omega, List.getElem?_append_left (by rw [List.length_map]; omega), List.getElem?_map, hs] at q
      exact Option.some.inj q
    · have ek : k + 1 = F.length - j := by omega
      rw [ek, Nat.mod_self, at_ 0 (by omega)] at ht
      have q := h.link _ _ ht
      rw [show F.length - 1 - 0 + 1 = F.length by omega, List.getElem?_append_right (by rw [List.length_map]; exact Nat.le_refl _), List.length_map, Nat.sub_self] at q
      have q : c = t.1 := Option.some.inj q
      rw [show F.length - 1 - k = j by omega] at hs
      rw [jc s hs]
      exact q
  · intro s hs
    exact h.st s (List.mem_of_mem_drop (List.mem_reverse.mp hs))
/-- a held letter has a step -/
theorem held_step {S : List (Stp α N)} {left : List α} {c : α} (h : heldIn S left c = true) : ∃ s r, S.filter (fun s => decide (s.2.2 = c) && decide (s.1 ∈ left)) = s :: r ∧ s ∈ S ∧ s.2.2 = c ∧ s.1 ∈ left := by
  obtain ⟨s, hs, hs2⟩ := List.any_eq_true.mp h
  rw [Bool.and_eq_true, decide_eq_true_iff, decide_eq_true_iff] at hs2
  cases e : S.filter (fun s => decide (s.2.2 = c) && decide (s.1 ∈ left)) with
  | nil =>
    have : s ∈ S.filter (fun s => decide (s.2.2 = c) && decide (s.1 ∈ left)) := List.mem_filter.mpr ⟨hs, by rw [decide_eq_true hs2.2, decide_eq_true hs2.1] <;> rfl⟩
    rw [e] at this
    cases this
  | cons t r =>
    have ht : t ∈ S.filter (fun s => decide (s.2.2 = c) && decide (s.1 ∈ left)) := by rw [e]; exact List.mem_cons_self ..
    obtain ⟨h1, h2⟩ := List.mem_filter.mp ht
    rw [Bool.and_eq_true, decide_eq_true_iff, decide_eq_true_iff] at h2
    exact ⟨t, r, rfl, h1, h2.1, h2.2⟩
theorem free_nil {S : List (Stp α N)} {left : List α} (h : free S left = []) {c : α} (hc : c ∈ left) : heldIn S left c = true := by
  have : c ∉ free S left := by rw [h]; exact List.not_mem_nil
  unfold free at this
  rw [List.mem_filter] at this
  simpa using fun q => this ⟨hc, q⟩
end Topo
namespace Lw
open PySem L2 TzR TL
/-! a comprehension of two clauses over walks -/
section
variable {J : It} {n : Nat} {G : Hp → Prop} {Y : Nat → Hp → V → Hp → Prop}
/-- the inner loop's due -/
abbrev In2 (J1 : It) (g1 : TG) (tt1 : TT) (te : TE) (vs1 : List Nat) (σ2 : St) (D : Addr) (Nx : Hp → Prop) (H4 : Hp) : Prop := ∃ W1 : Nat → Nat → Hp → Prop, (∃ m, W1 0 m H4) ∧ ∀ j k H, W1 j k H →
  (J1.stop j H ∧ Nx H) ∨ (J1.go j H ∧ ∃ Nx1 : Hp → Prop, (∀ H', Nx1 H' → ∃ k', k' < k ∧ W1 (j + 1) k' H') ∧ ∀ x H', J1.yld j H x H' → g1 x (wipe σ2 vs1) H' fun σ3 H5 => wipe σ3 vs1 = wipe σ2 vs1 ∧ tt1 σ3 H5 fun b H6 =>
    if b = true then te σ3 H6 fun y H7 => ∃ acc, H7 D = some (.lst acc) ∧ acc.length < sizeLine ∧ Nx1 (upd H7 D (.lst (acc ++ [y]))) else Nx1 H6)
theorem in2_it (w : Walk J n G Y) {g1 : TG} {tt1 : TT} {te : TE} {vs1 : List Nat} {σ2 : St} {H4 : Hp} {D : Addr} {Nx : Hp → Prop} (Pv : Nat → Hp → Prop) (h0 : Pv 0 H4) (hG : ∀ i H, i ≤ n → Pv i H → G H)
    (hs : ∀ i x H H', i < n → Pv i H → Y i H x H' → g1 x (wipe σ2 vs1) H' fun σ3 H5 => wipe σ3 vs1 = wipe σ2 vs1 ∧ tt1 σ3 H5 fun b H6 =>
      if b = true then te σ3 H6 fun y H7 => ∃ acc, H7 D = some (.lst acc) ∧ acc.length < sizeLine ∧ Pv (i + 1) (upd H7 D (.lst (acc ++ [y]))) else Pv (i + 1) H6) (hd : ∀ H, Pv n H → Nx H) : In2 J g1 tt1 te vs1 σ2 D Nx H4 := by
  refine ⟨fun i m H => m = n - i ∧ i ≤ n ∧ Pv i H, ⟨n, by simp, Nat.zero_le _, h0⟩, ?_⟩
  rintro i m H ⟨rfl, hi, p⟩
  have q := hG i H hi p
  by_cases hlt : i < n
  · refine .inr ⟨w.goes i H hlt q, Pv (i + 1), fun H' p' => ⟨n - (i + 1), by omega, rfl, hlt, p'⟩, fun x H' y => hs i x H H' hlt p (w.yields i H x H' hlt q y)⟩
  · have e : i = n := by omega
    subst e
    exact .inl ⟨w.stops H q, hd H p⟩
theorem out2_it (w : Walk J n G Y) {g : TG} {tt : TT} {wi1 : TI} {g1 : TG} {tt1 : TT} {te : TE} {vs vs1 : List Nat} {σ : St} {H1 : Hp} {D : Addr} {Qd : Hp → Prop} (Pv : Nat → Hp → Prop) (h0 : Pv 0 (upd H1 D (.lst []))) (hG : ∀ i H, i ≤ n → Pv i H → G H)
    (hs : ∀ i x H H', i < n → Pv i H → Y i H x H' → g x (wipe σ vs) H' fun σ2 H2 => wipe σ2 vs = wipe σ vs ∧ tt σ2 H2 fun b H3 =>
      if b = true then wi1 σ2 H3 fun J1 H4 => In2 J1 g1 tt1 te vs1 σ2 D (Pv (i + 1)) H4 else Pv (i + 1) H3) (hd : ∀ H, Pv n H → Qd H) :
    ∃ W : Nat → Nat → Hp → Prop, (∃ m, W 0 m (upd H1 D (.lst []))) ∧ ∀ i m H, W i m H →
      (J.stop i H ∧ Qd H) ∨ (J.go i H ∧ ∃ Nx : Hp → Prop, (∀ H', Nx H' → ∃ m', m' < m ∧ W (i + 1) m' H') ∧ ∀ x H', J.yld i H x H' → g x (wipe σ vs) H' fun σ2 H2 => wipe σ2 vs = wipe σ vs ∧ tt σ2 H2 fun b H3 =>
        if b = true then wi1 σ2 H3 fun J1 H4 => In2 J1 g1 tt1 te vs1 σ2 D Nx H4 else Nx H3) := by
  refine ⟨fun i m H => m = n - i ∧ i ≤ n ∧ Pv i H, ⟨n, by simp, Nat.zero_le _, h0⟩, ?_⟩
  rintro i m H ⟨rfl, hi, p⟩
  have q := hG i H hi p
  by_cases hlt : i < n
  · refine .inr ⟨w.goes i H hlt q, Pv (i + 1), fun H' p' => ⟨n - (i + 1), by omega, rfl, hlt, p'⟩, fun x H' y => hs i x H H' hlt p (w.yields i H x H' hlt q y)⟩
  · have e : i = n := by omega
    subst e
    exact .inl ⟨w.stops H q, hd H p⟩
end
/-! a comprehension with a test, over data -/
def InvF {α : Type} (H0 : Hp) (D : Addr) (f : α → V) (p : α → Bool) (zs : List α) (i : Nat) (H : Hp) : Prop := H D = some (.lst (((zs.take i).filter p).map f)) ∧ Same H0 H
theorem InvF.no {α : Type} {H0 H : Hp} {D : Addr} {f : α → V} {p : α → Bool} {zs : List α} {i : Nat} {z : α} (h : InvF H0 D f p zs i H) (e : zs[i]? = some z) (hp : p z = false) : InvF H0 D f p zs (i + 1) H := by
  refine ⟨?_, h.2⟩
  rw [h.1, List.take_succ, e, List.filter_append]
  show _ = some (HO.lst (List.map f (_ ++ List.filter p [z])))
  rw [List.filter_cons, hp]
  show _ = some (HO.lst (List.map f (_ ++ [])))
  rw [List.append_nil]
theorem InvF.yes {α : Type} {H0 H H' : Hp} {D : Addr} {f : α → V} {p : α → Bool} {zs : List α} {i : Nat} {z : α} (hd : H0 D = none) (g : Same H0 H') (e : zs[i]? = some z) (hp : p z = true) : InvF H0 D f p zs (i + 1) (upd H' D (.lst (((zs.take i).filter p).map f ++ [f z]))) := by
  refine ⟨?_, same_over g hd _⟩
  rw [upd_same, List.take_succ, e, List.filter_append]
  show _ = some (HO.lst (List.map f (_ ++ List.filter p [z])))
  rw [List.filter_cons, hp, List.map_append]
  rfl
theorem InvF.len {α : Type} {f : α → V} {p : α → Bool} {zs : List α} {i : Nat} (h : zs.length ≤ 1000) : (((zs.take i).filter p).map f).length < sizeLine := by
  rw [List.length_map]
  have := List.length_filter_le p (zs.take i)
  rw [List.length_take] at this
  exact small1000 (by omega)
theorem keptP {σ : St} {H : Hp} {A S : Hp → Prop} (h : A H) : tYes σ H fun b H3 => if b = true then A H3 else S H3 := iteT (A := A H) (B := S H) h
theorem dstr (a b : Str) : decide (V.str a = V.str b) = decide (a = b) := decide_eq_decide.mpr ⟨fun e => by injection e, fun e => by rw [e]⟩
/-- l.index(x) of texts -/
theorem ix_str {od : List Str} {x : Str} (h : x ∈ od) : ∃ z : V, (od.map V.str)[od.idxOf x]? = some z ∧ eqV z (.str x) = true ∧ ∀ (m : Nat) (z' : V), m < od.idxOf x → (od.map V.str)[m]? = some z' → eqV z' (.str x) = false := by
  obtain ⟨i1, i2⟩ := idx_at h
  refine ⟨.str x, by rw [List.getElem?_map, i1] <;> rfl, beq_self_eq_true x, fun m z' hm e => ?_⟩
  obtain ⟨y, ey, rfl⟩ := at_map e
  show (y == x) = false
  exact beq_eq_false_iff_ne.mpr fun q => i2 m hm (by rw [ey, q])
theorem cut_drop (xs : List V) (i : Nat) (h : i ≤ xs.length) : cutV xs (some (i : Int)) none = xs.drop i := by
  unfold cutV
  rw [sIx_nat, sIx_none, Nat.min_eq_left h, List.take_of_length_le (by rw [List.length_drop]; exact Nat.le_refl _)]
theorem cut_last (xs : List V) (x : V) : cutV (xs ++ [x]) none (some (-1)) = xs := by
  unfold cutV
  have e : HT.sIx (xs ++ [x]).length (xs ++ [x]).length (some (-1)) = xs.length := by
    show (if (-1 : Int) < 0 then ((-1 : Int) + ((xs ++ [x]).length : Int)).toNat else min (-1 : Int).toNat (xs ++ [x]).length) = xs.length
    rw [if_pos (by decide), List.length_append, List.length_singleton]
    omega
  rw [e, sIx_none, List.drop_zero, Nat.sub_zero, List.take_append_of_le_length (Nat.le_refl _), List.take_length]
/-! steps -/
abbrev Stp := Str × Nat × Str
def TripAt (K : PySem.W.Frag) (H : Hp) (v : V) (s : Stp) : Prop := ∃ a : Addr, v = .ref a ∧ SqT K H a [.str s.1, .int (s.2.1 : Nat), .str s.2.2]
theorem TripAt.mono {K : PySem.W.Frag} {H H' : Hp} (g : TK K H H') {v : V} {s : Stp} : TripAt K H v s → TripAt K H' v s
  | ⟨a, e, h⟩ => ⟨a, e, g _ _ h⟩
/-- values and the steps that they show -/
def TripsL (K : PySem.W.Frag) (H : Hp) (L : List (V × Stp)) : Prop := ∀ q ∈ L, TripAt K H q.1 q.2
theorem TripsL.mono {K : PySem.W.Frag} {H H' : Hp} (g : TK K H H') {L : List (V × Stp)} (h : TripsL K H L) : TripsL K H' L := fun q hq => (h q hq).mono g
theorem TripsL.app {K : PySem.W.Frag} {H : Hp} {L M : List (V × Stp)} (h : TripsL K H L) (h2 : TripsL K H M) : TripsL K H (L ++ M) := fun q hq => (List.mem_append.mp hq).elim (h q) (h2 q)
theorem TripsL.one {K : PySem.W.Frag} {H : Hp} {v : V} {s : Stp} (h : TripAt K H v s) : TripsL K H [(v, s)] := fun q hq => by rw [List.mem_singleton.mp hq]; exact h
/-- a new list of steps at D -/
def StepsAt (K : PySem.W.Frag) (H : Hp) (D : Addr) (S : List Stp) : Prop := ∃ L : List (V × Stp), H D = some (.lst (L.map Prod.fst)) ∧ L.map Prod.snd = S ∧ TripsL K H L
theorem StepsAt.same {K : PySem.W.Frag} {H H' : Hp} {D : Addr} {S : List Stp} (g : Same H H') : StepsAt K H D S → StepsAt K H' D S
  | ⟨L, h1, h2, h3⟩ => ⟨L, g _ _ h1, h2, h3.mono (.of g)⟩
/-! a use as data: name, letters, pairs -/
abbrev Ux := Str × List Str × List (Str × Int)
def lvs (x : Ux) : List Str := x.2.2.map (letAt x.2.1)
structure GoodU (x : Ux) : Prop where
  good : Good x.2.2 x.2.1.length
  len : x.2.1.length ≤ 3
  nd : x.2.1.Nodup
/-- the steps of a level -/
def stLv (x : Ux) (n i : Nat) : List Stp := if (x.2.2.getD i ("", 0)).1 = "packed" then ((lvs x).take i).map fun u => (u, n, letAt x.2.1 (x.2.2.getD i ("", 0))) else []
def stUse (x : Ux) (n : Nat) : List Stp := (List.range x.2.2.length).flatMap (stLv x n)
def stAll (xs : List Ux) : List Stp := (List.range xs.length).flatMap fun n => stUse (xs.getD n ("", [], [])) n
theorem GoodU.ll {x : Ux} (h : GoodU x) : x.2.2.length = x.2.1.length := h.good.1
theorem GoodU.l3 {x : Ux} (h : GoodU x) : x.2.2.length ≤ 3 := by rw [h.ll]; exact h.len
theorem iota_mem {n : Nat} {i : Int} : i ∈ iota n ↔ 0 ≤ i ∧ i < (n : Int) := by
  unfold iota
  rw [List.mem_map]
  constructor
  · rintro ⟨j, hj, rfl⟩
    rw [List.mem_range] at hj
    omega
  · rintro ⟨h1, h2⟩
    exact ⟨i.toNat, List.mem_range.mpr (by omega), by omega⟩
theorem GoodU.ax {x : Ux} (h : GoodU x) : ∀ p ∈ x.2.2, 0 ≤ p.2 ∧ p.2 < (x.2.1.length : Int) := fun p hp => iota_mem.mp (h.good.2.2.mem_iff.mp (List.mem_map.mpr ⟨p, hp, rfl⟩))
theorem letAt_mem {ls : List Str} {p : Str × Int} (h : 0 ≤ p.2 ∧ p.2 < (ls.length : Int)) : letAt ls p ∈ ls := by
  unfold letAt
  have lt : p.2.toNat < ls.length := by omega
  rw [List.getD_eq_getElem?_getD, List.getElem?_eq_getElem lt]
  exact List.getElem_mem lt
theorem GoodU.lv_mem {x : Ux} (h : GoodU x) {z : Str} (hz : z ∈ lvs x) : z ∈ x.2.1 := by
  obtain ⟨p, hp, rfl⟩ := List.mem_map.mp hz
  exact letAt_mem (h.ax p hp)
theorem iota_nd (n : Nat) : (iota n).Nodup := by
  unfold iota
  exact List.pairwise_map.mpr (List.nodup_range.imp fun {a b} ne e => ne (by have e : (a : Int) = b := e; omega))
theorem GoodU.lv_nd {x : Ux} (h : GoodU x) : (lvs x).Nodup := by
  have h1 : lvs x = (x.2.2.map (·.2)).map fun i : Int => x.2.1.getD i.toNat Str.empty := by
    unfold lvs
    rw [List.map_map]
    rfl
  have h2 : (x.2.2.map (·.2)).Nodup := h.good.2.2.nodup_iff.mpr (iota_nd _)
  rw [h1]
  refine List.pairwise_map.mpr (h2.imp_of_mem fun {a b} ha hb ne e => ?_)
  have ma := iota_mem.mp (h.good.2.2.mem_iff.mp ha)
  have mb := iota_mem.mp (h.good.2.2.mem_iff.mp hb)
  have la : a.toNat < x.2.1.length := by omega
  have lb : b.toNat < x.2.1.length := by omega
  rw [List.getD_eq_getElem?_getD, List.getElem?_eq_getElem la, List.getD_eq_getElem?_getD, List.getElem?_eq_getElem lb] at e
  have e : x.2.1[a.toNat] = x.2.1[b.toNat] := e
  have := (List.getElem_inj h.nd).mp e
  omega
theorem st_mem {x : Ux} {n : Nat} {s : Stp} : s ∈ stUse x n ↔ ∃ (i j : Nat) (p : Str × Int), x.2.2[i]? = some p ∧ p.1 = "packed" ∧ j < i ∧ (lvs x)[j]? = some s.1 ∧ s.2.1 = n ∧ s.2.2 = letAt x.2.1 p := by
  unfold stUse stLv
  rw [List.mem_flatMap]
  constructor
  · rintro ⟨i, hi, hs⟩
    rw [List.mem_range] at hi
    have ei := List.getElem?_eq_getElem hi
    rw [List.getD_eq_getElem?_getD, ei] at hs
    by_cases c : (x.2.2[i]).1 = "packed"
    · rw [show (some x.2.2[i]).getD ("", 0) = x.2.2[i] from rfl, if_pos c] at hs
      obtain ⟨u, hu, rfl⟩ := List.mem_map.mp hs
      obtain ⟨j, hj, eu⟩ := List.mem_iff_getElem.mp hu
      rw [List.length_take] at hj
      refine ⟨i, j, _, ei, c, by omega, ?_, rfl, rfl⟩
      rw [List.getElem_take] at eu
      rw [← eu]
      exact List.getElem?_eq_getElem _
    · rw [show (some x.2.2[i]).getD ("", 0) = x.2.2[i] from rfl, if_neg c] at hs
      cases hs
  · rintro ⟨i, j, p, ei, c, hj, eu, e1, e2⟩
    have hi : i < x.2.2.length := (List.getElem?_eq_some_iff.mp ei).1
    refine ⟨i, List.mem_range.mpr hi, ?_⟩
    rw [List.getD_eq_getElem?_getD, ei, show (some p).getD ("", 0) = p from rfl, if_pos c]
    refine List.mem_map.mpr ⟨s.1, ?_, ?_⟩
    · refine List.mem_of_getElem? (i := j) ?_
      rw [List.getElem?_take, if_pos hj]
      exact eu
    · rw [← e1, ← e2]
theorem st_ok {x : Ux} (h : GoodU x) {n : Nat} {s : Stp} (hs : s ∈ stUse x n) : s.1 ∈ x.2.1 ∧ s.2.2 ∈ x.2.1 ∧ s.1 ≠ s.2.2 := by
  obtain ⟨i, j, p, ei, c, hj, eu, e1, e2⟩ := st_mem.mp hs
  have hp := h.ax p (List.mem_of_getElem? ei)
  refine ⟨h.lv_mem (List.mem_of_getElem? eu), by rw [e2]; exact letAt_mem hp, fun e => ?_⟩
  have el : (lvs x)[i]? = some (letAt x.2.1 p) := by
    unfold lvs
    rw [List.getElem?_map, ei] <;> rfl
  rw [← e2, ← e] at el
  obtain ⟨l1, l2⟩ := List.getElem?_eq_some_iff.mp eu
  obtain ⟨l3, l4⟩ := List.getElem?_eq_some_iff.mp el
  have := (List.getElem_inj h.lv_nd (h₀ := l1) (h₁ := l3)).mp (by rw [l2, l4])
  omega
theorem stAll_mem {xs : List Ux} {s : Stp} : s ∈ stAll xs ↔ ∃ x, xs[s.2.1]? = some x ∧ s ∈ stUse x s.2.1 := by
  unfold stAll
  rw [List.mem_flatMap]
  constructor
  · rintro ⟨n, hn, hs⟩
    rw [List.mem_range] at hn
    rw [List.getD_eq_getElem?_getD, List.getElem?_eq_getElem hn] at hs
    obtain ⟨i, j, p, _, _, _, _, e1, _⟩ := st_mem.mp hs
    refine ⟨xs[n], by rw [e1]; exact List.getElem?_eq_getElem hn, by rw [e1]; exact hs⟩
  · rintro ⟨x, ex, hs⟩
    refine ⟨s.2.1, List.mem_range.mpr (List.getElem?_eq_some_iff.mp ex).1, ?_⟩
    rw [List.getD_eq_getElem?_getD, ex]
    exact hs
theorem stLv_len (x : Ux) (n i : Nat) : (stLv x n i).length ≤ i := by
  unfold stLv
  split
  · rw [List.length_map, List.length_take]
    omega
  · exact Nat.zero_le _
theorem range_flat {α : Type} (f : Nat → List α) (i : Nat) : (List.range (i + 1)).flatMap f = (List.range i).flatMap f ++ f i := by
  rw [List.range_succ, List.flatMap_append, List.flatMap_singleton]
theorem flat_le {α : Type} {f : Nat → List α} {c : Nat} : ∀ {n : Nat}, (∀ i, i < n → (f i).length ≤ c) → ((List.range n).flatMap f).length ≤ n * c
  | 0, _ => by simp
  | n + 1, h => by
    rw [range_flat, List.length_append]
    have a := flat_le (n := n) fun i hi => h i (by omega)
    have b := h n (by omega)
    rw [Nat.succ_mul]
    omega
theorem stUse_len {x : Ux} (h : GoodU x) (n : Nat) : (stUse x n).length ≤ 9 := by
  have a := flat_le (f := stLv x n) (c := 3) (n := x.2.2.length) fun i hi => by
    have := stLv_len x n i
    have := h.l3
    omega
  have := h.l3
  unfold stUse
  omega
/-- a walk over a tuple with the places -/
def YEn (xs : Nat → Option V) : Nat → Hp → V → Hp → Prop := fun i H v H' => ∃ (T : Addr) (x : V), v = .ref T ∧ H T = none ∧ H' = upd H T (.tup [.int (i : Nat), x]) ∧ xs i = some x
theorem walk_enT {K : PySem.W.Frag} {a : Addr} {xs : List V} : Walk (EnT.IteT K a) xs.length (fun H => SqT K H a xs) (YEn fun i => xs[i]?) where
  goes := fun i _ hi q => ⟨xs, xs[i], q, List.getElem?_eq_getElem hi⟩
  stops := fun _ q => ⟨xs, q, rfl⟩
  yields := fun i H v H' _ q ⟨T, x, h1, h2, h3, h4⟩ => ⟨T, x, h1, h2, h3, h4 xs q⟩
theorem walk_enL {K : PySem.W.Frag} {a : Addr} {xs : List V} : Walk (Ite K a) xs.length (fun H => SqL K H a xs) (YEn fun i => xs[i]?) where
  goes := fun i _ hi q => ⟨xs, xs[i], q, List.getElem?_eq_getElem hi⟩
  stops := fun _ q => ⟨xs, q, Nat.le_refl _⟩
  yields := fun i H v H' _ q ⟨T, x, h1, h2, h3, h4⟩ => ⟨T, x, h1, h2, h3, h4 xs q⟩
theorem at_mapG {α β : Type} {g : α → β} {l : List α} {i : Nat} {x : β} (h : (l.map g)[i]? = some x) : ∃ a, l[i]? = some a ∧ x = g a := by
  rw [List.getElem?_map] at h
  cases e : l[i]? with
  | none => rw [e] at h; cases h
  | some a =>
    rw [e] at h
    exact ⟨a, rfl, (Option.some.inj h).symm⟩
/-- a def of the text, by its promise -/
structure Ca (P : Program) (w : World) (K : PySem.W.Frag) (mg : Str → Option Value) (base : Heap) (n : Nat) (x : Str) (ps : List Str) (sp : Sp) : Prop where
  ex : ∃ (g : Addr) (gd : FuncData), FnOk P w K mg base CX0 n g gd ps sp ∧ Binds K gd ps [] ∧ PySem.W.keepIn K (.ref g) = true ∧ mg x = some (.ref g)
structure DFn (K : PySem.W.Frag) (mg : Str → Option Value) (x : Str) (s : Stmt) (ps : List Str) : Prop where
  ex : ∃ (g : Addr) (gd : FuncData), Fun K x x s g gd ∧ Binds K gd ps [] ∧ PySem.W.keepIn K (.ref g) = true ∧ mg x = some (.ref g)
section
variable {X : Cx} {k j : Nat} {x m : Str} {ps : List Str} {sp : Sp} {p pos : Pos} {e : Expr} {es : List Expr} {t : TA}
theorem pca (c : Ca X.prog X.w X.K X.mg X.base k x ps sp) (hr : Room j X.A) (hk : k ≤ j) (hg : Gl X x) (ha : PA X (e :: es) t)
    (hdb : (x == ("__debug__" : Str)) = false := by decide) (he : starEach (e :: es) X.env = (false, eval e X.env) :: starEach es X.env := by rfl) (hpl : (backTo pos (starEach es X.env)).any (·.1) = false := by rfl) :
    PE X (.Call (.Name x p) (e :: es) [] pos) (tCall sp [] E0 t) := by
  obtain ⟨f, fd, F, b, kp, hm⟩ := c.ex
  exact pe_call F (hr.mono hk) hg hm kp b .nil pass0 ha hdb he hpl
end
section
variable {P : Program} {w : World} {K : PySem.W.Frag} {mg : Str → Option Value} {base : Heap} {x : Str} {s : Stmt} {ps : List Str} {n : Nat} {sp : Sp}
theorem DFn.ca (h : DFn K mg x s ps) (k : ∀ (f : Addr) (fd : FuncData), Fun K x x s f fd → FnOk P w K mg base CX0 n f fd ps sp) : Ca P w K mg base n x ps sp := by
  obtain ⟨g, gd, F, b, kp, m⟩ := h.ex
  exact ⟨g, gd, k g gd F, b, kp, m⟩
end
end Lw
namespace Lw
open PySem L2 TzR TL
/-! the program's level_letters, use_steps -/
structure Uy (K : PySem.W.Frag) (U C : Addr) : Prop where
  us : Us K U C
  nA : PySem.W.findIn K (.ref C) "axes" = some none
/-- the program's use -/
def MUse (K : PySem.W.Frag) (U C : Addr) (H : Hp) (p : Addr) (x : Ux) : Prop := ∃ q, UseAt K U C H p x.1 x.2.1 q (x.2.2.map (·.1)) (x.2.2.map (·.2))
theorem MUse.same {K : PySem.W.Frag} {U C : Addr} {H H' : Hp} {p : Addr} {x : Ux} (g : Same H H') : MUse K U C H p x → MUse K U C H' p x
  | ⟨q, h⟩ => ⟨q, h.same g⟩
abbrev s_level_letters : Stmt := topS 18
abbrev n_level_letters : List Str := ["use", "axis"]
theorem sc_level_letters : FnScope n_level_letters ["use"] (defScope s_level_letters) := ⟨rfl, rfl, rfl, by decide +kernel, rfl, by decide +kernel, by decide +kernel⟩
def spPLv (K : PySem.W.Frag) (U C : Addr) : Sp := fun vs H Q _ => ∃ (p : Addr) (x : Ux), vs = [.ref p] ∧ MUse K U C H p x ∧ GoodU x ∧ ∀ (D : Addr) (H' : Hp), Same H H' → H D = none → H' D = some (.lst ((lvs x).map V.str)) → Q (.ref D) H'
section
variable {P : Program} {w : World} {K : PySem.W.Frag} {mg : Str → Option Value} {base : Heap} {U C f : Addr} {fd : FuncData}
theorem ok_level_letters (F : Fun K "level_letters" "level_letters" s_level_letters f fd) (Y : Uy K U C) : FnOk P w K mg base CX0 1 f fd ["use"] (spPLv K U C) := by
  refine F.ok sc_level_letters (fun vs H Q E h => ?_) (fun cdv A outer s H vs Q E hr h => ?_)
  · obtain ⟨p, x, rfl, _⟩ := h
    rfl
  obtain ⟨p, x, rfl, ⟨q, dx, tl, h1, h2, ⟨dq, tk, ta, h3, h4, h5⟩⟩, hx, k⟩ := h
  obtain ⟨Uc, nA⟩ := Y
  refine ⟨_, (pss_one (ps_ret (pe_lc (own := [("axis", 1)]) (g := (gName 1)) (tt := tYes) (te := tOp (rIxT K) (tFld K (tVar 0) "letters") (tVar 1)) rfl sc_level_letters.nd (pi_tup (pe_fld (pe_fld (pv 0) rfl) rfl)) (blkOk_by (N := n_level_letters) (sc := defScope s_level_letters) (by decide +kernel)) (fun _ _ _ _ _ => (pg_name (i := 1) sc_level_letters.nd rfl (Or.inl rfl))) (fun _ _ _ _ _ => pts_nil) (fun _ _ _ _ _ => (pe_ix ix_tup (pe_fld (pv 0) rfl) (pv 1) (fun _ _ => rfl)))))), ?_⟩
  refine ⟨_, rfl, p, U, dx, _, _, rfl, h1, Uc.cl, Uc.nF, rfl, q, C, dq, _, _, rfl, h3, Uc.clC, nA, flds_a _ _, ta, rfl, ⟨_, h5⟩, fun D hD => ?_⟩
  refine lc_tup (K := K) (a := ta) (xs := (x.2.2.map (·.2)).map V.int) (InvM H D (fun p : Str × Int => V.str (letAt x.2.1 p)) x.2.2) ⟨upd_same, same_new hD _⟩ (fun i H' _ ⟨_, g⟩ => seqT g h5) (fun j y H' hy hv => ?_) ?_
  · rw [List.map_map] at hy
    obtain ⟨pz, ez, rfl⟩ := at_map hy
    obtain ⟨p0, p1⟩ := hx.ax _ (List.mem_of_getElem? ez)
    have lt : pz.2.toNat < x.2.1.length := by omega
    have ea : atI (x.2.1.map V.str) pz.2 = some (.str (letAt x.2.1 pz)) := by
      have z := atI_nat (xs := x.2.1.map V.str) (j := pz.2.toNat) (v := .str (letAt x.2.1 pz)) (by rw [List.getElem?_map, List.getElem?_eq_getElem lt]; unfold letAt; rw [List.getD_eq_getElem?_getD, List.getElem?_eq_getElem lt] <;> rfl)
      rw [show ((pz.2.toNat : Nat) : Int) = pz.2 by omega] at z
      exact z
    refine ⟨rfl, kept ⟨_, rfl, p, U, dx, _, _, rfl, hv.2 _ _ h1, Uc.cl, Uc.nL, rfl, _, rfl, tl, _, _, _, rfl, rfl, (tzS hv.2 h2).seq, ea, ?_⟩⟩
    exact ⟨_, hv.1, len_m (by have := hx.l3; omega), InvM.next (f := fun p : Str × Int => V.str (letAt x.2.1 p)) hD hv.2 ez _ rfl⟩
  rintro H' ⟨hd, g⟩
  rw [List.take_of_length_le (by rw [List.length_map, List.length_map]; exact Nat.le_refl _)] at hd
  exact k D H' g hD (by rw [hd]; unfold lvs; rw [List.map_map] <;> rfl)
abbrev s_use_steps : Stmt := topS 20
abbrev n_use_steps : List Str := ["number", "use", "letters", "level", "kind", "upper"]
theorem sc_use_steps : FnScope n_use_steps ["number", "use"] (defScope s_use_steps) := ⟨rfl, rfl, rfl, by decide +kernel, rfl, by decide +kernel, by decide +kernel⟩
def spUSt (K : PySem.W.Frag) (U C : Addr) : Sp := fun vs H Q _ => ∃ (p : Addr) (x : Ux) (n : Nat), vs = [.int (n : Nat), .ref p] ∧ MUse K U C H p x ∧ GoodU x ∧ ∀ (D : Addr) (H' : Hp), Same H H' → H D = none → StepsAt K H' D (stUse x n) → Q (.ref D) H'
theorem ok_use_steps (F : Fun K "use_steps" "use_steps" s_use_steps f fd) (Y : Uy K U C) (B2 : Bx mg) (cL : Ca P w K mg base 1 "level_letters" ["use"] (spPLv K U C)) : FnOk P w K mg base CX0 2 f fd ["number", "use"] (spUSt K U C) := by
  refine F.ok sc_use_steps (fun vs H Q E h => ?_) (fun cdv A outer s H vs Q E hr h => ?_)
  · obtain ⟨p, x, n, rfl, _⟩ := h
    rfl
  obtain ⟨p, x, n, rfl, hM, hx, k⟩ := h
  obtain ⟨Uc, nA⟩ := Y
  refine ⟨_, (pss_cons (ps_set (i := 2) sc_use_steps.nd rfl (Or.inr rfl) (pca cL hr (by decide) rfl (pa_cons (pv 1) pa_nil)))
(pss_one (ps_ret (pe_lc2 (own := [("level", 3), ("kind", 4), ("upper", 5)]) (vs1 := [5]) (g := (gTup K 2 (gCons (gName 3) (gCons (gName 4) gNil)))) (g1 := (gName 5)) (tt := tTest (tOp rEq (tVar 4) (tC (.str "packed")))) (tt1 := tYes) (wi1 := iList K (tSl (rSlL K) (tVar 2) tNoPart (tPart (tVar 3)))) (te := tTup (tCons (tVar 5) (tCons (tVar 0) (tCons (tOp (rIxL K) (tVar 2) (tVar 3)) tNil)))) rfl sc_use_steps.nd (EnT.pi_enumT (by rfl) B2.enum (pa_cons (pe_fld (pe_fld (pv 1) rfl) rfl) pa_nil)) (blkOk_by (N := n_use_steps) (sc := defScope s_use_steps) (by decide +kernel)) (by decide) (fun _ _ _ _ _ => (pg_tup rfl (pgs_cons (pg_name (i := 3) sc_use_steps.nd rfl (Or.inl rfl)) (pgs_cons (pg_name (i := 4) sc_use_steps.nd rfl (Or.inl rfl)) pgs_nil)))) (fun _ _ _ _ _ => (pts_one (pt_cmpR op_eq (pv 4) pe_str (nomark _)))) (fun _ _ _ _ _ => (pi_list (pe_slice sl_list (pv 2) po_none (po_some (pv 3))))) (fun _ _ _ _ _ => (pg_name (i := 5) sc_use_steps.nd rfl (Or.inl rfl))) (fun _ _ _ _ _ => pts_nil) (fun _ _ _ _ _ => (pe_tup (pa_cons (pv 5) (pa_cons (pv 0) (pa_cons (pe_ix ix_list (pv 2) (pv 3) (fun _ _ => rfl)) pa_nil))))))))), ?_⟩
  refine ⟨_, rfl, p, x, rfl, hM, hx, fun D H1 g1 hD0 hD => ?_⟩
  obtain ⟨q, dx, tl, h1, h2, ⟨dq, tk, ta, h3, h4, h5⟩⟩ := hM.same g1
  refine ⟨_, rfl, p, U, dx, _, _, rfl, h1, Uc.cl, Uc.nF, rfl, q, C, dq, _, _, rfl, h3, Uc.clC, Uc.nK, flds_k _ _, tk, _, rfl, h4, fun M hM => ?_⟩
  have gM := same_new hM (.lst [])
  have l3 := hx.l3
  have ll : (lvs x).length = x.2.2.length := by unfold lvs; rw [List.length_map]
  refine out2_it (walk_enT (K := K) (a := tk) (xs := (x.2.2.map (·.1)).map V.str)) (fun i H' => ∃ L : List (V × Stp), H' M = some (.lst (L.map Prod.fst)) ∧ L.map Prod.snd = (List.range i).flatMap (stLv x n) ∧ TripsL K H' L ∧ Same H1 H') ⟨[], upd_same, rfl, (fun _ h => by cases h), gM⟩ (fun i H' _ ⟨_, _, _, _, g⟩ => seqT g h4) (fun i y H2 H3 hi hv hy => ?_) ?_
  · obtain ⟨T, y', rfl, hT, rfl, hyx⟩ := hy
    obtain ⟨L, v1, v2, v3, v4⟩ := hv
    rw [List.map_map] at hyx
    have hyx : (x.2.2.map fun p => V.str p.1)[i]? = some y' := hyx
    obtain ⟨pz, ez, rfl⟩ := at_map hyx
    have il := (List.getElem?_eq_some_iff.mp ez).1
    have gT := same_new hT (.tup [.int (i : Nat), .str pz.1])
    have est : stLv x n i = if pz.1 = "packed" then ((lvs x).take i).map fun u => (u, n, letAt x.2.1 pz) else [] := by
      unfold stLv
      rw [List.getD_eq_getElem?_getD, ez]
      rfl
    have lenL : L.length ≤ i * 3 := by
      have e := congrArg List.length v2
      rw [List.length_map] at e
      rw [e]
      exact flat_le fun j hj => by have := stLv_len x n j; omega
    refine ⟨T, _, rfl, SqT.of upd_same, rfl, _, _, rfl, _, _, rfl, rfl, rfl, ?_⟩
    refine ⟨_, rfl, rfl, _, rfl, ?_⟩
    show ite (decide (V.str pz.1 = V.str ("packed" : Str)) = true) _ _
    rw [dstr]
    by_cases c : pz.1 = "packed"
    · rw [if_pos c] at est
      rw [decide_eq_true c]
      refine iteT ?_
      have hD3 := (v4.trans gT) _ _ hD
      refine ⟨_, rfl, _, rfl, _, rfl, D, _, rfl, SqL.of hD3, fun p2 hp2 => ?_⟩
      have ecut : cutV ((lvs x).map V.str) none (some (i : Int)) = ((lvs x).take i).map V.str := by
        rw [cut_take _ _ (by rw [List.length_map]; omega), List.map_take]
      rw [ecut]
      have gp := same_new hp2 (.lst (((lvs x).take i).map V.str))
      have g0 := v4.trans (gT.trans gp)
      refine ⟨p2, rfl, ⟨_, SqL.of upd_same⟩, in2_it (walk_list (K := K) (a := p2) (xs := ((lvs x).take i).map V.str)) (fun j H' => ∃ L : List (V × Stp), H' M = some (.lst (L.map Prod.fst)) ∧ L.map Prod.snd = (List.range i).flatMap (stLv x n) ++ ((lvs x).take j).map (fun u => (u, n, letAt x.2.1 pz)) ∧ TripsL K H' L ∧ Same H1 H' ∧ H' p2 = some (.lst (((lvs x).take i).map V.str)))
        ⟨L, gp _ _ (gT _ _ v1), by rw [v2, List.take_zero, List.map_nil, List.append_nil], v3.mono (.of (gT.trans gp)), g0, upd_same⟩ (fun j H' _ ⟨_, _, _, _, _, g⟩ => SqL.of g) (fun j y H4 H5 hj hv4 hy4 => ?_) ?_⟩
      · obtain ⟨rfl, hy4⟩ := hy4
        obtain ⟨z, ez2, rfl⟩ := at_map hy4
        obtain ⟨L2, w1, w2, w3, w4, w5⟩ := hv4
        have hji : j < i := by
          have := (List.getElem?_eq_some_iff.mp ez2).1
          rw [List.length_take] at this
          omega
        rw [List.getElem?_take, if_pos hji] at ez2
        have ei : atI ((lvs x).map V.str) (i : Int) = some (.str (letAt x.2.1 pz)) := by
          refine atI_nat (j := i) ?_
          unfold lvs
          rw [List.map_map, List.getElem?_map, ez]
          rfl
        refine ⟨rfl, kept ⟨_, rfl, _, rfl, _, rfl, _, rfl, D, _, (i : Int), _, rfl, rfl, SqL.of (w4 _ _ hD), ei, (by show 3 ≤ sizeLine; decide), fun t ht => ?_⟩⟩
        have gt := same_new ht (.tup [.str z, .int (n : Nat), .str (letAt x.2.1 pz)])
        have lenL2 : L2.length ≤ 1000 := by
          have e := congrArg List.length w2
          rw [List.length_map, List.length_append, List.length_map, List.length_take] at e
          have e0 := congrArg List.length v2
          rw [List.length_map] at e0
          omega
        have nt : M ≠ t := ne_of_none w1 ht
        have pM : p2 ≠ M := fun e => by
          rw [e] at hp2
          rw [gT _ _ v1] at hp2
          cases hp2
        refine ⟨_, gt _ _ w1, by rw [List.length_map]; exact small1000 lenL2, L2 ++ [(.ref t, (z, n, letAt x.2.1 pz))], by rw [upd_same, List.map_append] <;> rfl, ?_, ?_, same_over (w4.trans gt) (hM) _, by rw [upd_ne pM]; exact gt _ _ w5⟩
        · rw [List.map_append, w2, List.take_succ, ez2, List.map_append, List.append_assoc] <;> rfl
        · have gl : TK K (upd H5 t (.tup [.str z, .int (n : Nat), .str (letAt x.2.1 pz)])) (upd (upd H5 t (.tup [.str z, .int (n : Nat), .str (letAt x.2.1 pz)])) M (.lst (L2.map Prod.fst ++ [.ref t]))) := TK.lst (gt _ _ w1)
          exact ((w3.mono (.of gt)).mono gl).app (.one ⟨t, rfl, gl _ _ (SqT.of upd_same)⟩)
      · rintro H4 ⟨L2, w1, w2, w3, w4, w5⟩
        rw [List.length_map, List.length_take, Nat.min_eq_left (by omega)] at w2
        exact ⟨L2, w1, by rw [range_flat, est]; exact w2, w3, w4⟩
    · rw [if_neg c] at est
      rw [decide_eq_false c]
      exact iteF ⟨L, gT _ _ v1, by rw [range_flat, est, List.append_nil]; exact v2, v3.mono (.of gT), v4.trans gT⟩
  · rintro H2 ⟨L, v1, v2, v3, v4⟩
    rw [List.length_map, List.length_map] at v2
    exact k M H2 (g1.trans v4) (g1.free hM) ⟨L, v1, v2, v3⟩
end
end Lw
namespace Lw
open PySem L2 TzR TL
/-! the program's steps_of -/
def ux0 : Ux := ("", [], [])
def stOf (xs : List Ux) (ns : List Nat) : List Stp := ns.flatMap fun n => stUse (xs.getD n ux0) n
theorem stOf_all (xs : List Ux) : stOf xs (List.range xs.length) = stAll xs := rfl
/-- the program's uses, place by place -/
def MUses (K : PySem.W.Frag) (U C : Addr) (H : Hp) (vs : List V) (xs : List Ux) : Prop := vs.length = xs.length ∧ ∀ (i : Nat) (x : Ux), xs[i]? = some x → ∃ p, vs[i]? = some (.ref p) ∧ MUse K U C H p x
theorem MUses.same {K : PySem.W.Frag} {U C : Addr} {H H' : Hp} {vs : List V} {xs : List Ux} (g : Same H H') (h : MUses K U C H vs xs) : MUses K U C H' vs xs :=
  ⟨h.1, fun i x e => let ⟨p, e1, e2⟩ := h.2 i x e; ⟨p, e1, e2.same g⟩⟩
abbrev s_steps_of : Stmt := topS 21
abbrev n_steps_of : List Str := ["uses", "numbers", "number", "step"]
theorem sc_steps_of : FnScope n_steps_of ["uses", "numbers"] (defScope s_steps_of) := ⟨rfl, rfl, rfl, by decide +kernel, rfl, by decide +kernel, by decide +kernel⟩
def spSOf (K : PySem.W.Frag) (U C : Addr) : Sp := fun vs H Q _ => ∃ (a b : Addr) (us : List V) (xs : List Ux) (ns : List Nat), vs = [.ref a, .ref b] ∧ SqL K H a us ∧ MUses K U C H us xs ∧ (∀ x ∈ xs, GoodU x) ∧ SqL K H b (ns.map fun n : Nat => V.int n) ∧ ns.length ≤ 100 ∧ (∀ n ∈ ns, n < xs.length) ∧
  ∀ (D : Addr) (H' : Hp), Same H H' → H D = none → StepsAt K H' D (stOf xs ns) → Q (.ref D) H'
section
variable {P : Program} {w : World} {K : PySem.W.Frag} {mg : Str → Option Value} {base : Heap} {U C f : Addr} {fd : FuncData}
theorem stOf_len {xs : List Ux} {ns : List Nat} (hx : ∀ x ∈ xs, GoodU x) : (∀ n ∈ ns, n < xs.length) → (stOf xs ns).length ≤ ns.length * 9 := by
  induction ns with
  | nil => intro _; exact Nat.zero_le _
  | cons n r ih =>
    intro h
    have h0 := h n (List.mem_cons_self ..)
    have e : stOf xs (n :: r) = stUse (xs.getD n ux0) n ++ stOf xs r := rfl
    have a := ih fun m hm => h m (List.mem_cons_of_mem _ hm)
    have b : (stUse (xs.getD n ux0) n).length ≤ 9 := by
      rw [List.getD_eq_getElem?_getD, List.getElem?_eq_getElem h0]
      exact stUse_len (hx _ (List.getElem_mem h0)) n
    rw [e, List.length_append, List.length_cons]
    omega
theorem ok_steps_of (F : Fun K "steps_of" "steps_of" s_steps_of f fd) (cS : Ca P w K mg base 2 "use_steps" ["number", "use"] (spUSt K U C)) : FnOk P w K mg base CX0 3 f fd ["uses", "numbers"] (spSOf K U C) := by
  refine F.ok sc_steps_of (fun vs H Q E h => ?_) (fun cdv A outer s H vs Q E hr h => ?_)
  · obtain ⟨a, b, us, xs, ns, rfl, _⟩ := h
    rfl
  obtain ⟨a, b, us, xs, ns, rfl, ha, hU, hX, hb, hnl, hns, k⟩ := h
  refine ⟨_, (pss_one (ps_ret (pe_lc2 (own := [("number", 2), ("step", 3)]) (vs1 := [3]) (g := (gName 2)) (g1 := (gName 3)) (tt := tYes) (tt1 := tYes) (te := tVar 3) (wi1 := iList K (tCall (spUSt K U C) [] E0 (tCons (tVar 2) (tCons (tOp (rIxL K) (tVar 0) (tVar 2)) tNil)))) rfl sc_steps_of.nd (pi_list (pv 1)) (blkOk_by (N := n_steps_of) (sc := defScope s_steps_of) (by decide +kernel)) (by decide) (fun _ _ _ _ _ => (pg_name (i := 2) sc_steps_of.nd rfl (Or.inl rfl))) (fun _ _ _ _ _ => pts_nil) (fun _ _ _ _ _ => (pi_list (pca cS hr (by decide) rfl (pa_cons (pv 2) (pa_cons (pe_ix ix_list (pv 0) (pv 2) (fun _ _ => rfl)) pa_nil))))) (fun _ _ _ _ _ => (pg_name (i := 3) sc_steps_of.nd rfl (Or.inl rfl))) (fun _ _ _ _ _ => pts_nil) (fun _ _ _ _ _ => (pv 3))))), ?_⟩
  refine ⟨_, rfl, b, rfl, ⟨_, hb⟩, fun M hM => ?_⟩
  have gM := same_new hM (.lst [])
  refine out2_it (walk_list (K := K) (a := b) (xs := ns.map fun n : Nat => V.int n)) (fun i H' => ∃ L : List (V × Stp), H' M = some (.lst (L.map Prod.fst)) ∧ L.map Prod.snd = stOf xs (ns.take i) ∧ TripsL K H' L ∧ Same H H') ⟨[], upd_same, rfl, (fun _ h => by cases h), gM⟩ (fun i H' _ ⟨_, _, _, _, g⟩ => g.seq hb) (fun i y H2 H3 hi hv hy => ?_) ?_
  · obtain ⟨rfl, hy⟩ := hy
    obtain ⟨n, en, rfl⟩ := at_map hy
    obtain ⟨L, v1, v2, v3, v4⟩ := hv
    have hn := hns n (List.mem_of_getElem? en)
    obtain ⟨p, ep, hp⟩ := hU.2 n _ (List.getElem?_eq_getElem hn)
    refine ⟨rfl, keptP ?_⟩
    refine ⟨_, rfl, _, rfl, _, rfl, a, us, (n : Int), .ref p, rfl, rfl, v4.seq ha, atI_nat (j := n) ep, ?_⟩
    refine ⟨p, _, n, rfl, hp.same v4, hX _ (List.getElem_mem hn), fun D2 H4 g4 hD20 hD2 => ?_⟩
    obtain ⟨L2, w1, w2, w3⟩ := hD2
    have e1 : stOf xs (ns.take (i + 1)) = stOf xs (ns.take i) ++ stUse xs[n] n := by
      unfold stOf
      rw [List.take_succ, en, List.flatMap_append]
      show _ ++ List.flatMap _ [n] = _
      rw [List.flatMap_singleton, List.getD_eq_getElem?_getD, List.getElem?_eq_getElem hn]
      rfl
    have lenA : L.length + L2.length ≤ 1000 := by
      have q := stOf_len (xs := xs) (ns := ns.take (i + 1)) hX fun m hm => hns m (List.mem_of_mem_take hm)
      rw [e1, List.length_append, ← v2, ← w2, List.length_map, List.length_map, List.length_take] at q
      omega
    have nM : D2 ≠ M := fun e => by
      rw [e, v1] at hD20
      cases hD20
    refine ⟨D2, rfl, ⟨_, SqL.of w1⟩, in2_it (walk_list (K := K) (a := D2) (xs := L2.map Prod.fst)) (fun j H' => H' M = some (.lst ((L ++ L2.take j).map Prod.fst)) ∧ TripsL K H' L ∧ TripsL K H' L2 ∧ Same H H' ∧ H' D2 = some (.lst (L2.map Prod.fst)))
        ⟨by rw [List.take_zero, List.append_nil]; exact g4 _ _ v1, v3.mono (.of g4), w3, v4.trans g4, w1⟩ (fun j H' _ ⟨_, _, _, _, g⟩ => SqL.of g) (fun j z H5 H6 hj hv5 hy5 => ?_) ?_⟩
    · obtain ⟨rfl, hy5⟩ := hy5
      obtain ⟨q, eq, rfl⟩ := at_map hy5
      obtain ⟨u1, u2, u3, u4, u5⟩ := hv5
      have gl : TK K H6 (upd H6 M (.lst ((L ++ L2.take j).map Prod.fst ++ [q.1]))) := TK.lst u1
      refine ⟨rfl, kept ⟨_, rfl, _, u1, ?_, ?_, u2.mono gl, u3.mono gl, same_over u4 hM _, by rw [upd_ne nM]; exact u5⟩⟩
      · rw [List.length_map, List.length_append, List.length_take]
        exact small1000 (by omega)
      · rw [upd_same, List.take_succ, eq, ← List.append_assoc, List.map_append (l₂ := Option.toList _)]
        rfl
    · rintro H5 ⟨u1, u2, u3, u4, u5⟩
      rw [List.length_map, List.take_length] at u1
      exact ⟨L ++ L2, u1, by rw [List.map_append, v2, w2, e1], u2.app u3, u4⟩
  · rintro H2 ⟨L, v1, v2, v3, v4⟩
    rw [List.length_map, List.take_length] at v2
    exact k M H2 v4 hM ⟨L, v1, v2, v3⟩
end
end Lw
namespace Lw
open PySem L2 TzR TL
/-! the program's ring_in -/
abbrev s_ring_in : Stmt := topS 22
abbrev n_ring_in : List Str := ["steps", "letters", "found", "reached", "step", "each"]
theorem sc_ring_in : FnScope n_ring_in ["steps", "letters"] (defScope s_ring_in) := ⟨rfl, rfl, rfl, by decide +kernel, rfl, by decide +kernel, by decide +kernel⟩
def spRng (K : PySem.W.Frag) : Sp := fun vs H Q _ => ∃ (a b : Addr) (L : List (V × Stp)) (left : List Str), vs = [.ref a, .ref b] ∧ SqL K H a (L.map Prod.fst) ∧ TripsL K H L ∧ L.length ≤ 1000 ∧ SqL K H b (left.map V.str) ∧ left ≠ [] ∧ left.length ≤ 100 ∧ (∀ c ∈ left, Topo.heldIn (L.map Prod.snd) left c = true) ∧
  ∀ (t : Addr) (H' : Hp) (M : List (V × Stp)), Same H H' → H t = none → SqT K H' t (M.map Prod.fst) → TripsL K H' M → M.length ≤ 100 → Topo.RingOk (L.map Prod.snd) (M.map Prod.snd) → Q (.ref t) H'
def pthOf (F : List (V × Stp)) : List Str := (F.map Prod.snd).map fun s => s.2.2
/-- the state of the search -/
def RgSt (K : PySem.W.Frag) (H0 : Hp) (a b D R : Addr) (L : List (V × Stp)) (left : List Str) (m : Nat) (σ : St) (H : Hp) : Prop := ∃ (x4 x5 : Option V) (F : List (V × Stp)) (c : Str), σ = [some (.ref a), some (.ref b), some (.ref D), some (.ref R), x4, x5] ∧ Same H0 H ∧ H D = some (.lst (F.map Prod.fst)) ∧ H R = some (.lst ((pthOf F).map V.str ++ [.str c])) ∧
  Topo.RI (L.map Prod.snd) left (F.map Prod.snd) c ∧ (∀ q ∈ F, q ∈ L) ∧ m = left.length - F.length
section
variable {P : Program} {w : World} {K : PySem.W.Frag} {mg : Str → Option Value} {base : Heap} {f : Addr} {fd : FuncData}
theorem ok_ring_in (F : Fun K "ring_in" "ring_in" s_ring_in f fd) (B : Bt mg) : FnOk P w K mg base CX0 1 f fd ["steps", "letters"] (spRng K) := by
  refine F.ok sc_ring_in (fun vs H Q E h => ?_) (fun cdv A outer s H vs Q E hr h => ?_)
  · obtain ⟨a, b, L, left, rfl, _⟩ := h
    rfl
  obtain ⟨a, b, L, left, rfl, ha, hL, h900, hb, hne, hll, hheld, k⟩ := h
  refine ⟨_, (pss_cons (ps_set (i := 2) sc_ring_in.nd rfl (Or.inl rfl) (pe_lst pa_nil))
(pss_cons (ps_set (i := 3) sc_ring_in.nd rfl (Or.inr rfl) (pe_lst (pa_cons (pe_ix ix_list (pv 1) pe_int (fun _ _ => rfl)) pa_nil)))
(pss_cons (ps_while PassesOwn.never (pt_cmpR op_notIn_seq (pe_ix ix_list (pv 3) (pe_un un_neg pe_int) (fun _ _ => rfl)) (pe_slice sl_list (pv 3) po_none (po_some (pe_un un_neg pe_int))) (by rfl))
(pss_cons (ps_set (i := 4) sc_ring_in.nd rfl (Or.inl rfl) (pe_ix ix_list (pe_lc (own := [("each", 5)]) (g := (gName 5)) (tt := tAnd (tTest (tOp rEq (tOp (rIxT K) (tVar 5) (tC (.int 2))) (tOp (rIxL K) (tVar 3) (tUn (rU fun i => .int (-i)) (tC (.int 1)))))) (tTest (tOp (rIn K false) (tOp (rIxT K) (tVar 5) (tC (.int 0))) (tVar 1)))) (te := tVar 5) rfl sc_ring_in.nd (pi_list (pv 0)) (blkOk_by (N := n_ring_in) (sc := defScope s_ring_in) (by decide +kernel)) (fun _ _ _ _ _ => (pg_name (i := 5) sc_ring_in.nd rfl (Or.inl rfl))) (fun _ _ _ _ _ => (pts_one (PW.pt (pw_and (pt_cmpR op_eq (pe_ix ix_tup (pv 5) pe_int (fun _ _ => rfl)) (pe_ix ix_list (pv 3) (pe_un un_neg pe_int) (fun _ _ => rfl)) (nomark _)) (pw_and1 (pt_cmpR op_in_seq (pe_ix ix_tup (pv 5) pe_int (fun _ _ => rfl)) (pv 1) (by rfl))))))) (fun _ _ _ _ _ => (pv 5))) pe_int (fun _ _ => rfl)))
(pss_cons (ps_expr (pe_bm PySem.F.plainAttrs_list PySem.F.slot_list_append PySem.F.type_list_append mt_append (pv 2) (pa_cons (pv 4) pa_nil)))
(pss_one (ps_expr (pe_bm PySem.F.plainAttrs_list PySem.F.slot_list_append PySem.F.type_list_append mt_append (pv 3) (pa_cons (pe_ix ix_tup (pv 4) pe_int (fun _ _ => rfl)) pa_nil)))))))
(pss_one (ps_ret (pe_callTy call_tuple_of (by rfl) B.tup (by decide +kernel) (pa_cons (pe_revL (pe_slice sl_list (pv 2) (po_some (pe_bm PySem.F.plainAttrs_list PySem.F.slot_list_index PySem.F.type_list_index mt_index (pv 3) (pa_cons (pe_ix ix_list (pv 3) (pe_un un_neg pe_int) (fun _ _ => rfl)) pa_nil))) po_none)) pa_nil))))))), ?_⟩
  refine ⟨(by show 0 ≤ sizeLine; decide), fun D hD => ?_⟩
  have gD := same_new hD (.lst [])
  cases left with
  | nil => exact absurd rfl hne
  | cons c0 rest =>
  refine ⟨_, rfl, b, _, (0 : Int), .str c0, rfl, rfl, gD.seq hb, atI_nat (j := 0) rfl, (by show 1 ≤ sizeLine; decide), fun R hR => ?_⟩
  have gR := same_new hR (.lst [.str c0])
  have nDR : D ≠ R := fun e => by rw [← e, upd_same] at hR; cases hR
  have hR0 : H R = none := gD.free hR
  refine ⟨RgSt K H a b D R L (c0 :: rest), ⟨_, none, none, [], c0, rfl, gD.trans gR, gR _ _ upd_same, upd_same, Topo.RI.nil (List.mem_cons_self ..), (fun _ h => by cases h), rfl⟩, ?_⟩
  generalize hleft : c0 :: rest = left at *
  rintro m σ H2 ⟨x4, x5, F, c, rfl, g2, d1, d2, ri, hF, rfl⟩
  have Fl := ri.le
  rw [List.length_map] at Fl
  have Pl : (pthOf F).length = F.length := by unfold pthOf; rw [List.length_map, List.length_map]
  refine ⟨_, rfl, 1, rfl, R, _, -1, .str c, rfl, rfl, SqL.of d2, atI_last _ _, ?_⟩
  refine ⟨_, rfl, 1, rfl, -1, rfl, R, _, rfl, SqL.of d2, fun p hp => ?_⟩
  rw [cut_last]
  have gp := same_new hp (.lst ((pthOf F).map V.str))
  refine ⟨p, _, rfl, .inl (SqL.of upd_same), rfl, flat_strs' _, _, rfl, ?_⟩
  rw [in_strs]
  have d1p := gp _ _ d1
  have d2p := gp _ _ d2
  have g3 := g2.trans gp
  revert d1p d2p g3
  generalize upd H2 p (.lst ((pthOf F).map V.str)) = H3
  intro d1p d2p g3
  have er : (pthOf F).map V.str ++ [.str c] = ((pthOf F) ++ [c]).map V.str := by rw [List.map_append] <;> rfl
  by_cases hc : c ∈ pthOf F
  · rw [decide_eq_true hc]
    refine iteF ?_
    have hin : c ∈ pthOf F ++ [c] := List.mem_append_left _ hc
    obtain ⟨w1, a1, b1, c1⟩ := ix_str hin
    rw [er] at d2p
    have jl : (pthOf F ++ [c]).idxOf c ≤ F.length := by
      rw [Topo.idx_in hc]
      have := Topo.idx_lt hc
      omega
    have ring := ri.ring (c := c) hc
    refine ⟨_, rfl, _, rfl, .inl ⟨rfl, _, SqL.of d2p⟩, _, rfl, 1, rfl, R, _, -1, .str c, rfl, rfl, SqL.of d2p, by rw [← er]; exact atI_last _ _, R, _, .str c, (pthOf F ++ [c]).idxOf c, w1, rfl, rfl, SqL.of d2p, rfl, flat_strs' _, a1, b1, c1, _, rfl, D, _, rfl, SqL.of d1p, fun p2 hp2 => ?_⟩
    rw [cut_drop _ _ (by rw [List.length_map]; exact jl)]
    have gp2 := same_new hp2 (.lst ((F.map Prod.fst).drop ((pthOf F ++ [c]).idxOf c)))
    refine ⟨p2, _, rfl, SqL.of upd_same, fun p3 hp3 => ?_⟩
    have gp3 := same_new hp3 (.lst ((F.map Prod.fst).drop ((pthOf F ++ [c]).idxOf c)).reverse)
    refine ⟨p3, _, rfl, .inl ⟨SqL.of upd_same, fun t ht => ?_⟩⟩
    have gt := same_new ht (.tup ((F.map Prod.fst).drop ((pthOf F ++ [c]).idxOf c)).reverse)
    have g6 := g3.trans (gp2.trans (gp3.trans gt))
    refine k t _ (F.drop ((pthOf F ++ [c]).idxOf c)).reverse g6 (g3.free (gp2.free (gp3.free ht))) ?_ ?_ ?_ ?_
    · rw [List.map_reverse, List.map_drop]
      exact SqT.of upd_same
    · intro q hq
      exact (hL q (hF q (List.mem_of_mem_drop (List.mem_reverse.mp hq)))).mono (.of g6)
    · rw [List.length_reverse, List.length_drop]
      omega
    · rw [List.map_reverse, List.map_drop]
      exact ring
  · rw [decide_eq_false hc]
    refine iteT ⟨fun σ' H' => ∃ m', m' < left.length - F.length ∧ RgSt K H a b D R L left m' σ' H', fun _ _ h => h, ?_⟩
    have cin := ri.cur
    obtain ⟨s, r, es, s1, s2, s3⟩ := Topo.held_step (hheld c cin)
    generalize hpS : (fun q : V × Stp => decide (q.2.2.2 = c) && decide (q.2.1 ∈ left)) = pS
    have esL : (L.filter pS).map Prod.snd = s :: r := by
      rw [← es, List.filter_map, ← hpS]
      rfl
    refine ⟨_, rfl, a, rfl, ⟨_, g3.seq ha⟩, fun M hM => ?_⟩
    refine lc_it (walk_list (K := K) (a := a) (xs := L.map Prod.fst)) (InvF H3 M Prod.fst pS L) ⟨upd_same, same_new hM _⟩ (fun i H' _ ⟨_, g⟩ => (g3.trans g).seq ha) (fun i x H4 H5 hi hv hy => ?_) ?_
    · obtain ⟨rfl, hx⟩ := hy
      obtain ⟨q, eq, rfl⟩ := at_map hx
      obtain ⟨ad, eq1, hq⟩ := hL q (List.mem_of_getElem? eq)
      have g5 := g3.trans hv.2
      have hq5 := seqT g5 hq
      rw [eq1]
      refine ⟨rfl, _, rfl, ad, _, (2 : Int), .str q.2.2.2, rfl, rfl, hq5, atI_nat (j := 2) rfl, _, rfl, 1, rfl, R, _, -1, .str c, rfl, rfl, SqL.of (hv.2 _ _ d2p), atI_last _ _, rfl, _, rfl, ?_⟩
      rw [dstr]
      by_cases c1 : q.2.2.2 = c
      · rw [decide_eq_true c1]
        refine iteT ?_
        refine ⟨_, rfl, ad, _, (0 : Int), .str q.2.1, rfl, rfl, hq5, atI_nat (j := 0) rfl, _, rfl, b, left.map V.str, rfl, .inl (g5.seq hb), rfl, flat_strs' _, _, rfl, ?_⟩
        show ite (inV (.str q.2.1) (left.map V.str) = true) _ _
        rw [in_strs]
        by_cases c2 : q.2.1 ∈ left
        · rw [decide_eq_true c2]
          have hp : pS q = true := by rw [← hpS]; show (decide _ && decide _) = true; rw [decide_eq_true c1, decide_eq_true c2] <;> rfl
          refine iteT ⟨_, rfl, _, hv.1, InvF.len h900, ?_⟩
          have z := InvF.yes (f := Prod.fst) (H := H3) (H' := H5) hM hv.2 eq hp
          rw [eq1] at z
          exact z
        · rw [decide_eq_false c2]
          have hp : pS q = false := by rw [← hpS]; show (decide _ && decide _) = false; rw [decide_eq_true c1, decide_eq_false c2] <;> rfl
          exact iteF (hv.no eq hp)
      · rw [decide_eq_false c1]
        have hp : pS q = false := by rw [← hpS]; show (decide _ && decide _) = false; rw [decide_eq_false c1] <;> rfl
        refine iteF ?_
        show ite (false = true) _ _
        exact iteF (hv.no eq hp)
    rintro H4 ⟨hd4, g4⟩
    rw [List.length_map, List.take_length] at hd4
    obtain ⟨q, r', eq⟩ : ∃ q r', L.filter pS = q :: r' := by
      cases e : L.filter pS with
      | nil => rw [e] at esL; cases esL
      | cons q r' => exact ⟨q, r', rfl⟩
    rw [eq] at esL hd4
    have eqs : q.2 = s := by
      rw [List.map_cons] at esL
      injection esL
    have hqL : q ∈ L := (List.mem_filter.mp (by rw [eq]; exact List.mem_cons_self ..)).1
    obtain ⟨ad, eq1, hq⟩ := hL q hqL
    have g5 := g3.trans g4
    have hq5 := seqT g5 hq
    have d1q := g4 _ _ d1p
    have d2q := g4 _ _ d2p
    refine ⟨M, _, (0 : Int), q.1, rfl, rfl, SqL.of hd4, atI_nat (j := 0) rfl, ?_⟩
    refine ⟨_, rfl, .inl ⟨rfl, _, SqL.of d1q⟩, _, rfl, D, _, q.1, rfl, rfl, d1q, by rw [List.length_map]; exact small1000 (by omega), ?_⟩
    have hq6 : SqT K (upd H4 D (.lst (F.map Prod.fst ++ [q.1]))) ad _ := TK.lst d1q _ _ hq5
    have d2r : (upd H4 D (.lst (F.map Prod.fst ++ [q.1]))) R = _ := (upd_ne nDR.symm).trans d2q
    refine ⟨_, rfl, .inl ⟨rfl, _, SqL.of d2r⟩, _, rfl, ad, _, (0 : Int), .str q.2.1, by rw [eq1], rfl, hq6, atI_nat (j := 0) rfl, R, _, _, rfl, rfl, d2r, by rw [List.length_append, List.length_map, List.length_singleton]; exact small1000 (by omega), ?_⟩
    have rin := ri.next hc (s := q.2) (by rw [eqs]; exact s2) (by rw [eqs]; exact s3) (by rw [eqs]; exact s1)
    have eF : (F ++ [q]).map Prod.snd = F.map Prod.snd ++ [q.2] := by rw [List.map_append] <;> rfl
    have rin2 : Topo.RI (L.map Prod.snd) left ((F ++ [q]).map Prod.snd) q.2.1 := by rw [eF]; exact rin
    have Fl2 := rin2.le
    rw [List.length_map, List.length_append, List.length_singleton] at Fl2
    refine ⟨left.length - (F.length + 1), by omega, _, _, F ++ [q], q.2.1, rfl, same_over (same_over g5 hD _) hR0 _, ?_, ?_, rin2, ?_, by rw [List.length_append] <;> rfl⟩
    · rw [upd_ne nDR, upd_same, List.map_append] <;> rfl
    · rw [upd_same, er]
      unfold pthOf
      rw [eF, List.map_append (l₂ := [q.2])]
      have : q.2.2.2 = c := by rw [eqs]; exact s2
      rw [← this]
      rfl
    · intro z hz
      rcases List.mem_append.mp hz with hz | hz
      · exact hF z hz
      · rw [List.mem_singleton.mp hz]
        exact hqL
end
end Lw
namespace Lw
open PySem L2 TzR TL
/-- the tuple of the letters: ascending, each once -/
structure LetOk (ys zs : List Str) : Prop where
  srt : PyProof.Rows.sortedS ys = true
  mem : ∀ z, z ∈ ys ↔ z ∈ zs
  ex : ∃ l : List Str, l.Nodup ∧ ys.length = l.length ∧ ∀ z, z ∈ l ↔ z ∈ zs
/-! sorted texts, each once: one order only -/
def leS (a b : Str) : Prop := TL.tl a ≤ TL.tl b
theorem ris_pw : ∀ {l : List Str} {p : Str}, PyProof.Rows.risingS p l = true → (p :: l).Pairwise leS
  | [], p, _ => List.pairwise_singleton _ _
  | x :: r, p, h => by
    have h : (!PySem.Spec.ltCps x.cps.toList p.cps.toList && PyProof.Rows.risingS x r) = true := h
    rw [Bool.and_eq_true, PyProof.Rows.ltCps_eq] at h
    obtain ⟨h1, h2⟩ := h
    have hpx : leS p x := fun hlt => by
      have : decide (x.cps.toList < p.cps.toList) = true := decide_eq_true hlt
      rw [this] at h1
      cases h1
    have hr := ris_pw h2
    refine List.pairwise_cons.mpr ⟨fun y hy => ?_, hr⟩
    rcases List.mem_cons.mp hy with rfl | hy
    · exact hpx
    · exact List.le_trans hpx ((List.pairwise_cons.mp hr).1 y hy)
theorem srt_pw : ∀ {l : List Str}, PyProof.Rows.sortedS l = true → l.Pairwise leS
  | [], _ => List.Pairwise.nil
  | x :: r, h => ris_pw h
theorem srt_eq {xs ys : List Str} (p : xs.Perm ys) (hx : PyProof.Rows.sortedS xs = true) (hy : PyProof.Rows.sortedS ys = true) : xs = ys :=
  List.Perm.eq_of_pairwise (le := leS) (fun a b _ _ h1 h2 => ext_tl (List.le_antisymm h1 h2)) (srt_pw hx) (srt_pw hy) p
theorem nd_perm : ∀ {l ys : List Str}, l.Nodup → (∀ z ∈ l, z ∈ ys) → ys.length ≤ l.length → l.Perm ys
  | [], ys, _, _, h => by
    have : ys = [] := List.length_eq_zero_iff.mp (by simpa using h)
    rw [this]
  | a :: r, ys, nd, hm, hl => by
    have ha := hm a (List.mem_cons_self ..)
    obtain ⟨n1, n2⟩ := List.nodup_cons.mp nd
    have h1 : r.Perm (ys.erase a) := nd_perm n2 (fun z hz => (List.mem_erase_of_ne (fun e => n1 (by rw [← e]; exact hz))).mpr (hm z (List.mem_cons_of_mem _ hz))) (by
      rw [List.length_erase_of_mem ha]
      rw [List.length_cons] at hl
      omega)
    exact (h1.cons a).trans (List.perm_cons_erase ha).symm
/-- the letters in order: one list only -/
theorem LetOk.uniq {ys zs : List Str} (h : LetOk ys zs) {l us : List Str} (nd : l.Nodup) (hm : ∀ z, z ∈ l ↔ z ∈ zs) (p : us.Perm l) (hs : PyProof.Rows.sortedS us = true) : ys = us := by
  obtain ⟨l2, nd2, hl2, hm2⟩ := h.ex
  have p1 : l2.Perm ys := nd_perm nd2 (fun z hz => (h.mem z).mpr ((hm2 z).mp hz)) (by rw [hl2]; exact Nat.le_refl _)
  have ndy : ys.Nodup := p1.nodup_iff.mp nd2
  have l1 : ys.length ≤ l.length := by
    have q : ys.length ≤ l.length := (List.Nodup.length_le_of_subset ndy (fun z hz => (hm z).mpr ((h.mem z).mp hz)))
    exact q
  have l3 : l.length ≤ ys.length := List.Nodup.length_le_of_subset nd (fun z hz => (h.mem z).mpr ((hm z).mp hz))
  have p2 : l.Perm ys := nd_perm nd (fun z hz => (h.mem z).mpr ((hm z).mp hz)) l1
  exact srt_eq (p.trans p2).symm h.srt hs
abbrev sAsc : Stmt := topS 3
section
variable {P : Program} {w : World} {K : PySem.W.Frag} {mg : Str → Option Value} {base : Heap} {f : Addr} {fd : FuncData}
def spAsc (K : PySem.W.Frag) : Sp := fun vs H Q _ => ∃ (L : Addr) (zs : List Str), vs = [.ref L] ∧ SqL K H L (zs.map V.str) ∧ zs.length < 64 ∧ ∀ (t : Addr) (ys : List Str) (H' : Hp), Same H H' → SqT K H' t (ys.map V.str) → LetOk ys zs → Q (.ref t) H'
theorem scAs : FnScope ["names"] ["names"] (defScope sAsc) := ⟨rfl, rfl, rfl, by decide +kernel, rfl, by decide +kernel, by decide +kernel⟩
theorem ok_asc (F : Fun K "ascending" "ascending" sAsc f fd) (B : Bt mg) (B2 : Bx mg) (hset : mg "set" = none) : FnOk P w K mg base CX0 1 f fd ["names"] (spAsc K) := by
  refine F.ok scAs (fun vs H Q E h => ?_) (fun cdv A outer s H vs Q E hr h => ?_)
  · obtain ⟨L, zs, rfl, _⟩ := h
    rfl
  obtain ⟨L, zs, rfl, hL, h64, k⟩ := h
  refine ⟨_, pss_one (ps_ret (pe_callTy call_tuple_of (by rfl) B.tup (by decide +kernel) (pa_cons (pe_callB (TxS.cr_sortT rfl) (by rfl) B2.sorted (by decide +kernel) (pa_cons (pe_callTy (TxS.cr_setT rfl) (by rfl) hset (by decide +kernel) (pa_cons (pv 0) pa_nil)) pa_nil)) pa_nil))), ?_⟩
  refine ⟨_, rfl, L, zs, rfl, hL, h64, fun a l ha nd mem le => ?_⟩
  have g1 := same_new ha (TxS.SetT P w a l)
  refine ⟨a, l, rfl, upd_same, Nat.lt_of_le_of_lt le h64, fun ys p srt mm hl hp => ?_⟩
  have g2 := same_new hp (.lst (ys.map V.str))
  refine ⟨p, _, rfl, .inl ⟨SqL.of upd_same, fun t ht => ?_⟩⟩
  have g3 := same_new ht (.tup (ys.map V.str))
  exact k t ys _ ((g1.trans g2).trans g3) (SqT.of upd_same) ⟨srt, fun z => (mm z).trans (mem z), ⟨l, nd, hl, mem⟩⟩
end
theorem LetOk.nd {ys zs : List Str} (h : LetOk ys zs) : ys.Nodup := by
  obtain ⟨l2, nd2, hl2, hm2⟩ := h.ex
  exact (nd_perm nd2 (fun z hz => (h.mem z).mpr ((hm2 z).mp hz)) (by rw [hl2]; exact Nat.le_refl _)).nodup_iff.mp nd2
end Lw
namespace Lw
open PySem L2 TzR TL StX
/-! the program's order_or_ring -/
/-- a dict comprehension over a walk -/
theorem dc_it {J : It} {n : Nat} {G : Hp → Prop} {Y : Nat → Hp → V → Hp → Prop} (w : Walk J n G Y) {g : TG} {tt : TT} {tk tv : TE} {vs : List Nat} {σ : St} {H1 : Hp} {D : Addr} {Qd : Hp → Prop} (Pv : Nat → Hp → Prop) (h0 : Pv 0 (upd H1 D (.dK []))) (hG : ∀ i H, i ≤ n → Pv i H → G H)
    (hs : ∀ i x H H', i < n → Pv i H → Y i H x H' → g x (wipe σ vs) H' fun σ2 H2 => wipe σ2 vs = wipe σ vs ∧ tt σ2 H2 fun b H3 =>
      if b = true then tk σ2 H3 fun y H4 => tv σ2 H4 fun z H5 => ∃ kvs k, y = kV k ∧ H5 D = some (.dK kvs) ∧ kvs.length < sizeLine ∧ Pv (i + 1) (upd H5 D (.dK (putK kvs k z))) else Pv (i + 1) H3) (hd : ∀ H, Pv n H → Qd H) :
    ∃ W : Nat → Nat → Hp → Prop, (∃ m, W 0 m (upd H1 D (.dK []))) ∧ ∀ i m H, W i m H →
      (J.stop i H ∧ Qd H) ∨ (J.go i H ∧ ∃ Nx : Hp → Prop, (∀ H', Nx H' → ∃ m', m' < m ∧ W (i + 1) m' H') ∧ ∀ x H', J.yld i H x H' → g x (wipe σ vs) H' fun σ2 H2 => wipe σ2 vs = wipe σ vs ∧ tt σ2 H2 fun b H3 =>
        if b = true then tk σ2 H3 fun y H4 => tv σ2 H4 fun z H5 => ∃ kvs k, y = kV k ∧ H5 D = some (.dK kvs) ∧ kvs.length < sizeLine ∧ Nx (upd H5 D (.dK (putK kvs k z))) else Nx H3) := by
  refine ⟨fun i m H => m = n - i ∧ i ≤ n ∧ Pv i H, ⟨n, by simp, Nat.zero_le _, h0⟩, ?_⟩
  rintro i m H ⟨rfl, hi, p⟩
  have q := hG i H hi p
  by_cases hlt : i < n
  · refine .inr ⟨w.goes i H hlt q, Pv (i + 1), fun H' p' => ⟨n - (i + 1), by omega, rfl, hlt, p'⟩, fun x H' y => hs i x H H' hlt p (w.yields i H x H' hlt q y)⟩
  · have e : i = n := by omega
    subst e
    exact .inl ⟨w.stops H q, hd H p⟩
abbrev s_order_or_ring : Stmt := topS 23
abbrev n_order_or_ring : List Str := ["steps", "letters", "order", "left", "held", "upper", "number", "letter", "free"]
theorem sc_order_or_ring : FnScope n_order_or_ring ["steps", "letters"] (defScope s_order_or_ring) := ⟨rfl, rfl, rfl, by decide +kernel, rfl, by decide +kernel, by decide +kernel⟩
/-- what it tells: an order, or a ring -/
def OorR (K : PySem.W.Frag) (H : Hp) (t : Addr) (S : List Stp) (as : List Str) : Prop :=
  (∃ (o : Addr) (order : List Str), Topo.topo S as.length as [] = some order ∧ SqT K H t [.ref o, .non] ∧ SqT K H o (order.map V.str)) ∨
  (∃ (r : Addr) (M : List (V × Stp)), Topo.topo S as.length as [] = none ∧ SqT K H t [.non, .ref r] ∧ SqT K H r (M.map Prod.fst) ∧ TripsL K H M ∧ M.length ≤ 100 ∧ Topo.RingOk S (M.map Prod.snd))
def spOor (K : PySem.W.Frag) : Sp := fun vs H Q _ => ∃ (a b : Addr) (L : List (V × Stp)) (ls : List Str), vs = [.ref a, .ref b] ∧ SqL K H a (L.map Prod.fst) ∧ TripsL K H L ∧ L.length ≤ 1000 ∧ SqL K H b (ls.map V.str) ∧ ls.length < 64 ∧
  ∀ (t : Addr) (H' : Hp) (as : List Str), Same H H' → H t = none → LetOk as ls → OorR K H' t (L.map Prod.snd) as → Q (.ref t) H'
/-- the state: the letters that are left, the order so far -/
def OrSt (K : PySem.W.Frag) (H0 : Hp) (a b : Addr) (S : List Stp) (as : List Str) (m : Nat) (σ : St) (H : Hp) : Prop := ∃ (o l : Addr) (x4 x5 x6 x7 x8 : Option V) (order left : List Str), σ = [some (.ref a), some (.ref b), some (.ref o), some (.ref l), x4, x5, x6, x7, x8] ∧ Same H0 H ∧ SqT K H o (order.map V.str) ∧ SqL K H l (left.map V.str) ∧
  Topo.topo S as.length as [] = Topo.topo S left.length left order ∧ left.Nodup ∧ order.length + left.length = as.length ∧ m = left.length
theorem LetOk.len {ys zs : List Str} (h : LetOk ys zs) : ys.length ≤ zs.length := by
  have := Topo.nd_le (m := zs) h.nd fun z hz => (h.mem z).mp hz
  exact this
section
variable {P : Program} {w : World} {K : PySem.W.Frag} {mg : Str → Option Value} {base : Heap} {f : Addr} {fd : FuncData}
theorem ok_order_or_ring (F : Fun K "order_or_ring" "order_or_ring" s_order_or_ring f fd) (B : Bt mg) (cA : Ca P w K mg base 1 "ascending" ["names"] (spAsc K)) (cR : Ca P w K mg base 1 "ring_in" ["steps", "letters"] (spRng K)) : FnOk P w K mg base CX0 2 f fd ["steps", "letters"] (spOor K) := by
  refine F.ok sc_order_or_ring (fun vs H Q E h => ?_) (fun cdv A outer s H vs Q E hr h => ?_)
  · obtain ⟨a, b, L, ls, rfl, _⟩ := h
    rfl
  obtain ⟨a, b, L, ls, rfl, ha, hL, hLl, hb, hls, k⟩ := h
  refine ⟨_, (pss_cons (ps_set (i := 2) sc_order_or_ring.nd rfl (Or.inl rfl) (pe_tup pa_nil))
(pss_cons (ps_set (i := 3) sc_order_or_ring.nd rfl (Or.inr rfl) (pe_callTy call_list_of (by rfl) B.lst (by decide +kernel) (pa_cons (pca cA hr (by decide) rfl (pa_cons (pv 1) pa_nil)) pa_nil)))
(pss_cons (ps_while PassesOwn.never (pt_cmpR op_gt (pe_callB call_len_seq (by rfl) B.len PySem.boot_len (pa_cons (pv 3) pa_nil)) pe_int (nomark _))
(pss_cons (ps_set (i := 4) sc_order_or_ring.nd rfl (Or.inr rfl) (pe_dc (own := [("upper", 5), ("number", 6), ("letter", 7)]) (g := (gTup K 3 (gCons (gName 5) (gCons (gName 6) (gCons (gName 7) gNil))))) (tt := tTest (tOp (rIn K false) (tVar 5) (tVar 3))) (tk := tVar 7) (tv := tC (.bl true)) rfl sc_order_or_ring.nd (pi_list (pv 0)) (blkOk_by (N := n_order_or_ring) (sc := defScope s_order_or_ring) (by decide +kernel)) (fun _ _ _ _ _ => (pg_tup rfl (pgs_cons (pg_name (i := 5) sc_order_or_ring.nd rfl (Or.inl rfl)) (pgs_cons (pg_name (i := 6) sc_order_or_ring.nd rfl (Or.inl rfl)) (pgs_cons (pg_name (i := 7) sc_order_or_ring.nd rfl (Or.inl rfl)) pgs_nil))))) (fun _ _ _ _ _ => (pts_one (pt_cmpR op_in_seq (pv 5) (pv 3) (by rfl)))) (fun _ _ _ _ _ => (pv 7)) (fun _ _ _ _ _ => pe_bl)))
(pss_cons (ps_set (i := 8) sc_order_or_ring.nd rfl (Or.inr rfl) (pe_lc (own := [("letter", 7)]) (g := (gName 7)) (tt := tB (tDNotIn (tVar 7) (tVar 4))) (te := tVar 7) rfl sc_order_or_ring.nd (pi_list (pv 3)) (blkOk_by (N := n_order_or_ring) (sc := defScope s_order_or_ring) (by decide +kernel)) (fun _ _ _ _ _ => (pg_name (i := 7) sc_order_or_ring.nd rfl (Or.inl rfl))) (fun _ _ _ _ _ => (pts_one (pt_cmp (pc_dnotin (Nat.lt_of_le_of_lt (Nat.add_le_add_left (by decide) _) hr.units) (pv 7) (pv 4))))) (fun _ _ _ _ _ => (pv 7))))
(pss_cons (ps_if (pt_cmpR op_eq (pe_callB call_len_seq (by rfl) B.len PySem.boot_len (pa_cons (pv 8) pa_nil)) pe_int (nomark _))
(pss_one (ps_ret (pe_tup (pa_cons pe_non (pa_cons (pca cR hr (by decide) rfl (pa_cons (pv 0) (pa_cons (pv 3) pa_nil))) pa_nil))))) pss_nil)
(pss_cons (ps_set (i := 2) sc_order_or_ring.nd rfl (Or.inl rfl) (pe_tup (pa_star (pv 2) (pa_cons (pe_ix ix_list (pv 8) pe_int (fun _ _ => rfl)) pa_nil))))
(pss_one (ps_set (i := 3) sc_order_or_ring.nd rfl (Or.inr rfl) (pe_lc (own := [("letter", 7)]) (g := (gName 7)) (tt := tTest (tOp rNe (tVar 7) (tOp (rIxL K) (tVar 8) (tC (.int 0))))) (te := tVar 7) rfl sc_order_or_ring.nd (pi_list (pv 3)) (blkOk_by (N := n_order_or_ring) (sc := defScope s_order_or_ring) (by decide +kernel)) (fun _ _ _ _ _ => (pg_name (i := 7) sc_order_or_ring.nd rfl (Or.inl rfl))) (fun _ _ _ _ _ => (pts_one (pt_cmpR op_ne (pv 7) (pe_ix ix_list (pv 8) pe_int (fun _ _ => rfl)) (nomark _)))) (fun _ _ _ _ _ => (pv 7))))))))))
(pss_one (ps_ret (pe_tup (pa_cons (pv 2) (pa_cons pe_non pa_nil)))))))), ?_⟩
  refine ⟨(by show 0 ≤ sizeLine; decide), fun o hO => ?_⟩
  have gO := same_new hO (.tup [])
  refine ⟨_, rfl, b, ls, rfl, gO.seq hb, hls, fun t as H1 g1 ht1 hlet => ?_⟩
  have asl := hlet.len
  refine ⟨t, _, rfl, .inr ht1, fun l hl => ?_⟩
  have gl := same_new hl (.lst (as.map V.str))
  generalize hS : L.map Prod.snd = S at k
  refine ⟨OrSt K H a b S as, ⟨_, o, l, none, none, none, none, none, [], as, rfl, gO.trans (g1.trans gl), seqT (g1.trans gl) (SqT.of upd_same), SqL.of upd_same, rfl, hlet.nd, by simp, rfl⟩, ?_⟩
  have hSl : S.length = L.length := by rw [← hS, List.length_map]
  rintro m σ H2 ⟨o, l, x4, x5, x6, x7, x8, order, left, rfl, g2, ho, hl, et, nd, hlen, rfl⟩
  refine ⟨_, rfl, l, _, rfl, .inl hl, _, _, rfl, rfl, _, rfl, ?_⟩
  rw [List.length_map]
  cases left with
  | nil =>
    refine iteN (by decide) ⟨_, rfl, (by show 2 ≤ sizeLine; decide), fun t ht => ?_⟩
    have gt := same_new ht (.tup [.ref o, .non])
    exact k t _ as (g2.trans gt) (g2.free ht) hlet (.inl ⟨o, order, et, SqT.of upd_same, seqT gt ho⟩)
  | cons c0 rest =>
  rw [decide_eq_true (by rw [List.length_cons]; omega)]
  generalize hleft : c0 :: rest = left at *
  have hne : left ≠ [] := by rw [← hleft]; exact List.cons_ne_nil _ _
  refine iteT ⟨fun σ' H' => ∃ m', m' < left.length ∧ OrSt K H a b S as m' σ' H', fun _ _ h => h, ?_⟩
  refine ⟨_, rfl, a, rfl, ⟨_, g2.seq ha⟩, fun D hD => ?_⟩
  refine dc_it (walk_list (K := K) (a := a) (xs := L.map Prod.fst)) (fun i H' => ∃ kvs : List (Key × V), H' D = some (.dK kvs) ∧ kvs.length ≤ i ∧ (∀ z : Str, (valV kvs (.inr z)).isSome = Topo.heldIn (S.take i) left z) ∧ Same H2 H') ⟨[], upd_same, Nat.le_refl _, (fun z => rfl), same_new hD _⟩ (fun i H' _ ⟨_, _, _, _, g⟩ => (g2.trans g).seq ha) (fun i x H4 H5 hi hv hy => ?_) ?_
  · obtain ⟨rfl, hx⟩ := hy
    obtain ⟨q, eq, rfl⟩ := at_map hx
    obtain ⟨kvs, v1, v2, v3, v4⟩ := hv
    obtain ⟨ad, eq1, hq⟩ := hL q (List.mem_of_getElem? eq)
    have g5 := g2.trans v4
    have hq5 := seqT g5 hq
    have il := (List.getElem?_eq_some_iff.mp eq).1
    have eS : S[i]? = some q.2 := by rw [← hS, List.getElem?_map, eq] <;> rfl
    have snoc : ∀ z, Topo.heldIn (S.take (i + 1)) left z = (Topo.heldIn (S.take i) left z || (decide (q.2.1 ∈ left) && decide (q.2.2.2 = z))) := fun z => by
      unfold Topo.heldIn
      rw [List.take_succ, eS, List.any_append]
      show (_ || List.any [q.2] _) = _
      rw [List.any_cons, List.any_nil, Bool.or_false]
    rw [eq1]
    refine ⟨ad, _, rfl, hq5, rfl, _, _, rfl, _, _, rfl, _, _, rfl, rfl, rfl, ?_⟩
    refine ⟨_, rfl, _, rfl, l, left.map V.str, rfl, .inl (v4.seq hl), rfl, flat_strs' _, _, rfl, ?_⟩
    show ite (inV (.str q.2.1) (left.map V.str) = true) _ _
    rw [in_strs]
    by_cases c2 : q.2.1 ∈ left
    · rw [decide_eq_true c2]
      refine iteT ⟨_, rfl, kvs, .inr q.2.2.2, rfl, v1, small1000 (by omega), _, upd_same, ?_, ?_, same_over v4 hD _⟩
      · have := length_putK kvs (.inr q.2.2.2) (.bl true)
        omega
      · intro z
        rw [valV_put, snoc z, decide_eq_true c2, Bool.true_and]
        by_cases e : z = q.2.2.2
        · rw [if_pos (by rw [e]), decide_eq_true e.symm, Bool.or_true]
          rfl
        · rw [if_neg (fun z => e (by injection z)), decide_eq_false (fun z => e z.symm), Bool.or_false]
          exact v3 z
    · rw [decide_eq_false c2]
      refine iteF ⟨kvs, v1, by omega, fun z => ?_, v4⟩
      rw [snoc z, decide_eq_false c2, Bool.false_and, Bool.or_false]
      exact v3 z
  rintro H3 ⟨kvs, v1, v2, v3, v4⟩
  rw [List.length_map, List.take_of_length_le (by rw [hSl]; exact Nat.le_refl _)] at v3
  have g3 := g2.trans v4
  refine ⟨_, rfl, l, rfl, ⟨_, v4.seq hl⟩, fun Fr hFr => ?_⟩
  have ll : left.length ≤ 64 := by omega
  refine lc_it (walk_list (K := K) (a := l) (xs := left.map V.str)) (InvF H3 Fr V.str (fun x => !Topo.heldIn S left x) left) ⟨upd_same, same_new hFr _⟩ (fun i H' _ ⟨_, g⟩ => (v4.trans g).seq hl) (fun i x H4 H5 hi hv hy => ?_) ?_
  · obtain ⟨rfl, hx⟩ := hy
    obtain ⟨z, ez, rfl⟩ := at_map hx
    refine ⟨rfl, _, rfl, _, rfl, D, _, rfl, DGet.k (k := .inr z) (hv.2 _ _ v1), _, rfl, ?_⟩
    rw [v3 z]
    cases hz : Topo.heldIn S left z with
    | true => exact iteF (hv.no ez (by rw [hz] <;> rfl))
    | false => exact iteT ⟨_, rfl, _, hv.1, InvF.len (by omega), InvF.yes (f := V.str) (H := H3) hFr hv.2 ez (by rw [hz] <;> rfl)⟩
  rintro H4 ⟨hf4, g4⟩
  rw [List.length_map, List.take_length] at hf4
  have hf4 : H4 Fr = some (.lst ((Topo.free S left).map V.str)) := hf4
  have g24 := v4.trans g4
  have g04 := g2.trans g24
  refine ⟨_, rfl, Fr, _, rfl, .inl (SqL.of hf4), rfl, _, rfl, ?_⟩
  cases hfree : Topo.free S left with
  | nil =>
    rw [hfree] at hf4
    refine iteT ⟨_, rfl, _, rfl, a, l, L, left, rfl, g04.seq ha, hL.mono (.of g04), hLl, g24.seq hl, hne, by omega, (fun c hc => by rw [hS]; exact Topo.free_nil hfree hc), fun r H5 M g5 hr0 hr hM hMl ring => ⟨(by show 2 ≤ sizeLine; decide), fun t ht => ?_⟩⟩
    have gt := same_new ht (.tup [.non, .ref r])
    have none_ : Topo.topo S as.length as [] = none := by
      rw [et, ← hleft, List.length_cons]
      unfold Topo.topo
      rw [hleft, hfree]
    rw [hS] at ring
    exact k t _ as (g04.trans (g5.trans gt)) ((g04.trans g5).free ht) hlet (.inr ⟨r, M, none_, SqT.of upd_same, seqT gt hr, hM.mono (.of gt), hMl, ring⟩)
  | cons f0 fs =>
    rw [hfree] at hf4
    have fin : f0 ∈ left := (List.mem_filter.mp (show f0 ∈ Topo.free S left by rw [hfree]; exact List.mem_cons_self ..)).1
    refine iteN (by rw [dec_int]; exact decide_eq_false (by rw [List.length_map, List.length_cons]; omega)) ?_
    refine ⟨_, rfl, o, _, rfl, .inl (seqT g24 ho), _, rfl, Fr, _, (0 : Int), .str f0, rfl, rfl, SqL.of hf4, atI_nat (j := 0) rfl, ?_, fun o2 ho2 => ?_⟩
    · show (order.map V.str ++ [V.str f0]).length ≤ sizeLine
      rw [List.length_append, List.length_map, List.length_singleton]
      exact Nat.le_of_lt (small1000 (by omega))
    have go2 := same_new ho2 (.tup (order.map V.str ++ [.str f0]))
    refine ⟨_, rfl, l, rfl, ⟨_, (g24.trans go2).seq hl⟩, fun l2 hl2 => ?_⟩
    refine lc_it (walk_list (K := K) (a := l) (xs := left.map V.str)) (InvF (upd H4 o2 (.tup (order.map V.str ++ [.str f0]))) l2 V.str (fun z => decide (z ≠ f0)) left) ⟨upd_same, same_new hl2 _⟩ (fun i H' _ ⟨_, g⟩ => (g24.trans (go2.trans g)).seq hl) (fun i x H5 H6 hi hv hy => ?_) ?_
    · obtain ⟨rfl, hx⟩ := hy
      obtain ⟨z, ez, rfl⟩ := at_map hx
      refine ⟨rfl, _, rfl, _, rfl, Fr, _, (0 : Int), .str f0, rfl, rfl, SqL.of ((go2.trans hv.2) _ _ hf4), atI_nat (j := 0) rfl, rfl, _, rfl, ?_⟩
      show ite ((!decide (V.str z = V.str f0)) = true) _ _
      rw [dstr]
      by_cases e : z = f0
      · rw [decide_eq_true e]
        exact iteF (hv.no ez (decide_eq_false fun q => q e))
      · rw [decide_eq_false e]
        exact iteT ⟨_, rfl, _, hv.1, InvF.len (by omega), InvF.yes (f := V.str) (H := H3) hl2 hv.2 ez (decide_eq_true e)⟩
    rintro H5 ⟨hd5, g5⟩
    rw [List.length_map, List.take_length] at hd5
    have el : left.filter (fun z => decide (z ≠ f0)) = left.erase f0 := by
      rw [List.Nodup.erase_eq_filter nd]
      congr 1
      funext z
      by_cases h : z = f0 <;> simp [h]
    have ell : (left.filter fun z => decide (z ≠ f0)).length + 1 = left.length := by
      rw [el, List.length_erase_of_mem fin]
      have := List.length_pos_of_mem fin
      omega
    refine ⟨(left.filter fun z => decide (z ≠ f0)).length, by omega, o2, l2, _, _, _, _, _, order ++ [f0], left.filter fun z => decide (z ≠ f0), rfl, g04.trans (go2.trans g5), ?_, SqL.of hd5, ?_, nd.filter _, ?_, rfl⟩
    · rw [List.map_append]
      exact seqT g5 (SqT.of upd_same)
    · rw [et, ← ell]
      conv => lhs; unfold Topo.topo
      rw [hfree]
    · rw [List.length_append, List.length_singleton]
      omega
end
end Lw
namespace Lw
open PySem L2 TzR TL
abbrev s_l_resolved : Stmt := topS 28
abbrev n_l_resolved : List Str := ["_law_use", "_law_bound", "_law_letters_here", "_law_missing", "_law_k", "_law_letter"]
theorem sc_l_resolved : FnScope n_l_resolved ["_law_use", "_law_bound"] (defScope s_l_resolved) := ⟨rfl, rfl, rfl, by decide +kernel, rfl, by decide +kernel, by decide +kernel⟩
def spRes (K : PySem.W.Frag) : Sp := fun vs H Q _ => ∃ (u o : Addr) (nm : Str) (ls od : List Str) (l : List (Str × Int)), vs = [.ref u, .ref o] ∧ LuAt K H u nm ls l ∧ l.length ≤ 3 ∧ (∀ p ∈ l, 0 ≤ p.2 ∧ p.2 < (ls.length : Int)) ∧ SqL K H o (od.map V.str) ∧ (∀ p ∈ l, letAt ls p ∈ od) ∧
  ∀ H' : Hp, Same H H' → Q (.int (l.length : Nat)) H'
section
variable {P : Program} {w : World} {K : PySem.W.Frag} {mg : Str → Option Value} {base : Heap} {f gL : Addr} {fd dL : FuncData}
theorem ok_l_resolved (F : Fun K "_law_resolved" "_law_resolved" s_l_resolved f fd) (B : Bt mg) (B2 : Bx mg) (cL : Ca P w K mg base 1 "_law_level_letters" ["_law_use"] (spLvl K)) :
    FnOk P w K mg base CX0 2 f fd ["_law_use", "_law_bound"] (spRes K) := by
  refine F.ok sc_l_resolved (fun vs H Q E h => ?_) (fun cdv A outer s H vs Q E hr h => ?_)
  · obtain ⟨u, o, nm, ls, od, l, rfl, _⟩ := h
    rfl
  obtain ⟨u, o, nm, ls, od, l, rfl, hU, hl, hp, ho, hin, k⟩ := h
  refine ⟨_, (pss_cons (ps_set (i := 2) sc_l_resolved.nd rfl (Or.inl rfl) (pca cL hr (by decide) rfl (pa_cons (pv 0) pa_nil)))
(pss_cons (ps_setLc (i := 3) (own := [("_law_k", 4), ("_law_letter", 5)]) (g := (gTup K 2 (gCons (gName 4) (gCons (gName 5) gNil)))) (tt := tTest (tOp (rIn K true) (tVar 5) (tVar 1))) (te := tVar 4) rfl sc_l_resolved.nd rfl rfl (sw_true rfl rfl rfl (by decide +kernel)) (pi_enum (by rfl) B2.enum (pa_cons (pv 2) pa_nil)) (blkOk_by (N := n_l_resolved) (sc := defScope s_l_resolved) (by decide +kernel)) (fun _ _ _ _ _ => (pg_tup rfl (pgs_cons (pg_name (i := 4) sc_l_resolved.nd rfl (Or.inl rfl)) (pgs_cons (pg_name (i := 5) sc_l_resolved.nd rfl (Or.inl rfl)) pgs_nil)))) (fun _ _ _ _ _ => (pts_one (pt_cmpR op_notIn_seq (pv 5) (pv 1) (by rfl)))) (fun _ _ _ _ _ => (pv 4)))
(pss_one (ps_ret (pe_ifExp (pt_cmpR (op_neD hr.units) (pv 3) (pe_lst pa_nil) (nomark _)) (pe_ix ix_list (pv 3) pe_int (fun _ _ => rfl)) (pe_callB call_len_seq (by rfl) B.len PySem.boot_len (pa_cons (pv 2) pa_nil))))))), ?_⟩
  refine ⟨_, rfl, u, nm, ls, l, rfl, hU, hl, hp, fun D H1 g1 hD0 hD => ?_⟩
  have ho1 := g1.seq ho
  refine ⟨_, rfl, D, _, rfl, SqL.of hD, fun M hM => ?_⟩
  have gM := same_new hM (.lst [])
  refine lc_it (walk_enL (K := K) (a := D) (xs := (l.map (letAt ls)).map V.str)) (fun _ H' => H' M = some (.lst []) ∧ Same H1 H') ⟨upd_same, gM⟩ (fun i H' _ ⟨_, g⟩ => SqL.of (g _ _ hD)) (fun i x H2 H3 hi hv hy => ?_) ?_
  · obtain ⟨T, x', rfl, hT, rfl, hx⟩ := hy
    obtain ⟨z, ez, rfl⟩ := at_map hx
    obtain ⟨pz, epz, rfl⟩ := at_mapG ez
    have zin := hin pz (List.mem_of_getElem? epz)
    have gT := same_new hT (.tup [.int (i : Nat), .str (letAt ls pz)])
    refine ⟨T, _, rfl, SqT.of upd_same, rfl, _, _, rfl, _, _, rfl, rfl, rfl, ?_⟩
    refine ⟨_, rfl, _, rfl, o, od.map V.str, rfl, .inl ((hv.2.trans gT).seq ho1), rfl, flat_strs' od, false, ?_, ?_⟩
    · rw [in_strs, decide_eq_true zin] <;> rfl
    · exact iteN rfl ⟨gT _ _ hv.1, hv.2.trans gT⟩
  rintro H2 ⟨hm, g2⟩
  refine ⟨_, rfl, (by show 0 ≤ sizeLine; decide), fun e he => ?_⟩
  have ge := same_new he (.lst [])
  refine ⟨.list [], .list [], .lst (SqL.of (ge _ _ hm)) .nil, .lst (SqL.of upd_same) .nil, by decide +kernel, by decide +kernel, _, rfl, ?_⟩
  refine iteN (by decide +kernel) ?_
  refine ⟨_, rfl, D, _, rfl, .inl (SqL.of (ge _ _ (g2 _ _ hD))), ?_⟩
  rw [List.length_map, List.length_map]
  exact k _ (g1.trans (g2.trans ge))
/-! _law_fits -/
abbrev s_l_fits : Stmt := topS 29
abbrev n_l_fits : List Str := ["_law_use", "_law_order", "_law_letters_here", "_law_level", "_law_upper"]
theorem sc_l_fits : FnScope n_l_fits ["_law_use", "_law_order"] (defScope s_l_fits) := ⟨rfl, rfl, rfl, by decide +kernel, rfl, by decide +kernel, by decide +kernel⟩
/-- the law's use, as tuples -/
def LUse (K : PySem.W.Frag) (H : Hp) (u : Addr) (x : Ux) : Prop := LuAt K H u x.1 x.2.1 x.2.2
def spFit (K : PySem.W.Frag) : Sp := fun vs H Q _ => ∃ (u o : Addr) (x : Ux) (od : List Str) (n : Nat), vs = [.ref u, .ref o] ∧ LUse K H u x ∧ GoodU x ∧ SqL K H o (od.map V.str) ∧ (∀ p ∈ x.2.2, letAt x.2.1 p ∈ od) ∧
  ∀ H' : Hp, Same H H' → Q (.bl (Topo.fitsS (stUse x n) od)) H'
theorem fits_app {S S' : List Stp} {od : List Str} : Topo.fitsS (S ++ S') od = (Topo.fitsS S od && Topo.fitsS S' od) := by
  unfold Topo.fitsS
  rw [List.all_append]
theorem fits_bad {S : List Stp} {od : List Str} {s : Stp} (h : s ∈ S) (hb : ¬ od.idxOf s.1 ≤ od.idxOf s.2.2) : Topo.fitsS S od = false := by
  unfold Topo.fitsS
  rw [List.all_eq_false]
  exact ⟨s, h, by simpa using hb⟩
theorem ok_l_fits (F : Fun K "_law_fits" "_law_fits" s_l_fits f fd) (B : Bt mg) (cL : Ca P w K mg base 1 "_law_level_letters" ["_law_use"] (spLvl K)) (cR : Ca P w K mg base 2 "_law_resolved" ["_law_use", "_law_bound"] (spRes K)) :
    FnOk P w K mg base CX0 3 f fd ["_law_use", "_law_order"] (spFit K) := by
  refine F.ok sc_l_fits (fun vs H Q E h => ?_) (fun cdv A outer s H vs Q E hr h => ?_)
  · obtain ⟨u, o, x, od, n, rfl, _⟩ := h
    rfl
  obtain ⟨u, o, x, od, n, rfl, hU, hx, ho, hin, k⟩ := h
  refine ⟨_, (pss_cons (ps_set (i := 2) sc_l_fits.nd rfl (Or.inl rfl) (pca cL hr (by decide) rfl (pa_cons (pv 0) pa_nil)))
(pss_cons (ps_for PassesOwn.never rfl (pi_range1 (by rfl) B.range (pa_cons (pca cR hr (by decide) rfl (pa_cons (pv 0) (pa_cons (pv 1) pa_nil))) pa_nil)) (pg_name (i := 3) sc_l_fits.nd rfl (Or.inl rfl))
(pss_one (ps_if (pt_cmpR op_eq (pe_ix ix_tup (pe_ix ix_tup (pe_ix ix_tup (pv 0) pe_int (fun _ _ => rfl)) (pv 3) (fun _ _ => rfl)) pe_int (fun _ _ => rfl)) pe_str (nomark _))
(pss_one (ps_for PassesOwn.never rfl (pi_list (pe_slice sl_list (pv 2) po_none (po_some (pv 3)))) (pg_name (i := 4) sc_l_fits.nd rfl (Or.inl rfl))
(pss_one (ps_if (pt_cmpR op_gt (pe_bm PySem.F.plainAttrs_list PySem.F.slot_list_index PySem.F.type_list_index mt_index (pv 1) (pa_cons (pv 4) pa_nil)) (pe_bm PySem.F.plainAttrs_list PySem.F.slot_list_index PySem.F.type_list_index mt_index (pv 1) (pa_cons (pe_ix ix_list (pv 2) (pv 3) (fun _ _ => rfl)) pa_nil)) (nomark _))
(pss_one (ps_ret pe_bl)) pss_nil)))) pss_nil)))
(pss_one (ps_ret pe_bl)))), ?_⟩
  have hl := hx.l3
  refine ⟨_, rfl, u, x.1, x.2.1, x.2.2, rfl, hU, hl, hx.ax, fun D H1 g1 hD0 hD => ?_⟩
  have hU1 : LuAt K H1 u x.1 x.2.1 x.2.2 := hU.mono (TK.of g1)
  have hD : H1 D = some (.lst ((lvs x).map V.str)) := hD
  refine ⟨_, rfl, _, rfl, u, o, x.1, x.2.1, od, x.2.2, rfl, hU1, hl, hx.ax, g1.seq ho, hin, fun H2 g2 => ?_⟩
  refine ⟨(x.2.2.length : Int), rfl, by omega, by omega, for_range (n := x.2.2.length) (fun i σ H' => (∃ u3 u4 : Option V, σ = [some (.ref u), some (.ref o), some (.ref D), u3, u4]) ∧ Same H2 H' ∧ Topo.fitsS ((List.range i).flatMap (stLv x n)) od = true) ⟨⟨_, _, rfl⟩, Same.refl H2, rfl⟩ ?_ ?_⟩
  · rintro i σ H3 hi ⟨⟨u3, u4, rfl⟩, g3, hfit⟩
    have g13 := g2.trans g3
    have g03 := g1.trans g13
    obtain ⟨tl, tf, us, h1, h2, h3, h4⟩ := hU
    have ej := List.getElem?_eq_getElem hi
    have hiu : i < us.length := by rw [h4.1]; exact hi
    obtain ⟨y, ey, zy⟩ := h4.2 i us[i] _ (List.getElem?_eq_getElem hiu) ej
    have eus : us[i]? = some (.ref y) := by rw [List.getElem?_eq_getElem hiu, ey]
    have eit : atI us (0 + (i : Int)) = some (.ref y) := by
      rw [Int.zero_add]
      exact atI_nat (j := i) eus
    have hD3 : H3 D = some (.lst ((lvs x).map V.str)) := g13 _ _ hD
    have elv : (lvs x)[i]? = some (letAt x.2.1 x.2.2[i]) := by
      unfold lvs
      rw [List.getElem?_map, ej] <;> rfl
    have elt : atI ((lvs x).map V.str) (0 + (i : Int)) = some (.str (letAt x.2.1 x.2.2[i])) := by
      rw [Int.zero_add]
      exact atI_nat (j := i) (by rw [List.getElem?_map, elv] <;> rfl)
    have est : stLv x n i = if x.2.2[i].1 = "packed" then ((lvs x).take i).map fun u => (u, n, letAt x.2.1 x.2.2[i]) else [] := by
      unfold stLv
      rw [List.getD_eq_getElem?_getD, ej]
      rfl
    refine ⟨_, rfl, u, _, (2 : Int), .ref tf, rfl, rfl, seqT g03 h1, atI_nat (j := 2) rfl, _, rfl, tf, us, (0 + (i : Int)), .ref y, rfl, rfl, seqT g03 h3, eit, y, _, (0 : Int), .str x.2.2[i].1, rfl, rfl, seqT g03 zy, atI_nat (j := 0) rfl, rfl, _, rfl, ?_⟩
    rw [dstr]
    by_cases c : x.2.2[i].1 = "packed"
    · rw [if_pos c] at est
      rw [decide_eq_true c]
      refine iteT ?_
      refine ⟨_, rfl, _, rfl, _, rfl, D, _, rfl, SqL.of hD3, fun p hp => ?_⟩
      have ll : (lvs x).length = x.2.2.length := by unfold lvs; rw [List.length_map]
      have ecut : cutV ((lvs x).map V.str) none (some (0 + (i : Int))) = ((lvs x).take i).map V.str := by
        rw [Int.zero_add, cut_take _ _ (by rw [List.length_map]; omega), List.map_take]
      rw [ecut]
      have gp := same_new hp (.lst (((lvs x).take i).map V.str))
      refine ⟨p, rfl, ⟨_, SqL.of upd_same⟩, for_list (K := K) (a := p) (xs := ((lvs x).take i).map V.str) (fun j σ' H' => (∃ u4 : Option V, σ' = [some (.ref u), some (.ref o), some (.ref D), some (.int (0 + (i : Int))), u4]) ∧ Same (upd H3 p (.lst (((lvs x).take i).map V.str))) H' ∧ Topo.fitsS ((((lvs x).take i).take j).map fun u => (u, n, letAt x.2.1 x.2.2[i])) od = true) ⟨⟨_, rfl⟩, Same.refl _, rfl⟩ (fun j σ' H' _ ⟨_, g, _⟩ => SqL.of (g _ _ upd_same)) ?_ (fun σ' H' ⟨⟨u4', e⟩, g, hf⟩ => ⟨⟨_, _, e⟩, g3.trans (gp.trans g), ?_⟩)⟩
      · rintro j z0 σ' H4 hz0 ⟨⟨u4', rfl⟩, g4, hf⟩
        obtain ⟨z, ez, rfl⟩ := at_map hz0
        have ez' := ez
        have hji : j < i := by
          have := (List.getElem?_eq_some_iff.mp ez).1
          rw [List.length_take] at this
          omega
        rw [List.getElem?_take, if_pos hji] at ez
        have g34 := gp.trans g4
        have ho4 := (g03.trans g34).seq ho
        have zin : z ∈ od := by
          obtain ⟨pz, epz, rfl⟩ := at_mapG ez
          exact hin pz (List.mem_of_getElem? epz)
        have lin : letAt x.2.1 x.2.2[i] ∈ od := hin _ (List.getElem_mem hi)
        obtain ⟨w1, a1, b1, c1⟩ := ix_str zin
        obtain ⟨w2, a2, b2, c2⟩ := ix_str lin
        refine ⟨_, rfl, .inl ⟨rfl, _, ho4⟩, _, rfl, o, od.map V.str, .str z, od.idxOf z, w1, rfl, rfl, ho4, rfl, flat_strs' od, a1, b1, c1, ?_⟩
        refine ⟨_, rfl, .inl ⟨rfl, _, ho4⟩, _, rfl, _, rfl, D, _, (0 + (i : Int)), _, rfl, rfl, SqL.of (g34 _ _ hD3), elt, o, od.map V.str, .str (letAt x.2.1 x.2.2[i]), od.idxOf (letAt x.2.1 x.2.2[i]), w2, rfl, rfl, ho4, rfl, flat_strs' od, a2, b2, c2, ?_⟩
        refine ⟨_, _, rfl, rfl, _, rfl, ?_⟩
        refine ite2 (fun cc => ?_) (fun cc => ⟨⟨_, rfl⟩, g4, ?_⟩)
        · have cc := of_decide_eq_true cc
          have bad : Topo.fitsS (stUse x n) od = false := fits_bad (s := (z, n, letAt x.2.1 x.2.2[i])) (List.mem_flatMap.mpr ⟨i, List.mem_range.mpr hi, by rw [est]; exact List.mem_map.mpr ⟨z, List.mem_of_getElem? ez', rfl⟩⟩) (by
            show ¬ od.idxOf z ≤ od.idxOf (letAt x.2.1 x.2.2[i])
            omega)
          have kk := k H4 (g1.trans (g2.trans (g3.trans g34)))
          rw [bad] at kk
          exact kk
        · have cc : ¬ ((od.idxOf (letAt x.2.1 x.2.2[i]) : Nat) : Int) < (od.idxOf z : Nat) := fun q => cc (decide_eq_true q)
          rw [List.take_succ, ez', List.map_append, fits_app, hf, Bool.true_and]
          show ([(z, n, letAt x.2.1 x.2.2[i])] : List Stp).all _ = true
          rw [List.all_cons, List.all_nil, Bool.and_true]
          exact decide_eq_true (show od.idxOf z ≤ od.idxOf (letAt x.2.1 x.2.2[i]) by omega)
      · rw [List.length_map, List.take_length] at hf
        rw [range_flat, fits_app, hfit, est, hf] <;> rfl
    · rw [if_neg c] at est
      rw [decide_eq_false c]
      exact iteF ⟨⟨_, _, rfl⟩, g3, by rw [range_flat, fits_app, hfit, est] <;> rfl⟩
  · rintro σ H3 ⟨_, g3, hfit⟩
    have kk := k H3 (g1.trans (g2.trans g3))
    have e : Topo.fitsS (stUse x n) od = true := hfit
    rw [e] at kk
    exact kk
end
end Lw
namespace Lw
open PySem L2 TzR TL
section
variable {P : Program} {w : World} {K : PySem.W.Frag} {mg : Str → Option Value} {base : Heap} {f : Addr} {fd : FuncData}
/-! all orders -/
abbrev s_l_orders : Stmt := topS 31
abbrev n_l_orders : List Str := ["_law_letters_here", "_law_found", "_law_k", "_law_longer", "_law_order", "_law_letter"]
theorem sc_l_orders : FnScope n_l_orders ["_law_letters_here"] (defScope s_l_orders) := ⟨rfl, rfl, rfl, by decide +kernel, rfl, by decide +kernel, by decide +kernel⟩
theorem LetOk.len_eq {ys zs : List Str} (h : LetOk ys zs) (hn : zs.Nodup) : ys.length = zs.length :=
  Nat.le_antisymm h.len (Topo.nd_le hn fun z hz => (h.mem z).mpr hz)
/-- values and the orders that they show -/
def OrdsL (K : PySem.W.Frag) (H : Hp) (M : List (V × List Str)) : Prop := ∀ q ∈ M, ∃ t : Addr, q.1 = .ref t ∧ SqT K H t (q.2.map V.str)
theorem OrdsL.mono {H H' : Hp} (g : TK K H H') {M : List (V × List Str)} (h : OrdsL K H M) : OrdsL K H' M := fun q hq => let ⟨t, e, z⟩ := h q hq; ⟨t, e, g _ _ z⟩
theorem OrdsL.app {H : Hp} {L M : List (V × List Str)} (h : OrdsL K H L) (h2 : OrdsL K H M) : OrdsL K H (L ++ M) := fun q hq => (List.mem_append.mp hq).elim (h q) (h2 q)
def spOrd (K : PySem.W.Frag) : Sp := fun vs H Q _ => ∃ (a : Addr) (ls as : List Str), vs = [.ref a] ∧ SqL K H a (ls.map V.str) ∧ ls.Nodup ∧ ls.length ≤ 4 ∧ LetOk as ls ∧
  ∀ (D : Addr) (M : List (V × List Str)) (H' : Hp), Same H H' → H D = none → H' D = some (.lst (M.map Prod.fst)) → M.map Prod.snd = Topo.ord as as.length → OrdsL K H' M → Q (.ref D) H'
def longer (as : List Str) (p : List Str) : List (List Str) := (Topo.out as p).map fun l => p ++ [l]
theorem longer_len (as : List Str) (h : as.length ≤ 4) : ∀ L : List (List Str), (L.flatMap (longer as)).length ≤ L.length * 4
  | [] => Nat.zero_le _
  | p :: r => by
    have ih := longer_len as h r
    have e : (longer as p).length ≤ 4 := by
      unfold longer Topo.out
      rw [List.length_map]
      exact Nat.le_trans (List.length_filter_le _ _) h
    rw [List.flatMap_cons, List.length_append, List.length_cons]
    omega
theorem ord_len (as : List Str) (h : as.length ≤ 4) : ∀ k : Nat, (Topo.ord as k).length ≤ 4 ^ k
  | 0 => Nat.le_refl _
  | k + 1 => by
    have a := longer_len as h (Topo.ord as k)
    have b := ord_len as h k
    have e : Topo.ord as (k + 1) = (Topo.ord as k).flatMap (longer as) := rfl
    rw [e, Nat.pow_succ]
    omega
theorem ord_mem {as : List Str} : ∀ {k : Nat} {p : List Str}, p ∈ Topo.ord as k → p.length = k
  | 0, p, h => by rw [List.mem_singleton.mp h] <;> rfl
  | k + 1, p, h => by
    obtain ⟨q, hq, h2⟩ := List.mem_flatMap.mp h
    obtain ⟨l, _, rfl⟩ := List.mem_map.mp h2
    rw [List.length_append, ord_mem hq] <;> rfl
theorem ok_l_orders (F : Fun K "_law_orders" "_law_orders" s_l_orders f fd) (B : Bt mg) (B2 : Bx mg) : FnOk P w K mg base CX0 1 f fd ["_law_letters_here"] (spOrd K) := by
  refine F.ok sc_l_orders (fun vs H Q E h => ?_) (fun cdv A outer s H vs Q E hr h => ?_)
  · obtain ⟨a, ls, as, rfl, _⟩ := h
    rfl
  obtain ⟨a, ls, as, rfl, ha, hn, h4, hlet, k⟩ := h
  refine ⟨_, (pss_cons (ps_set (i := 1) sc_l_orders.nd rfl (Or.inl rfl) (pe_lst (pa_cons (pe_tup pa_nil) pa_nil)))
(pss_cons (ps_for PassesOwn.never rfl (pi_range1 (by rfl) B.range (pa_cons (pe_callB call_len_seq (by rfl) B.len PySem.boot_len (pa_cons (pv 0) pa_nil)) pa_nil)) (pg_name (i := 2) sc_l_orders.nd rfl (Or.inl rfl))
(pss_cons (ps_set (i := 3) sc_l_orders.nd rfl (Or.inl rfl) (pe_lst pa_nil))
(pss_cons (ps_for PassesOwn.never rfl (pi_list (pv 1)) (pg_name (i := 4) sc_l_orders.nd rfl (Or.inr rfl))
(pss_one (ps_expr (pe_bm PySem.F.plainAttrs_list PySem.F.slot_list_extend PySem.F.type_list_extend mt_extend (pv 3) (pa_cons (pe_lc (own := [("_law_letter", 5)]) (g := (gName 5)) (tt := tTest (tOp (rIn K true) (tVar 5) (tVar 4))) (te := tOp (rCatA K) (tVar 4) (tTup (tCons (tVar 5) tNil))) rfl sc_l_orders.nd (pi_list (pe_callB cr_sortedS (by rfl) B2.sorted (by decide +kernel) (pa_cons (pv 0) pa_nil))) (blkOk_by (N := n_l_orders) (sc := defScope s_l_orders) (by decide +kernel)) (fun _ _ _ _ _ => (pg_name (i := 5) sc_l_orders.nd rfl (Or.inl rfl))) (fun _ _ _ _ _ => (pts_one (pt_cmpR op_notIn_seq (pv 5) (pv 4) (by rfl)))) (fun _ _ _ _ _ => (pe_op op_catA (pv 4) (pe_tup (pa_cons (pv 5) pa_nil))))) pa_nil)))))
(pss_one (ps_set (i := 1) sc_l_orders.nd rfl (Or.inl rfl) (pv 3))))))
(pss_one (ps_ret (pv 1))))), ?_⟩
  have asl : as.length = ls.length := hlet.len_eq hn
  have as4 : as.length ≤ 4 := by omega
  refine ⟨(by show 0 ≤ sizeLine; decide), fun e0 he0 => ?_⟩
  have ge := same_new he0 (.tup [])
  refine ⟨(by show 1 ≤ sizeLine; decide), fun F0 hF0 => ?_⟩
  have gF := same_new hF0 (.lst [.ref e0])
  have g1 := ge.trans gF
  refine ⟨_, rfl, a, _, rfl, .inl (g1.seq ha), ?_⟩
  rw [List.length_map]
  refine ⟨(ls.length : Int), rfl, by omega, by omega, for_range (n := ls.length) (fun i σ H' => (∃ (Fd : Addr) (x2 x3 x4 x5 : Option V) (M : List (V × List Str)), σ = [some (.ref a), some (.ref Fd), x2, x3, x4, x5] ∧ H Fd = none ∧ H' Fd = some (.lst (M.map Prod.fst)) ∧ M.map Prod.snd = Topo.ord as i ∧ OrdsL K H' M) ∧ Same H H')
    ⟨⟨F0, _, _, _, _, [(.ref e0, [])], rfl, ge.free hF0, upd_same, rfl, fun q hq => by rw [List.mem_singleton.mp hq]; exact ⟨e0, rfl, seqT gF (SqT.of upd_same)⟩⟩, g1⟩ ?_ ?_⟩
  · rintro i σ H2 hi ⟨⟨Fd, x2, x3, x4, x5, M, rfl, hFn, hFd, eM, hM⟩, g2⟩
    have Ml : M.length ≤ 4 ^ i := by
      have q := ord_len as as4 i
      rw [← eM, List.length_map] at q
      exact q
    have p4 : 4 ^ i ≤ 64 := by
      have : 4 ^ i ≤ 4 ^ 3 := Nat.pow_le_pow_right (by decide) (by omega)
      exact this
    refine ⟨(by show 0 ≤ sizeLine; decide), fun Lg hLg => ?_⟩
    have gL := same_new hLg (.lst [])
    refine ⟨_, rfl, Fd, rfl, ⟨_, SqL.of (gL _ _ hFd)⟩, for_list (K := K) (a := Fd) (xs := M.map Prod.fst) (fun j σ' H' => (∃ (x4 x5 : Option V) (M2 : List (V × List Str)), σ' = [some (.ref a), some (.ref Fd), some (.int (0 + (i : Int))), some (.ref Lg), x4, x5] ∧ H' Lg = some (.lst (M2.map Prod.fst)) ∧ M2.map Prod.snd = ((Topo.ord as i).take j).flatMap (longer as) ∧ OrdsL K H' M2) ∧ Same H2 H')
      ⟨⟨_, _, [], rfl, upd_same, rfl, fun _ h => by cases h⟩, gL⟩ (fun j σ' H' _ ⟨_, g⟩ => SqL.of (g _ _ hFd)) ?_ ?_⟩
    · rintro j y σ' H3 hy ⟨⟨x4', x5', M2, rfl, hLg3, eM2, hM2⟩, g3⟩
      obtain ⟨q, eq, rfl⟩ := at_map hy
      obtain ⟨tp, eq1, hq⟩ := hM q (List.mem_of_getElem? eq)
      have hq3 := seqT g3 hq
      have eqs : (Topo.ord as i)[j]? = some q.2 := by rw [← eM, List.getElem?_map, eq] <;> rfl
      have jl : j < M.length := (List.getElem?_eq_some_iff.mp eq).1
      rw [eq1]
      refine ⟨_, rfl, .inl ⟨rfl, _, SqL.of hLg3⟩, ?_⟩
      refine ⟨_, rfl, a, ls, rfl, (g2.trans g3).seq ha, by omega, fun zs Z pz sz hZ => ?_⟩
      obtain rfl : as = zs := hlet.uniq hn (fun z => Iff.rfl) pz sz
      have gZ := same_new hZ (.lst (as.map V.str))
      refine ⟨Z, rfl, ⟨_, SqL.of upd_same⟩, fun D hD => ?_⟩
      have gD := same_new hD (.lst [])
      refine lc_it (walk_list (K := K) (a := Z) (xs := as.map V.str)) (fun m H' => ∃ M3 : List (V × List Str), H' D = some (.lst (M3.map Prod.fst)) ∧ M3.map Prod.snd = ((as.take m).filter fun l => decide (l ∉ q.2)).map (fun l => q.2 ++ [l]) ∧ OrdsL K H' M3 ∧ Same H3 H' ∧ H' Z = some (.lst (as.map V.str))) ⟨[], upd_same, rfl, (fun _ h => by cases h), gZ.trans gD, gD _ _ upd_same⟩ (fun m H' _ ⟨_, _, _, _, _, z⟩ => SqL.of z) (fun m y H4 H5 hm hv hy => ?_) ?_
      · obtain ⟨rfl, hy⟩ := hy
        obtain ⟨z, ez, rfl⟩ := at_map hy
        obtain ⟨M3, v1, v2, v3, v4, v5⟩ := hv
        have hq5 := seqT v4 hq3
        have tk : as.take (m + 1) = as.take m ++ [z] := by rw [List.take_add_one, ez] <;> rfl
        have ml : M3.length ≤ 4 := by
          have e := congrArg List.length v2
          rw [List.length_map, List.length_map] at e
          have := List.length_filter_le (fun l => decide (l ∉ q.2)) (as.take m)
          have := List.length_take_le' m as
          omega
        refine ⟨rfl, _, rfl, _, rfl, tp, q.2.map V.str, rfl, .inr hq5, rfl, flat_strs' _, _, rfl, ?_⟩
        by_cases hz : z ∈ q.2
        · refine iteN (by rw [if_pos rfl, in_strs, decide_eq_true hz] <;> rfl) ⟨M3, v1, ?_, v3, v4, v5⟩
          rw [v2, tk, List.filter_append]
          have : ([z] : List Str).filter (fun l => decide (l ∉ q.2)) = [] := by simp [hz]
          rw [this, List.append_nil]
        · refine iteC (by rw [if_pos rfl, in_strs, decide_eq_false hz] <;> rfl) ?_
          have nDZ : Z ≠ D := fun e => by rw [← e, upd_same] at hD; cases hD
          have fin : ∀ (p : Addr) (H6 : Hp), Same H5 H6 → SqT K H6 p ((q.2 ++ [z]).map V.str) → ∃ acc, H6 D = some (.lst acc) ∧ acc.length < sizeLine ∧ (∃ M3 : List (V × List Str), (upd H6 D (.lst (acc ++ [.ref p]))) D = some (.lst (M3.map Prod.fst)) ∧ M3.map Prod.snd = ((as.take (m + 1)).filter fun l => decide (l ∉ q.2)).map (fun l => q.2 ++ [l]) ∧ OrdsL K (upd H6 D (.lst (acc ++ [.ref p]))) M3 ∧ Same H3 (upd H6 D (.lst (acc ++ [.ref p]))) ∧ (upd H6 D (.lst (acc ++ [.ref p]))) Z = some (.lst (as.map V.str))) := fun p H6 g6 hp => by
            have gl : TK K H6 (upd H6 D (.lst (M3.map Prod.fst ++ [.ref p]))) := TK.lst (g6 _ _ v1)
            refine ⟨_, g6 _ _ v1, by rw [List.length_map]; exact small1000 (by omega), M3 ++ [(.ref p, q.2 ++ [z])], by rw [upd_same, List.map_append] <;> rfl, ?_, ((v3.mono (.of g6)).mono gl).app (fun x hx => by rw [List.mem_singleton.mp hx]; exact ⟨p, rfl, gl _ _ hp⟩), same_over (v4.trans g6) (gZ.free hD) _, by rw [upd_ne nDZ]; exact g6 _ _ v5⟩
            rw [List.map_append, v2, tk, List.filter_append]
            have : ([z] : List Str).filter (fun l => decide (l ∉ q.2)) = [z] := by simp [hz]
            rw [this, List.map_append (l₂ := [z])] <;> rfl
          refine ⟨_, rfl, _, rfl, (by show 1 ≤ sizeLine; decide), fun u hu => ?_⟩
          have gu := same_new hu (.tup [.str z])
          have hu1 : SqT K (upd H5 u (.tup [.str z])) u [.str z] := SqT.of upd_same
          refine ⟨tp, u, _, _, rfl, rfl, seqT gu hq5, hu1, ?_, fun e => ?_, (fun _ e => by cases e), fun e _ p hp => ?_⟩
          · rw [List.length_map, ord_mem (List.mem_of_getElem? eqs)]
            exact Nat.le_trans (show _ ≤ 1000 by show i + 1 ≤ 1000; omega) (by decide)
          · have e : q.2 = [] := List.map_eq_nil_iff.mp e
            exact fin u _ gu (by rw [e]; exact hu1)
          · have gp := same_new hp (.tup (q.2.map V.str ++ [.str z]))
            exact fin p _ (gu.trans gp) (by rw [List.map_append]; exact SqT.of upd_same)
      rintro H4 ⟨M3, v1, v2, v3, v4, v5⟩
      rw [List.length_map, List.take_length] at v2
      have hLg4 := v4 _ _ hLg3
      have e1 : ((Topo.ord as i).take (j + 1)).flatMap (longer as) = ((Topo.ord as i).take j).flatMap (longer as) ++ longer as q.2 := by
        rw [List.take_succ, eqs, List.flatMap_append]
        show _ ++ List.flatMap _ [q.2] = _
        rw [List.flatMap_singleton]
      have l2 : M2.length ≤ 256 := by
        have e := congrArg List.length eM2
        have b := longer_len as as4 ((Topo.ord as i).take j)
        rw [List.length_map] at e
        rw [List.length_take] at b
        omega
      have l3 : M3.length ≤ 4 := by
        have e := congrArg List.length v2
        rw [List.length_map, List.length_map] at e
        have := List.length_filter_le (fun l => decide (l ∉ q.2)) as
        omega
      have gl : TK K H4 (upd H4 Lg (.lst (M2.map Prod.fst ++ M3.map Prod.fst))) := TK.lst hLg4
      refine ⟨Lg, D, _, _, rfl, rfl, hLg4, v1, ?_, ⟨_, _, M2 ++ M3, rfl, by rw [upd_same, List.map_append], ?_, ((hM2.mono (.of v4)).mono gl).app (v3.mono gl)⟩, same_over (g3.trans v4) hLg _⟩
      · rw [List.length_map, List.length_map]
        exact Nat.le_trans (show _ ≤ 1000 by omega) (by decide)
      · rw [List.map_append, eM2, v2, e1] <;> rfl
    · rintro σ' H3 ⟨⟨x4', x5', M2, rfl, hLg3, eM2, hM2⟩, g3⟩
      rw [List.length_map, ← List.length_map (f := Prod.snd), eM, List.take_length] at eM2
      exact ⟨_, rfl, ⟨Lg, _, _, _, _, M2, rfl, g2.free hLg, hLg3, eM2, hM2⟩, g2.trans g3⟩
  · rintro σ H2 ⟨⟨Fd, x2, x3, x4, x5, M, rfl, hFn, hFd, eM, hM⟩, g2⟩
    rw [← asl] at eM
    exact ⟨_, rfl, k Fd M H2 g2 hFn hFd eM hM⟩
end
end Lw
namespace Lw
open PySem L2 TzR TL
/-! _law_least_order -/
/-- the law's uses, place by place -/
def LUses (K : PySem.W.Frag) (H : Hp) (us : List V) (xs : List Ux) : Prop := us.length = xs.length ∧ ∀ (i : Nat) (x : Ux), xs[i]? = some x → ∃ u, us[i]? = some (.ref u) ∧ LUse K H u x
theorem LUse.mono {K : PySem.W.Frag} {H H' : Hp} (g : TK K H H') {u : Addr} {x : Ux} (h : LUse K H u x) : LUse K H' u x := LuAt.mono g h
theorem LUses.mono {K : PySem.W.Frag} {H H' : Hp} (g : TK K H H') {us : List V} {xs : List Ux} (h : LUses K H us xs) : LUses K H' us xs :=
  ⟨h.1, fun i x e => let ⟨u, e1, e2⟩ := h.2 i x e; ⟨u, e1, e2.mono g⟩⟩
abbrev s_l_least_order : Stmt := topS 32
abbrev n_l_least_order : List Str := ["_law_uses", "_law_letters_here", "_law_order", "_law_use"]
theorem sc_l_least_order : FnScope n_l_least_order ["_law_uses", "_law_letters_here"] (defScope s_l_least_order) := ⟨rfl, rfl, rfl, by decide +kernel, rfl, by decide +kernel, by decide +kernel⟩
def spLo (K : PySem.W.Frag) : Sp := fun vs H Q _ => ∃ (a b : Addr) (us : List V) (xs : List Ux) (ls as : List Str), vs = [.ref a, .ref b] ∧ SqL K H a us ∧ LUses K H us xs ∧ (∀ x ∈ xs, GoodU x) ∧ xs.length ≤ 100 ∧ SqL K H b (ls.map V.str) ∧ ls.Nodup ∧ ls.length ≤ 4 ∧ LetOk as ls ∧ (∀ x ∈ xs, ∀ z ∈ x.2.1, z ∈ ls) ∧
  (∀ order, (Topo.ord as as.length).find? (Topo.fitsS (stAll xs)) = some order → ∀ (o : Addr) (H' : Hp), Same H H' → SqT K H' o (order.map V.str) → Q (.ref o) H') ∧ ((Topo.ord as as.length).find? (Topo.fitsS (stAll xs)) = none → ∀ H' : Hp, Same H H' → Q .non H')
theorem ord_all {as p : List Str} (hn : as.Nodup) (h : p ∈ Topo.ord as as.length) : ∀ z, z ∈ p ↔ z ∈ as := by
  rw [Topo.ord_eq] at h
  have e : Topo.out as ([] : List Str) = as := by
    unfold Topo.out
    exact List.filter_eq_self.mpr fun a _ => by simp
  obtain ⟨r, e1, _, hm⟩ := Topo.of_exts hn (by rw [e]) h
  intro z
  rw [e1, List.nil_append, hm z]
  simp
theorem fits_all (xs : List Ux) (p : List Str) : ((List.range xs.length).map fun i => Topo.fitsS (stUse (xs.getD i ux0) i) p).all id = Topo.fitsS (stAll xs) p := by
  rw [List.all_map]
  unfold stAll
  show _ = List.all _ _
  rw [List.all_flatMap]
  rfl
section
variable {P : Program} {w : World} {K : PySem.W.Frag} {mg : Str → Option Value} {base : Heap} {f : Addr} {fd : FuncData}
theorem ok_l_least_order (F : Fun K "_law_least_order" "_law_least_order" s_l_least_order f fd) (B : Bt mg) (cO : Ca P w K mg base 1 "_law_orders" ["_law_letters_here"] (spOrd K)) (cF : Ca P w K mg base 3 "_law_fits" ["_law_use", "_law_order"] (spFit K)) : FnOk P w K mg base CX0 4 f fd ["_law_uses", "_law_letters_here"] (spLo K) := by
  refine F.ok sc_l_least_order (fun vs H Q E h => ?_) (fun cdv A outer s H vs Q E hr h => ?_)
  · obtain ⟨a, b, us, xs, ls, as, rfl, _⟩ := h
    rfl
  obtain ⟨a, b, us, xs, ls, as, rfl, ha, hU, hX, hxl, hb, hn, h4, hlet, hsub, k1, k2⟩ := h
  refine ⟨_, (pss_cons (ps_for PassesOwn.never rfl (pi_list (pca cO hr (by decide) rfl (pa_cons (pv 1) pa_nil))) (pg_name (i := 2) sc_l_least_order.nd rfl (Or.inr rfl))
(pss_one (ps_if (pt_val (pe_callB (cr_all rfl) (by rfl) B.all (by decide +kernel) (pa_cons (pe_lc (own := [("_law_use", 3)]) (g := (gName 3)) (tt := tYes) (te := tCall (spFit K) [] E0 (tCons (tVar 3) (tCons (tCB (fun xs H Q => ∃ p ys, xs = [.ref p] ∧ (SqL K H p ys ∨ SqT K H p ys) ∧ ∀ l, H l = none → Q (.ref l) (upd H l (.lst ys))) (tCons (tVar 2) tNil)) tNil))) rfl sc_l_least_order.nd (pi_list (pv 0)) (blkOk_by (N := n_l_least_order) (sc := defScope s_l_least_order) (by decide +kernel)) (fun _ _ _ _ _ => (pg_name (i := 3) sc_l_least_order.nd rfl (Or.inl rfl))) (fun _ _ _ _ _ => pts_nil) (fun _ _ _ _ _ => (pca cF hr (by decide) rfl (pa_cons (pv 3) (pa_cons (pe_callTy call_list_of (by rfl) B.lst (by decide +kernel) (pa_cons (pv 2) pa_nil)) pa_nil))))) pa_nil)))
(pss_one (ps_ret (pv 2))) pss_nil)))
(pss_one (ps_ret pe_non))), ?_⟩
  refine ⟨_, rfl, b, ls, as, rfl, hb, hn, h4, hlet, fun D M H1 g1 hD0 hD eM hM => ?_⟩
  refine ⟨D, rfl, ⟨_, SqL.of hD⟩, for_list (K := K) (a := D) (xs := M.map Prod.fst) (fun j σ' H' => (∃ x2 x3 : Option V, σ' = [some (.ref a), some (.ref b), x2, x3]) ∧ Same H1 H' ∧ ((Topo.ord as as.length).take j).find? (Topo.fitsS (stAll xs)) = none)
    ⟨⟨_, _, rfl⟩, Same.refl _, rfl⟩ (fun j σ' H' _ ⟨_, g, _⟩ => SqL.of (g _ _ hD)) ?_ ?_⟩
  · rintro j y σ' H2 hy ⟨⟨x2, x3, rfl⟩, g2, hno⟩
    obtain ⟨q, eq, rfl⟩ := at_map hy
    obtain ⟨tp, eq1, hq⟩ := hM q (List.mem_of_getElem? eq)
    have hq2 := seqT g2 hq
    have g02 := g1.trans g2
    have eqs : (Topo.ord as as.length)[j]? = some q.2 := by rw [← eM, List.getElem?_map, eq] <;> rfl
    have hall := ord_all hlet.nd (List.mem_of_getElem? eqs)
    rw [eq1]
    refine ⟨_, rfl, a, rfl, ⟨_, g02.seq ha⟩, fun A hA => ?_⟩
    refine lc_it (walk_list (K := K) (a := a) (xs := us)) (InvB H2 A fun i => Topo.fitsS (stUse (xs.getD i ux0) i) q.2) ⟨upd_same, same_new hA _⟩ (fun i H' _ ⟨_, g⟩ => (g02.trans g).seq ha) (fun i y H3 H4 hi hv hy3 => ?_) ?_
    · obtain ⟨rfl, hy3⟩ := hy3
      have hix : i < xs.length := by rw [← hU.1]; exact hi
      have ei := List.getElem?_eq_getElem hix
      obtain ⟨u, eu, hu⟩ := hU.2 i _ ei
      rw [eu] at hy3
      cases hy3
      have g03 := g02.trans hv.2
      refine ⟨rfl, kept ⟨_, rfl, _, rfl, tp, _, rfl, .inr (seqT hv.2 hq2), fun l hl => ?_⟩⟩
      have gl := same_new hl (.lst (q.2.map V.str))
      refine ⟨u, l, xs[i], q.2, i, rfl, hu.mono (.of (g03.trans gl)), hX _ (List.getElem_mem hix), SqL.of upd_same, fun p hp => (hall _).mpr ((hlet.mem _).mpr (hsub _ (List.getElem_mem hix) _ (letAt_mem ((hX _ (List.getElem_mem hix)).ax p hp)))), fun H5 g5 => ?_⟩
      have g35 := gl.trans g5
      refine ⟨_, g35 _ _ hv.1, len_b (by omega), ?_⟩
      have e : xs.getD i ux0 = xs[i] := by rw [List.getD_eq_getElem?_getD, ei] <;> rfl
      have z := InvB.next (H := H5) hA (f := fun i => Topo.fitsS (stUse (xs.getD i ux0) i) q.2) ⟨g35 _ _ hv.1, hv.2.trans g35⟩
      simp only [e] at z
      exact z
    rintro H3 ⟨hA3, g3⟩
    rw [hU.1] at hA3
    refine ⟨A, _, rfl, SqL.of hA3, _, rfl, ?_⟩
    rw [fits_all]
    have split : Topo.ord as as.length = (Topo.ord as as.length).take j ++ q.2 :: (Topo.ord as as.length).drop (j + 1) := by
      obtain ⟨l1, l2⟩ := List.getElem?_eq_some_iff.mp eqs
      rw [← l2, ← List.drop_eq_getElem_cons l1, List.take_append_drop]
    cases hf : Topo.fitsS (stAll xs) q.2 with
    | true =>
      refine iteT ⟨_, rfl, k1 q.2 ?_ tp H3 (g02.trans g3) (seqT g3 hq2)⟩
      rw [split, List.find?_append, hno, Option.none_or, List.find?_cons_of_pos hf]
    | false =>
      refine iteF ⟨⟨_, _, rfl⟩, g2.trans g3, ?_⟩
      rw [List.take_succ, eqs, List.find?_append, hno, Option.none_or]
      show ([q.2] : List (List Str)).find? _ = none
      rw [List.find?_cons_of_neg (by rw [hf]; decide)]
      rfl
  · rintro σ' H2 ⟨_, g2, hno⟩
    rw [List.length_map, ← List.length_map (f := Prod.snd), eM, List.take_length] at hno
    exact k2 hno H2 (g1.trans g2)
end
end Lw
namespace Lw
open PySem L2 TzR TL
/-! _law_is_ring -/
abbrev s_l_is_ring : Stmt := topS 33
abbrev n_l_is_ring : List Str := ["_law_steps", "_law_uses", "_law_numbers", "_law_step", "_law_k", "_law_upper", "_law_no", "_law_letter", "_law_letters_here"]
theorem sc_l_is_ring : FnScope n_l_is_ring ["_law_steps", "_law_uses", "_law_numbers"] (defScope s_l_is_ring) := ⟨rfl, rfl, rfl, by decide +kernel, rfl, by decide +kernel, by decide +kernel⟩
def spIr (K : PySem.W.Frag) : Sp := fun vs H Q _ => ∃ (p a b : Addr) (us : List V) (xs : List Ux) (ns : List Nat) (M : List (V × Stp)), vs = [.ref p, .ref a, .ref b] ∧ SqT K H p (M.map Prod.fst) ∧ TripsL K H M ∧ M.length ≤ 100 ∧ Topo.RingOk (stOf xs ns) (M.map Prod.snd) ∧ (∀ n ∈ ns, n < xs.length) ∧ SqL K H a us ∧ LUses K H us xs ∧ (∀ x ∈ xs, GoodU x) ∧ (∀ x ∈ xs, ∀ z ∈ x.2.1, PyData.strOk z = true) ∧
  SqL K H b (ns.map fun n : Nat => V.int n) ∧ ∀ H' : Hp, Same H H' → Q (.bl true) H'
theorem stOf_mem {xs : List Ux} {ns : List Nat} (hns : ∀ n ∈ ns, n < xs.length) {s : Stp} (h : s ∈ stOf xs ns) : s.2.1 ∈ ns ∧ ∃ x, xs[s.2.1]? = some x ∧ s ∈ stUse x s.2.1 := by
  obtain ⟨n, hn, hs⟩ := List.mem_flatMap.mp h
  have lt := hns n hn
  rw [List.getD_eq_getElem?_getD, List.getElem?_eq_getElem lt] at hs
  obtain ⟨i, j, p, _, _, _, _, e1, _⟩ := st_mem.mp hs
  rw [e1]
  exact ⟨hn, xs[n], List.getElem?_eq_getElem lt, hs⟩
theorem nats_ints (ns : List Nat) : ((ns.map fun n : Nat => (n : Int)).map V.int) = ns.map fun n : Nat => V.int n := by
  rw [List.map_map] <;> rfl
def dSt (s : Stp) : PyData := .tuple [.str s.1, .int (s.2.1 : Nat), .str s.2.2]
theorem trip_dp {K : PySem.W.Frag} {H : Hp} : ∀ {M : List (V × Stp)}, TripsL K H M → DpAll K H (M.map Prod.fst) ((M.map Prod.snd).map dSt)
  | [], _ => .nil
  | q :: r, h => by
    obtain ⟨a, e, z⟩ := h q (List.mem_cons_self ..)
    refine .cons ?_ (trip_dp fun x hx => h x (List.mem_cons_of_mem _ hx))
    rw [e]
    exact .tup z (.cons (.str _) (.cons (.int _) (.cons (.str _) .nil)))
theorem dst_ok : ∀ {S : List Stp}, (∀ s ∈ S, PyData.strOk s.1 = true ∧ PyData.strOk s.2.2 = true) → PyData.canLayAll0 (S.map dSt) = true ∧ PyData.depthAll (S.map dSt) ≤ 1
  | [], _ => ⟨rfl, Nat.zero_le _⟩
  | s :: r, h => by
    obtain ⟨a, b⟩ := dst_ok (S := r) fun x hx => h x (List.mem_cons_of_mem _ hx)
    obtain ⟨c, d⟩ := h s (List.mem_cons_self ..)
    constructor
    · show (PyData.canLay0 (dSt s) && PyData.canLayAll0 (r.map dSt)) = true
      rw [a, Bool.and_true]
      show (PyData.strOk s.1 && (true && (PyData.strOk s.2.2 && true))) = true
      rw [c, d] <;> rfl
    · show max (PyData.depth (dSt s)) (PyData.depthAll (r.map dSt)) ≤ 1
      exact Nat.max_le.mpr ⟨Nat.le_refl _, b⟩
theorem put_new {kvs : List (Key × V)} {k : Key} {v : V} (h : ∀ p ∈ kvs, p.1 ≠ k) : putK kvs k v = kvs ++ [(k, v)] := by
  unfold putK
  rw [if_neg]
  intro c
  obtain ⟨p, hp, e⟩ := List.any_eq_true.mp c
  exact h p hp (of_decide_eq_true e)
theorem merge_nd : ∀ {more kvs : List (Key × V)}, ((kvs ++ more).map (·.1)).Nodup → mergeK kvs more = kvs ++ more
  | [], kvs, _ => by rw [List.append_nil] <;> rfl
  | p :: r, kvs, h => by
    have e : mergeK kvs (p :: r) = mergeK (putK kvs p.1 p.2) r := rfl
    have hn : ∀ q ∈ kvs, q.1 ≠ p.1 := fun q hq eq => by
      rw [List.map_append, List.map_cons] at h
      exact (List.nodup_append.mp h).2.2 _ (List.mem_map.mpr ⟨q, hq, rfl⟩) p.1 (List.mem_cons_self ..) eq
    rw [e, put_new hn, merge_nd (by rw [List.append_assoc]; exact h), List.append_assoc] <;> rfl
section
variable {P : Program} {w : World} {K : PySem.W.Frag} {mg : Str → Option Value} {base : Heap} {f : Addr} {fd : FuncData}
theorem ok_l_is_ring (F : Fun K "_law_is_ring" "_law_is_ring" s_l_is_ring f fd) (B : Bt mg) (B2 : Bx mg) (cL : Ca P w K mg base 1 "_law_level_letters" ["_law_use"] (spLvl K)) : FnOk P w K mg base CX0 2 f fd ["_law_steps", "_law_uses", "_law_numbers"] (spIr K) := by
  refine F.ok sc_l_is_ring (fun vs H Q E h => ?_) (fun cdv A outer s H vs Q E hr h => ?_)
  · obtain ⟨p, a, b, us, xs, ns, M, rfl, _⟩ := h
    rfl
  obtain ⟨p, a, b, us, xs, ns, M, rfl, hp, hM, hMl, ring, hns, ha, hU, hX, hstr, hb, k⟩ := h
  refine ⟨_, (pss_cons (ps_if (PW.pt (pw_or (pt_not (pt_val (pe_callB call_isi (by rfl) B.isi (by decide +kernel) (pa_cons (pv 0) (pa_cons (pe_bltn (v := .ty "tuple") (by rfl) B.tup (by decide +kernel) rfl) pa_nil))))) (pw_or (pt_cmpR (op_eqD hr.units) (pv 0) (pe_tup pa_nil) (nomark _)) (pw_or1 (pt_not (pt_val (pe_callB (cr_all rfl) (by rfl) B.all (by decide +kernel) (pa_cons (pe_lc (own := [("_law_step", 3)]) (g := (gName 3)) (tt := tYes) (te := tCB (rIsi K) (tCons (tVar 3) (tCons (tC (.ty "tuple")) tNil))) rfl sc_l_is_ring.nd (pi_tup (pv 0)) (blkOk_by (N := n_l_is_ring) (sc := defScope s_l_is_ring) (by decide +kernel)) (fun _ _ _ _ _ => (pg_name (i := 3) sc_l_is_ring.nd rfl (Or.inl rfl))) (fun _ _ _ _ _ => pts_nil) (fun _ _ _ _ _ => (pe_callB call_isi (by rfl) B.isi (by decide +kernel) (pa_cons (pv 3) (pa_cons (pe_bltn (v := .ty "tuple") (by rfl) B.tup (by decide +kernel) rfl) pa_nil))))) pa_nil))))))))
(pss_one (ps_ret pe_bl)) pss_nil)
(pss_cons (ps_if (pt_cmpR op_ne (pe_callB call_len_seq (by rfl) B.len PySem.boot_len (pa_cons (pv 0) pa_nil)) (pe_callB call_lenD (by rfl) B.len PySem.boot_len (pa_cons (pe_callTy (call_dictP rfl) (by rfl) B.dict (by decide +kernel) (pa_cons (pe_lc (own := [("_law_step", 3)]) (g := (gName 3)) (tt := tYes) (te := tTup (tCons (tOp (rIxT K) (tVar 3) (tC (.int 2))) (tCons (tC (.int 1)) tNil))) rfl sc_l_is_ring.nd (pi_tup (pv 0)) (blkOk_by (N := n_l_is_ring) (sc := defScope s_l_is_ring) (by decide +kernel)) (fun _ _ _ _ _ => (pg_name (i := 3) sc_l_is_ring.nd rfl (Or.inl rfl))) (fun _ _ _ _ _ => pts_nil) (fun _ _ _ _ _ => (pe_tup (pa_cons (pe_ix ix_tup (pv 3) pe_int (fun _ _ => rfl)) (pa_cons pe_int pa_nil))))) pa_nil)) pa_nil)) (nomark _))
(pss_one (ps_ret pe_bl)) pss_nil)
(pss_cons (ps_for PassesOwn.never rfl (EnT.pi_enumT (by rfl) B2.enum (pa_cons (pv 0) pa_nil)) (pg_tup rfl (pgs_cons (pg_name (i := 4) sc_l_is_ring.nd rfl (Or.inl rfl)) (pgs_cons (pg_tup rfl (pgs_cons (pg_name (i := 5) sc_l_is_ring.nd rfl (Or.inl rfl)) (pgs_cons (pg_name (i := 6) sc_l_is_ring.nd rfl (Or.inl rfl)) (pgs_cons (pg_name (i := 7) sc_l_is_ring.nd rfl (Or.inl rfl)) pgs_nil)))) pgs_nil)))
(pss_cons (ps_if (PW.pt (pw_or (pt_cmpR op_notIn_seq (pv 6) (pv 2) (by rfl)) (pw_or1 (pt_cmpR op_ne (pv 7) (pe_ix ix_tup (pe_ix ix_tup (pv 0) (pe_op op_mod (pe_callTy call_int1 (by rfl) B.int (by decide +kernel) (pa_cons (pe_op op_add (pv 4) pe_int) pa_nil)) (pe_callB call_len_seq (by rfl) B.len PySem.boot_len (pa_cons (pv 0) pa_nil))) (fun _ _ => rfl)) pe_int (fun _ _ => rfl)) (nomark _)))))
(pss_one (ps_ret pe_bl)) pss_nil)
(pss_cons (ps_set (i := 8) sc_l_is_ring.nd rfl (Or.inl rfl) (pca cL hr (by decide) rfl (pa_cons (pe_ix ix_list (pv 1) (pv 6) (fun _ _ => rfl)) pa_nil)))
(pss_cons (ps_if (PW.pt (pw_or (pt_cmpR op_notIn_seq (pv 7) (pv 8) (by rfl)) (pw_or1 (pt_cmpR op_notIn_seq (pv 5) (pe_slice sl_list (pv 8) po_none (po_some (pe_bm PySem.F.plainAttrs_list PySem.F.slot_list_index PySem.F.type_list_index mt_index (pv 8) (pa_cons (pv 7) pa_nil)))) (by rfl)))))
(pss_one (ps_ret pe_bl)) pss_nil)
(pss_one (ps_if (pt_cmpR op_ne (pe_ix ix_tup (pe_ix ix_tup (pe_ix ix_tup (pe_ix ix_list (pv 1) (pv 6) (fun _ _ => rfl)) pe_int (fun _ _ => rfl)) (pe_bm PySem.F.plainAttrs_list PySem.F.slot_list_index PySem.F.type_list_index mt_index (pv 8) (pa_cons (pv 7) pa_nil)) (fun _ _ => rfl)) pe_int (fun _ _ => rfl)) pe_str (nomark _))
(pss_one (ps_ret pe_bl)) pss_nil))))))
(pss_one (ps_ret pe_bl))))), ?_⟩
  have sok : ∀ s ∈ M.map Prod.snd, PyData.strOk s.1 = true ∧ PyData.strOk s.2.2 = true := fun s hs => by
    obtain ⟨x, ex, h2⟩ := (stOf_mem hns (ring.sub s hs)).2
    have xm := List.mem_of_getElem? ex
    obtain ⟨o1, o2, _⟩ := st_ok (hX x xm) h2
    exact ⟨hstr x xm _ o1, hstr x xm _ o2⟩
  obtain ⟨dk1, dk2⟩ := dst_ok sok
  have mne : M ≠ [] := fun e => ring.ne (by rw [e] <;> rfl)
  have mpos : 0 < M.length := List.length_pos_iff.mpr mne
  refine ⟨_, rfl, _, _, .type "tuple", .type "tuple", true, rfl, .ty _, tyT hp, kit_ty (by decide +kernel), _, rfl, iteF ?_⟩
  refine ⟨_, rfl, (by show 0 ≤ sizeLine; decide), fun e he => ?_⟩
  have ge := same_new he (.tup [])
  refine ⟨.tuple ((M.map Prod.snd).map dSt), .tuple [], .tup (seqT ge hp) (trip_dp (hM.mono (.of ge))), .tup (SqT.of upd_same) .nil, ?_, by decide +kernel, _, rfl, ?_⟩
  · show (PyData.canLayAll0 _ && decide (PyData.depthAll _ + 1 ≤ 64)) = true
    rw [dk1, decide_eq_true (by omega)] <;> rfl
  refine iteN ?_ ?_
  · cases M with
    | nil => exact absurd rfl mne
    | cons q r => rfl
  refine ⟨_, rfl, p, rfl, ⟨_, seqT ge hp⟩, fun A hA => ?_⟩
  refine lc_tup (K := K) (a := p) (xs := M.map Prod.fst) (InvM (upd H e (.tup [])) A (fun _ : V × Stp => V.bl true) M) ⟨upd_same, same_new hA _⟩ (fun i H' _ ⟨_, g⟩ => seqT (ge.trans g) hp) (fun i x H' hx hv => ?_) ?_
  · obtain ⟨q, eq, rfl⟩ := at_map hx
    obtain ⟨ad, e1, hq⟩ := hM q (List.mem_of_getElem? eq)
    rw [e1]
    exact ⟨rfl, kept ⟨_, rfl, _, _, .type "tuple", .type "tuple", true, rfl, .ty _, tyT (seqT (ge.trans hv.2) hq), kit_ty (by decide +kernel), _, hv.1, len_m (by omega), InvM.next (f := fun _ : V × Stp => V.bl true) hA hv.2 eq _ rfl⟩⟩
  rintro H1 ⟨hA1, gA⟩
  rw [List.length_map, List.take_length] at hA1
  have hA2 : H1 A = some (.lst ((M.map fun _ => true).map V.bl)) := by rw [hA1, List.map_map] <;> rfl
  have g1 := ge.trans gA
  refine ⟨A, _, rfl, SqL.of hA2, _, rfl, ?_⟩
  refine iteN ?_ ?_
  · rw [Bool.not_eq_false', List.all_eq_true]
    intro x hx
    obtain ⟨_, _, rfl⟩ := List.mem_map.mp hx
    rfl
  -- the letters, each once
  refine ⟨_, rfl, p, _, rfl, .inr (seqT g1 hp), ?_⟩
  refine ⟨_, rfl, p, rfl, ⟨_, seqT g1 hp⟩, fun A2 hA2n => ?_⟩
  refine lc_tup (K := K) (a := p) (xs := M.map Prod.fst) (fun i H' => ∃ ps : List Addr, H' A2 = some (.lst (ps.map V.ref)) ∧ ps.length = i ∧ Paired (fun p kv => SqT K H' p [kV kv.1, kv.2]) ps ((M.take i).map fun q => ((.inr q.2.2.2 : Key), V.int 1)) ∧ Same H1 H') ⟨[], upd_same, rfl, .nil, same_new hA2n _⟩ (fun i H' _ ⟨_, _, _, _, g⟩ => seqT (g1.trans g) hp) (fun i x H' hx hv => ?_) ?_
  · obtain ⟨q, eq, rfl⟩ := at_map hx
    obtain ⟨ad, e1, hq⟩ := hM q (List.mem_of_getElem? eq)
    obtain ⟨ps, v1, v2, v3, v4⟩ := hv
    have il := (List.getElem?_eq_some_iff.mp eq).1
    rw [e1]
    refine ⟨rfl, kept ⟨_, rfl, ad, _, (2 : Int), .str q.2.2.2, rfl, rfl, seqT (g1.trans v4) hq, atI_nat (j := 2) rfl, (by show 2 ≤ sizeLine; decide), fun t ht => ?_⟩⟩
    have gt := same_new ht (.tup [.str q.2.2.2, .int 1])
    have v1t := gt _ _ v1
    have gl : TK K (upd H' t (.tup [.str q.2.2.2, .int 1])) (upd (upd H' t (.tup [.str q.2.2.2, .int 1])) A2 (.lst (ps.map V.ref ++ [.ref t]))) := TK.lst v1t
    refine ⟨_, v1t, by rw [List.length_map]; exact small1000 (by omega), ps ++ [t], by rw [upd_same, List.map_append] <;> rfl, by rw [List.length_append, v2] <;> rfl, ?_, same_over (v4.trans gt) hA2n _⟩
    rw [List.take_succ, eq, List.map_append]
    exact (PySem.Paired.mono (fun a b h => gl _ _ (seqT gt h)) v3).snoc (gl _ _ (SqT.of upd_same))
  rintro H2 ⟨ps, v1, v2, v3, v4⟩
  rw [List.length_map, List.take_length] at v3
  refine ⟨A2, ps, _, rfl, SqL.of v1, v3, fun d hd => ?_⟩
  have gd := same_new hd (.dK (mergeK [] (M.map fun q => ((.inr q.2.2.2 : Key), V.int 1))))
  have g3 := g1.trans (v4.trans gd)
  have nk : (([] ++ M.map fun q : V × Stp => ((.inr q.2.2.2 : Key), V.int 1)).map (fun x : Key × V => x.1)).Nodup := by
    rw [List.nil_append, List.map_map]
    have r := ring.nd
    rw [List.map_map] at r
    have e2 : (M.map ((fun x : Key × V => x.1) ∘ fun q : V × Stp => ((.inr q.2.2.2 : Key), V.int 1))) = (M.map ((fun s : Stp => s.2.2) ∘ Prod.snd)).map Sum.inr := by rw [List.map_map] <;> rfl
    rw [e2]
    exact List.pairwise_map.mpr (r.imp fun ne e => ne (by injection e))
  refine ⟨d, _, rfl, upd_same, ?_⟩
  refine ⟨rfl, _, rfl, iteN ?_ ?_⟩
  · rw [merge_nd nk, List.nil_append, List.length_map, List.length_map]
    simp
  revert g3
  generalize upd H2 d (.dK (mergeK [] (M.map fun q => ((.inr q.2.2.2 : Key), V.int 1)))) = H3
  intro g3
  refine ⟨_, rfl, p, _, rfl, seqT g3 hp, for_it (walk_enT (K := K) (a := p) (xs := M.map Prod.fst)) (fun i σ' H' => (∃ x3 x4 x5 x6 x7 x8 : Option V, σ' = [some (.ref p), some (.ref a), some (.ref b), x3, x4, x5, x6, x7, x8]) ∧ Same H3 H') ⟨⟨_, _, _, _, _, _, rfl⟩, Same.refl _⟩ (fun i σ' H' _ ⟨_, g⟩ => seqT (g3.trans g) hp) ?_ ?_⟩
  · rintro i y σ' H4 H5 hi ⟨⟨x3, x4, x5, x6, x7, x8, rfl⟩, g4⟩ hy
    obtain ⟨T, y', rfl, hT, rfl, hyx⟩ := hy
    obtain ⟨q, eq, rfl⟩ := at_map hyx
    obtain ⟨ad, e1, hq⟩ := hM q (List.mem_of_getElem? eq)
    have gT := same_new hT (.tup [.int (i : Nat), q.1])
    have g04 := g3.trans g4
    have g05 := g04.trans gT
    have il : i < M.length := (List.getElem?_eq_some_iff.mp eq).1
    have qmem : q.2 ∈ M.map Prod.snd := List.mem_map.mpr ⟨q, List.mem_of_getElem? eq, rfl⟩
    -- the use of the step
    obtain ⟨x, ex, hst⟩ := (stOf_mem hns (ring.sub _ qmem)).2
    obtain ⟨ii, jj, pz, ei, ek, hji, eu, _, el⟩ := st_mem.mp hst
    have xm := List.mem_of_getElem? ex
    have hx := hX x xm
    have nl : q.2.2.1 < xs.length := (List.getElem?_eq_some_iff.mp ex).1
    obtain ⟨u, eus, hu⟩ := hU.2 _ _ ex
    -- the next step
    have nlt : (i + 1) % M.length < M.length := Nat.mod_lt _ mpos
    have eq2 := List.getElem?_eq_getElem nlt
    generalize M[(i + 1) % M.length] = q2 at eq2
    obtain ⟨ad2, e12, hq2⟩ := hM q2 (List.mem_of_getElem? eq2)
    have lk : q.2.2.2 = q2.2.1 := ring.link i q.2 q2.2 (by rw [List.getElem?_map, eq] <;> rfl) (by rw [List.length_map, List.getElem?_map, eq2] <;> rfl)
    rw [e1]
    rw [e1] at gT g05
    refine ⟨T, _, rfl, SqT.of upd_same, rfl, _, _, rfl, _, _, rfl, ad, _, rfl, seqT g05 hq, rfl, _, _, rfl, _, _, rfl, _, _, rfl, rfl, rfl, ?_⟩
    refine ⟨_, rfl, _, rfl, b, _, rfl, .inl (g05.seq hb), rfl, (by rw [← nats_ints]; exact flat_ints _), _, rfl, ?_⟩
    refine iteN (by rw [if_pos rfl, ← nats_ints, inV_int, decide_eq_true (List.mem_map.mpr ⟨_, (stOf_mem hns (ring.sub _ qmem)).1, rfl⟩)] <;> rfl) ?_
    have emod : ((i : Nat) : Int) + 1 = ((i + 1 : Nat) : Int) := by omega
    refine ⟨_, rfl, _, rfl, _, rfl, _, _, rfl, rfl, .inl ⟨_, rfl, ?_⟩⟩
    refine ⟨_, rfl, p, _, rfl, .inr (seqT g05 hp), _, _, rfl, rfl, ?_, p, _, _, .ref ad2, rfl, rfl, seqT g05 hp, ?_, ad2, _, (0 : Int), .str q2.2.1, rfl, rfl, seqT g05 hq2, atI_nat (j := 0) rfl, rfl, _, rfl, ?_⟩
    · show (0 : Int) < ((M.map Prod.fst).length : Nat)
      rw [List.length_map]
      omega
    · rw [List.length_map]
      show atI (M.map Prod.fst) ((((i : Nat) : Int) + 1) % ((M.length : Nat) : Int)) = _
      rw [show (((i : Nat) : Int) + 1) % ((M.length : Nat) : Int) = (((i + 1) % M.length : Nat) : Int) from rfl]
      refine atI_nat (j := (i + 1) % M.length) ?_
      rw [List.getElem?_map, eq2]
      show some q2.1 = _
      rw [e12]
    refine iteN (by rw [dstr, decide_eq_true lk] <;> rfl) ?_
    refine ⟨_, rfl, _, rfl, a, us, ((q.2.2.1 : Nat) : Int), .ref u, rfl, rfl, g05.seq ha, atI_nat (j := q.2.2.1) eus, ?_⟩
    have hu5 : LuAt K _ u x.1 x.2.1 x.2.2 := hu.mono (.of g05)
    refine ⟨u, x.1, x.2.1, x.2.2, rfl, hu5, hx.l3, hx.ax, fun D H6 g6 hD0 hD => ?_⟩
    have hD : H6 D = some (.lst ((lvs x).map V.str)) := hD
    have eii : (lvs x)[ii]? = some q.2.2.2 := by
      rw [el]
      unfold lvs
      rw [List.getElem?_map, ei] <;> rfl
    have lin : q.2.2.2 ∈ lvs x := List.mem_of_getElem? eii
    obtain ⟨i1, _⟩ := idx_at lin
    have eidx : (lvs x).idxOf q.2.2.2 = ii := by
      obtain ⟨l1, m1⟩ := List.getElem?_eq_some_iff.mp i1
      obtain ⟨l2, m2⟩ := List.getElem?_eq_some_iff.mp eii
      exact (List.getElem_inj hx.lv_nd (h₀ := l1) (h₁ := l2)).mp (by rw [m1, m2])
    obtain ⟨w1, a1, b1, c1⟩ := ix_str lin
    rw [eidx] at a1 c1
    have iil := (List.getElem?_eq_some_iff.mp eii).1
    refine ⟨_, rfl, _, rfl, D, _, rfl, .inl (SqL.of hD), rfl, flat_strs' _, _, rfl, ?_⟩
    refine iteN (by rw [if_pos rfl, in_strs, decide_eq_true lin] <;> rfl) ?_
    refine ⟨_, rfl, _, rfl, _, rfl, .inl ⟨rfl, _, SqL.of hD⟩, _, rfl, D, _, .str q.2.2.2, ii, w1, rfl, rfl, SqL.of hD, rfl, flat_strs' _, a1, b1, c1, _, rfl, D, _, rfl, SqL.of hD, fun p2 hp2 => ?_⟩
    rw [cut_take _ _ (by rw [List.length_map]; omega), ← List.map_take]
    have gp := same_new hp2 (.lst (((lvs x).take ii).map V.str))
    have uin : q.2.1 ∈ (lvs x).take ii := List.mem_of_getElem? (i := jj) (by rw [List.getElem?_take, if_pos hji]; exact eu)
    refine ⟨p2, _, rfl, .inl (SqL.of upd_same), rfl, flat_strs' _, _, rfl, ?_⟩
    refine iteN (by rw [if_pos rfl, in_strs, decide_eq_true uin] <;> rfl) ?_
    have g56 := g6.trans gp
    have g06 := g05.trans g56
    have hD7 := gp _ _ hD
    obtain ⟨tl, tf, uu, k1, k2, k3, k4⟩ := hu5.mono (.of g56)
    have iu : ii < uu.length := by rw [k4.1]; exact (List.getElem?_eq_some_iff.mp ei).1
    obtain ⟨y, ey, hy⟩ := k4.2 ii uu[ii] _ (List.getElem?_eq_getElem iu) ei
    have ey2 : uu[ii]? = some (.ref y) := by rw [List.getElem?_eq_getElem iu, ey]
    refine ⟨_, rfl, _, rfl, a, us, ((q.2.2.1 : Nat) : Int), .ref u, rfl, rfl, g06.seq ha, atI_nat (j := q.2.2.1) eus, u, _, (2 : Int), .ref tf, rfl, rfl, k1, atI_nat (j := 2) rfl, _, rfl, .inl ⟨rfl, _, SqL.of hD7⟩, _, rfl, D, _, .str q.2.2.2, ii, w1, rfl, rfl, SqL.of hD7, rfl, flat_strs' _, a1, b1, c1, tf, uu, (ii : Int), .ref y, rfl, rfl, k3, atI_nat (j := ii) ey2, y, _, (0 : Int), .str pz.1, rfl, rfl, hy, atI_nat (j := 0) rfl, rfl, _, rfl, ?_⟩
    refine iteN (by rw [dstr, decide_eq_true ek] <;> rfl) ?_
    exact ⟨⟨_, _, _, _, _, _, rfl⟩, g4.trans (gT.trans g56)⟩
  · rintro σ' H4 ⟨_, g4⟩
    exact k H4 (g3.trans g4)
end
end Lw
namespace Lw
open PySem L2 TzR TL
/-! _law_ringed -/
abbrev s_l_ringed : Stmt := topS 34
abbrev n_l_ringed : List Str := ["_law_stream", "_law_many", "_law_letters_here", "_law_uses", "_law_k", "_law_own", "_law_sides", "_law_kinds", "_law_axis"]
theorem sc_l_ringed : FnScope n_l_ringed ["_law_stream", "_law_many"] (defScope s_l_ringed) := ⟨rfl, rfl, rfl, by decide +kernel, rfl, by decide +kernel, by decide +kernel⟩
def GoodL (lets : List Str) (xs : List Ux) : Prop := ∀ x ∈ xs, GoodU x ∧ ∀ z ∈ x.2.1, z ∈ lets
def spRgd (K : PySem.W.Frag) : Sp := fun vs H Q _ => ∃ (st q : Addr) (b : Int) (m : Nat), vs = [.ref st, .int (m : Nat)] ∧ Spr H st q b ∧ 0 ≤ b ∧ b ≤ 700 ∧ m ≤ 4 ∧
  ∀ (t A L : Addr) (us : List V) (xs : List Ux) (lets : List Str) (b' : Int) (H' : Hp), SqT K H' t [.ref A, .ref L] → H' A = some (.lst us) → LUses K H' us xs → GoodL lets xs → xs.length = m → H' L = some (.lst (lets.map V.str)) → lets.Nodup → (∀ z ∈ lets, z ∈ Tt.abcL) → lets.length = 4 → b ≤ b' → b' ≤ b + 60 → Spr H' st q b' → SX st q H H' → H A = none → H L = none → Q (.ref t) H'
theorem sx_free {st q A : Addr} {H H' : Hp} (g : SX st q H H') (n1 : A ≠ st) (n2 : A ≠ q) (h : H' A = none) : H A = none := by
  cases e : H A with
  | none => rfl
  | some o => rw [g _ _ n1 n2 e] at h; cases h
theorem tups_snoc {K : PySem.W.Frag} {H H' : Hp} {vs : List V} {l : List (Str × Int)} (g : TK K H H') (h : Tups K H vs l) {t : Addr} {p : Str × Int} (ht : SqT K H' t [.str p.1, .int p.2]) : Tups K H' (vs ++ [.ref t]) (l ++ [p]) := by
  refine ⟨by rw [List.length_append, List.length_append, h.1] <;> rfl, fun i v q ev eq => ?_⟩
  by_cases hi : i < vs.length
  · rw [List.getElem?_append_left hi] at ev
    rw [List.getElem?_append_left (by rw [← h.1]; exact hi)] at eq
    obtain ⟨a, e, s⟩ := h.2 i v q ev eq
    exact ⟨a, e, g _ _ s⟩
  · have lt := (List.getElem?_eq_some_iff.mp ev).1
    rw [List.length_append, List.length_singleton] at lt
    have e : i = vs.length := by omega
    rw [e, List.getElem?_append_right (Nat.le_refl _), Nat.sub_self] at ev
    rw [e, h.1, List.getElem?_append_right (Nat.le_refl _), Nat.sub_self] at eq
    cases ev
    cases eq
    exact ⟨t, rfl, ht⟩
theorem luses_snoc {K : PySem.W.Frag} {H : Hp} {us : List V} {xs : List Ux} (h : LUses K H us xs) {u : Addr} {x : Ux} (hu : LUse K H u x) : LUses K H (us ++ [.ref u]) (xs ++ [x]) := by
  refine ⟨by rw [List.length_append, List.length_append, h.1] <;> rfl, fun i y e => ?_⟩
  by_cases hi : i < xs.length
  · rw [List.getElem?_append_left hi] at e
    rw [List.getElem?_append_left (by rw [h.1]; exact hi)]
    exact h.2 i y e
  · have lt := (List.getElem?_eq_some_iff.mp e).1
    rw [List.length_append, List.length_singleton] at lt
    have e2 : i = xs.length := by omega
    rw [e2, List.getElem?_append_right (Nat.le_refl _), Nat.sub_self] at e
    rw [e2, ← h.1, List.getElem?_append_right (Nat.le_refl _), Nat.sub_self]
    cases e
    exact ⟨u, rfl, hu⟩
theorem abcd_at {i : Nat} (h : i < 4) : ∃ c : Nat, atI ("abcd" : Str).cps.toList (0 + (i : Int)) = some c := by
  have hl : ("abcd" : Str).cps.toList.length = 4 := by decide +kernel
  refine ⟨("abcd" : Str).cps.toList[i]'(by omega), ?_⟩
  rw [Int.zero_add]
  exact atI_nat (List.getElem?_eq_getElem _)
theorem pick_n {v : V} (h : v ∈ [V.int 1, .int 2, .int 2, .int 2, .int 3]) : ∃ n : Nat, v = .int (n : Nat) ∧ 1 ≤ n ∧ n ≤ 3 := by
  simp only [List.mem_cons, List.not_mem_nil, or_false] at h
  rcases h with rfl | rfl | rfl | rfl | rfl
  · exact ⟨1, rfl, by omega, by omega⟩
  · exact ⟨2, rfl, by omega, by omega⟩
  · exact ⟨2, rfl, by omega, by omega⟩
  · exact ⟨2, rfl, by omega, by omega⟩
  · exact ⟨3, rfl, by omega, by omega⟩
abbrev K6 : List Str := ["packed", "packed", "packed", "dense", "bits", "hashed"]
theorem k6_kinds : ∀ k ∈ K6, k ∈ KINDS := by
  intro k h
  simp only [K6, List.mem_cons, List.not_mem_nil, or_false] at h
  rcases h with rfl | rfl | rfl | rfl | rfl | rfl <;> decide +kernel
def InvRf (K : PySem.W.Frag) (H0 : Hp) (st q D : Addr) (b : Int) (os : List Int) (i : Nat) (H : Hp) : Prop := ∃ (acc : List V) (l : List (Str × Int)), H D = some (.lst acc) ∧ l.map (·.2) = os.take i ∧ (∀ p ∈ l, p.1 ∈ KINDS) ∧ Tups K H acc l ∧ Spr H st q (b + i) ∧ SX st q H0 H
section
variable {P : Program} {w : World} {K : PySem.W.Frag} {mg : Str → Option Value} {base : Heap} {f : Addr} {fd : FuncData}
theorem ok_l_ringed (F : Fun K "_law_ringed" "_law_ringed" s_l_ringed f fd) (B : Bt mg) (cL : Ca P w K mg base 2 "_law_letters" ["_law_stream", "_law_many"] Tt.spLet) (cS : Ca P w K mg base 2 "_law_mixed" ["_law_stream", "_law_some"] Tt.spMixed) (cI : Ca P w K mg base 2 "_law_mixed" ["_law_stream", "_law_some"] spMixed) (cP : Ca P w K mg base 2 "_law_pick" ["_law_stream", "_law_some"] (spPick K)) :
    FnOk P w K mg base CX0 3 f fd ["_law_stream", "_law_many"] (spRgd K) := by
  refine F.ok sc_l_ringed (fun vs H Q E h => ?_) (fun cdv A0 outer s H vs Q E hr h => ?_)
  · obtain ⟨st, q, b, m, rfl, _⟩ := h
    rfl
  obtain ⟨st, q, b, m, rfl, hs, hb0, hb1, hm, k⟩ := h
  refine ⟨_, (pss_cons (ps_par (i := 2) (j := 3) rfl sc_l_ringed.nd rfl rfl (by decide) rfl rfl (pa_cons (pca cL hr (by decide) rfl (pa_cons (pv 0) (pa_cons pe_int pa_nil))) (pa_cons (pe_lst pa_nil) pa_nil)) (by rfl))
(pss_cons (ps_for PassesOwn.never rfl (pi_range1 (by rfl) B.range (pa_cons (pv 1) pa_nil)) (pg_name (i := 4) sc_l_ringed.nd rfl (Or.inl rfl))
(pss_cons (ps_set (i := 5) sc_l_ringed.nd rfl (Or.inl rfl) (pe_callTy call_tuple_of (by rfl) B.tup (by decide +kernel) (pa_cons (pe_slice sl_list (pca cS hr (by decide) rfl (pa_cons (pv 0) (pa_cons (pv 2) pa_nil))) po_none (po_some (pca cP hr (by decide) rfl (pa_cons (pv 0) (pa_cons (pe_lst (pa_cons pe_int (pa_cons pe_int (pa_cons pe_int (pa_cons pe_int (pa_cons pe_int pa_nil)))))) pa_nil))))) pa_nil)))
(pss_cons (ps_set (i := 6) sc_l_ringed.nd rfl (Or.inl rfl) (pca cI hr (by decide) rfl (pa_cons (pv 0) (pa_cons (pe_listRg rfl (by rfl) B.lst (prg_1 (by rfl) B.range (pe_callB call_len_seq (by rfl) B.len PySem.boot_len (pa_cons (pv 5) pa_nil)))) pa_nil))))
(pss_cons (ps_set (i := 7) sc_l_ringed.nd rfl (Or.inr rfl) (pe_lst (pa_cons pe_str (pa_cons pe_str (pa_cons pe_str (pa_cons pe_str (pa_cons pe_str (pa_cons pe_str pa_nil))))))))
(pss_one (ps_expr (pe_bm PySem.F.plainAttrs_list PySem.F.slot_list_append PySem.F.type_list_append mt_append (pv 3) (pa_cons (pe_tup (pa_cons (pe_ix L2.ix_str pe_str (pv 4) (fun _ _ => rfl)) (pa_cons (pv 5) (pa_cons (pe_callTy call_tuple_of (by rfl) B.tup (by decide +kernel) (pa_cons (pe_lc (own := [("_law_axis", 8)]) (g := (gName 8)) (tt := tYes) (te := tTup (tCons (tCall (spPick K) [] E0 (tCons (tVar 0) (tCons (tVar 7) tNil))) (tCons (tVar 8) tNil))) rfl sc_l_ringed.nd (pi_list (pv 6)) (blkOk_by (N := n_l_ringed) (sc := defScope s_l_ringed) (by decide +kernel)) (fun _ _ _ _ _ => (pg_name (i := 8) sc_l_ringed.nd rfl (Or.inl rfl))) (fun _ _ _ _ _ => pts_nil) (fun _ _ _ _ _ => (pe_tup (pa_cons (pca cP hr (by decide) rfl (pa_cons (pv 0) (pa_cons (pv 7) pa_nil))) (pa_cons (pv 8) pa_nil))))) pa_nil)) pa_nil)))) pa_nil))))))))
(pss_one (ps_ret (pe_tup (pa_cons (pv 3) (pa_cons (pv 2) pa_nil))))))), ?_⟩
  refine ⟨_, rfl, st, q, b, 4, rfl, hs, hb0, by omega, by decide, fun L lets H1 hnd habc hlen hs1 g1 hL hL0 => ?_⟩
  refine ⟨(by show 0 ≤ sizeLine; decide), fun A hA => ?_⟩
  have gA := same_new hA (.lst [])
  obtain ⟨nA1, nA2⟩ := hs1.out hA
  obtain ⟨nL1, nL2⟩ := hs.out hL0
  have hA0 : H A = none := sx_free g1 nA1 nA2 hA
  refine ⟨_, _, rfl, _, rfl, (m : Int), rfl, by omega, by omega, for_range (lo := 0) (n := m) (fun i σ' H' => (∃ x4 x5 x6 x7 x8 : Option V, σ' = [some (.ref st), some (.int (m : Nat)), some (.ref L), some (.ref A), x4, x5, x6, x7, x8]) ∧ (∃ (us : List V) (xs : List Ux) (b' : Int), H' A = some (.lst us) ∧ LUses K H' us xs ∧ GoodL lets xs ∧ xs.length = i ∧ H' L = some (.lst (lets.map V.str)) ∧ Spr H' st q b' ∧ b ≤ b' ∧ b' ≤ b + 4 + 11 * i) ∧ SX st q H H')
    ⟨⟨_, _, _, _, _, rfl⟩, ⟨[], [], b + 4, upd_same, ⟨rfl, fun i x e => by cases e⟩, (fun x hx => by cases hx), rfl, gA _ _ hL, hs1.same gA, by omega, by omega⟩, g1.trans (.of gA)⟩ ?_ ?_⟩
  · rintro i σ' H2 hi ⟨⟨x4, x5, x6, x7, x8, rfl⟩, ⟨us, xs, b2, hA2, hU, hG, hxl, hL2, hs2, hb2, hb2'⟩, g2⟩
    have hi4 : i < 4 := by omega
    refine ⟨_, rfl, _, rfl, st, q, L, b2, lets, rfl, hs2, by omega, by omega, hL2, by omega, fun r os1 H3 perm1 hs3 g3 hr3 hr0 => ?_⟩
    rw [hlen] at hs3
    refine ⟨_, rfl, (by show 5 ≤ sizeLine; decide), fun pk hpk => ?_⟩
    have gpk := same_new hpk (.lst [.int 1, .int 2, .int 2, .int 2, .int 3])
    obtain ⟨npk1, npk2⟩ := hs3.out hpk
    refine ⟨st, q, pk, b2 + 4, _, rfl, hs3.same gpk, by omega, by omega, upd_same, npk1, npk2, (by show 0 < 5; decide), (by show 5 ≤ 1000; decide), fun v H4 hv hs4 g4 => ?_⟩
    obtain ⟨n, rfl, n1, n3⟩ := pick_n hv
    have g34 : SX st q H3 H4 := (SX.of gpk).trans g4
    obtain ⟨nr1, nr2⟩ := hs2.out hr0
    have hr4 := g34 _ _ nr1 nr2 hr3
    have o1l : os1.length = 4 := by rw [perm1.length_eq, hlen]
    have ecut : cutV (os1.map V.str) none (some (n : Int)) = (os1.take n).map V.str := by rw [cut_take _ _ (by rw [List.length_map]; omega), List.map_take]
    refine ⟨_, rfl, r, _, rfl, SqL.of hr4, fun p hp => ?_⟩
    rw [ecut]
    generalize hls : os1.take n = ls
    have lsl : ls.length = n := by rw [← hls, List.length_take]; omega
    have lsn : ls.Nodup := by rw [← hls]; exact (perm1.nodup_iff.mpr hnd).sublist (List.take_sublist _ _)
    have lss : ∀ x ∈ ls, x ∈ lets := fun x hx => by
      rw [← hls] at hx
      exact perm1.mem_iff.mp (List.mem_of_mem_take hx)
    have gp := same_new hp (.lst (ls.map V.str))
    refine ⟨p, _, rfl, .inl ⟨SqL.of upd_same, fun own hown => ?_⟩⟩
    have go := same_new hown (.tup (ls.map V.str))
    have g46 := gp.trans go
    have hown6 : SqT K (upd (upd H4 p (.lst (ls.map V.str))) own (.tup (ls.map V.str))) own (ls.map V.str) := SqT.of upd_same
    have hs6 := hs4.same g46
    have g26 : SX st q H2 (upd (upd H4 p (.lst (ls.map V.str))) own (.tup (ls.map V.str))) := (g3.trans g34).trans (.of g46)
    clear g46 go gp hown hp
    generalize (upd (upd H4 p (.lst (ls.map V.str))) own (.tup (ls.map V.str))) = H6 at hown6 hs6 g26 ⊢
    have eml : (ls.map V.str).length = n := by rw [List.length_map, lsl]
    refine ⟨_, rfl, _, rfl, own, _, rfl, .inr hown6, ((ls.map V.str).length : Nat), rfl, RgOk.of_le (by decide) (by omega) (by decide) (by omega), fun sd hsd => ?_⟩
    rw [rg_iota, eml]
    have gsd := same_new hsd (.lst ((iota n).map V.int))
    refine ⟨st, q, sd, b2 + 4 + 1, iota n, rfl, hs6.same gsd, by omega, by omega, upd_same, by rw [iota_len]; omega, fun r2 os2 H7 perm2 hs7 gx7 hr7 hr70 => ?_⟩
    rw [iota_len] at hs7
    have o2l : os2.length = n := by rw [perm2.length_eq, iota_len]
    obtain ⟨nr21, nr22⟩ := (hs6.same gsd).out hr70
    have g67 : SX st q H6 H7 := (SX.of gsd).trans gx7
    have tk67 : TK K H6 H7 := TK.sx hs6 g67
    refine ⟨(by show 6 ≤ sizeLine; decide), fun kd hkd => ?_⟩
    have gkd := same_new hkd (.lst [.str "packed", .str "packed", .str "packed", .str "dense", .str "bits", .str "hashed"])
    obtain ⟨nkd1, nkd2⟩ := hs7.out hkd
    have hkd8 : (upd H7 kd (.lst [.str "packed", .str "packed", .str "packed", .str "dense", .str "bits", .str "hashed"])) kd = some (.lst [.str "packed", .str "packed", .str "packed", .str "dense", .str "bits", .str "hashed"]) := upd_same
    have hs8 := hs7.same gkd
    have hr8 := gkd _ _ hr7
    have g28 : SX st q H2 (upd H7 kd (.lst [.str "packed", .str "packed", .str "packed", .str "dense", .str "bits", .str "hashed"])) := (g26.trans g67).trans (.of gkd)
    have tk68 : TK K H6 (upd H7 kd (.lst [.str "packed", .str "packed", .str "packed", .str "dense", .str "bits", .str "hashed"])) := tk67.trans (TK.of gkd)
    generalize (upd H7 kd (.lst [.str "packed", .str "packed", .str "packed", .str "dense", .str "bits", .str "hashed"])) = H8 at hkd8 hs8 hr8 g28 tk68 ⊢
    have hA8 := g28 _ _ nA1 nA2 hA2
    refine ⟨_, rfl, .inl ⟨rfl, _, SqL.of hA8⟩, ?_⟩
    obtain ⟨c, ec⟩ := abcd_at hi4
    refine ⟨_, rfl, _, _, c, rfl, rfl, by decide +kernel, ec, ?_⟩
    refine ⟨_, rfl, _, rfl, r2, rfl, ⟨_, SqL.of hr8⟩, fun D hD => ?_⟩
    obtain ⟨nD1, nD2⟩ := hs8.out hD
    have gD := same_new hD (.lst [])
    refine lc_list (K := K) (a := r2) (xs := os2.map V.int) (InvRf K H8 st q D (b2 + 4 + 1 + n) os2) ⟨[], [], upd_same, (by simp), (fun p hp => by cases hp), ⟨rfl, fun i v p e => (by simp at e)⟩, ?_, .of gD⟩ (fun i H' _ ⟨_, _, _, _, _, _, _, g⟩ => SqL.of (g _ _ nr21 nr22 hr8)) ?_ ?_
    · rw [show b2 + 4 + 1 + (n : Int) + ((0 : Nat) : Int) = b2 + 4 + 1 + n from Int.add_zero _]
      exact hs8.same gD
    · rintro j x H9 hx ⟨acc, l, hd, hmm, hk, ht, hs9, gx⟩
      obtain ⟨o, eo, rfl⟩ := at_map hx
      have hj : j < n := by rw [← o2l]; exact (List.getElem?_eq_some_iff.mp eo).1
      have ell : l.length = j := by
        have e := congrArg List.length hmm
        rw [List.length_map, List.length_take] at e
        omega
      have hkd9 := gx _ _ nkd1 nkd2 hkd8
      refine ⟨rfl, kept ?_⟩
      refine ⟨_, rfl, _, rfl, st, q, kd, b2 + 4 + 1 + n + j, _, rfl, hs9, by omega, by omega, hkd9, nkd1, nkd2, (by show 0 < 6; decide), (by show 6 ≤ 1000; decide), fun v H10 hv hs10 g10 => ?_⟩
      obtain ⟨kn, hkn, rfl⟩ := List.mem_map.mp (show v ∈ K6.map V.str from hv)
      refine ⟨_, rfl, (by show 2 ≤ sizeLine; decide), fun t ht' => ?_⟩
      have gt := same_new ht' (.tup [.str kn, .int o])
      have tk10 : TK K H9 H10 := TK.sx hs9 g10
      have hd11 := gt _ _ (g10 _ _ nD1 nD2 hd)
      have gl : TK K (upd H10 t (.tup [.str kn, .int o])) (upd (upd H10 t (.tup [.str kn, .int o])) D (.lst (acc ++ [.ref t]))) := TK.lst hd11
      refine ⟨acc, hd11, small1000 (by have := ht.1; omega), acc ++ [.ref t], l ++ [(kn, o)], upd_same, ?_, fun p hp => ?_, tups_snoc ((tk10.trans (TK.of gt)).trans gl) ht (gl _ _ (SqT.of upd_same)), ?_, ?_⟩
      · rw [List.map_append, hmm, List.take_succ, eo] <;> rfl
      · rcases List.mem_append.mp hp with hp | hp
        · exact hk p hp
        · rw [List.mem_singleton.mp hp]
          exact k6_kinds kn hkn
      · rw [show b2 + 4 + 1 + (n : Int) + ((j + 1 : Nat) : Int) = b2 + 4 + 1 + (n : Int) + (j : Int) + 1 by omega]
        exact (hs10.same gt).upd nD1 nD2
      · exact ((gx.trans g10).trans (.of gt)).upd_out hD
    rintro H9 ⟨acc, l, hd, hmm, hk, ht, hs9, gx⟩
    rw [List.length_map, o2l] at hs9
    rw [List.length_map, List.take_length] at hmm
    refine ⟨D, _, rfl, .inl ⟨SqL.of hd, fun tf htf => ?_⟩⟩
    have gtf := same_new htf (.tup acc)
    refine ⟨by show 3 ≤ sizeLine; decide, fun u hu => ?_⟩
    have gu := same_new hu (.tup [.str ⟨#[c]⟩, .ref own, .ref tf])
    have g9u := gtf.trans gu
    have g2u : SX st q H2 (upd (upd H9 tf (.tup acc)) u (.tup [.str ⟨#[c]⟩, .ref own, .ref tf])) := (g28.trans gx).trans (.of g9u)
    have hA11 := g2u _ _ nA1 nA2 hA2
    have tk6u : TK K H6 (upd (upd H9 tf (.tup acc)) u (.tup [.str ⟨#[c]⟩, .ref own, .ref tf])) := (tk68.trans (TK.sx hs8 gx)).trans (TK.of g9u)
    have hs11 := hs9.same g9u
    have hL11 := g2u _ _ nL1 nL2 hL2
    have hown11 := tk6u _ _ hown6
    have hu11 : SqT K (upd (upd H9 tf (.tup acc)) u (.tup [.str ⟨#[c]⟩, .ref own, .ref tf])) u [.str ⟨#[c]⟩, .ref own, .ref tf] := SqT.of upd_same
    have htf11 : SqT K (upd (upd H9 tf (.tup acc)) u (.tup [.str ⟨#[c]⟩, .ref own, .ref tf])) tf acc := seqT gu (SqT.of upd_same)
    have ht11 : Tups K (upd (upd H9 tf (.tup acc)) u (.tup [.str ⟨#[c]⟩, .ref own, .ref tf])) acc l := ht.mono (TK.of g9u)
    have hU11 := hU.mono (TK.sx hs2 g2u)
    generalize (upd (upd H9 tf (.tup acc)) u (.tup [.str ⟨#[c]⟩, .ref own, .ref tf])) = H11 at g2u hA11 tk6u hs11 hL11 hown11 hu11 htf11 ht11 hU11 ⊢
    have gl : TK K H11 (upd H11 A (.lst (us ++ [.ref u]))) := TK.lst hA11
    have nLA : L ≠ A := ne_of_none hL hA
    refine ⟨A, us, _, rfl, rfl, hA11, small1000 (by have := hU.1; omega), ⟨_, _, _, _, _, rfl⟩, ⟨us ++ [.ref u], xs ++ [(⟨#[c]⟩, ls, l)], b2 + 4 + 1 + n + n, upd_same, luses_snoc (hU11.mono gl) ⟨own, tf, acc, gl _ _ hu11, gl _ _ hown11, gl _ _ htf11, ht11.mono gl⟩, fun x hx => ?_, by rw [List.length_append, hxl] <;> rfl, by rw [upd_ne nLA]; exact hL11, hs11.upd nA1 nA2, by omega, by omega⟩, (g2.trans g2u).upd_out hA0⟩
    rcases List.mem_append.mp hx with hx | hx
    · exact hG x hx
    · rw [List.mem_singleton.mp hx]
      have l2 : l.length = n := by rw [← o2l, ← hmm, List.length_map]
      exact ⟨⟨⟨by rw [l2]; exact lsl.symm, hk, by rw [hmm]; show os2.Perm (iota ls.length); rw [lsl]; exact perm2⟩, by show ls.length ≤ 3; omega, lsn⟩, lss⟩
  · rintro σ' H2 ⟨⟨x4, x5, x6, x7, x8, rfl⟩, ⟨us, xs, b2, hA2, hU, hG, hxl, hL2, hs2, hb2, hb2'⟩, g2⟩
    refine ⟨_, rfl, _, rfl, (by show 2 ≤ sizeLine; decide), fun t ht => ?_⟩
    have gt := same_new ht (.tup [.ref A, .ref L])
    exact k t A L us xs lets b2 _ (SqT.of upd_same) (gt _ _ hA2) (hU.mono (.of gt)) hG hxl (gt _ _ hL2) hnd habc hlen (by omega) (by omega) (hs2.same gt) (g2.trans (.of gt)) hA0 hL0
end
end Lw
namespace Lw
open PySem L2 TzR TL StX
/-! numbers chosen -/
abbrev nV (c : List Nat) : List V := c.map fun n : Nat => V.int n
theorem flat_nats (c : List Nat) : (nV c).all flatV = true := by
  unfold nV
  rw [← nats_ints]
  exact flat_ints _
theorem in_nats (n : Nat) (c : List Nat) : inV (.int n) (nV c) = decide (n ∈ c) := by
  unfold nV
  rw [← nats_ints, inV_int]
  refine decide_eq_decide.mpr ⟨fun h => ?_, fun h => List.mem_map.mpr ⟨n, h, rfl⟩⟩
  obtain ⟨m, hm, e⟩ := List.mem_map.mp h
  have e : (m : Int) = (n : Int) := e
  have e2 : m = n := by omega
  rw [← e2]
  exact hm
/-- the first number that may follow -/
def nxN (c : List Nat) : Nat := (c.getLast?.map (· + 1)).getD 0
theorem nxN_snoc (c : List Nat) (i : Nat) : nxN (c ++ [i]) = i + 1 := by
  unfold nxN
  rw [List.getLast?_concat] <;> rfl
def longN (n : Nat) (c : List Nat) : List (List Nat) := ((List.range n).drop (nxN c)).map fun i => c ++ [i]
def combos (n : Nat) : Nat → List (List Nat)
  | 0 => [[]]
  | k + 1 => (combos n k).flatMap (longN n)
theorem longN_len {n : Nat} (h : n ≤ 4) : ∀ L : List (List Nat), (L.flatMap (longN n)).length ≤ L.length * 4
  | [] => Nat.zero_le _
  | p :: r => by
    have ih := longN_len h r
    have e : (longN n p).length ≤ 4 := by
      unfold longN
      rw [List.length_map, List.length_drop, List.length_range]
      omega
    rw [List.flatMap_cons, List.length_append, List.length_cons]
    omega
theorem combos_len {n : Nat} (h : n ≤ 4) : ∀ k : Nat, (combos n k).length ≤ 4 ^ k
  | 0 => Nat.le_refl _
  | k + 1 => by
    have a := longN_len h (combos n k)
    have b := combos_len h k
    have e : combos n (k + 1) = (combos n k).flatMap (longN n) := rfl
    rw [e, Nat.pow_succ]
    omega
theorem combos_mem {n : Nat} : ∀ {k : Nat} {c : List Nat}, c ∈ combos n k → c.length = k
  | 0, p, h => by rw [List.mem_singleton.mp h] <;> rfl
  | k + 1, p, h => by
    obtain ⟨q, hq, h2⟩ := List.mem_flatMap.mp h
    obtain ⟨l, _, rfl⟩ := List.mem_map.mp h2
    rw [List.length_append, combos_mem hq] <;> rfl
theorem range_mem {n : Nat} : ∀ {k : Nat}, k ≤ n → List.range k ∈ combos n k
  | 0, _ => List.mem_singleton.mpr rfl
  | k + 1, h => by
    refine List.mem_flatMap.mpr ⟨List.range k, range_mem (by omega), List.mem_map.mpr ⟨k, ?_, List.range_succ.symm⟩⟩
    have e : nxN (List.range k) = k := by
      cases k with
      | zero => rfl
      | succ j => rw [List.range_succ, nxN_snoc]
    rw [e]
    refine List.mem_of_getElem? (i := 0) ?_
    rw [List.getElem?_drop, Nat.add_zero, List.getElem?_range (by omega)]
theorem pow4 {i : Nat} (h : i ≤ 4) : 4 ^ i ≤ 256 := by
  have z : 4 ^ i ≤ 4 ^ 4 := Nat.pow_le_pow_right (by decide) h
  exact z
/-- values and the numbers that they show -/
def NumsL (K : PySem.W.Frag) (H : Hp) (L : List (V × List Nat)) : Prop := ∀ q ∈ L, ∃ t : Addr, q.1 = .ref t ∧ SqT K H t (nV q.2)
theorem NumsL.mono {K : PySem.W.Frag} {H H' : Hp} (g : TK K H H') {M : List (V × List Nat)} (h : NumsL K H M) : NumsL K H' M := fun q hq => let ⟨t, e, z⟩ := h q hq; ⟨t, e, g _ _ z⟩
theorem NumsL.app {K : PySem.W.Frag} {H : Hp} {L M : List (V × List Nat)} (h : NumsL K H L) (h2 : NumsL K H M) : NumsL K H (L ++ M) := fun q hq => (List.mem_append.mp hq).elim (h q) (h2 q)
/-- pairs of numbers and of what is left; none of the lists is D -/
def PairsL (K : PySem.W.Frag) (H : Hp) (n : Nat) (D : Addr) (L : List (V × List Nat)) : Prop := ∀ q ∈ L, ∃ t s l : Addr, q.1 = .ref t ∧ SqT K H t [.ref s, .ref l] ∧ SqT K H s (nV q.2) ∧ H l = some (.lst (nV ((List.range n).drop (nxN q.2)))) ∧ l ≠ D
theorem PairsL.same {K : PySem.W.Frag} {H H' : Hp} {n : Nat} {D : Addr} {L : List (V × List Nat)} (g : Same H H') (h : PairsL K H n D L) : PairsL K H' n D L := fun q hq => let ⟨t, s, l, e1, e2, e3, e4, e5⟩ := h q hq; ⟨t, s, l, e1, seqT g e2, seqT g e3, g _ _ e4, e5⟩
theorem PairsL.put {K : PySem.W.Frag} {H : Hp} {n : Nat} {D : Addr} {xs : List V} {ys : List V} {L : List (V × List Nat)} (hD : H D = some (.lst xs)) (h : PairsL K H n D L) : PairsL K (upd H D (.lst ys)) n D L := fun q hq =>
  let ⟨t, s, l, e1, e2, e3, e4, e5⟩ := h q hq
  ⟨t, s, l, e1, TK.lst hD _ _ e2, TK.lst hD _ _ e3, by rw [upd_ne e5]; exact e4, e5⟩
theorem PairsL.app {K : PySem.W.Frag} {H : Hp} {n : Nat} {D : Addr} {L M : List (V × List Nat)} (h : PairsL K H n D L) (h2 : PairsL K H n D M) : PairsL K H n D (L ++ M) := fun q hq => (List.mem_append.mp hq).elim (h q) (h2 q)
abbrev s_chosen : Stmt := topS 4
abbrev n_chosen : List Str := ["worths", "many", "found", "number", "start", "left", "at"]
theorem sc_chosen : FnScope n_chosen ["worths", "many"] (defScope s_chosen) := ⟨rfl, rfl, rfl, by decide +kernel, rfl, by decide +kernel, by decide +kernel⟩
def spChs (K : PySem.W.Frag) : Sp := fun vs H Q _ => ∃ (a : Addr) (n m : Nat), vs = [.ref a, .int (m : Nat)] ∧ SqL K H a (nV (List.range n)) ∧ n ≤ 4 ∧ m ≤ 4 ∧
  ∀ (D : Addr) (L : List (V × List Nat)) (H' : Hp), Same H H' → H D = none → H' D = some (.lst (L.map Prod.fst)) → L.map Prod.snd = combos n m → NumsL K H' L → Q (.ref D) H'
abbrev rLen (K : PySem.W.Frag) : List V → Hp → VK → Prop := fun xs H Q => ∃ p ys, xs = [.ref p] ∧ (SqL K H p ys ∨ SqT K H p ys) ∧ Q (.int ys.length) H
section
variable {P : Program} {w : World} {K : PySem.W.Frag} {mg : Str → Option Value} {base : Heap} {f : Addr} {fd : FuncData}
theorem ok_chosen (F : Fun K "chosen" "chosen" s_chosen f fd) (B : Bt mg) : FnOk P w K mg base CX0 1 f fd ["worths", "many"] (spChs K) := by
  refine F.ok sc_chosen (fun vs H Q E h => ?_) (fun cdv A outer s H vs Q E hr h => ?_)
  · obtain ⟨a, n, m, rfl, _⟩ := h
    rfl
  obtain ⟨a, n, m, rfl, ha, hn, hm, k⟩ := h
  refine ⟨_, (pss_cons (ps_set (i := 2) sc_chosen.nd rfl (Or.inl rfl) (pe_lst (pa_cons (pe_tup (pa_cons (pe_tup pa_nil) (pa_cons (pe_callTy call_list_of (by rfl) B.lst (by decide +kernel) (pa_cons (pv 0) pa_nil)) pa_nil))) pa_nil)))
(pss_cons (ps_for PassesOwn.never rfl (pi_range1 (by rfl) B.range (pa_cons (pv 1) pa_nil)) (pg_name (i := 3) sc_chosen.nd rfl (Or.inl rfl))
(pss_one (ps_setLc2 (i := 2) (own := [("start", 4), ("left", 5), ("at", 6)]) (vs1 := [6]) (g := (gTup K 2 (gCons (gName 4) (gCons (gName 5) gNil)))) (g1 := (gName 6)) (tt := tYes) (tt1 := tYes) (wi1 := iRng1 (tCons (tCB (rLen K) (tCons (tVar 5) tNil)) tNil)) (te := tTup (tCons (tTup (tStar K (tVar 4) (tCons (tOp (rIxL K) (tVar 5) (tVar 6)) tNil))) (tCons (tSl (rSlL K) (tVar 5) (tPart (tOp (rI0 fun i j => .int (i + j)) (tVar 6) (tC (.int 1)))) tNoPart) tNil))) rfl sc_chosen.nd rfl rfl (sw_true rfl rfl rfl (by decide +kernel)) (pi_list (pv 2)) (blkOk_by (N := n_chosen) (sc := defScope s_chosen) (by decide +kernel)) (by decide) (fun _ _ _ _ _ => (pg_tup rfl (pgs_cons (pg_name (i := 4) sc_chosen.nd rfl (Or.inl rfl)) (pgs_cons (pg_name (i := 5) sc_chosen.nd rfl (Or.inl rfl)) pgs_nil)))) (fun _ _ _ _ _ => pts_nil) (fun _ _ _ _ _ => (pi_range1 (by rfl) B.range (pa_cons (pe_callB call_len_seq (by rfl) B.len PySem.boot_len (pa_cons (pv 5) pa_nil)) pa_nil))) (fun _ _ _ _ _ => (pg_name (i := 6) sc_chosen.nd rfl (Or.inl rfl))) (fun _ _ _ _ _ => pts_nil) (fun _ _ _ _ _ => (pe_tup (pa_cons (pe_tup (pa_star (pv 4) (pa_cons (pe_ix ix_list (pv 5) (pv 6) (fun _ _ => rfl)) pa_nil))) (pa_cons (pe_slice sl_list (pv 5) (po_some (pe_op op_add (pv 6) pe_int)) po_none) pa_nil)))))))
(pss_one (ps_ret (pe_lc (own := [("start", 4), ("left", 5)]) (g := (gTup K 2 (gCons (gName 4) (gCons (gName 5) gNil)))) (tt := tYes) (te := tVar 4) rfl sc_chosen.nd (pi_list (pv 2)) (blkOk_by (N := n_chosen) (sc := defScope s_chosen) (by decide +kernel)) (fun _ _ _ _ _ => (pg_tup rfl (pgs_cons (pg_name (i := 4) sc_chosen.nd rfl (Or.inl rfl)) (pgs_cons (pg_name (i := 5) sc_chosen.nd rfl (Or.inl rfl)) pgs_nil)))) (fun _ _ _ _ _ => pts_nil) (fun _ _ _ _ _ => (pv 4))))))), ?_⟩
  refine ⟨(by show 0 ≤ sizeLine; decide), fun e0 he0 => ?_⟩
  have ge := same_new he0 (.tup [])
  refine ⟨_, rfl, a, _, rfl, .inl (ge.seq ha), fun l0 hl0 => ?_⟩
  have gl := same_new hl0 (.lst (nV (List.range n)))
  refine ⟨(by show 2 ≤ sizeLine; decide), fun t0 ht0 => ?_⟩
  have gt := same_new ht0 (.tup [.ref e0, .ref l0])
  refine ⟨(by show 1 ≤ sizeLine; decide), fun F0 hF0 => ?_⟩
  have gF := same_new hF0 (.lst [.ref t0])
  have gx := (ge.trans gl).trans gt
  have n0 : l0 ≠ F0 := ne_of_none (gt _ _ upd_same) hF0
  refine ⟨_, rfl, (m : Int), rfl, by omega, by omega, for_range (lo := 0) (n := m) (fun i σ' H' => ∃ (Fd : Addr) (x3 x4 x5 x6 : Option V) (L : List (V × List Nat)), σ' = [some (.ref a), some (.int (m : Nat)), some (.ref Fd), x3, x4, x5, x6] ∧ H Fd = none ∧ H' Fd = some (.lst (L.map Prod.fst)) ∧ L.map Prod.snd = combos n i ∧ PairsL K H' n Fd L ∧ Same H H')
    ⟨F0, _, _, _, _, [(.ref t0, [])], rfl, gx.free hF0, upd_same, rfl, fun q hq => by rw [List.mem_singleton.mp hq]; exact ⟨t0, e0, l0, rfl, seqT gF (SqT.of upd_same), seqT gF (seqT gt (seqT gl (SqT.of upd_same))), gF _ _ (gt _ _ upd_same), n0⟩, gx.trans gF⟩ ?_ ?_⟩
  · rintro i σ' H2 hi ⟨Fd, x3, x4, x5, x6, L, rfl, hFn, hFd, eL, hL, g2⟩
    have Ll : L.length ≤ 64 := by
      have q := combos_len hn i
      rw [← eL, List.length_map] at q
      have : 4 ^ i ≤ 4 ^ 3 := Nat.pow_le_pow_right (by decide) (by omega)
      have e : 4 ^ 3 = 64 := rfl
      omega
    refine ⟨_, rfl, Fd, rfl, ⟨_, SqL.of hFd⟩, fun M hM => ?_⟩
    have gM := same_new hM (.lst [])
    refine out2_it (walk_list (K := K) (a := Fd) (xs := L.map Prod.fst)) (fun p H' => ∃ L2 : List (V × List Nat), H' M = some (.lst (L2.map Prod.fst)) ∧ L2.map Prod.snd = ((combos n i).take p).flatMap (longN n) ∧ PairsL K H' n M L2 ∧ Same H2 H') ⟨[], upd_same, rfl, (fun _ h => by cases h), gM⟩ (fun p H' _ ⟨_, _, _, _, g⟩ => SqL.of (g _ _ hFd)) (fun p y H3 H4 hp hv hy => ?_) ?_
    · obtain ⟨rfl, hy⟩ := hy
      obtain ⟨q, eq, rfl⟩ := at_map hy
      obtain ⟨L2, v1, v2, v3, v4⟩ := hv
      obtain ⟨t, s, l, e1, h12, h22, hl2, _⟩ := hL q (List.mem_of_getElem? eq)
      have h1 := seqT v4 h12
      have h3 := v4 _ _ hl2
      have eqs : (combos n i)[p]? = some q.2 := by rw [← eL, List.getElem?_map, eq] <;> rfl
      have ecl : q.2.length = i := combos_mem (List.mem_of_getElem? eqs)
      have L2l : L2.length ≤ 256 := by
        have e := congrArg List.length v2
        have b := longN_len hn ((combos n i).take p)
        have c := combos_len hn i
        have d : 4 ^ i ≤ 4 ^ 3 := Nat.pow_le_pow_right (by decide) (by omega)
        have e3 : 4 ^ 3 = 64 := rfl
        rw [List.length_map] at e
        rw [List.length_take] at b
        omega
      rw [e1]
      refine ⟨t, _, rfl, h1, rfl, _, _, rfl, _, _, rfl, rfl, rfl, keptP ?_⟩
      have ll : (nV ((List.range n).drop (nxN q.2))).length = n - nxN q.2 := by rw [List.length_map, List.length_drop, List.length_range]
      refine ⟨_, rfl, l, _, rfl, .inl (SqL.of h3), ((nV ((List.range n).drop (nxN q.2))).length : Nat), rfl, by omega, by omega, ?_⟩
      rw [Int.toNat_natCast]
      generalize hd : (List.range n).drop (nxN q.2) = d at *
      refine in2_it (walk_range (lo := 0) (n := (nV d).length)) (fun j H' => ∃ L3 : List (V × List Nat), H' M = some (.lst ((L2 ++ L3).map Prod.fst)) ∧ L3.map Prod.snd = (d.take j).map (fun i => q.2 ++ [i]) ∧ PairsL K H' n M (L2 ++ L3) ∧ Same H2 H') ⟨[], by rw [List.append_nil]; exact v1, by simp, by rw [List.append_nil]; exact v3, v4⟩ (fun _ _ _ _ => trivial) (fun j y H5 H6 hj hv5 hy5 => ?_) ?_
      · obtain ⟨rfl, rfl⟩ := hy5
        obtain ⟨L3, u1, u2, u3, u4⟩ := hv5
        rw [List.length_map] at hj
        have hd2 := hd
        have dl : d.length = n - nxN q.2 := by rw [← hd2, List.length_drop, List.length_range]
        have ed : d[j]? = some (nxN q.2 + j) := by
          rw [← hd2, List.getElem?_drop, List.getElem?_range (by omega)]
        have eat : atI (nV d) (0 + (j : Int)) = some (.int ((nxN q.2 + j : Nat) : Int)) := by
          rw [Int.zero_add]
          exact atI_nat (j := j) (by rw [List.getElem?_map, ed] <;> rfl)
        have L3l : L3.length ≤ 4 := by
          have e := congrArg List.length u2
          rw [List.length_map, List.length_map, List.length_take] at e
          omega
        have s5 : SqT K H6 s (nV q.2) := seqT u4 h22
        have l5 := u4 _ _ hl2
        refine ⟨rfl, kept ⟨_, rfl, s, _, rfl, .inl s5, _, rfl, _, rfl, l, _, (0 + (j : Int)), _, rfl, rfl, SqL.of l5, eat, ?_, fun u hu => ?_⟩⟩
        · rw [List.length_append, List.length_map]
          exact Nat.le_trans (show _ ≤ 1000 by show q.2.length + 1 ≤ 1000; omega) (by decide)
        have gu := same_new hu (.tup (nV q.2 ++ [.int ((nxN q.2 + j : Nat) : Int)]))
        refine ⟨_, rfl, _, rfl, _, _, rfl, rfl, _, rfl, l, _, rfl, SqL.of (gu _ _ l5), fun pl hpl => ?_⟩
        have ecut : cutV (nV d) (some (0 + (j : Int) + 1)) none = nV ((List.range n).drop (nxN (q.2 ++ [nxN q.2 + j]))) := by
          rw [show (0 + (j : Int) + 1) = ((j + 1 : Nat) : Int) by omega, cut_drop _ _ (by rw [List.length_map]; omega), ← List.map_drop, ← hd2, List.drop_drop, nxN_snoc]
          rfl
        rw [ecut]
        have gpl := same_new hpl (.lst (nV ((List.range n).drop (nxN (q.2 ++ [nxN q.2 + j])))))
        refine ⟨(by show 2 ≤ sizeLine; decide), fun t' ht' => ?_⟩
        have gt' := same_new ht' (.tup [.ref u, .ref pl])
        have g57 := (gu.trans gpl).trans gt'
        have npl : pl ≠ M := (ne_of_none (gu _ _ u1) hpl).symm
        have new : PairsL K (upd (upd (upd H6 u (.tup (nV q.2 ++ [.int ((nxN q.2 + j : Nat) : Int)]))) pl (.lst (nV ((List.range n).drop (nxN (q.2 ++ [nxN q.2 + j])))))) t' (.tup [.ref u, .ref pl])) n M [(.ref t', q.2 ++ [nxN q.2 + j])] := fun x hx => by
          rw [List.mem_singleton.mp hx]
          refine ⟨t', u, pl, rfl, SqT.of upd_same, seqT gt' (seqT gpl ?_), gt' _ _ upd_same, npl⟩
          show SqT K _ u (nV (q.2 ++ [nxN q.2 + j]))
          unfold nV
          rw [List.map_append]
          exact SqT.of upd_same
        have all := (u3.same g57).app new
        have m7 := g57 _ _ u1
        generalize (upd (upd (upd H6 u (.tup (nV q.2 ++ [.int ((nxN q.2 + j : Nat) : Int)]))) pl (.lst (nV ((List.range n).drop (nxN (q.2 ++ [nxN q.2 + j])))))) t' (.tup [.ref u, .ref pl])) = H7 at g57 all m7 ⊢
        refine ⟨_, m7, ?_, L3 ++ [(.ref t', q.2 ++ [nxN q.2 + j])], ?_, ?_, ?_, same_over (u4.trans g57) hM _⟩
        · rw [List.length_map, List.length_append]
          exact small1000 (by omega)
        · rw [upd_same, ← List.append_assoc, List.map_append (l₂ := [(V.ref t', q.2 ++ [nxN q.2 + j])])]
          rfl
        · rw [List.map_append, u2, List.take_succ, ed, List.map_append (l₂ := Option.toList _)]
          rfl
        · rw [← List.append_assoc]
          exact all.put m7
      · rintro H5 ⟨L3, u1, u2, u3, u4⟩
        rw [List.length_map, List.take_length] at u2
        refine ⟨L2 ++ L3, u1, ?_, u3, u4⟩
        rw [List.map_append, v2, u2, List.take_succ, eqs, List.flatMap_append]
        show _ = _ ++ List.flatMap _ [q.2]
        rw [List.flatMap_singleton]
        unfold longN
        rw [hd]
    · rintro H3 ⟨L2, v1, v2, v3, v4⟩
      rw [List.length_map, ← List.length_map (f := Prod.snd), eL, List.take_length] at v2
      exact ⟨M, _, _, _, _, L2, rfl, g2.free hM, v1, v2, v3, g2.trans v4⟩
  · rintro σ' H2 ⟨Fd, x3, x4, x5, x6, L, rfl, hFn, hFd, eL, hL, g2⟩
    have Ll : L.length ≤ 256 := by
      have q := combos_len hn m
      rw [← eL, List.length_map] at q
      have := pow4 hm
      omega
    refine ⟨_, rfl, Fd, rfl, ⟨_, SqL.of hFd⟩, fun M hM => ?_⟩
    have gM := same_new hM (.lst [])
    refine lc_it (walk_list (K := K) (a := Fd) (xs := L.map Prod.fst)) (fun p H' => ∃ L2 : List (V × List Nat), H' M = some (.lst (L2.map Prod.fst)) ∧ L2.map Prod.snd = (L.take p).map Prod.snd ∧ NumsL K H' L2 ∧ Same H2 H') ⟨[], upd_same, rfl, (fun _ h => by cases h), gM⟩ (fun p H' _ ⟨_, _, _, _, g⟩ => SqL.of (g _ _ hFd)) (fun p y H3 H4 hp hv hy => ?_) ?_
    · obtain ⟨rfl, hy⟩ := hy
      obtain ⟨q, eq, rfl⟩ := at_map hy
      obtain ⟨L2, v1, v2, v3, v4⟩ := hv
      obtain ⟨t, s, l, e1, h1, h2, h3, _⟩ := (hL.same v4) q (List.mem_of_getElem? eq)
      have pl := (List.getElem?_eq_some_iff.mp eq).1
      have L2l : L2.length ≤ 256 := by
        have e := congrArg List.length v2
        rw [List.length_map, List.length_map, List.length_take] at e
        omega
      rw [e1]
      have gl : TK K H4 (upd H4 M (.lst (L2.map Prod.fst ++ [.ref s]))) := TK.lst v1
      refine ⟨t, _, rfl, h1, rfl, _, _, rfl, _, _, rfl, rfl, rfl, kept ⟨_, rfl, _, v1, by rw [List.length_map]; exact small1000 (by omega), L2 ++ [(.ref s, q.2)], by rw [upd_same, List.map_append] <;> rfl, ?_, (v3.mono gl).app (fun x hx => by rw [List.mem_singleton.mp hx]; exact ⟨s, rfl, gl _ _ h2⟩), same_over v4 hM _⟩⟩
      rw [List.map_append, v2, List.take_succ, eq, List.map_append (l₂ := Option.toList _)]
      rfl
    · rintro H3 ⟨L2, v1, v2, v3, v4⟩
      rw [List.length_map, List.take_length, eL] at v2
      exact k M L2 H3 (g2.trans v4) (g2.free hM) v1 v2 v3
end
end Lw
namespace Lw
open PySem L2 TzR TL
/-! the number of a step does not tell in the order -/
abbrev prS (s : Stp) : Str × Str := (s.1, s.2.2)
theorem held_pr {S S' : List Stp} (h : S.map prS = S'.map prS) (left : List Str) (x : Str) : Topo.heldIn S left x = Topo.heldIn S' left x := by
  have e : ∀ T : List Stp, Topo.heldIn T left x = (T.map prS).any fun p => decide (p.1 ∈ left) && decide (p.2 = x) := fun T => by
    unfold Topo.heldIn
    rw [List.any_map] <;> rfl
  rw [e, e, h]
theorem free_pr {S S' : List Stp} (h : S.map prS = S'.map prS) (left : List Str) : Topo.free S left = Topo.free S' left := by
  unfold Topo.free
  exact List.filter_congr fun x _ => by rw [held_pr h]
theorem topo_pr {S S' : List Stp} (h : S.map prS = S'.map prS) : ∀ (n : Nat) (left order : List Str), Topo.topo S n left order = Topo.topo S' n left order
  | 0, _, _ => rfl
  | n + 1, left, order => by
    unfold Topo.topo
    rw [free_pr h]
    cases Topo.free S' left with
    | nil => rfl
    | cons f r => exact topo_pr h n _ _
/-- the numbers that are left -/
def oth (n : Nat) (c : List Nat) : List Nat := (List.range n).filter fun i => decide (i ∉ c)
theorem oth_lt {n : Nat} {c : List Nat} : ∀ i ∈ oth n c, i < n := fun i h => List.mem_range.mp (List.mem_filter.mp h).1
theorem oth_len {n : Nat} {c : List Nat} : (oth n c).length ≤ n := by
  have := List.length_filter_le (fun i => decide (i ∉ c)) (List.range n)
  rw [List.length_range] at this
  exact this
theorem st_pr (x : Ux) (n m : Nat) : (stUse x n).map prS = (stUse x m).map prS := by
  unfold stUse
  rw [List.map_flatMap, List.map_flatMap]
  congr 1
  funext i
  unfold stLv
  split
  · rw [List.map_map, List.map_map] <;> rfl
  · rfl
theorem range_getD {α β : Type} (d : α) (f : α → List β) : ∀ l : List α, (List.range l.length).flatMap (fun i => f (l.getD i d)) = l.flatMap f
  | [] => rfl
  | a :: r => by
    rw [List.length_cons, List.range_succ_eq_map, List.flatMap_cons, List.flatMap_map, List.flatMap_cons, ← range_getD d f r]
    rfl
/-- the law's uses that are left -/
def usesOf (xs : List Ux) (ns : List Nat) : List Ux := ns.map fun n => xs.getD n ux0
theorem all_pr (xs : List Ux) (ns : List Nat) : (stAll (usesOf xs ns)).map prS = (stOf xs ns).map prS := by
  have e1 : (stAll (usesOf xs ns)).map prS = (usesOf xs ns).flatMap fun x => (stUse x 0).map prS := by
    unfold stAll
    rw [List.map_flatMap, ← range_getD ux0 (fun x => (stUse x 0).map prS)]
    congr 1
    funext i
    exact st_pr _ _ _
  rw [e1]
  unfold usesOf stOf
  rw [List.flatMap_map, List.map_flatMap]
  congr 1
  funext n
  exact st_pr _ _ _
/-- the order of the uses that are left -/
def ordOf (xs : List Ux) (as : List Str) (c : List Nat) : Option (List Str) := Topo.topo (stOf xs (oth xs.length c)) as.length as []
theorem LetOk.one {as bs ls : List Str} (h : LetOk as ls) (h2 : LetOk bs ls) : as = bs := h.uniq h2.nd h2.mem (List.Perm.refl _) h2.srt
/-! tried_without -/
def OorP (K : PySem.W.Frag) (H : Hp) (o r : V) (S : List Stp) (as : List Str) : Prop :=
  (∃ (oa : Addr) (order : List Str), Topo.topo S as.length as [] = some order ∧ o = .ref oa ∧ r = .non ∧ SqT K H oa (order.map V.str)) ∨
  (∃ (ra : Addr) (M : List (V × Stp)), Topo.topo S as.length as [] = none ∧ o = .non ∧ r = .ref ra ∧ SqT K H ra (M.map Prod.fst) ∧ TripsL K H M ∧ M.length ≤ 100 ∧ Topo.RingOk S (M.map Prod.snd))
theorem OorP.mono {K : PySem.W.Frag} {H H' : Hp} (g : TK K H H') {o r : V} {S : List Stp} {as : List Str} : OorP K H o r S as → OorP K H' o r S as
  | .inl ⟨oa, order, e1, e2, e3, h⟩ => .inl ⟨oa, order, e1, e2, e3, g _ _ h⟩
  | .inr ⟨ra, M, e1, e2, e3, h1, h2, h3, h4⟩ => .inr ⟨ra, M, e1, e2, e3, g _ _ h1, h2.mono g, h3, h4⟩
def TriedAt (K : PySem.W.Frag) (H : Hp) (xs : List Ux) (as : List Str) (v : V) (c : List Nat) : Prop := ∃ (t tn : Addr) (o r : V), v = .ref t ∧ SqT K H t [.ref tn, o, r] ∧ SqT K H tn (nV c) ∧ OorP K H o r (stOf xs (oth xs.length c)) as
theorem TriedAt.mono {K : PySem.W.Frag} {H H' : Hp} (g : TK K H H') {xs : List Ux} {as : List Str} {v : V} {c : List Nat} : TriedAt K H xs as v c → TriedAt K H' xs as v c
  | ⟨t, tn, o, r, e, h1, h2, h3⟩ => ⟨t, tn, o, r, e, g _ _ h1, g _ _ h2, h3.mono g⟩
def TriedL (K : PySem.W.Frag) (H : Hp) (xs : List Ux) (as : List Str) (L : List (V × List Nat)) : Prop := ∀ q ∈ L, TriedAt K H xs as q.1 q.2
theorem TriedL.mono {K : PySem.W.Frag} {H H' : Hp} (g : TK K H H') {xs : List Ux} {as : List Str} {L : List (V × List Nat)} (h : TriedL K H xs as L) : TriedL K H' xs as L := fun q hq => (h q hq).mono g
theorem TriedL.app {K : PySem.W.Frag} {H : Hp} {xs : List Ux} {as : List Str} {L M : List (V × List Nat)} (h : TriedL K H xs as L) (h2 : TriedL K H xs as M) : TriedL K H xs as (L ++ M) := fun q hq => (List.mem_append.mp hq).elim (h q) (h2 q)
abbrev s_tried_without : Stmt := topS 24
abbrev n_tried_without : List Str := ["uses", "letters", "many", "every", "found", "numbers", "others", "number", "order", "ring"]
theorem sc_tried_without : FnScope n_tried_without ["uses", "letters", "many"] (defScope s_tried_without) := ⟨rfl, rfl, rfl, by decide +kernel, rfl, by decide +kernel, by decide +kernel⟩
def spTw (K : PySem.W.Frag) (U C : Addr) : Sp := fun vs H Q _ => ∃ (a b : Addr) (m : Nat) (us : List V) (xs : List Ux) (ls as : List Str), vs = [.ref a, .ref b, .int (m : Nat)] ∧ SqL K H a us ∧ MUses K U C H us xs ∧ (∀ x ∈ xs, GoodU x) ∧ xs.length ≤ 4 ∧ SqL K H b (ls.map V.str) ∧ ls.length < 64 ∧ LetOk as ls ∧ m ≤ 4 ∧
  ∀ (D : Addr) (L : List (V × List Nat)) (H' : Hp), Same H H' → H D = none → H' D = some (.lst (L.map Prod.fst)) → L.map Prod.snd = combos xs.length m → TriedL K H' xs as L → Q (.ref D) H'
section
variable {P : Program} {w : World} {K : PySem.W.Frag} {mg : Str → Option Value} {base : Heap} {f U C : Addr} {fd : FuncData}
theorem ok_tried_without (F : Fun K "tried_without" "tried_without" s_tried_without f fd) (B : Bt mg) (cC : Ca P w K mg base 1 "chosen" ["worths", "many"] (spChs K)) (cS : Ca P w K mg base 3 "steps_of" ["uses", "numbers"] (spSOf K U C)) (cO : Ca P w K mg base 2 "order_or_ring" ["steps", "letters"] (spOor K)) :
    FnOk P w K mg base CX0 4 f fd ["uses", "letters", "many"] (spTw K U C) := by
  refine F.ok sc_tried_without (fun vs H Q E h => ?_) (fun cdv A outer s H vs Q E hr h => ?_)
  · obtain ⟨a, b, m, us, xs, ls, as, rfl, _⟩ := h
    rfl
  obtain ⟨a, b, m, us, xs, ls, as, rfl, ha, hU, hX, hxl, hb, hls, hlet0, hm, k⟩ := h
  refine ⟨_, (pss_cons (ps_set (i := 3) sc_tried_without.nd rfl (Or.inl rfl) (pe_listRg rfl (by rfl) B.lst (prg_1 (by rfl) B.range (pe_callB call_len_seq (by rfl) B.len PySem.boot_len (pa_cons (pv 0) pa_nil)))))
(pss_cons (ps_set (i := 4) sc_tried_without.nd rfl (Or.inl rfl) (pe_lst pa_nil))
(pss_cons (ps_for PassesOwn.never rfl (pi_list (pca cC hr (by decide) rfl (pa_cons (pv 3) (pa_cons (pv 2) pa_nil)))) (pg_name (i := 5) sc_tried_without.nd rfl (Or.inr rfl))
(pss_cons (ps_setLc (i := 6) (own := [("number", 7)]) (g := (gName 7)) (tt := tTest (tOp (rIn K true) (tVar 7) (tVar 5))) (te := tVar 7) rfl sc_tried_without.nd rfl rfl (sw_true rfl rfl rfl (by decide +kernel)) (pi_list (pv 3)) (blkOk_by (N := n_tried_without) (sc := defScope s_tried_without) (by decide +kernel)) (fun _ _ _ _ _ => (pg_name (i := 7) sc_tried_without.nd rfl (Or.inl rfl))) (fun _ _ _ _ _ => (pts_one (pt_cmpR op_notIn_seq (pv 7) (pv 5) (by rfl)))) (fun _ _ _ _ _ => (pv 7)))
(pss_cons (ps_asg (pca cO hr (by decide) rfl (pa_cons (pca cS hr (by decide) rfl (pa_cons (pv 0) (pa_cons (pv 6) pa_nil))) (pa_cons (pv 1) pa_nil))) (pg_tup rfl (pgs_cons (pg_name (i := 8) sc_tried_without.nd rfl (Or.inl rfl)) (pgs_cons (pg_name (i := 9) sc_tried_without.nd rfl (Or.inl rfl)) pgs_nil))))
(pss_one (ps_expr (pe_bm PySem.F.plainAttrs_list PySem.F.slot_list_append PySem.F.type_list_append mt_append (pv 4) (pa_cons (pe_tup (pa_cons (pv 5) (pa_cons (pv 8) (pa_cons (pv 9) pa_nil)))) pa_nil)))))))
(pss_one (ps_ret (pv 4)))))), ?_⟩
  have ul : us.length = xs.length := hU.1
  refine ⟨_, rfl, a, us, rfl, .inl ha, (us.length : Nat), rfl, RgOk.of_le (by decide) (by omega) (by decide) (by omega), fun ev hev => ?_⟩
  have er : rgV 0 ((us.length : Nat) : Int) = nV (List.range xs.length) := by
    rw [rg_iota, ul]
    unfold iota
    rw [List.map_map] <;> rfl
  rw [er]
  have gv := same_new hev (.lst (nV (List.range xs.length)))
  refine ⟨(by show 0 ≤ sizeLine; decide), fun D hD => ?_⟩
  have gD := same_new hD (.lst [])
  have n1 : ev ≠ D := ne_of_none upd_same hD
  have h1v : (upd (upd H ev (.lst (nV (List.range xs.length)))) D (.lst [])) ev = some (.lst (nV (List.range xs.length))) := gD _ _ upd_same
  refine ⟨_, rfl, _, rfl, ev, xs.length, m, rfl, SqL.of h1v, hxl, hm, fun C0 L0 H2 g2 hC0 hC eL hL => ?_⟩
  have n2 : C0 ≠ D := (ne_of_none upd_same hC0).symm
  refine ⟨C0, rfl, ⟨_, SqL.of hC⟩, for_list (K := K) (a := C0) (xs := L0.map Prod.fst) (fun j σ' H' => ∃ (x5 x6 x7 x8 x9 : Option V) (L : List (V × List Nat)), σ' = [some (.ref a), some (.ref b), some (.int (m : Nat)), some (.ref ev), some (.ref D), x5, x6, x7, x8, x9] ∧ Same H H' ∧ H' ev = some (.lst (nV (List.range xs.length))) ∧ H' C0 = some (.lst (L0.map Prod.fst)) ∧ NumsL K H' L0 ∧ H' D = some (.lst (L.map Prod.fst)) ∧ L.map Prod.snd = (combos xs.length m).take j ∧ TriedL K H' xs as L)
    ⟨_, _, _, _, _, [], rfl, (gv.trans gD).trans g2, g2 _ _ h1v, hC, hL, g2 _ _ upd_same, rfl, (fun _ h => by cases h)⟩ (fun j σ' H' _ ⟨_, _, _, _, _, _, _, _, _, z, _⟩ => SqL.of z) ?_ ?_⟩
  · rintro j y σ' H3 hy ⟨x5, x6, x7, x8, x9, L, rfl, g3, hv3, hC3, hL3, hD3, eL3, hT3⟩
    obtain ⟨q, eq, rfl⟩ := at_map hy
    obtain ⟨tn, e1, htn⟩ := hL3 q (List.mem_of_getElem? eq)
    have eqs : (combos xs.length m)[j]? = some q.2 := by rw [← eL, List.getElem?_map, eq] <;> rfl
    have Ll : L.length ≤ 256 := by
      have e := congrArg List.length eL3
      have b1 := combos_len hxl m
      have b2 := pow4 hm
      rw [List.length_map, List.length_take] at e
      omega
    rw [e1]
    refine ⟨_, rfl, ev, rfl, ⟨_, SqL.of hv3⟩, fun M hM => ?_⟩
    refine lc_it (walk_list (K := K) (a := ev) (xs := nV (List.range xs.length))) (InvF H3 M (fun n : Nat => V.int n) (fun i => decide (i ∉ q.2)) (List.range xs.length)) ⟨upd_same, same_new hM _⟩ (fun i H' _ ⟨_, g⟩ => SqL.of (g _ _ hv3)) (fun i y H4 H5 hi hv hy4 => ?_) ?_
    · obtain ⟨rfl, hy4⟩ := hy4
      obtain ⟨z, ez, rfl⟩ := at_map hy4
      refine ⟨rfl, _, rfl, _, rfl, tn, nV q.2, rfl, .inr (seqT hv.2 htn), rfl, flat_nats _, _, rfl, ?_⟩
      by_cases hz : z ∈ q.2
      · exact iteN (by rw [if_pos rfl, in_nats, decide_eq_true hz] <;> rfl) (hv.no ez (decide_eq_false fun h => h hz))
      · exact iteC (by rw [if_pos rfl, in_nats, decide_eq_false hz] <;> rfl) ⟨_, rfl, _, hv.1, InvF.len (by rw [List.length_range]; omega), InvF.yes (f := fun n : Nat => V.int n) (H := H3) hM hv.2 ez (decide_eq_true hz)⟩
    rintro H4 ⟨hM4, g4⟩
    rw [List.length_map, List.take_length] at hM4
    have hM4 : H4 M = some (.lst ((oth xs.length q.2).map fun n : Nat => V.int n)) := hM4
    have g04 := g3.trans g4
    have ol := oth_len (n := xs.length) (c := q.2)
    refine ⟨_, rfl, _, rfl, a, M, us, xs, oth xs.length q.2, rfl, g04.seq ha, hU.same g04, hX, SqL.of hM4, by omega, oth_lt, fun D2 H5 g5 hD20 hSt => ?_⟩
    obtain ⟨L2, hD2, eL2, hL2⟩ := hSt
    have L2l : L2.length ≤ 1000 := by
      have q1 := stOf_len (xs := xs) (ns := oth xs.length q.2) hX oth_lt
      rw [← eL2, List.length_map] at q1
      omega
    have g05 := g04.trans g5
    refine ⟨_, rfl, D2, b, L2, ls, rfl, SqL.of hD2, hL2, L2l, g05.seq hb, hls, fun t H6 as' g6 ht6 hlet hor => ?_⟩
    obtain rfl := hlet0.one hlet
    rw [eL2] at hor
    have g36 := g4.trans (g5.trans g6)
    have fin : ∀ (o r : V), SqT K H6 t [o, r] → OorP K H6 o r (stOf xs (oth xs.length q.2)) as → ∃ (tt : Addr) (ys : List V), V.ref t = .ref tt ∧ SqT K H6 tt ys ∧ ys = [o, r] ∧ OorP K H6 o r (stOf xs (oth xs.length q.2)) as := fun o r h1 h2 => ⟨t, _, rfl, h1, rfl, h2⟩
    have pr : ∃ o r : V, SqT K H6 t [o, r] ∧ OorP K H6 o r (stOf xs (oth xs.length q.2)) as := by
      rcases hor with ⟨o, order, e, h1, h2⟩ | ⟨r, M', e, h1, h2, h3, h4, h5⟩
      · exact ⟨_, _, h1, .inl ⟨o, order, e, rfl, rfl, h2⟩⟩
      · exact ⟨_, _, h1, .inr ⟨r, M', e, rfl, rfl, h2, h3, h4, h5⟩⟩
    obtain ⟨o, r, h1, h2⟩ := pr
    refine ⟨t, _, rfl, h1, rfl, _, _, rfl, _, _, rfl, rfl, ?_⟩
    have hD6 := g36 _ _ hD3
    refine ⟨_, rfl, .inl ⟨rfl, _, SqL.of hD6⟩, _, rfl, _, rfl, _, rfl, (by show 3 ≤ sizeLine; decide), fun tt htt => ?_⟩
    have gt := same_new htt (.tup [.ref tn, o, r])
    have hD7 := gt _ _ hD6
    have g37 := g36.trans gt
    have new : TriedAt K (upd H6 tt (.tup [.ref tn, o, r])) xs as (.ref tt) q.2 := ⟨tt, tn, o, r, rfl, SqT.of upd_same, seqT g37 htn, h2.mono (.of gt)⟩
    generalize (upd H6 tt (.tup [.ref tn, o, r])) = H7 at hD7 g37 new ⊢
    have gl : TK K H7 (upd H7 D (.lst (L.map Prod.fst ++ [.ref tt]))) := TK.lst hD7
    have hDn : H D = none := gv.free hD
    refine ⟨D, _, _, rfl, rfl, hD7, by rw [List.length_map]; exact small1000 (by omega), _, _, _, _, _, L ++ [(.ref tt, q.2)], rfl, same_over (g3.trans g37) hDn _, by rw [upd_ne n1]; exact g37 _ _ hv3, by rw [upd_ne n2]; exact g37 _ _ hC3, (hL3.mono (.of g37)).mono gl, by rw [upd_same, List.map_append] <;> rfl, by rw [List.map_append, eL3, List.take_succ, eqs] <;> rfl, ((hT3.mono (.of g37)).mono gl).app (fun x hx => by rw [List.mem_singleton.mp hx]; exact new.mono gl)⟩
  · rintro σ' H3 ⟨x5, x6, x7, x8, x9, L, rfl, g3, hv3, hC3, hL3, hD3, eL3, hT3⟩
    rw [List.length_map, ← List.length_map (f := Prod.snd), eL, List.take_length] at eL3
    exact ⟨_, rfl, k D L H3 g3 (gv.free hD) hD3 eL3 hT3⟩
end
end Lw
namespace Lw
open PySem L2 TzR TL
/-! all that is tried, the fewer first -/
def allc (n : Nat) : List (List Nat) := (List.range (n + 1)).flatMap (combos n)
theorem flat_combos {n : Nat} (h : n ≤ 4) : ∀ p : Nat, ((List.range p).flatMap (combos n)).length ≤ 4 ^ p
  | 0 => by simp
  | p + 1 => by
    have a := flat_combos h p
    have b := combos_len h p
    rw [range_flat, List.length_append, Nat.pow_succ]
    omega
theorem allc_len {n : Nat} (h : n ≤ 4) : (allc n).length ≤ 512 := by
  have a := flat_combos h n
  have b := combos_len h n
  have c := pow4 h
  unfold allc
  rw [range_flat, List.length_append]
  omega
theorem same_pw : ∀ {l : List (List Nat)} {N : Nat}, (∀ x ∈ l, x.length = N) → l.Pairwise fun a b => a.length ≤ b.length
  | [], _, _ => .nil
  | a :: r, N, h => .cons (fun b hb => by rw [h a (List.mem_cons_self ..), h b (List.mem_cons_of_mem _ hb)]; exact Nat.le_refl _) (same_pw fun x hx => h x (List.mem_cons_of_mem _ hx))
theorem flat_pw (n : Nat) : ∀ N : Nat, ((List.range N).flatMap (combos n)).Pairwise (fun a b => a.length ≤ b.length) ∧ ∀ x ∈ (List.range N).flatMap (combos n), x.length < N
  | 0 => ⟨.nil, fun x hx => by cases hx⟩
  | N + 1 => by
    obtain ⟨a, b⟩ := flat_pw n N
    rw [range_flat]
    refine ⟨List.pairwise_append.mpr ⟨a, same_pw (N := N) fun x hx => combos_mem hx, fun x hx y hy => ?_⟩, fun x hx => ?_⟩
    · have := b x hx
      rw [combos_mem hy]
      omega
    · rcases List.mem_append.mp hx with hx | hx
      · have := b x hx
        omega
      · rw [combos_mem hx]
        omega
theorem first_none {n : Nat} {P : List Nat → Bool} {c d : List Nat} (h : (allc n).find? P = some c) (hd : d ∈ allc n) (hl : d.length < c.length) : P d = false := by
  obtain ⟨_, as, bs, e, ha⟩ := List.find?_eq_some_iff_append.mp h
  have pw := (flat_pw n (n + 1)).1
  rw [show (List.range (n + 1)).flatMap (combos n) = allc n from rfl, e] at pw
  rw [e] at hd
  rcases List.mem_append.mp hd with hd | hd
  · have := ha d hd
    simpa using this
  · have := (List.pairwise_cons.mp (List.pairwise_append.mp pw).2.1).1
    rcases List.mem_cons.mp hd with rfl | hd
    · omega
    · have := this d hd
      omega
theorem flat_less (n : Nat) (k : Nat) : ∀ N : Nat, k ≤ N → ((List.range N).flatMap (combos n)).filter (fun d => decide (d.length < k)) = (List.range k).flatMap (combos n)
  | 0, h => by
    have e : k = 0 := by omega
    subst e
    rfl
  | N + 1, h => by
    by_cases e : k = N + 1
    · subst e
      exact List.filter_eq_self.mpr fun x hx => decide_eq_true ((flat_pw n (N + 1)).2 x hx)
    · rw [range_flat, List.filter_append, flat_less n k N (by omega)]
      have z : (combos n N).filter (fun d => decide (d.length < k)) = [] := List.filter_eq_nil_iff.mpr fun x hx h => by
        have h := of_decide_eq_true h
        rw [combos_mem hx] at h
        omega
      rw [z, List.append_nil]
theorem allc_mem_len {n : Nat} {c : List Nat} (h : c ∈ allc n) : c.length ≤ n := by
  have := (flat_pw n (n + 1)).2 c h
  omega
theorem ord_none {as : List Str} (hn : as.Nodup) : ∃ order, Topo.topo ([] : List Stp) as.length as [] = some order := by
  rw [← Topo.least_topo hn (fun s hs => by cases hs)]
  have e : Topo.ord as as.length ≠ [] := by
    have z : [] ++ as ∈ Topo.exts as as.length [] := Topo.to_exts hn (by
      have e : Topo.out as ([] : List Str) = as := by
        unfold Topo.out
        exact List.filter_eq_self.mpr fun a _ => by simp
      rw [e]) hn (fun z => by simp)
    rw [← Topo.ord_eq] at z
    exact List.ne_nil_of_mem z
  cases h : Topo.ord as as.length with
  | nil => exact absurd h e
  | cons a r => exact ⟨a, by rw [List.find?_cons_of_pos (by rfl)]⟩
theorem oth_range (n : Nat) : oth n (List.range n) = [] := List.filter_eq_nil_iff.mpr fun x hx h => (of_decide_eq_true h) hx
theorem find_ex {xs : List Ux} {as : List Str} (hn : as.Nodup) : ∃ c order, (allc xs.length).find? (fun c => (ordOf xs as c).isSome) = some c ∧ ordOf xs as c = some order := by
  obtain ⟨o, eo⟩ := ord_none hn
  have hm : List.range xs.length ∈ allc xs.length := List.mem_flatMap.mpr ⟨xs.length, List.mem_range.mpr (by omega), range_mem (Nat.le_refl _)⟩
  have hs : (ordOf xs as (List.range xs.length)).isSome = true := by
    unfold ordOf
    rw [oth_range, show stOf xs [] = [] from rfl, eo] <;> rfl
  cases h : (allc xs.length).find? (fun c => (ordOf xs as c).isSome) with
  | none => exact absurd hs (by have := List.find?_eq_none.mp h _ hm; exact this)
  | some c =>
    have := List.find?_some h
    obtain ⟨order, e⟩ := Option.isSome_iff_exists.mp this
    exact ⟨c, order, rfl, e⟩
/-! fewest_turned -/
def RingAt (K : PySem.W.Frag) (H : Hp) (xs : List Ux) (v : V) (c : List Nat) : Prop := ∃ (t tn r : Addr) (M : List (V × Stp)), v = .ref t ∧ SqT K H t [.ref tn, .ref r] ∧ SqT K H tn (nV c) ∧ SqT K H r (M.map Prod.fst) ∧ TripsL K H M ∧ M.length ≤ 100 ∧ Topo.RingOk (stOf xs (oth xs.length c)) (M.map Prod.snd)
def RingsL (K : PySem.W.Frag) (H : Hp) (xs : List Ux) (R : List (V × List Nat)) : Prop := ∀ q ∈ R, RingAt K H xs q.1 q.2
theorem RingsL.mono {K : PySem.W.Frag} {H H' : Hp} (g : TK K H H') {xs : List Ux} {R : List (V × List Nat)} (h : RingsL K H xs R) : RingsL K H' xs R := fun q hq =>
  let ⟨t, tn, r, M, e, h1, h2, h3, h4, h5⟩ := h q hq
  ⟨t, tn, r, M, e, g _ _ h1, g _ _ h2, g _ _ h3, h4.mono g, h5⟩
theorem RingsL.app {K : PySem.W.Frag} {H : Hp} {xs : List Ux} {L M : List (V × List Nat)} (h : RingsL K H xs L) (h2 : RingsL K H xs M) : RingsL K H xs (L ++ M) := fun q hq => (List.mem_append.mp hq).elim (h q) (h2 q)
abbrev s_fewest_turned : Stmt := topS 25
abbrev n_fewest_turned : List Str := ["uses", "letters", "tried", "many", "each", "numbers", "order", "ring", "rings"]
theorem sc_fewest_turned : FnScope n_fewest_turned ["uses", "letters"] (defScope s_fewest_turned) := ⟨rfl, rfl, rfl, by decide +kernel, rfl, by decide +kernel, by decide +kernel⟩
def spFt (K : PySem.W.Frag) (U C : Addr) : Sp := fun vs H Q _ => ∃ (a b : Addr) (us : List V) (xs : List Ux) (ls as : List Str), vs = [.ref a, .ref b] ∧ SqL K H a us ∧ MUses K U C H us xs ∧ (∀ x ∈ xs, GoodU x) ∧ xs.length ≤ 4 ∧ SqL K H b (ls.map V.str) ∧ ls.length < 64 ∧ LetOk as ls ∧
  ∀ (t tn o tr : Addr) (c : List Nat) (order : List Str) (R : List (V × List Nat)) (H' : Hp), Same H H' → SqT K H' t [.ref tn, .ref o, .ref tr] → SqT K H' tn (nV c) → SqT K H' o (order.map V.str) →
    (allc xs.length).find? (fun c => (ordOf xs as c).isSome) = some c → ordOf xs as c = some order →
    SqT K H' tr (R.map Prod.fst) → R.map Prod.snd = (allc xs.length).filter (fun d => decide (d.length < c.length)) → RingsL K H' xs R → Q (.ref t) H'
section
variable {P : Program} {w : World} {K : PySem.W.Frag} {mg : Str → Option Value} {base : Heap} {f U C : Addr} {fd : FuncData}
theorem ok_fewest_turned (F : Fun K "fewest_turned" "fewest_turned" s_fewest_turned f fd) (B : Bt mg) (cT : Ca P w K mg base 4 "tried_without" ["uses", "letters", "many"] (spTw K U C)) : FnOk P w K mg base CX0 5 f fd ["uses", "letters"] (spFt K U C) := by
  refine F.ok sc_fewest_turned (fun vs H Q E h => ?_) (fun cdv A outer s H vs Q E hr h => ?_)
  · obtain ⟨a, b, us, xs, ls, as, rfl, _⟩ := h
    rfl
  obtain ⟨a, b, us, xs, ls, as, rfl, ha, hU, hX, hxl, hb, hls, hlet, k⟩ := h
  refine ⟨_, (pss_cons (ps_setLc2 (i := 2) (own := [("many", 3), ("each", 4)]) (vs1 := [4]) (g := (gName 3)) (g1 := (gName 4)) (tt := tYes) (tt1 := tYes) (te := tVar 4) (wi1 := iList K (tCall (spTw K U C) [] E0 (tCons (tVar 0) (tCons (tVar 1) (tCons (tVar 3) tNil))))) rfl sc_fewest_turned.nd rfl rfl (sw_true rfl rfl rfl (by decide +kernel)) (pi_range1 (by rfl) B.range (pa_cons (pe_op op_add (pe_callB call_len_seq (by rfl) B.len PySem.boot_len (pa_cons (pv 0) pa_nil)) pe_int) pa_nil)) (blkOk_by (N := n_fewest_turned) (sc := defScope s_fewest_turned) (by decide +kernel)) (by decide) (fun _ _ _ _ _ => (pg_name (i := 3) sc_fewest_turned.nd rfl (Or.inl rfl))) (fun _ _ _ _ _ => pts_nil) (fun _ _ _ _ _ => (pi_list (pca cT hr (by decide) rfl (pa_cons (pv 0) (pa_cons (pv 1) (pa_cons (pv 3) pa_nil)))))) (fun _ _ _ _ _ => (pg_name (i := 4) sc_fewest_turned.nd rfl (Or.inl rfl))) (fun _ _ _ _ _ => pts_nil) (fun _ _ _ _ _ => (pv 4)))
(pss_cons (ps_asg (pe_ix ix_list (pe_lc (own := [("each", 4)]) (g := (gName 4)) (tt := tTest (tOp (fun x y H Q => y = .non ∧ Q (.bl (!decide (x = .non))) H) (tOp (rIxT K) (tVar 4) (tC (.int 1))) (tC .non))) (te := tVar 4) rfl sc_fewest_turned.nd (pi_list (pv 2)) (blkOk_by (N := n_fewest_turned) (sc := defScope s_fewest_turned) (by decide +kernel)) (fun _ _ _ _ _ => (pg_name (i := 4) sc_fewest_turned.nd rfl (Or.inl rfl))) (fun _ _ _ _ _ => (pts_one (pt_cmpR op_notN (pe_ix ix_tup (pv 4) pe_int (fun _ _ => rfl)) pe_non (nomark _)))) (fun _ _ _ _ _ => (pv 4))) pe_int (fun _ _ => rfl)) (pg_tup rfl (pgs_cons (pg_name (i := 5) sc_fewest_turned.nd rfl (Or.inr rfl)) (pgs_cons (pg_name (i := 6) sc_fewest_turned.nd rfl (Or.inl rfl)) (pgs_cons (pg_name (i := 7) sc_fewest_turned.nd rfl (Or.inl rfl)) pgs_nil)))))
(pss_cons (ps_setLc (i := 8) (own := [("each", 4)]) (g := (gName 4)) (tt := tTest (tOp (rI0 fun i j => .bl (decide (i < j))) (tCB (rLen K) (tCons (tOp (rIxT K) (tVar 4) (tC (.int 0))) tNil)) (tCB (rLen K) (tCons (tVar 5) tNil)))) (te := tTup (tCons (tOp (rIxT K) (tVar 4) (tC (.int 0))) (tCons (tOp (rIxT K) (tVar 4) (tC (.int 2))) tNil))) rfl sc_fewest_turned.nd rfl rfl (sw_true rfl rfl rfl (by decide +kernel)) (pi_list (pv 2)) (blkOk_by (N := n_fewest_turned) (sc := defScope s_fewest_turned) (by decide +kernel)) (fun _ _ _ _ _ => (pg_name (i := 4) sc_fewest_turned.nd rfl (Or.inl rfl))) (fun _ _ _ _ _ => (pts_one (pt_cmpR op_lt (pe_callB call_len_seq (by rfl) B.len PySem.boot_len (pa_cons (pe_ix ix_tup (pv 4) pe_int (fun _ _ => rfl)) pa_nil)) (pe_callB call_len_seq (by rfl) B.len PySem.boot_len (pa_cons (pv 5) pa_nil)) (nomark _)))) (fun _ _ _ _ _ => (pe_tup (pa_cons (pe_ix ix_tup (pv 4) pe_int (fun _ _ => rfl)) (pa_cons (pe_ix ix_tup (pv 4) pe_int (fun _ _ => rfl)) pa_nil)))))
(pss_one (ps_ret (pe_tup (pa_cons (pv 5) (pa_cons (pv 6) (pa_cons (pe_callTy call_tuple_of (by rfl) B.tup (by decide +kernel) (pa_cons (pv 8) pa_nil)) pa_nil))))))))), ?_⟩
  have ul : us.length = xs.length := hU.1
  refine ⟨_, rfl, a, us, rfl, .inl ha, _, _, rfl, rfl, _, rfl, by omega, by omega, fun M hM => ?_⟩
  have ej : ((us.length : Nat) + 1 : Int).toNat = xs.length + 1 := by omega
  rw [ej]
  have gM := same_new hM (.lst [])
  refine out2_it (walk_range (lo := 0) (n := xs.length + 1)) (fun p H' => ∃ L : List (V × List Nat), H' M = some (.lst (L.map Prod.fst)) ∧ L.map Prod.snd = (List.range p).flatMap (combos xs.length) ∧ TriedL K H' xs as L ∧ Same H H') ⟨[], upd_same, rfl, (fun _ h => by cases h), gM⟩ (fun _ _ _ _ => trivial) (fun p y H2 H3 hp hv hy => ?_) ?_
  · obtain ⟨rfl, hy⟩ := hy
    have hy : y = .int (0 + (p : Int)) := hy
    rw [Int.zero_add] at hy
    subst hy
    obtain ⟨L, v1, v2, v3, v4⟩ := hv
    have Ll : L.length ≤ 256 := by
      have e := congrArg List.length v2
      have b1 := flat_combos hxl p
      have b2 := pow4 (i := p) (by omega)
      rw [List.length_map] at e
      omega
    refine ⟨rfl, keptP ?_⟩
    refine ⟨_, rfl, _, rfl, _, rfl, a, b, p, us, xs, ls, as, rfl, v4.seq ha, hU.same v4, hX, hxl, v4.seq hb, hls, hlet, by omega, fun D L2 H4 g4 hD0 hD eL2 hL2 => ?_⟩
    have L2l : L2.length ≤ 256 := by
      have e := congrArg List.length eL2
      have b1 := combos_len hxl p
      have b2 := pow4 (i := p) (by omega)
      rw [List.length_map] at e
      omega
    have nM : D ≠ M := fun e => by
      rw [e, v1] at hD0
      cases hD0
    refine ⟨D, rfl, ⟨_, SqL.of hD⟩, in2_it (walk_list (K := K) (a := D) (xs := L2.map Prod.fst)) (fun j H' => H' M = some (.lst ((L ++ L2.take j).map Prod.fst)) ∧ TriedL K H' xs as L ∧ TriedL K H' xs as L2 ∧ Same H H' ∧ H' D = some (.lst (L2.map Prod.fst)))
        ⟨by rw [List.take_zero, List.append_nil]; exact g4 _ _ v1, v3.mono (.of g4), hL2, v4.trans g4, hD⟩ (fun j H' _ ⟨_, _, _, _, g⟩ => SqL.of g) (fun j z H5 H6 hj hv5 hy5 => ?_) ?_⟩
    · obtain ⟨rfl, hy5⟩ := hy5
      obtain ⟨q, eq, rfl⟩ := at_map hy5
      obtain ⟨u1, u2, u3, u4, u5⟩ := hv5
      have gl : TK K H6 (upd H6 M (.lst ((L ++ L2.take j).map Prod.fst ++ [q.1]))) := TK.lst u1
      refine ⟨rfl, kept ⟨_, rfl, _, u1, ?_, ?_, u2.mono gl, u3.mono gl, same_over u4 hM _, by rw [upd_ne nM]; exact u5⟩⟩
      · rw [List.length_map, List.length_append, List.length_take]
        exact small1000 (by omega)
      · rw [upd_same, List.take_succ, eq, ← List.append_assoc, List.map_append (l₂ := Option.toList _)]
        rfl
    · rintro H5 ⟨u1, u2, u3, u4, u5⟩
      rw [List.length_map, List.take_length] at u1
      exact ⟨L ++ L2, u1, by rw [List.map_append, v2, eL2, range_flat], u2.app u3, u4⟩
  rintro H2 ⟨L, v1, v2, v3, v4⟩
  have v2 : L.map Prod.snd = allc xs.length := v2
  have Ll : L.length ≤ 512 := by
    have e := congrArg List.length v2
    have b1 := allc_len hxl
    rw [List.length_map] at e
    omega
  obtain ⟨c, order, ec, eo⟩ := find_ex (xs := xs) (as := as) hlet.nd
  -- the first one with an order
  refine ⟨_, rfl, M, rfl, ⟨_, SqL.of v1⟩, fun M2 hM2 => ?_⟩
  refine lc_it (walk_list (K := K) (a := M) (xs := L.map Prod.fst)) (InvF H2 M2 Prod.fst (fun q : V × List Nat => (ordOf xs as q.2).isSome) L) ⟨upd_same, same_new hM2 _⟩ (fun i H' _ ⟨_, g⟩ => SqL.of (g _ _ v1)) (fun i y H3 H4 hi hv hy => ?_) ?_
  · obtain ⟨rfl, hy⟩ := hy
    obtain ⟨q, eq, rfl⟩ := at_map hy
    obtain ⟨t, tn, o, r, e1, h1, h2, h3⟩ := v3 q (List.mem_of_getElem? eq)
    rw [e1]
    refine ⟨rfl, _, rfl, t, _, (1 : Int), o, rfl, rfl, seqT hv.2 h1, atI_nat (j := 1) rfl, rfl, _, rfl, ?_⟩
    rcases h3 with ⟨oa, ord, ez, rfl, rfl, ho⟩ | ⟨ra, Mr, ez, rfl, rfl, _⟩
    · have hp : (ordOf xs as q.2).isSome = true := by
        unfold ordOf
        rw [ez] <;> rfl
      have e2 := e1
      refine iteC rfl ⟨_, rfl, _, hv.1, InvF.len (by omega), ?_⟩
      have z := InvF.yes (f := Prod.fst) (p := fun q : V × List Nat => (ordOf xs as q.2).isSome) (H := H4) hM2 hv.2 eq hp
      rw [e1] at z
      exact z
    · exact iteN rfl (hv.no eq (by unfold ordOf; rw [ez] <;> rfl))
  rintro H3 ⟨hM23, g3⟩
  rw [List.length_map, List.take_length] at hM23
  have hfind : L.find? (fun q : V × List Nat => (ordOf xs as q.2).isSome) = (L.filter fun q : V × List Nat => (ordOf xs as q.2).isSome).head? := by rw [List.head?_filter]
  have hmap : (L.find? (fun q : V × List Nat => (ordOf xs as q.2).isSome)).map Prod.snd = some c := by
    rw [← ec, ← v2, List.find?_map] <;> rfl
  rw [hfind] at hmap
  cases hfl : (L.filter fun q : V × List Nat => (ordOf xs as q.2).isSome) with
  | nil => rw [hfl] at hmap; cases hmap
  | cons q0 rest =>
  rw [hfl] at hmap hM23
  have eq0 : q0.2 = c := Option.some.inj hmap
  have m0 : q0 ∈ L := (List.mem_filter.mp (by rw [hfl]; exact List.mem_cons_self ..)).1
  obtain ⟨t0, tn0, o0, r0, e0, h01, h02, h03⟩ := v3 q0 m0
  rw [eq0] at h02 h03
  have hx0 : ∃ oa : Addr, o0 = .ref oa ∧ r0 = .non ∧ SqT K H2 oa (order.map V.str) := by
    rcases h03 with ⟨oa, ord, ez, e2, e3, ho⟩ | ⟨ra, Mr, ez, _⟩
    · unfold ordOf at eo
      rw [ez] at eo
      cases eo
      exact ⟨oa, e2, e3, ho⟩
    · unfold ordOf at eo
      rw [ez] at eo
      cases eo
  obtain ⟨oa, rfl, rfl, ho⟩ := hx0
  refine ⟨M2, _, (0 : Int), q0.1, rfl, rfl, SqL.of hM23, atI_nat (j := 0) rfl, ?_⟩
  rw [e0]
  refine ⟨t0, _, rfl, seqT g3 h01, rfl, _, _, rfl, _, _, rfl, _, _, rfl, rfl, ?_⟩
  -- the rings
  refine ⟨_, rfl, M, rfl, ⟨_, SqL.of (g3 _ _ v1)⟩, fun M3 hM3 => ?_⟩
  have gM3 := same_new hM3 (.lst [])
  refine lc_it (walk_list (K := K) (a := M) (xs := L.map Prod.fst)) (fun i H' => ∃ R : List (V × List Nat), H' M3 = some (.lst (R.map Prod.fst)) ∧ R.map Prod.snd = ((L.take i).map Prod.snd).filter (fun d => decide (d.length < c.length)) ∧ RingsL K H' xs R ∧ Same H3 H') ⟨[], upd_same, rfl, (fun _ h => by cases h), gM3⟩ (fun i H' _ ⟨_, _, _, _, g⟩ => SqL.of (g _ _ (g3 _ _ v1))) (fun i y H4 H5 hi hv hy => ?_) ?_
  · obtain ⟨rfl, hy⟩ := hy
    obtain ⟨q, eq, rfl⟩ := at_map hy
    obtain ⟨t, tn, o, r, e1, h1, h2, h3⟩ := v3 q (List.mem_of_getElem? eq)
    obtain ⟨R, w1, w2, w3, w4⟩ := hv
    have g24 := g3.trans w4
    have il := (List.getElem?_eq_some_iff.mp eq).1
    have Rl : R.length ≤ 512 := by
      have e := congrArg List.length w2
      have b1 := List.length_filter_le (fun d : List Nat => decide (d.length < c.length)) ((L.take i).map Prod.snd)
      rw [List.length_map] at e b1
      rw [List.length_take] at b1
      omega
    have tk : (L.take (i + 1)).map Prod.snd = (L.take i).map Prod.snd ++ [q.2] := by
      rw [List.take_succ, eq, List.map_append] <;> rfl
    rw [e1]
    refine ⟨rfl, _, rfl, t, _, (0 : Int), .ref tn, rfl, rfl, seqT g24 h1, atI_nat (j := 0) rfl, tn, nV q.2, rfl, .inr (seqT g24 h2), _, rfl, tn0, nV c, rfl, .inr (seqT g24 h02), _, _, rfl, rfl, _, rfl, ?_⟩
    have eb : decide (((nV q.2).length : Int) < ((nV c).length : Int)) = decide (q.2.length < c.length) := by
      rw [List.length_map, List.length_map]
      exact decide_eq_decide.mpr ⟨fun h => by omega, fun h => by omega⟩
    by_cases hlt : q.2.length < c.length
    · refine iteC (by rw [eb]; exact decide_eq_true hlt) ?_
      have hm : q.2 ∈ allc xs.length := by
        rw [← v2]
        exact List.mem_map.mpr ⟨q, List.mem_of_getElem? eq, rfl⟩
      have hno := first_none ec hm hlt
      have hr3 : ∃ (ra : Addr) (Mr : List (V × Stp)), r = .ref ra ∧ SqT K H2 ra (Mr.map Prod.fst) ∧ TripsL K H2 Mr ∧ Mr.length ≤ 100 ∧ Topo.RingOk (stOf xs (oth xs.length q.2)) (Mr.map Prod.snd) := by
        rcases h3 with ⟨oa', ord, ez, _⟩ | ⟨ra, Mr, ez, e2, e3, k1, k2, k3, k4⟩
        · unfold ordOf at hno
          rw [ez] at hno
          cases hno
        · exact ⟨ra, Mr, e3, k1, k2, k3, k4⟩
      obtain ⟨ra, Mr, rfl, k1, k2, k3, k4⟩ := hr3
      refine ⟨_, rfl, t, _, (0 : Int), .ref tn, rfl, rfl, seqT g24 h1, atI_nat (j := 0) rfl, _, rfl, t, _, (2 : Int), .ref ra, rfl, rfl, seqT g24 h1, atI_nat (j := 2) rfl, (by show 2 ≤ sizeLine; decide), fun t' ht' => ?_⟩
      have gt := same_new ht' (.tup [.ref tn, .ref ra])
      have new : RingAt K (upd H5 t' (.tup [.ref tn, .ref ra])) xs (.ref t') q.2 := ⟨t', tn, ra, Mr, rfl, SqT.of upd_same, seqT (g24.trans gt) h2, seqT (g24.trans gt) k1, k2.mono (.of (g24.trans gt)), k3, k4⟩
      have w1' := gt _ _ w1
      generalize (upd H5 t' (.tup [.ref tn, .ref ra])) = H6 at gt new w1' ⊢
      have gl : TK K H6 (upd H6 M3 (.lst (R.map Prod.fst ++ [.ref t']))) := TK.lst w1'
      refine ⟨_, w1', by rw [List.length_map]; exact small1000 (by omega), R ++ [(.ref t', q.2)], by rw [upd_same, List.map_append] <;> rfl, ?_, ((w3.mono (.of gt)).mono gl).app (fun x hx => by rw [List.mem_singleton.mp hx]; exact (RingsL.mono (R := [(.ref t', q.2)]) gl (fun x hx => by rw [List.mem_singleton.mp hx]; exact new)) _ (List.mem_singleton.mpr rfl)), same_over (w4.trans gt) hM3 _⟩
      rw [List.map_append, w2, tk, List.filter_append]
      congr 1
      show _ = List.filter _ [q.2]
      rw [List.filter_cons, if_pos (decide_eq_true hlt)]
      rfl
    · refine iteN (by rw [eb]; exact decide_eq_false hlt) ⟨R, w1, ?_, w3, w4⟩
      rw [w2, tk, List.filter_append]
      have : ([q.2] : List (List Nat)).filter (fun d => decide (d.length < c.length)) = [] := by
        rw [List.filter_cons, if_neg (by simpa using hlt)]
        rfl
      rw [this, List.append_nil]
  rintro H4 ⟨R, w1, w2, w3, w4⟩
  rw [List.length_map, List.take_length, v2] at w2
  have g24 := g3.trans w4
  refine ⟨_, rfl, _, rfl, _, rfl, M3, _, rfl, .inl ⟨SqL.of w1, fun tr htr => ?_⟩⟩
  have gtr := same_new htr (.tup (R.map Prod.fst))
  refine ⟨(by show 3 ≤ sizeLine; decide), fun tz htz => ?_⟩
  have gtz := same_new htz (.tup [.ref tn0, .ref oa, .ref tr])
  have g := g24.trans (gtr.trans gtz)
  exact k tz tn0 oa tr c order R _ (v4.trans g) (SqT.of upd_same) (seqT g h02) (seqT g ho) ec eo (seqT gtz (SqT.of upd_same)) w2 (w3.mono (.of (gtr.trans gtz)))
end
end Lw
namespace Lw
open PySem L2 TzR TL
theorem range_drop (m : Nat) : ∀ n : Nat, (List.range n).filter (fun i => decide (m ≤ i)) = (List.range n).drop m
  | 0 => by simp
  | n + 1 => by
    rw [List.range_succ, List.filter_append, range_drop m n]
    by_cases h : m ≤ n
    · rw [List.drop_append_of_le_length (by rw [List.length_range]; exact h), List.filter_cons, if_pos (decide_eq_true h)]
      rfl
    · rw [List.drop_eq_nil_of_le (by rw [List.length_range]; omega), List.drop_eq_nil_of_le (by rw [List.length_append, List.length_range, List.length_singleton]; omega), List.filter_cons, if_neg (by simpa using h)]
      rfl
theorem dp_nats {K : PySem.W.Frag} {H : Hp} : ∀ c : List Nat, DpAll K H (nV c) (c.map fun n : Nat => PyData.int n)
  | [] => .nil
  | n :: r => .cons (.int _) (dp_nats r)
theorem nats_lay : ∀ c : List Nat, PyData.canLayAll0 (c.map fun n : Nat => PyData.int n) = true ∧ PyData.depthAll (c.map fun n : Nat => PyData.int n) ≤ 1
  | [] => ⟨rfl, Nat.zero_le _⟩
  | n :: r => by
    obtain ⟨a, b⟩ := nats_lay r
    constructor
    · show (true && PyData.canLayAll0 (r.map fun n : Nat => PyData.int n)) = true
      rw [a] <;> rfl
    · show max (PyData.depth (.int n)) (PyData.depthAll (r.map fun n : Nat => PyData.int n)) ≤ 1
      exact Nat.max_le.mpr ⟨Nat.zero_le _, b⟩
theorem nats_shaped (c : List Nat) : SeqAt.shaped (.tuple (c.map fun n : Nat => PyData.int n)) = true := by
  obtain ⟨a, b⟩ := nats_lay c
  show (PyData.canLayAll0 _ && decide (PyData.depthAll _ + 1 ≤ 64)) = true
  rw [a, decide_eq_true (by omega)] <;> rfl
/-! _law_sets -/
abbrev s_l_sets : Stmt := topS 42
abbrev n_l_sets : List Str := ["_law_many", "_law_size", "_law_found", "_law_k", "_law_longer", "_law_one", "_law_no"]
theorem sc_l_sets : FnScope n_l_sets ["_law_many", "_law_size"] (defScope s_l_sets) := ⟨rfl, rfl, rfl, by decide +kernel, rfl, by decide +kernel, by decide +kernel⟩
def spSets (K : PySem.W.Frag) : Sp := fun vs H Q _ => ∃ (i j : Int) (n k : Nat), vs = [.int i, .int j] ∧ i = n ∧ j = k ∧ n ≤ 4 ∧ k ≤ 4 ∧
  ∀ (D : Addr) (L : List (V × List Nat)) (H' : Hp), Same H H' → H D = none → H' D = some (.lst (L.map Prod.fst)) → L.map Prod.snd = combos n k → NumsL K H' L → Q (.ref D) H'
section
variable {P : Program} {w : World} {K : PySem.W.Frag} {mg : Str → Option Value} {base : Heap} {f : Addr} {fd : FuncData}
theorem ok_l_sets (F : Fun K "_law_sets" "_law_sets" s_l_sets f fd) (B : Bt mg) : FnOk P w K mg base CX0 1 f fd ["_law_many", "_law_size"] (spSets K) := by
  refine F.ok sc_l_sets (fun vs H Q E h => ?_) (fun cdv A outer s H vs Q E hr h => ?_)
  · obtain ⟨i, j, n, kk, rfl, _⟩ := h
    rfl
  obtain ⟨i0, j0, n, kk, rfl, rfl, rfl, hn, hk4, k⟩ := h
  refine ⟨_, (pss_cons (ps_set (i := 2) sc_l_sets.nd rfl (Or.inl rfl) (pe_lst (pa_cons (pe_tup pa_nil) pa_nil)))
(pss_cons (ps_for PassesOwn.never rfl (pi_range1 (by rfl) B.range (pa_cons (pv 1) pa_nil)) (pg_name (i := 3) sc_l_sets.nd rfl (Or.inl rfl))
(pss_cons (ps_set (i := 4) sc_l_sets.nd rfl (Or.inl rfl) (pe_lst pa_nil))
(pss_cons (ps_for PassesOwn.never rfl (pi_list (pv 2)) (pg_name (i := 5) sc_l_sets.nd rfl (Or.inr rfl))
(pss_one (ps_expr (pe_bm PySem.F.plainAttrs_list PySem.F.slot_list_extend PySem.F.type_list_extend mt_extend (pv 4) (pa_cons (pe_lc (own := [("_law_no", 6)]) (g := (gName 6)) (tt := tOr (tTest (tOp (rEqD K) (tVar 5) (tTup tNil))) (tTest (tOp (rI0 fun i j => .bl (decide (j < i))) (tVar 6) (tOp (rIxT K) (tVar 5) (tUn (rU fun i => .int (-i)) (tC (.int 1))))))) (te := tOp (rCatA K) (tVar 5) (tTup (tCons (tVar 6) tNil))) rfl sc_l_sets.nd (pi_range1 (by rfl) B.range (pa_cons (pv 0) pa_nil)) (blkOk_by (N := n_l_sets) (sc := defScope s_l_sets) (by decide +kernel)) (fun _ _ _ _ _ => (pg_name (i := 6) sc_l_sets.nd rfl (Or.inl rfl))) (fun _ _ _ _ _ => (pts_one (PW.pt (pw_or (pt_cmpR (op_eqD hr.units) (pv 5) (pe_tup pa_nil) (nomark _)) (pw_or1 (pt_cmpR op_gt (pv 6) (pe_ix ix_tup (pv 5) (pe_un un_neg pe_int) (fun _ _ => rfl)) (nomark _))))))) (fun _ _ _ _ _ => (pe_op op_catA (pv 5) (pe_tup (pa_cons (pv 6) pa_nil))))) pa_nil)))))
(pss_one (ps_set (i := 2) sc_l_sets.nd rfl (Or.inl rfl) (pv 4))))))
(pss_one (ps_ret (pv 2))))), ?_⟩
  refine ⟨(by show 0 ≤ sizeLine; decide), fun e0 he0 => ?_⟩
  have ge := same_new he0 (.tup [])
  refine ⟨(by show 1 ≤ sizeLine; decide), fun F0 hF0 => ?_⟩
  have gF := same_new hF0 (.lst [.ref e0])
  have g1 := ge.trans gF
  refine ⟨_, rfl, (kk : Int), rfl, by omega, by omega, for_range (lo := 0) (n := kk) (fun i σ H' => (∃ (Fd : Addr) (x3 x4 x5 x6 : Option V) (M : List (V × List Nat)), σ = [some (.int (n : Nat)), some (.int (kk : Nat)), some (.ref Fd), x3, x4, x5, x6] ∧ H Fd = none ∧ H' Fd = some (.lst (M.map Prod.fst)) ∧ M.map Prod.snd = combos n i ∧ NumsL K H' M) ∧ Same H H')
    ⟨⟨F0, _, _, _, _, [(.ref e0, [])], rfl, ge.free hF0, upd_same, rfl, fun q hq => by rw [List.mem_singleton.mp hq]; exact ⟨e0, rfl, seqT gF (SqT.of upd_same)⟩⟩, g1⟩ ?_ ?_⟩
  · rintro i σ H2 hi ⟨⟨Fd, x3, x4, x5, x6, M, rfl, hFn, hFd, eM, hM⟩, g2⟩
    have Ml : M.length ≤ 4 ^ i := by
      have q := combos_len hn i
      rw [← eM, List.length_map] at q
      exact q
    have p4 : 4 ^ i ≤ 64 := by
      have : 4 ^ i ≤ 4 ^ 3 := Nat.pow_le_pow_right (by decide) (by omega)
      exact this
    refine ⟨(by show 0 ≤ sizeLine; decide), fun Lg hLg => ?_⟩
    have gL := same_new hLg (.lst [])
    refine ⟨_, rfl, Fd, rfl, ⟨_, SqL.of (gL _ _ hFd)⟩, for_list (K := K) (a := Fd) (xs := M.map Prod.fst) (fun j σ' H' => (∃ (x5 x6 : Option V) (M2 : List (V × List Nat)), σ' = [some (.int (n : Nat)), some (.int (kk : Nat)), some (.ref Fd), some (.int (0 + (i : Int))), some (.ref Lg), x5, x6] ∧ H' Lg = some (.lst (M2.map Prod.fst)) ∧ M2.map Prod.snd = ((combos n i).take j).flatMap (longN n) ∧ NumsL K H' M2) ∧ Same H2 H')
      ⟨⟨_, _, [], rfl, upd_same, rfl, fun _ h => by cases h⟩, gL⟩ (fun j σ' H' _ ⟨_, g⟩ => SqL.of (g _ _ hFd)) ?_ ?_⟩
    · rintro j y σ' H3 hy ⟨⟨x5', x6', M2, rfl, hLg3, eM2, hM2⟩, g3⟩
      obtain ⟨q, eq, rfl⟩ := at_map hy
      obtain ⟨tp, eq1, hq⟩ := hM q (List.mem_of_getElem? eq)
      have hq3 := seqT g3 hq
      have eqs : (combos n i)[j]? = some q.2 := by rw [← eM, List.getElem?_map, eq] <;> rfl
      have ql : q.2.length = i := combos_mem (List.mem_of_getElem? eqs)
      have jl : j < M.length := (List.getElem?_eq_some_iff.mp eq).1
      rw [eq1]
      refine ⟨_, rfl, .inl ⟨rfl, _, SqL.of hLg3⟩, ?_⟩
      refine ⟨_, rfl, (n : Int), rfl, by omega, by omega, fun D hD => ?_⟩
      rw [Int.toNat_natCast]
      have gD := same_new hD (.lst [])
      refine lc_it (walk_range (lo := 0) (n := n)) (fun m H' => ∃ M3 : List (V × List Nat), H' D = some (.lst (M3.map Prod.fst)) ∧ M3.map Prod.snd = ((List.range m).filter fun l => decide (nxN q.2 ≤ l)).map (fun l => q.2 ++ [l]) ∧ NumsL K H' M3 ∧ Same H3 H') ⟨[], upd_same, rfl, (fun _ h => by cases h), gD⟩ (fun _ _ _ _ => trivial) (fun m y H4 H5 hm hv hy => ?_) ?_
      · obtain ⟨rfl, hy⟩ := hy
        have hy : y = .int (0 + (m : Int)) := hy
        rw [Int.zero_add] at hy
        subst hy
        obtain ⟨M3, v1, v2, v3, v4⟩ := hv
        have hq5 := seqT v4 hq3
        have tk : List.range (m + 1) = List.range m ++ [m] := List.range_succ
        have ml : M3.length ≤ 4 := by
          have e := congrArg List.length v2
          rw [List.length_map, List.length_map] at e
          have := List.length_filter_le (fun l => decide (nxN q.2 ≤ l)) (List.range m)
          rw [List.length_range] at this
          omega
        have fin : ∀ (p : Addr) (H6 : Hp), nxN q.2 ≤ m → Same H5 H6 → SqT K H6 p (nV (q.2 ++ [m])) → ∃ acc, H6 D = some (.lst acc) ∧ acc.length < sizeLine ∧ (∃ M3 : List (V × List Nat), (upd H6 D (.lst (acc ++ [.ref p]))) D = some (.lst (M3.map Prod.fst)) ∧ M3.map Prod.snd = ((List.range (m + 1)).filter fun l => decide (nxN q.2 ≤ l)).map (fun l => q.2 ++ [l]) ∧ NumsL K (upd H6 D (.lst (acc ++ [.ref p]))) M3 ∧ Same H3 (upd H6 D (.lst (acc ++ [.ref p])))) := fun p H6 hle g6 hp => by
          have gl : TK K H6 (upd H6 D (.lst (M3.map Prod.fst ++ [.ref p]))) := TK.lst (g6 _ _ v1)
          refine ⟨_, g6 _ _ v1, by rw [List.length_map]; exact small1000 (by omega), M3 ++ [(.ref p, q.2 ++ [m])], by rw [upd_same, List.map_append] <;> rfl, ?_, ((v3.mono (.of g6)).mono gl).app (fun x hx => by rw [List.mem_singleton.mp hx]; exact ⟨p, rfl, gl _ _ hp⟩), same_over (v4.trans g6) hD _⟩
          rw [List.map_append, v2, tk, List.filter_append]
          have : ([m] : List Nat).filter (fun l => decide (nxN q.2 ≤ l)) = [m] := by simp [hle]
          rw [this, List.map_append (l₂ := [m])] <;> rfl
        have yes : ∀ H6 : Hp, nxN q.2 ≤ m → Same H5 H6 → (tOp (rCatA K) (tVar 5) (tTup (tCons (tVar 6) tNil))) [some (.int (n : Nat)), some (.int (kk : Nat)), some (.ref Fd), some (.int (0 + (i : Int))), some (.ref Lg), some (.ref tp), some (.int (m : Nat))] H6 (fun y H7 => ∃ acc, H7 D = some (.lst acc) ∧ acc.length < sizeLine ∧ (∃ M3 : List (V × List Nat), (upd H7 D (.lst (acc ++ [y]))) D = some (.lst (M3.map Prod.fst)) ∧ M3.map Prod.snd = ((List.range (m + 1)).filter fun l => decide (nxN q.2 ≤ l)).map (fun l => q.2 ++ [l]) ∧ NumsL K (upd H7 D (.lst (acc ++ [y]))) M3 ∧ Same H3 (upd H7 D (.lst (acc ++ [y]))))) := fun H6 hle g6 => by
          have hq6 := seqT g6 hq5
          refine ⟨_, rfl, _, rfl, (by show 1 ≤ sizeLine; decide), fun u hu => ?_⟩
          have gu := same_new hu (.tup [.int (m : Nat)])
          have hu1 : SqT K (upd H6 u (.tup [.int (m : Nat)])) u [.int (m : Nat)] := SqT.of upd_same
          refine ⟨tp, u, _, _, rfl, rfl, seqT gu hq6, hu1, ?_, fun e => ?_, (fun _ e => by cases e), fun e _ p hp => ?_⟩
          · rw [List.length_map]
            exact Nat.le_trans (show _ ≤ 1000 by show q.2.length + 1 ≤ 1000; omega) (by decide)
          · have e : q.2 = [] := List.map_eq_nil_iff.mp e
            exact fin u _ hle (g6.trans gu) (by rw [e]; exact hu1)
          · have gp := same_new hp (.tup (nV q.2 ++ [.int (m : Nat)]))
            exact fin p _ hle (g6.trans (gu.trans gp)) (by unfold nV; rw [List.map_append]; exact SqT.of upd_same)
        refine ⟨rfl, ?_⟩
        refine ⟨_, rfl, (by show 0 ≤ sizeLine; decide), fun e he => ?_⟩
        have ge2 := same_new he (.tup [])
        refine ⟨.tuple (q.2.map fun n : Nat => PyData.int n), .tuple [], .tup (seqT ge2 hq5) (dp_nats _), .tup (SqT.of upd_same) .nil, nats_shaped _, by decide +kernel, _, rfl, ?_⟩
        rcases List.eq_nil_or_concat q.2 with e2 | ⟨c', l, e2⟩
        · refine iteC (by rw [e2]; decide +kernel) (iteT ?_)
          exact yes _ (by rw [e2]; exact Nat.zero_le _) ge2
        · rw [List.concat_eq_append] at e2
          refine iteN ?_ ?_
          · rw [e2]
            cases c' with
            | nil => rfl
            | cons x r => rfl
          refine ⟨_, rfl, _, rfl, 1, rfl, tp, _, -1, .int (l : Nat), rfl, rfl, seqT ge2 hq5, ?_, ?_⟩
          · rw [e2]
            unfold nV
            rw [List.map_append]
            exact atI_last _ _
          refine ⟨_, _, rfl, rfl, _, rfl, ?_⟩
          have enx : nxN q.2 = l + 1 := by rw [e2, nxN_snoc]
          by_cases hlt : l < m
          · exact iteC (decide_eq_true (by omega)) (yes _ (by omega) ge2)
          · refine iteN (decide_eq_false (by omega)) ⟨M3, ge2 _ _ v1, ?_, v3.mono (.of ge2), v4.trans ge2⟩
            rw [v2, tk, List.filter_append]
            have : ([m] : List Nat).filter (fun l => decide (nxN q.2 ≤ l)) = [] := by
              rw [List.filter_cons, if_neg (by simp; omega)]
              rfl
            rw [this, List.append_nil]
      rintro H4 ⟨M3, v1, v2, v3, v4⟩
      rw [range_drop] at v2
      have v2 : M3.map Prod.snd = longN n q.2 := v2
      have hLg4 := v4 _ _ hLg3
      have e1 : ((combos n i).take (j + 1)).flatMap (longN n) = ((combos n i).take j).flatMap (longN n) ++ longN n q.2 := by
        rw [List.take_succ, eqs, List.flatMap_append]
        show _ ++ List.flatMap _ [q.2] = _
        rw [List.flatMap_singleton]
      have l2 : M2.length ≤ 256 := by
        have e := congrArg List.length eM2
        have b := longN_len hn ((combos n i).take j)
        rw [List.length_map] at e
        rw [List.length_take] at b
        omega
      have l3 : M3.length ≤ 4 := by
        have e := congrArg List.length v2
        have b := longN_len hn [q.2]
        rw [List.flatMap_singleton] at b
        rw [List.length_map] at e
        have : [q.2].length = 1 := rfl
        omega
      have gl : TK K H4 (upd H4 Lg (.lst (M2.map Prod.fst ++ M3.map Prod.fst))) := TK.lst hLg4
      refine ⟨Lg, D, _, _, rfl, rfl, hLg4, v1, ?_, ⟨_, _, M2 ++ M3, rfl, by rw [upd_same, List.map_append], ?_, ((hM2.mono (.of v4)).mono gl).app (v3.mono gl)⟩, same_over (g3.trans v4) hLg _⟩
      · rw [List.length_map, List.length_map]
        exact Nat.le_trans (show _ ≤ 1000 by omega) (by decide)
      · rw [List.map_append, eM2, v2, e1]
    · rintro σ' H3 ⟨⟨x5', x6', M2, rfl, hLg3, eM2, hM2⟩, g3⟩
      rw [List.length_map, ← List.length_map (f := Prod.snd), eM, List.take_length] at eM2
      exact ⟨_, rfl, ⟨Lg, _, _, _, _, M2, rfl, g2.free hLg, hLg3, eM2, hM2⟩, g2.trans g3⟩
  · rintro σ H2 ⟨⟨Fd, x3, x4, x5, x6, M, rfl, hFn, hFd, eM, hM⟩, g2⟩
    exact ⟨_, rfl, k Fd M H2 g2 hFn hFd eM hM⟩
end
end Lw
namespace Lw
open PySem L2 TzR TL
/-! _law_due -/
theorem allc_split {n sz : Nat} (h : sz ≤ n) : ∃ rest, allc n = (List.range sz).flatMap (combos n) ++ (combos n sz ++ rest) := by
  obtain ⟨r, e⟩ : ∃ r, n + 1 = (sz + 1) + r := ⟨n - sz, by omega⟩
  refine ⟨((List.range r).map fun i => (sz + 1) + i).flatMap (combos n), ?_⟩
  unfold allc
  rw [e, List.range_add, List.flatMap_append, range_flat, List.append_assoc]
theorem find_here {n sz j : Nat} {P : List Nat → Bool} {c : List Nat} (h : sz ≤ n) (ec : (combos n sz)[j]? = some c) (hc : P c = true) (h1 : ∀ d ∈ (List.range sz).flatMap (combos n), P d = false) (h2 : ∀ d ∈ (combos n sz).take j, P d = false) : (allc n).find? P = some c := by
  obtain ⟨rest, e⟩ := allc_split h
  have split : combos n sz = (combos n sz).take j ++ c :: (combos n sz).drop (j + 1) := by
    obtain ⟨l1, l2⟩ := List.getElem?_eq_some_iff.mp ec
    rw [← l2, ← List.drop_eq_getElem_cons l1, List.take_append_drop]
  have n1 : ((List.range sz).flatMap (combos n)).find? P = none := List.find?_eq_none.mpr fun d hd => by rw [h1 d hd]; decide
  have n2 : ((combos n sz).take j).find? P = none := List.find?_eq_none.mpr fun d hd => by rw [h2 d hd]; decide
  rw [e, List.find?_append, n1, Option.none_or, split, List.append_assoc, List.find?_append, n2, Option.none_or, List.cons_append, List.find?_cons_of_pos hc]
theorem getD_of {α : Type} {l : List α} {i : Nat} {x d : α} (h : l[i]? = some x) : l.getD i d = x := by
  rw [List.getD_eq_getElem?_getD, h] <;> rfl
theorem luses_of {K : PySem.W.Frag} {H : Hp} {us : List V} {xs : List Ux} (h : LUses K H us xs) {ns : List Nat} (hns : ∀ n ∈ ns, n < xs.length) : LUses K H (ns.map fun n => us.getD n .non) (usesOf xs ns) := by
  refine ⟨by unfold usesOf; rw [List.length_map, List.length_map], fun i x e => ?_⟩
  unfold usesOf at e
  obtain ⟨n, en, rfl⟩ := at_mapG e
  have lt := hns n (List.mem_of_getElem? en)
  obtain ⟨u, eu, hu⟩ := h.2 n _ (List.getElem?_eq_getElem lt)
  refine ⟨u, ?_, ?_⟩
  · rw [List.getElem?_map, en]
    show some (us.getD n .non) = _
    rw [getD_of eu]
  · rw [getD_of (List.getElem?_eq_getElem lt)]
    exact hu
theorem usesOf_mem {xs : List Ux} {ns : List Nat} (hns : ∀ n ∈ ns, n < xs.length) {x : Ux} (h : x ∈ usesOf xs ns) : x ∈ xs := by
  obtain ⟨n, hn, rfl⟩ := List.mem_map.mp h
  rw [getD_of (List.getElem?_eq_getElem (hns n hn))]
  exact List.getElem_mem _
theorem ok_steps {xs : List Ux} {ls as : List Str} (hX : ∀ x ∈ xs, GoodU x) (xin : ∀ x ∈ xs, ∀ z ∈ x.2.1, z ∈ ls) (hlet : LetOk as ls) : Topo.OkS (stAll xs) as := fun s0 hs0 => by
  obtain ⟨x, ex, h2⟩ := stAll_mem.mp hs0
  have xm := List.mem_of_getElem? ex
  obtain ⟨o1, o2, o3⟩ := st_ok (hX x xm) h2
  exact ⟨(hlet.mem _).mpr (xin x xm _ o1), (hlet.mem _).mpr (xin x xm _ o2), o3⟩
abbrev s_l_due : Stmt := topS 43
abbrev n_l_due : List Str := ["_law_uses", "_law_letters_here", "_law_fewer", "_law_size", "_law_numbers", "_law_order", "_law_no", "_law_use"]
theorem sc_l_due : FnScope n_l_due ["_law_uses", "_law_letters_here"] (defScope s_l_due) := ⟨rfl, rfl, rfl, by decide +kernel, rfl, by decide +kernel, by decide +kernel⟩
def spDue (K : PySem.W.Frag) : Sp := fun vs H Q _ => ∃ (a b : Addr) (us : List V) (xs : List Ux) (ls as : List Str), vs = [.ref a, .ref b] ∧ SqL K H a us ∧ LUses K H us xs ∧ (∀ x ∈ xs, GoodU x) ∧ xs.length ≤ 4 ∧ SqL K H b (ls.map V.str) ∧ ls.Nodup ∧ ls.length ≤ 4 ∧ LetOk as ls ∧ (∀ x ∈ xs, ∀ z ∈ x.2.1, z ∈ ls) ∧
  ∀ (t tn o fl : Addr) (c : List Nat) (order : List Str) (F : List (V × List Nat)) (H' : Hp), Same H H' → SqT K H' t [.ref tn, .ref o, .ref fl] → SqT K H' tn (nV c) → SqT K H' o (order.map V.str) →
    (allc xs.length).find? (fun c => (ordOf xs as c).isSome) = some c → ordOf xs as c = some order →
    H' fl = some (.lst (F.map Prod.fst)) → F.map Prod.snd = (List.range c.length).flatMap (combos xs.length) → NumsL K H' F → Q (.ref t) H'
section
variable {P : Program} {w : World} {K : PySem.W.Frag} {mg : Str → Option Value} {base : Heap} {f : Addr} {fd : FuncData}
theorem ok_l_due (F : Fun K "_law_due" "_law_due" s_l_due f fd) (B : Bt mg) (B2 : Bx mg) (cS : Ca P w K mg base 1 "_law_sets" ["_law_many", "_law_size"] (spSets K)) (cL : Ca P w K mg base 4 "_law_least_order" ["_law_uses", "_law_letters_here"] (spLo K)) : FnOk P w K mg base CX0 5 f fd ["_law_uses", "_law_letters_here"] (spDue K) := by
  refine F.ok sc_l_due (fun vs H Q E h => ?_) (fun cdv A outer s H vs Q E hr h => ?_)
  · obtain ⟨a, b, us, xs, ls, as, rfl, _⟩ := h
    rfl
  obtain ⟨a, b, us, xs, ls, as, rfl, ha, hU, hX, hxl, hb, hn, h4, hlet, xin, k⟩ := h
  refine ⟨_, (pss_cons (ps_set (i := 2) sc_l_due.nd rfl (Or.inl rfl) (pe_lst pa_nil))
(pss_cons (ps_for PassesOwn.never rfl (pi_range1 (by rfl) B.range (pa_cons (pe_op op_add (pe_callB call_len_seq (by rfl) B.len PySem.boot_len (pa_cons (pv 0) pa_nil)) pe_int) pa_nil)) (pg_name (i := 3) sc_l_due.nd rfl (Or.inl rfl))
(pss_cons (ps_for PassesOwn.never rfl (pi_list (pca cS hr (by decide) rfl (pa_cons (pe_callB call_len_seq (by rfl) B.len PySem.boot_len (pa_cons (pv 0) pa_nil)) (pa_cons (pv 3) pa_nil)))) (pg_name (i := 4) sc_l_due.nd rfl (Or.inr rfl))
(pss_cons (ps_set (i := 5) sc_l_due.nd rfl (Or.inl rfl) (pca cL hr (by decide) rfl (pa_cons (pe_lc (own := [("_law_no", 6), ("_law_use", 7)]) (g := (gTup K 2 (gCons (gName 6) (gCons (gName 7) gNil)))) (tt := tTest (tOp (rIn K true) (tVar 6) (tVar 4))) (te := tVar 7) rfl sc_l_due.nd (pi_enum (by rfl) B2.enum (pa_cons (pv 0) pa_nil)) (blkOk_by (N := n_l_due) (sc := defScope s_l_due) (by decide +kernel)) (fun _ _ _ _ _ => (pg_tup rfl (pgs_cons (pg_name (i := 6) sc_l_due.nd rfl (Or.inl rfl)) (pgs_cons (pg_name (i := 7) sc_l_due.nd rfl (Or.inl rfl)) pgs_nil)))) (fun _ _ _ _ _ => (pts_one (pt_cmpR op_notIn_seq (pv 6) (pv 4) (by rfl)))) (fun _ _ _ _ _ => (pv 7))) (pa_cons (pv 1) pa_nil))))
(pss_one (ps_if (pt_cmpR op_notN (pv 5) pe_non (nomark _))
(pss_one (ps_ret (pe_tup (pa_cons (pv 4) (pa_cons (pv 5) (pa_cons (pv 2) pa_nil)))))) pss_nil))))
(pss_one (ps_set (i := 2) sc_l_due.nd rfl (Or.inl rfl) (pe_op op_cat (pv 2) (pca cS hr (by decide) rfl (pa_cons (pe_callB call_len_seq (by rfl) B.len PySem.boot_len (pa_cons (pv 0) pa_nil)) (pa_cons (pv 3) pa_nil))))))))
(pss_one (ps_ret pe_non)))), ?_⟩
  have ul : us.length = xs.length := hU.1
  refine ⟨(by show 0 ≤ sizeLine; decide), fun F0 hF0 => ?_⟩
  have gF := same_new hF0 (.lst [])
  refine ⟨_, rfl, a, us, rfl, .inl (gF.seq ha), _, _, rfl, rfl, _, rfl, by omega, by omega, ?_⟩
  have ej : ((us.length : Nat) + 1 : Int).toNat = xs.length + 1 := by omega
  rw [ej]
  refine for_range (lo := 0) (n := xs.length + 1) (fun sz σ' H' => (∃ (Fl : Addr) (x3 x4 x5 x6 x7 : Option V) (F : List (V × List Nat)), σ' = [some (.ref a), some (.ref b), some (.ref Fl), x3, x4, x5, x6, x7] ∧ H' Fl = some (.lst (F.map Prod.fst)) ∧ F.map Prod.snd = (List.range sz).flatMap (combos xs.length) ∧ NumsL K H' F) ∧ Same H H' ∧ ∀ d ∈ (List.range sz).flatMap (combos xs.length), (ordOf xs as d).isSome = false)
    ⟨⟨F0, _, _, _, _, _, [], rfl, upd_same, rfl, fun _ h => by cases h⟩, gF, fun d hd => by cases hd⟩ ?_ ?_
  · rintro sz σ' H2 hsz ⟨⟨Fl, x3, x4, x5, x6, x7, F, rfl, hFl, eF, hF⟩, g2, hno⟩
    have hFl' : F.length ≤ 256 := by
      have e := congrArg List.length eF
      have b1 := flat_combos hxl sz
      have b2 := pow4 (i := sz) (by omega)
      rw [List.length_map] at e
      omega
    refine ⟨_, rfl, a, us, rfl, .inl (g2.seq ha), _, rfl, _, _, xs.length, sz, rfl, by omega, by omega, hxl, by omega, fun C0 L0 H3 g3 hC0 hC eL hL => ?_⟩
    refine ⟨C0, rfl, ⟨_, SqL.of hC⟩, for_list (K := K) (a := C0) (xs := L0.map Prod.fst) (fun j σ'' H' => (∃ (x4 x5 x6 x7 : Option V), σ'' = [some (.ref a), some (.ref b), some (.ref Fl), some (.int (0 + (sz : Int))), x4, x5, x6, x7]) ∧ Same H3 H' ∧ ∀ d ∈ (combos xs.length sz).take j, (ordOf xs as d).isSome = false)
      ⟨⟨_, _, _, _, rfl⟩, Same.refl _, fun d hd => by simp at hd⟩ (fun j σ'' H' _ ⟨_, g, _⟩ => SqL.of (g _ _ hC)) ?_ ?_⟩
    · rintro j y σ'' H4 hy ⟨⟨x4', x5', x6', x7', rfl⟩, g4, hno2⟩
      obtain ⟨q, eq, rfl⟩ := at_map hy
      obtain ⟨tn, e1, htn⟩ := hL q (List.mem_of_getElem? eq)
      have eqs : (combos xs.length sz)[j]? = some q.2 := by rw [← eL, List.getElem?_map, eq] <;> rfl
      have g04 := g2.trans (g3.trans g4)
      have htn4 := seqT g4 htn
      rw [e1]
      refine ⟨_, rfl, a, _, rfl, g04.seq ha, fun M hM => ?_⟩
      have gM := same_new hM (.lst [])
      refine lc_it (walk_enL (K := K) (a := a) (xs := us)) (InvF H4 M (fun n : Nat => us.getD n .non) (fun i => decide (i ∉ q.2)) (List.range xs.length)) ⟨upd_same, gM⟩ (fun i H' _ ⟨_, g⟩ => (g04.trans g).seq ha) (fun i y H5 H6 hi hv hy => ?_) ?_
      · obtain ⟨T, x', rfl, hT, rfl, hx⟩ := hy
        have gT := same_new hT (.tup [.int (i : Nat), x'])
        have ei : (List.range xs.length)[i]? = some i := List.getElem?_range (by omega)
        have hv6 : InvF H4 M (fun n : Nat => us.getD n .non) (fun i => decide (i ∉ q.2)) (List.range xs.length) i (upd H5 T (.tup [.int (i : Nat), x'])) := ⟨gT _ _ hv.1, hv.2.trans gT⟩
        refine ⟨T, _, rfl, SqT.of upd_same, rfl, _, _, rfl, _, _, rfl, rfl, rfl, ?_⟩
        refine ⟨_, rfl, _, rfl, tn, nV q.2, rfl, .inr (seqT hv6.2 htn4), rfl, flat_nats _, _, rfl, ?_⟩
        by_cases hz : i ∈ q.2
        · exact iteN (by rw [if_pos rfl, in_nats, decide_eq_true hz] <;> rfl) (hv6.no ei (decide_eq_false fun h => h hz))
        · refine iteC (by rw [if_pos rfl, in_nats, decide_eq_false hz] <;> rfl) ⟨_, rfl, _, hv6.1, InvF.len (by rw [List.length_range]; omega), ?_⟩
          have z := InvF.yes (f := fun n : Nat => us.getD n .non) (p := fun i => decide (i ∉ q.2)) (H := H5) hM hv6.2 ei (decide_eq_true hz)
          have e : us.getD i .non = x' := getD_of hx
          rw [e] at z
          exact z
      rintro H5 ⟨hM5, g5⟩
      rw [ul, List.take_of_length_le (by rw [List.length_range]; exact Nat.le_refl _)] at hM5
      have hM5 : H5 M = some (.lst ((oth xs.length q.2).map fun n : Nat => us.getD n .non)) := hM5
      have g05 := g04.trans g5
      have hU5 := luses_of (hU.mono (.of g05)) (ns := oth xs.length q.2) oth_lt
      have ol := oth_len (n := xs.length) (c := q.2)
      have hX5 : ∀ x ∈ usesOf xs (oth xs.length q.2), GoodU x := fun x hx => hX x (usesOf_mem oth_lt hx)
      have xin5 : ∀ x ∈ usesOf xs (oth xs.length q.2), ∀ z ∈ x.2.1, z ∈ ls := fun x hx => xin x (usesOf_mem oth_lt hx)
      have find := Topo.least_topo hlet.nd (ok_steps hX5 xin5 hlet)
      rw [topo_pr (all_pr xs (oth xs.length q.2))] at find
      have find : (Topo.ord as as.length).find? (Topo.fitsS (stAll (usesOf xs (oth xs.length q.2)))) = ordOf xs as q.2 := find
      refine ⟨_, rfl, M, b, _, usesOf xs (oth xs.length q.2), ls, as, rfl, SqL.of hM5, hU5, hX5, by unfold usesOf; rw [List.length_map]; omega, g05.seq hb, hn, h4, hlet, xin5, fun order eo o H6 g6 ho => ?_, fun eo H6 g6 => ?_⟩
      · rw [find] at eo
        have g06 := g05.trans g6
        have g36 := g4.trans (g5.trans g6)
        have hs : (ordOf xs as q.2).isSome = true := by rw [eo] <;> rfl
        refine ⟨_, rfl, rfl, _, rfl, iteT ?_⟩
        refine ⟨_, rfl, _, rfl, _, rfl, (by show 3 ≤ sizeLine; decide), fun t ht => ?_⟩
        have gt := same_new ht (.tup [.ref tn, .ref o, .ref Fl])
        have cl : q.2.length = sz := combos_mem (List.mem_of_getElem? eqs)
        exact k t tn o Fl q.2 order F _ (g06.trans gt) (SqT.of upd_same) (seqT (g36.trans gt) htn) (seqT gt ho) (find_here (by omega) eqs hs hno hno2) eo ((g3.trans (g36.trans gt)) _ _ hFl) (by rw [cl]; exact eF) (hF.mono (.of (g3.trans (g36.trans gt))))
      · rw [find] at eo
        refine ⟨_, rfl, rfl, _, rfl, iteN rfl ⟨⟨_, _, _, _, rfl⟩, g4.trans (g5.trans g6), fun d hd => ?_⟩⟩
        rw [List.take_succ, eqs] at hd
        rcases List.mem_append.mp hd with hd | hd
        · exact hno2 d hd
        · rw [List.mem_singleton.mp hd, eo] <;> rfl
    · rintro σ'' H4 ⟨⟨x4', x5', x6', x7', rfl⟩, g4, hno2⟩
      rw [List.length_map, ← List.length_map (f := Prod.snd), eL, List.take_length] at hno2
      have g24 := g3.trans g4
      have g04 := g2.trans g24
      refine ⟨_, rfl, _, rfl, a, us, rfl, .inl (g04.seq ha), _, rfl, _, _, xs.length, sz, rfl, by omega, by omega, hxl, by omega, fun C1 L1 H5 g5 hC10 hC1 eL1 hL1 => ?_⟩
      have hL1l : L1.length ≤ 256 := by
        have e := congrArg List.length eL1
        have b1 := combos_len hxl sz
        have b2 := pow4 (i := sz) (by omega)
        rw [List.length_map] at e
        omega
      refine ⟨Fl, C1, _, _, rfl, rfl, g5 _ _ (g24 _ _ hFl), hC1, ?_, fun p hp => ?_⟩
      · rw [List.length_map, List.length_map]
        exact Nat.le_trans (show _ ≤ 1000 by omega) (by decide)
      have gp := same_new hp (.lst (F.map Prod.fst ++ L1.map Prod.fst))
      refine ⟨⟨p, _, _, _, _, _, F ++ L1, rfl, by rw [upd_same, List.map_append], by rw [List.map_append, eF, eL1, range_flat], (hF.mono (.of (g24.trans (g5.trans gp)))).app (hL1.mono (.of gp))⟩, (g04.trans g5).trans gp, fun d hd => ?_⟩
      rw [range_flat] at hd
      exact (List.mem_append.mp hd).elim (hno d) (hno2 d)
  · rintro σ' H2 ⟨_, g2, hno⟩
    exfalso
    obtain ⟨c, order, ec, eo⟩ := find_ex (xs := xs) (as := as) hlet.nd
    have := hno c (List.mem_of_find?_eq_some ec)
    rw [eo] at this
    cases this
end
end Lw
namespace Lw
open PySem L2 TzR TL
/-! small lemmas of the law -/
theorem srt_ex {l : List Str} (hn : l.Nodup) : ∃ as, LetOk as l := by
  let le : Str → Str → Bool := fun a b => !PySem.Spec.ltCps b.cps.toList a.cps.toList
  have le_iff : ∀ a b : Str, le a b = true ↔ leS a b := fun a b => by
    show (!PySem.Spec.ltCps b.cps.toList a.cps.toList) = true ↔ _
    rw [PyProof.Rows.ltCps_eq, Bool.not_eq_true', decide_eq_false_iff_not]
    exact Iff.rfl
  have pw : (l.mergeSort le).Pairwise (fun a b => le a b = true) := List.pairwise_mergeSort (fun a b c h1 h2 => (le_iff a c).mpr (List.le_trans ((le_iff a b).mp h1) ((le_iff b c).mp h2))) (fun a b => by
    by_cases h : leS a b
    · rw [(le_iff a b).mpr h] <;> rfl
    · have h2 : leS b a := (List.le_total (TL.tl a) (TL.tl b)).resolve_left h
      rw [(le_iff b a).mpr h2, Bool.or_true]) l
  refine ⟨l.mergeSort le, ⟨PyProof.Rows.sortedS_of_pairwise _ (pw.imp fun {a b} h => ?_), fun z => List.mem_mergeSort, l, hn, List.length_mergeSort _, fun z => Iff.rfl⟩⟩
  have h : (!PySem.Spec.ltCps b.cps.toList a.cps.toList) = true := h
  rwa [Bool.not_eq_true'] at h
theorem muse_key {K : PySem.W.Frag} {U C : Addr} {H H' : Hp} {p : Addr} {x : Ux} (g : ∀ (b : Addr) (o : HO), (∀ xs, o ≠ .lst xs) → H b = some o → H' b = some o) : MUse K U C H p x → MUse K U C H' p x
  | ⟨q, dx, tl, h1, ⟨o, h2, z⟩, ⟨dy, tk, ta, h3, h4, h5⟩⟩ => by
    have sq : ∀ {a : Addr} {xs : List V}, SqT K H a xs → SqT K H' a xs := fun {a xs} h => by
      rcases h with (h | ⟨o, h⟩) | h
      · exact .inl (.inl (g _ _ (fun _ e => by cases e) h))
      · exact .inl (.inr ⟨o, g _ _ (fun _ e => by cases e) h⟩)
      · exact .inr h
    exact ⟨q, dx, tl, g _ _ (fun _ e => by cases e) h1, ⟨o, g _ _ (fun _ e => by cases e) h2, z⟩, ⟨dy, tk, ta, g _ _ (fun _ e => by cases e) h3, sq h4, sq h5⟩⟩
theorem muse_upd {K : PySem.W.Frag} {U C : Addr} {H : Hp} {D : Addr} {xs : List V} {o : HO} {p : Addr} {x : Ux} (hD : H D = some (.lst xs)) (h : MUse K U C H p x) : MUse K U C (upd H D o) p x :=
  muse_key (fun b o' no e => by rw [upd_ne (fun z => by rw [z, hD] at e; exact no _ (Option.some.inj e).symm)]; exact e) h
theorem strs_lay : ∀ {ls : List Str}, (∀ z ∈ ls, PyData.strOk z = true) → PyData.canLayAll0 (ls.map PyData.str) = true ∧ PyData.depthAll (ls.map PyData.str) ≤ 1
  | [], _ => ⟨rfl, Nat.zero_le _⟩
  | z :: r, h => by
    obtain ⟨a, b⟩ := strs_lay (ls := r) fun x hx => h x (List.mem_cons_of_mem _ hx)
    have c := h z (List.mem_cons_self ..)
    constructor
    · show (PyData.strOk z && PyData.canLayAll0 (r.map PyData.str)) = true
      rw [a, c] <;> rfl
    · show max (PyData.depth (.str z)) (PyData.depthAll (r.map PyData.str)) ≤ 1
      exact Nat.max_le.mpr ⟨Nat.zero_le _, b⟩
theorem strs_shaped {ls : List Str} (h : ∀ z ∈ ls, PyData.strOk z = true) : SeqAt.shaped (.list (ls.map PyData.str)) = true := by
  obtain ⟨a, b⟩ := strs_lay h
  show (PyData.canLayAll0 _ && decide (PyData.depthAll _ + 1 ≤ 64)) = true
  rw [a, decide_eq_true (by omega)] <;> rfl
theorem dp_strs {K : PySem.W.Frag} {H : Hp} : ∀ ss : List Str, DpAll K H (ss.map V.str) (ss.map PyData.str)
  | [] => .nil
  | n :: r => .cons (.str n) (dp_strs r)
theorem eqv_strs : ∀ ss : List Str, PyData.eqvAll (ss.map PyData.str) (ss.map PyData.str) = true
  | [] => by rw [List.map_nil, PyData.eqvAll]
  | s :: r => by
    rw [List.map_cons, PyData.eqvAll, eqv_strs r, PyData.eqv, beq_self_eq_true] <;> rfl
theorem abc_strOk : ∀ z ∈ Tt.abcL, PyData.strOk z = true := by decide +kernel
theorem sm_strs {K : PySem.W.Frag} {H : Hp} {n : Nat} {a b : Addr} {zs : List Str} (h1 : SqT K H a (zs.map V.str)) (h2 : SqT K H b (zs.map V.str)) (hl : zs.length ≤ 1000) : Sm K H (n + 2) (.ref a) (.ref b) := by
  refine .inr (.inr (.inr (.inl ⟨a, b, _, _, rfl, rfl, h1, h2, rfl, by rw [List.length_map]; exact hl, fun i x y e1 e2 => ?_⟩)))
  rw [e1] at e2
  cases e2
  obtain ⟨z, _, rfl⟩ := at_map e1
  exact Sm.str z
theorem sm_nats {K : PySem.W.Frag} {H : Hp} {n : Nat} {a b : Addr} {c : List Nat} (h1 : SqT K H a (nV c)) (h2 : SqT K H b (nV c)) (hl : c.length ≤ 1000) : Sm K H (n + 2) (.ref a) (.ref b) := by
  refine .inr (.inr (.inr (.inl ⟨a, b, _, _, rfl, rfl, h1, h2, rfl, by rw [List.length_map]; exact hl, fun i x y e1 e2 => ?_⟩)))
  rw [e1] at e2
  cases e2
  obtain ⟨z, _, rfl⟩ := at_map e1
  exact Sm.int _
theorem find_ord {xs : List Ux} {ls as : List Str} (hX : ∀ x ∈ xs, GoodU x) (xin : ∀ x ∈ xs, ∀ z ∈ x.2.1, z ∈ ls) (hlet : LetOk as ls) (c : List Nat) : (Topo.ord as as.length).find? (Topo.fitsS (stAll (usesOf xs (oth xs.length c)))) = ordOf xs as c := by
  have find := Topo.least_topo hlet.nd (ok_steps (xs := usesOf xs (oth xs.length c)) (fun x hx => hX x (usesOf_mem oth_lt hx)) (fun x hx => xin x (usesOf_mem oth_lt hx)) hlet)
  rw [topo_pr (all_pr xs (oth xs.length c))] at find
  exact find
/-! the law -/
abbrev s_law : Stmt := topS 44
abbrev n_law : List Str := ["_law_script", "_law_stream", "_law_turn", "_law_uses", "_law_letters_here", "_law_numbers", "_law_order", "_law_fewer", "_law_before", "_law_told", "_law_use", "_law_row", "_law_some", "_law_steps", "_law_no"]
theorem sc_law : FnScope n_law ["_law_script"] (defScope s_law) := ⟨rfl, rfl, rfl, by decide +kernel, rfl, by decide +kernel, by decide +kernel⟩
def spLaw (K : PySem.W.Frag) : Sp := fun vs H Q _ => ∃ (a : Addr) (ns : List Int), vs = [.ref a] ∧ SqL K H a (ns.map V.int) ∧ ns.length ≤ 63 ∧ ∀ H', Q (.bl true) H'
def InvMd (K : PySem.W.Frag) (U C : Addr) (H0 : Hp) (D : Addr) (xs : List Ux) (i : Nat) (H : Hp) : Prop := ∃ acc : List V, H D = some (.lst acc) ∧ acc.length = i ∧ (∀ (j : Nat) (x : Ux), j < i → xs[j]? = some x → ∃ p, acc[j]? = some (.ref p) ∧ MUse K U C H p x) ∧ Same H0 H
section
variable {P : Program} {w : World} {K : PySem.W.Frag} {mg : Str → Option Value} {base : Heap} {U FC f : Addr} {fd : FuncData}
theorem ok_law (F : Fun K "law" "law" s_law f fd) (B : Bt mg) (B2 : Bx mg)
    (cS : Ca P w K mg base 1 "_law_start" ["_law_script"] (spStart K)) (cD : Ca P w K mg base 1 "_law_draw" ["_law_stream", "_law_many"] spDraw) (cRg : Ca P w K mg base 3 "_law_ringed" ["_law_stream", "_law_many"] (spRgd K)) (cDu : Ca P w K mg base 5 "_law_due" ["_law_uses", "_law_letters_here"] (spDue K))
    (cB : Ca P w K mg base 6 "_law_use_built" ["_law_use"] (spUb K U FC)) (cFt : Ca P w K mg base 5 "fewest_turned" ["uses", "letters"] (spFt K U FC)) (cE : Ca P w K mg base 3 "_law_same" ["_law_found", "_law_due_here"] (spSame K 3)) (cIr : Ca P w K mg base 2 "_law_is_ring" ["_law_steps", "_law_uses", "_law_numbers"] (spIr K)) :
    FnOk P w K mg base CX0 7 f fd ["_law_script"] (spLaw K) := by
  refine F.ok sc_law (fun vs H Q E h => ?_) (fun cdv A0 outer s H vs Q E hr h => ?_)
  · obtain ⟨a, ns, rfl, _⟩ := h
    rfl
  obtain ⟨a, ns, rfl, hS, hn, k⟩ := h
  refine ⟨_, (pss_cons (ps_set (i := 1) sc_law.nd rfl (Or.inl rfl) (pca cS hr (by decide) rfl (pa_cons (pv 0) pa_nil)))
(pss_cons (ps_for PassesOwn.never rfl (pi_range1 (by rfl) B.range (pa_cons pe_int pa_nil)) (pg_name (i := 2) sc_law.nd rfl (Or.inl rfl))
(pss_cons (ps_asg (pca cRg hr (by decide) rfl (pa_cons (pv 1) (pa_cons (pca cD hr (by decide) rfl (pa_cons (pv 1) (pa_cons pe_int pa_nil))) pa_nil))) (pg_tup rfl (pgs_cons (pg_name (i := 3) sc_law.nd rfl (Or.inl rfl)) (pgs_cons (pg_name (i := 4) sc_law.nd rfl (Or.inl rfl)) pgs_nil))))
(pss_cons (ps_asg (pca cDu hr (by decide) rfl (pa_cons (pv 3) (pa_cons (pv 4) pa_nil))) (pg_tup rfl (pgs_cons (pg_name (i := 5) sc_law.nd rfl (Or.inl rfl)) (pgs_cons (pg_name (i := 6) sc_law.nd rfl (Or.inl rfl)) (pgs_cons (pg_name (i := 7) sc_law.nd rfl (Or.inl rfl)) pgs_nil)))))
(pss_cons (ps_set (i := 8) sc_law.nd rfl (Or.inl rfl) (pe_callTy call_list_of (by rfl) B.lst (by decide +kernel) (pa_cons (pv 4) pa_nil)))
(pss_cons (ps_set (i := 9) sc_law.nd rfl (Or.inl rfl) (pca cFt hr (by decide) rfl (pa_cons (pe_lc (own := [("_law_use", 10)]) (g := (gName 10)) (tt := tYes) (te := tCall (spUb K U FC) [] E0 (tCons (tVar 10) tNil)) rfl sc_law.nd (pi_list (pv 3)) (blkOk_by (N := n_law) (sc := defScope s_law) (by decide +kernel)) (fun _ _ _ _ _ => (pg_name (i := 10) sc_law.nd rfl (Or.inl rfl))) (fun _ _ _ _ _ => pts_nil) (fun _ _ _ _ _ => (pca cB hr (by decide) rfl (pa_cons (pv 10) pa_nil)))) (pa_cons (pv 4) pa_nil))))
(pss_cons (ps_if (pt_cmpR (op_neD hr.units) (pv 4) (pv 8) (nomark _))
(pss_one (ps_ret pe_bl)) pss_nil)
(pss_cons (ps_if (PW.pt (pw_or (pt_not (pt_val (pe_callB call_isi (by rfl) B.isi (by decide +kernel) (pa_cons (pv 9) (pa_cons (pe_bltn (v := .ty "tuple") (by rfl) B.tup (by decide +kernel) rfl) pa_nil))))) (pw_or (pt_not (pt_val (pca cE hr (by decide) rfl (pa_cons (pe_lst (pa_cons (pe_ix ix_tup (pv 9) pe_int (fun _ _ => rfl)) (pa_cons (pe_ix ix_tup (pv 9) pe_int (fun _ _ => rfl)) pa_nil))) (pa_cons (pe_lst (pa_cons (pv 5) (pa_cons (pv 6) pa_nil))) pa_nil))))) (pw_or1 (pt_cmpR op_ne (pe_callB call_len_seq (by rfl) B.len PySem.boot_len (pa_cons (pv 9) pa_nil)) pe_int (nomark _))))))
(pss_one (ps_ret pe_bl)) pss_nil)
(pss_cons (ps_if (PW.pt (pw_or (pt_not (pt_val (pe_callB call_isi (by rfl) B.isi (by decide +kernel) (pa_cons (pe_ix ix_tup (pv 9) pe_int (fun _ _ => rfl)) (pa_cons (pe_bltn (v := .ty "tuple") (by rfl) B.tup (by decide +kernel) rfl) pa_nil))))) (pw_or1 (pt_not (pt_val (pe_callB (cr_all rfl) (by rfl) B.all (by decide +kernel) (pa_cons (pe_lc (own := [("_law_row", 11)]) (g := (gName 11)) (tt := tYes) (te := tAndV (tCB (rIsi K) (tCons (tVar 11) (tCons (tC (.ty "tuple")) tNil))) (tOp rEq (tCB (rLen K) (tCons (tVar 11) tNil)) (tC (.int 2)))) rfl sc_law.nd (pi_tup (pe_ix ix_tup (pv 9) pe_int (fun _ _ => rfl))) (blkOk_by (N := n_law) (sc := defScope s_law) (by decide +kernel)) (fun _ _ _ _ _ => (pg_name (i := 11) sc_law.nd rfl (Or.inl rfl))) (fun _ _ _ _ _ => pts_nil) (fun _ _ _ _ _ => (pe_and (pe_callB call_isi (by rfl) B.isi (by decide +kernel) (pa_cons (pv 11) (pa_cons (pe_bltn (v := .ty "tuple") (by rfl) B.tup (by decide +kernel) rfl) pa_nil))) (pe_one (pe_cmpR op_eq (pe_callB call_len_seq (by rfl) B.len PySem.boot_len (pa_cons (pv 11) pa_nil)) pe_int (nomark _)))))) pa_nil)))))))
(pss_one (ps_ret pe_bl)) pss_nil)
(pss_cons (ps_if (pt_not (pt_val (pca cE hr (by decide) rfl (pa_cons (pe_lc (own := [("_law_row", 11)]) (g := (gName 11)) (tt := tYes) (te := tOp (rIxT K) (tVar 11) (tC (.int 0))) rfl sc_law.nd (pi_tup (pe_ix ix_tup (pv 9) pe_int (fun _ _ => rfl))) (blkOk_by (N := n_law) (sc := defScope s_law) (by decide +kernel)) (fun _ _ _ _ _ => (pg_name (i := 11) sc_law.nd rfl (Or.inl rfl))) (fun _ _ _ _ _ => pts_nil) (fun _ _ _ _ _ => (pe_ix ix_tup (pv 11) pe_int (fun _ _ => rfl)))) (pa_cons (pv 7) pa_nil)))))
(pss_one (ps_ret pe_bl)) pss_nil)
(pss_one (ps_for PassesOwn.never rfl (pi_tup (pe_ix ix_tup (pv 9) pe_int (fun _ _ => rfl))) (pg_tup rfl (pgs_cons (pg_name (i := 12) sc_law.nd rfl (Or.inr rfl)) (pgs_cons (pg_name (i := 13) sc_law.nd rfl (Or.inl rfl)) pgs_nil)))
(pss_one (ps_if (pt_not (pt_val (pca cIr hr (by decide) rfl (pa_cons (pv 13) (pa_cons (pv 3) (pa_cons (pe_lc (own := [("_law_no", 14)]) (g := (gName 14)) (tt := tTest (tOp (rIn K true) (tVar 14) (tVar 12))) (te := tVar 14) rfl sc_law.nd (pi_range1 (by rfl) B.range (pa_cons (pe_callB call_len_seq (by rfl) B.len PySem.boot_len (pa_cons (pv 3) pa_nil)) pa_nil)) (blkOk_by (N := n_law) (sc := defScope s_law) (by decide +kernel)) (fun _ _ _ _ _ => (pg_name (i := 14) sc_law.nd rfl (Or.inl rfl))) (fun _ _ _ _ _ => (pts_one (pt_cmpR op_notIn_seq (pv 14) (pv 12) (by rfl)))) (fun _ _ _ _ _ => (pv 14))) pa_nil))))))
(pss_one (ps_ret pe_bl)) pss_nil)))))))))))))
(pss_one (ps_ret pe_bl)))), ?_⟩
  refine ⟨_, rfl, a, ns, rfl, hS, hn, fun st q H1 g1 hs1 => ?_⟩
  refine ⟨5, rfl, by decide, by decide, for_range (lo := 0) (n := 5) (fun i σ' H' => ∃ (b : Int) (u2 u3 u4 u5 u6 u7 u8 u9 u10 u11 u12 u13 u14 : Option V), σ' = [some (.ref a), some (.ref st), u2, u3, u4, u5, u6, u7, u8, u9, u10, u11, u12, u13, u14] ∧ Spr H' st q b ∧ 0 ≤ b ∧ b ≤ 70 * i)
    ⟨0, _, _, _, _, _, _, _, _, _, _, _, _, _, rfl, hs1, by decide, by decide⟩ ?_ (fun σ' H' h => ?_)⟩
  · rintro i σ' H2 hi ⟨b, u2, u3, u4, u5, u6, u7, u8, u9, u10, u11, u12, u13, u14, rfl, hs2, hb0, hb1⟩
    refine ⟨_, rfl, _, rfl, st, q, b, 5, rfl, hs2, hb0, by omega, by decide, by decide, fun d H3 d0 d1 hs3 g3 => ?_⟩
    obtain ⟨m, rfl⟩ : ∃ m : Nat, d = m := ⟨d.toNat, by omega⟩
    refine ⟨st, q, b + 1, m, rfl, hs3, by omega, by omega, by omega, fun t A L us xs lets b4 H4 ht hA hU hG hxl hL hnd habc hlen hb4 hb4' hs4 g4 hA0 hL0 => ?_⟩
    refine ⟨t, _, rfl, ht, rfl, _, _, rfl, _, _, rfl, rfl, ?_⟩
    have hX : ∀ x ∈ xs, GoodU x := fun x hx => (hG x hx).1
    have xin : ∀ x ∈ xs, ∀ z ∈ x.2.1, z ∈ lets := fun x hx => (hG x hx).2
    have ul : us.length = xs.length := hU.1
    have xl4 : xs.length ≤ 4 := by omega
    have lsok : ∀ z ∈ lets, PyData.strOk z = true := fun z hz => abc_strOk z (habc z hz)
    have xok : ∀ x ∈ xs, ∀ z ∈ x.2.1, PyData.strOk z = true := fun x hx z hz => lsok z (xin x hx z hz)
    obtain ⟨as, hlet⟩ := srt_ex hnd
    -- what is due
    refine ⟨_, rfl, _, rfl, A, L, us, xs, lets, as, rfl, SqL.of hA, hU, hX, xl4, SqL.of hL, hnd, by omega, hlet, xin, fun t5 tn o fl c order Fw H5 g5 ht5 htn ho ec eo hfl eF hF => ?_⟩
    refine ⟨t5, _, rfl, ht5, rfl, _, _, rfl, _, _, rfl, _, _, rfl, rfl, ?_⟩
    have hs5 := hs4.same g5
    have hA5 := g5 _ _ hA
    have hL5 := g5 _ _ hL
    have hU5 := hU.mono (.of g5)
    refine ⟨_, rfl, L, _, rfl, .inl (SqL.of hL5), fun D8 hD8 => ?_⟩
    have g8 := same_new hD8 (.lst (lets.map V.str))
    have h88 : (upd H5 D8 (.lst (lets.map V.str))) D8 = some (.lst (lets.map V.str)) := upd_same
    generalize (upd H5 D8 (.lst (lets.map V.str))) = H6 at g8 h88 ⊢
    -- the program's uses
    have hA6 := g8 _ _ hA5
    have hU6 := hU5.mono (.of g8)
    refine ⟨_, rfl, A, rfl, ⟨_, SqL.of hA6⟩, fun D9 hD9 => ?_⟩
    refine lc_list (K := K) (a := A) (xs := us) (InvMd K U FC H6 D9 xs) ⟨[], upd_same, rfl, (fun j x hj _ => absurd hj (Nat.not_lt_zero _)), same_new hD9 _⟩ (fun i H' _ ⟨_, _, _, _, g⟩ => SqL.of (g _ _ hA6)) (fun j x H8 hx hv => ?_) ?_
    · obtain ⟨acc2, hd, ha2, hw2, g⟩ := hv
      have hj : j < us.length := (List.getElem?_eq_some_iff.mp hx).1
      have hjx : j < xs.length := by omega
      have ej := List.getElem?_eq_getElem hjx
      obtain ⟨u, eu, hu⟩ := hU6.2 j _ ej
      rw [hx] at eu
      cases eu
      have hx3 := hX _ (List.getElem_mem hjx)
      refine ⟨rfl, kept ⟨_, rfl, u, xs[j].1, xs[j].2.1, xs[j].2.2, rfl, hu.mono (.of g), hx3.good, hx3.len, hx3.nd, fun p qf H9 g9 hp => ?_⟩⟩
      have hd9 := g9 _ _ hd
      refine ⟨acc2, hd9, small1000 (by omega), acc2 ++ [.ref p], upd_same, by rw [List.length_append, ha2] <;> rfl, fun j' x' hj' ex' => ?_, same_over (g.trans g9) hD9 _⟩
      by_cases hjj : j' < j
      · obtain ⟨p', e1, e2⟩ := hw2 j' x' hjj ex'
        exact ⟨p', by rw [List.getElem?_append_left (by omega)]; exact e1, muse_upd hd9 (e2.same g9)⟩
      · have e : j' = j := by omega
        subst e
        rw [ej] at ex'
        cases ex'
        exact ⟨p, by rw [← ha2, List.getElem?_append_right (Nat.le_refl _), Nat.sub_self] <;> rfl, muse_upd hd9 ⟨qf, hp⟩⟩
    rintro H7 ⟨ms, hd9, hml9, hw9, g7⟩
    have mU : MUses K U FC H7 ms xs := ⟨by omega, fun i x e => hw9 i x (by rw [ul]; exact (List.getElem?_eq_some_iff.mp e).1) e⟩
    have g57 := g8.trans g7
    refine ⟨_, rfl, D9, L, ms, xs, lets, as, rfl, SqL.of hd9, mU, hX, xl4, SqL.of (g57 _ _ hL5), by omega, hlet, fun tz tn2 o2 tr c2 order2 R H8 g8' htz htn2 ho2 ec2 eo2 htr eR hR => ?_⟩
    rw [ec] at ec2
    cases ec2
    rw [eo] at eo2
    cases eo2
    have g58 := g57.trans g8'
    have hL8 := g58 _ _ hL5
    have h88' := (g7.trans g8') _ _ h88
    have hA8 := g58 _ _ hA5
    have hU8 := hU5.mono (.of g58)
    have htn8 := seqT g58 htn
    have ho8 := seqT g58 ho
    have hfl8 := g58 _ _ hfl
    have hF8 := hF.mono (.of g58)
    have hs8 := hs5.same g58
    have shp := strs_shaped lsok
    have neq : (!PyData.eqv (.list (lets.map PyData.str)) (.list (lets.map PyData.str))) = false := by
      rw [PyData.eqv, eqv_strs] <;> rfl
    refine ⟨_, rfl, _, rfl, .list (lets.map PyData.str), .list (lets.map PyData.str), .lst (SqL.of hL8) (dp_strs lets), .lst (SqL.of h88') (dp_strs lets), shp, shp, _, rfl, iteN neq ?_⟩
    have cm := List.mem_of_find?_eq_some ec
    have cl : c.length ≤ 4 := Nat.le_trans (allc_mem_len cm) xl4
    have ol : order.length ≤ 1000 := by
      have q1 := find_ord hX xin hlet c
      rw [eo] at q1
      have q2 := ord_mem (List.mem_of_find?_eq_some q1)
      have q3 := hlet.len
      omega
    -- the numbers and the order
    refine ⟨_, rfl, _, _, .type "tuple", .type "tuple", true, rfl, .ty _, tyT htz, kit_ty (by decide +kernel), _, rfl, iteF ?_⟩
    refine ⟨_, rfl, tz, _, (0 : Int), .ref tn2, rfl, rfl, htz, atI_nat (j := 0) rfl, _, rfl, tz, _, (1 : Int), .ref o2, rfl, rfl, htz, atI_nat (j := 1) rfl, (by show 2 ≤ sizeLine; decide), fun l1 hl1 => ?_⟩
    have gl1 := same_new hl1 (.lst [.ref tn2, .ref o2])
    refine ⟨_, rfl, _, rfl, (by show 2 ≤ sizeLine; decide), fun l2 hl2 => ?_⟩
    have gl2 := same_new hl2 (.lst [.ref tn, .ref o])
    have g12 := gl1.trans gl2
    refine ⟨.ref l1, .ref l2, rfl, Sm.lst (gl2 _ _ upd_same) upd_same (by show 2 ≤ 1000; decide) (.cons (sm_nats (seqT g12 htn2) (seqT g12 htn8) (by omega)) (.cons (sm_strs (seqT g12 ho2) (seqT g12 ho8) ol) .nil)), fun H9 g9 => ?_⟩
    have g89 := g12.trans g9
    refine ⟨_, rfl, iteF ?_⟩
    refine ⟨_, rfl, tz, _, rfl, .inr (seqT g89 htz), rfl, _, rfl, iteN (by show (!decide (V.int 3 = V.int 3)) = false; rw [decide_eq_true rfl] <;> rfl) ?_⟩
    -- the rows
    have htr9 := seqT g89 htr
    have hR9 := hR.mono (.of g89)
    have htz9 := seqT g89 htz
    have Rl : R.length ≤ 512 := by
      have e := congrArg List.length eR
      have b1 := List.length_filter_le (fun d : List Nat => decide (d.length < c.length)) (allc xs.length)
      have b2 := allc_len xl4
      rw [List.length_map] at e
      omega
    refine ⟨_, rfl, tz, _, (2 : Int), .ref tr, rfl, rfl, htz9, atI_nat (j := 2) rfl, _, _, .type "tuple", .type "tuple", true, rfl, .ty _, tyT htr9, kit_ty (by decide +kernel), _, rfl, iteF ?_⟩
    refine ⟨_, rfl, tz, _, (2 : Int), .ref tr, rfl, rfl, htz9, atI_nat (j := 2) rfl, tr, rfl, ⟨_, htr9⟩, fun A2 hA2 => ?_⟩
    refine lc_tup (K := K) (a := tr) (xs := R.map Prod.fst) (InvM H9 A2 (fun _ : V × List Nat => V.bl true) R) ⟨upd_same, same_new hA2 _⟩ (fun i H' _ ⟨_, g⟩ => seqT g htr9) (fun j x H' hx hv => ?_) ?_
    · obtain ⟨q0, eq0, rfl⟩ := at_map hx
      obtain ⟨tq, tnq, rq, Mq, e1, h1, h2, h3, h4, h5, h6⟩ := hR9 q0 (List.mem_of_getElem? eq0)
      rw [e1]
      refine ⟨rfl, kept ⟨_, rfl, _, _, .type "tuple", .type "tuple", true, rfl, .ty _, tyT (seqT hv.2 h1), kit_ty (by decide +kernel), true, rfl, iteT ?_⟩⟩
      refine ⟨_, rfl, tq, _, rfl, .inr (seqT hv.2 h1), rfl, ?_⟩
      have e2 : decide (V.int (([V.ref tnq, V.ref rq].length : Nat) : Int) = V.int 2) = true := decide_eq_true rfl
      rw [e2]
      exact ⟨_, hv.1, len_m (by omega), InvM.next (f := fun _ : V × List Nat => V.bl true) hA2 hv.2 eq0 _ rfl⟩
    rintro H10 ⟨hA10, g10⟩
    rw [List.length_map, List.take_length] at hA10
    have hA10' : H10 A2 = some (.lst ((R.map fun _ => true).map V.bl)) := by rw [hA10, List.map_map] <;> rfl
    refine ⟨A2, _, rfl, SqL.of hA10', _, rfl, ?_⟩
    refine iteN ?_ ?_
    · rw [Bool.not_eq_false', List.all_eq_true]
      intro x hx
      obtain ⟨_, _, rfl⟩ := List.mem_map.mp hx
      rfl
    have htz10 := seqT g10 htz9
    have htr10 := seqT g10 htr9
    have hR10 := hR9.mono (.of g10)
    -- the numbers of the rows
    refine ⟨_, rfl, tz, _, (2 : Int), .ref tr, rfl, rfl, htz10, atI_nat (j := 2) rfl, tr, rfl, ⟨_, htr10⟩, fun D3 hD3 => ?_⟩
    refine lc_tup (K := K) (a := tr) (xs := R.map Prod.fst) (fun i H' => ∃ N : List (V × List Nat), H' D3 = some (.lst (N.map Prod.fst)) ∧ N.map Prod.snd = (R.take i).map Prod.snd ∧ NumsL K H' N ∧ Same H10 H') ⟨[], upd_same, rfl, (fun _ h => by cases h), same_new hD3 _⟩ (fun i H' _ ⟨_, _, _, _, g⟩ => seqT g htr10) (fun j x H' hx hv => ?_) ?_
    · obtain ⟨q0, eq0, rfl⟩ := at_map hx
      obtain ⟨N, v1, v2, v3, v4⟩ := hv
      obtain ⟨tq, tnq, rq, Mq, e1, h1, h2, h3, h4, h5, h6⟩ := hR10 q0 (List.mem_of_getElem? eq0)
      have jl := (List.getElem?_eq_some_iff.mp eq0).1
      have Nl : N.length ≤ 512 := by
        have e := congrArg List.length v2
        rw [List.length_map, List.length_map, List.length_take] at e
        omega
      have gl : TK K H' (upd H' D3 (.lst (N.map Prod.fst ++ [.ref tnq]))) := TK.lst v1
      rw [e1]
      refine ⟨rfl, kept ⟨_, rfl, tq, _, (0 : Int), .ref tnq, rfl, rfl, seqT v4 h1, atI_nat (j := 0) rfl, _, v1, by rw [List.length_map]; exact small1000 (by omega), N ++ [(.ref tnq, q0.2)], by rw [upd_same, List.map_append] <;> rfl, ?_, (v3.mono gl).app (fun x hx => by rw [List.mem_singleton.mp hx]; exact ⟨tnq, rfl, gl _ _ (seqT v4 h2)⟩), same_over v4 hD3 _⟩⟩
      rw [List.map_append, v2, List.take_succ, eq0, List.map_append (l₂ := Option.toList _)]
      rfl
    rintro H11 ⟨N, v1, v2, v3, v4⟩
    rw [List.length_map, List.take_length, eR] at v2
    have e7 : N.map Prod.snd = Fw.map Prod.snd := by
      rw [v2, eF]
      exact flat_less xs.length c.length (xs.length + 1) (by have := allc_mem_len cm; omega)
    have nl : N.length = Fw.length := by
      have e := congrArg List.length e7
      rw [List.length_map, List.length_map] at e
      exact e
    have Nl : N.length ≤ 512 := by
      have e := congrArg List.length v2
      have b1 := List.length_filter_le (fun d : List Nat => decide (d.length < c.length)) (allc xs.length)
      have b2 := allc_len xl4
      rw [List.length_map] at e
      omega
    have g811 := g89.trans (g10.trans v4)
    have hF11 := hF8.mono (.of g811)
    refine ⟨_, rfl, .ref D3, .ref fl, rfl, Sm.lst v1 (g811 _ _ hfl8) (by rw [List.length_map]; omega) ⟨by rw [List.length_map, List.length_map, nl], fun j x y ex ey => ?_⟩, fun H12 g12' => ?_⟩
    · obtain ⟨p1, ep1, rfl⟩ := at_map ex
      obtain ⟨p2, ep2, rfl⟩ := at_map ey
      obtain ⟨t1, et1, ht1⟩ := v3 p1 (List.mem_of_getElem? ep1)
      obtain ⟨t2, et2, ht2⟩ := hF11 p2 (List.mem_of_getElem? ep2)
      have e8 : p1.2 = p2.2 := by
        have z1 : (N.map Prod.snd)[j]? = some p1.2 := by rw [List.getElem?_map, ep1] <;> rfl
        have z2 : (Fw.map Prod.snd)[j]? = some p2.2 := by rw [List.getElem?_map, ep2] <;> rfl
        rw [e7, z2] at z1
        exact (Option.some.inj z1).symm
      have ml : p2.2 ∈ allc xs.length := by
        have : p2.2 ∈ N.map Prod.snd := by
          rw [e7]
          exact List.mem_map.mpr ⟨p2, List.mem_of_getElem? ep2, rfl⟩
        rw [v2] at this
        exact (List.mem_filter.mp this).1
      have ll := allc_mem_len ml
      rw [et1, et2]
      rw [e8] at ht1
      exact sm_nats ht1 ht2 (by omega)
    refine ⟨_, rfl, iteF ?_⟩
    -- the rings
    have g812 := g811.trans g12'
    have htz12 := seqT g812 htz
    have htr12 := seqT g812 htr
    have hR12 := hR.mono (.of g812)
    have hA12 := g812 _ _ hA8
    have hU12 := hU8.mono (.of g812)
    have hs12 := hs8.same g812
    refine ⟨_, rfl, tz, _, (2 : Int), .ref tr, rfl, rfl, htz12, atI_nat (j := 2) rfl, tr, rfl, ⟨_, htr12⟩, for_it (walk_tup (K := K) (a := tr) (xs := R.map Prod.fst)) (fun j σ' H' => (∃ x12 x13 x14 x10 x11 : Option V, σ' = [some (.ref a), some (.ref st), some (.int (0 + (i : Int))), some (.ref A), some (.ref L), some (.ref tn), some (.ref o), some (.ref fl), some (.ref D8), some (.ref tz), x10, x11, x12, x13, x14]) ∧ Same H12 H') ⟨⟨_, _, _, _, _, rfl⟩, Same.refl _⟩ (fun j σ' H' _ ⟨_, g⟩ => seqT g htr12) ?_ ?_⟩
    · rintro j y σ' H13 H14 hj ⟨⟨x12, x13, x14, x10, x11, rfl⟩, g13⟩ hy
      obtain ⟨rfl, hy⟩ := hy
      obtain ⟨q0, eq0, rfl⟩ := at_map hy
      obtain ⟨tq, tnq, rq, Mq, e1, h1, h2, h3, h4, h5, h6⟩ := hR12 q0 (List.mem_of_getElem? eq0)
      rw [e1]
      refine ⟨tq, _, rfl, seqT g13 h1, rfl, _, _, rfl, _, _, rfl, rfl, ?_⟩
      refine ⟨_, rfl, _, rfl, _, rfl, A, us, rfl, .inl (SqL.of (g13 _ _ hA12)), ((us.length : Nat) : Int), rfl, by omega, by omega, fun M hM => ?_⟩
      rw [Int.toNat_natCast, ul]
      refine lc_it (walk_range (lo := 0) (n := xs.length)) (InvF H14 M (fun n : Nat => V.int n) (fun i => decide (i ∉ q0.2)) (List.range xs.length)) ⟨upd_same, same_new hM _⟩ (fun _ _ _ _ => trivial) (fun m y H15 H16 hm hv hy => ?_) ?_
      · obtain ⟨rfl, hy⟩ := hy
        have hy : y = .int (0 + (m : Int)) := hy
        rw [Int.zero_add] at hy
        subst hy
        have ez : (List.range xs.length)[m]? = some m := List.getElem?_range hm
        refine ⟨rfl, _, rfl, _, rfl, tnq, nV q0.2, rfl, .inr (seqT (g13.trans hv.2) h2), rfl, flat_nats _, _, rfl, ?_⟩
        by_cases hz : m ∈ q0.2
        · exact iteN (by rw [if_pos rfl, in_nats, decide_eq_true hz] <;> rfl) (hv.no ez (decide_eq_false fun h => h hz))
        · exact iteC (by rw [if_pos rfl, in_nats, decide_eq_false hz] <;> rfl) ⟨_, rfl, _, hv.1, InvF.len (by rw [List.length_range]; omega), InvF.yes (f := fun n : Nat => V.int n) (H := H14) hM hv.2 ez (decide_eq_true hz)⟩
      rintro H15 ⟨hM15, g15⟩
      rw [List.take_of_length_le (by rw [List.length_range]; exact Nat.le_refl _)] at hM15
      have g1215 := g13.trans g15
      refine ⟨rq, A, M, us, xs, oth xs.length q0.2, Mq, rfl, seqT g1215 h3, h4.mono (.of g1215), h5, h6, oth_lt, SqL.of (g1215 _ _ hA12), hU12.mono (.of g1215), hX, xok, SqL.of hM15, fun H17 g17 => ?_⟩
      exact ⟨_, rfl, iteF ⟨⟨_, _, _, _, _, rfl⟩, g1215.trans g17⟩⟩
    · rintro σ' H13 ⟨⟨x12, x13, x14, x10, x11, rfl⟩, g13⟩
      exact ⟨b4, _, _, _, _, _, _, _, _, _, _, _, _, _, rfl, hs12.same g13, by omega, by omega⟩
  · exact k H'
end
end Lw
namespace Lw
open PySem L2 TL TzR
/-- a def of the text, as the top leaves it -/
structure Dx (K : PySem.W.Frag) (mg : Str → Option Value) (x : Str) (st : Stmt) (f : Addr) (fd : FuncData) : Prop where
  F : Fun K x x st f fd
  m : mg x = some (.ref f)
theorem dx_mk {K : PySem.W.Frag} {h : Heap} {mg : Str → Option Value} {x : Str} {st : Stmt} {f : Addr} (X : K.In h) (G : h.Ns mainGlobals mg) {od an : Option Addr} {sl : Array (Option Value)} {oc kV dc pm cd ct : Value}
    (a : PySem.W.nsIn K mainGlobals x = some (some (.ref f))) (l : K.lookup f = some ⟨oc, od, .func (PySem.W.fnOf x x (defArgs st) (defBody st) (defScope st) .none kV dc pm an cd ct), sl⟩) (c : PySem.W.codeIn K cd x = true) (k : PySem.W.keepIn K (.ref f) = true) :
    Dx K mg x st f (PySem.W.fnOf x x (defArgs st) (defBody st) (defScope st) .none kV dc pm an cd ct) := ⟨fun_mk l c k, PySem.W.mg_of X G a⟩
theorem sq_const {K : PySem.W.Frag} {H : Hp} {a : Addr} {xs : List V} {od : Option Addr} {its : Array Value} {n : Nat} {sl : Array (Option Value)} (l : K.lookup a = some ⟨.type "tuple", od, .seq its n, sl⟩) (h : its.size ≤ sizeLine) (v : Vals xs its.toList) : SqT K H a xs :=
  .inr ⟨_, its, n, l, rfl, rfl, h, v⟩
theorem ok_sames {P : Program} {w : World} {K : PySem.W.Frag} {mg : Str → Option Value} {base : Heap} {f : Addr} {fd : FuncData} (F : Fun K "_law_same" "_law_same" sSame f fd) (bF : Binds K fd ["_law_found", "_law_due_here"] []) (mF : mg "_law_same" = some (.ref f)) (B : Bt mg) :
    ∀ n : Nat, FnOk P w K mg base CX0 n f fd ["_law_found", "_law_due_here"] (spSame K n)
  | 0 => none_left fun vs H Q E ⟨_, _, _, h, _⟩ => h
  | n + 1 => ok_same F (ok_sames F bF mF B n) bF F.kp mF B
theorem ca_of {P : Program} {w : World} {K : PySem.W.Frag} {mg : Str → Option Value} {base : Heap} {x : Str} {s : Stmt} {f : Addr} {fd : FuncData} {n : Nat} {ps : List Str} {sp : Sp} (D : Dx K mg x s f fd) (b : Binds K fd ps []) (G : FnOk P w K mg base CX0 n f fd ps sp) : Ca P w K mg base n x ps sp := ⟨f, fd, G, b, D.F.kp, D.m⟩
theorem all_mk {l : PySem.W.OpenLaw} {w : World} {K : PySem.W.Frag} {h : Heap} {mg : Str → Option Value} {fa : Addr} (X : K.In h) (G : h.Ns mainGlobals mg) (hfa : mg "law" = some (.ref fa))
    {fL C U fI fU BF AW KD Dk pR gR f_is_whole f_frozen f_ascending f_are_axes f_check_letters f_level_letters f_use_steps f_steps_of f_ring_in f_order_or_ring f_chosen f_tried_without f_fewest_turned f__law_level_letters f__law_resolved f__law_fits f__law_sets f__law_due f__law_use_built f__law_orders f__law_least_order f__law_is_ring f__law_ringed f__law_draw f__law_start f__law_pick f__law_mixed f__law_same f__law_letters f__law_form_text : Addr} {d_is_whole d_frozen d_ascending d_are_axes d_check_letters d_level_letters d_use_steps d_steps_of d_ring_in d_order_or_ring d_chosen d_tried_without d_fewest_turned d__law_level_letters d__law_resolved d__law_fits d__law_sets d__law_due d__law_use_built d__law_orders d__law_least_order d__law_is_ring d__law_ringed d__law_draw d__law_start d__law_pick d__law_mixed d__law_same d__law_letters d__law_form_text : FuncData} {cd0 cd1 cd3 cd6 ct0 ct1 ct3 ct6 dc0 dc1 dc3 dc6 kV0 kV1 kV6 oc0 oc1 oc3 oc6 pm0 pm1 pm3 pm6 : Value} {an0 an1 an3 an6 od0 od1 od3 od4 od5 od6 : Option Addr} {sl0 sl1 sl3 sl4 sl5 sl6 : Array (Option Value)} {its4 its5 : Array Value} {n4 n5 : Nat} {rest6 : List Value} {t3 : Tok}
    (lA : PySem.W.nsIn K mainGlobals "law" = some (some (.ref fL)))
    (lL : K.lookup fL = some ⟨oc0, od0, .func (PySem.W.fnOf "law" "law" (defArgs s_law) (defBody s_law) (defScope s_law) .none kV0 dc0 pm0 an0 cd0 ct0), sl0⟩)
    (lC : PySem.W.codeIn K cd0 "law" = true)
    (lk : PySem.W.keepIn K (.ref fL) = true)
    (aC : PySem.W.nsIn K mainGlobals "Form" = some (some (.ref C)))
    (aB : PySem.W.nsIn K mainGlobals "BadForm" = some (some (.ref BF)))
    (aM : PySem.W.nsIn K mainGlobals "MOST_LEVELS" = some (some (.int 3 t3)))
    (aA : PySem.W.nsIn K mainGlobals "AXIS_WORDS" = some (some (.ref AW)))
    (a1 : PySem.W.findIn K (.ref C) "__init__" = some (some (.ref fI)))
    (i1 : PySem.W.isFn K (.ref fI) = true)
    (l1 : K.lookup fI = some ⟨oc3, od3, .func (PySem.W.fnOf "__init__" "Form.__init__" (defArgs sInit) (defBody sInit) (defScope sInit) .none (.ref Dk) dc3 pm3 an3 cd3 ct3), sl3⟩)
    (c1 : PySem.W.codeIn K cd3 "Form.__init__" = true)
    (n1 : PySem.W.nsIn K Dk "axes" = some (some .none))
    (mk : PySem.W.makesIn K C = true)
    (kC : PySem.W.keepIn K (.ref C) = true)
    (pg : PySem.W.plainGet K C Str.empty = true)
    (hd : PySem.W.hasDictIn K C = true)
    (po : PySem.W.plainOver K C = true)
    (sa : PySem.W.findIn K (.ref C) "__setattr__" = some (some (.builtin "object.__setattr__")))
    (nK : PySem.W.findIn K (.ref C) "kinds" = some none)
    (nA : PySem.W.findIn K (.ref C) "axes" = some none)
    (r1 : PySem.W.readsIn K C (.type "type") = true)
    (r2 : PySem.W.specialIn K (.ref C) "__getattribute__" = some (some (.builtin "type.__getattribute__")))
    (kd : PySem.W.findCls K (.ref C) (.type "type") "KINDS" = some (.val (.ref KD)))
    (kl : K.lookup KD = some ⟨.type "tuple", od4, .seq its4 n4, sl4⟩)
    (kz : its4.size ≤ sizeLine)
    (kv : Vals (KINDS.map V.str) its4.toList)
    (al : K.lookup AW = some ⟨.type "tuple", od5, .seq its5 n5, sl5⟩)
    (az : its5.size ≤ sizeLine)
    (av : Vals (AWORDS.map V.str) its5.toList)
    (m1 : PySem.W.findCls K (.ref C) (.type "type") "read" = some (.get (.builtin "classmethod.__get__") (.ref pR) .none (.ref C)))
    (m2 : PySem.W.recIn K pR "classmethod" = some (.ref gR :: rest6))
    (m3 : PySem.W.fnIn K gR = true)
    (m4 : K.lookup gR = some ⟨oc6, od6, .func (PySem.W.fnOf "read" "Form.read" (defArgs sRead) (defBody sRead) (defScope sRead) .none kV6 dc6 pm6 an6 cd6 ct6), sl6⟩)
    (m5 : PySem.W.codeIn K cd6 "Form.read" = true)
    (m6 : PySem.W.keepIn K (.ref gR) = true)
    (xB : PySem.W.excIn K BF veB "ValueError.__new__" = true)
    (kB : PySem.W.keepIn K (.ref BF) = true)
    (rB : PySem.W.subIn K (.ref BF) (.type "BaseException") = some true)
    (tB : PySem.W.typeIn K (.ref BF) = some (.type "type"))
    (vA : PySem.W.nsIn K mainGlobals "Use" = some (some (.ref U)))
    (v1 : PySem.W.findIn K (.ref U) "__init__" = some (some (.ref fU)))
    (v2 : PySem.W.isFn K (.ref fU) = true)
    (v3 : K.lookup fU = some ⟨oc1, od1, .func (PySem.W.fnOf "__init__" "Use.__init__" (defArgs sUini) (defBody sUini) (defScope sUini) .none kV1 dc1 pm1 an1 cd1 ct1), sl1⟩)
    (v4 : PySem.W.codeIn K cd1 "Use.__init__" = true)
    (v5 : PySem.W.keepIn K (.ref fU) = true)
    (vmk : PySem.W.makesIn K U = true)
    (vk : PySem.W.keepIn K (.ref U) = true)
    (vpg : PySem.W.plainGet K U Str.empty = true)
    (vhd : PySem.W.hasDictIn K U = true)
    (vpo : PySem.W.plainOver K U = true)
    (vsa : PySem.W.findIn K (.ref U) "__setattr__" = some (some (.builtin "object.__setattr__")))
    (vn : PySem.W.findIn K (.ref U) "name" = some none)
    (vl : PySem.W.findIn K (.ref U) "letters" = some none)
    (vf : PySem.W.findIn K (.ref U) "form" = some none)
    (z_isinstance : PySem.W.nsIn K mainGlobals "isinstance" = some none)
    (z_list : PySem.W.nsIn K mainGlobals "list" = some none)
    (z_tuple : PySem.W.nsIn K mainGlobals "tuple" = some none)
    (z_len : PySem.W.nsIn K mainGlobals "len" = some none)
    (z_all : PySem.W.nsIn K mainGlobals "all" = some none)
    (z_zip : PySem.W.nsIn K mainGlobals "zip" = some none)
    (z_dict : PySem.W.nsIn K mainGlobals "dict" = some none)
    (z_int : PySem.W.nsIn K mainGlobals "int" = some none)
    (z_bool : PySem.W.nsIn K mainGlobals "bool" = some none)
    (z_range : PySem.W.nsIn K mainGlobals "range" = some none)
    (z_str : PySem.W.nsIn K mainGlobals "str" = some none)
    (z_any : PySem.W.nsIn K mainGlobals "any" = some none)
    (z_sorted : PySem.W.nsIn K mainGlobals "sorted" = some none)
    (z_ValueError : PySem.W.nsIn K mainGlobals "ValueError" = some none)
    (z_enumerate : PySem.W.nsIn K mainGlobals "enumerate" = some none)
    (z_set : PySem.W.nsIn K mainGlobals "set" = some none)
    (D_is_whole : Dx K mg "is_whole" sWhole f_is_whole d_is_whole)
    (D_frozen : Dx K mg "frozen" sFrozen f_frozen d_frozen)
    (D_ascending : Dx K mg "ascending" sAsc f_ascending d_ascending)
    (D_are_axes : Dx K mg "are_axes" sAxes f_are_axes d_are_axes)
    (D_check_letters : Dx K mg "check_letters" sChkL f_check_letters d_check_letters)
    (D_level_letters : Dx K mg "level_letters" s_level_letters f_level_letters d_level_letters)
    (D_use_steps : Dx K mg "use_steps" s_use_steps f_use_steps d_use_steps)
    (D_steps_of : Dx K mg "steps_of" s_steps_of f_steps_of d_steps_of)
    (D_ring_in : Dx K mg "ring_in" s_ring_in f_ring_in d_ring_in)
    (D_order_or_ring : Dx K mg "order_or_ring" s_order_or_ring f_order_or_ring d_order_or_ring)
    (D_chosen : Dx K mg "chosen" s_chosen f_chosen d_chosen)
    (D_tried_without : Dx K mg "tried_without" s_tried_without f_tried_without d_tried_without)
    (D_fewest_turned : Dx K mg "fewest_turned" s_fewest_turned f_fewest_turned d_fewest_turned)
    (D__law_level_letters : Dx K mg "_law_level_letters" s_l_level_letters f__law_level_letters d__law_level_letters)
    (D__law_resolved : Dx K mg "_law_resolved" s_l_resolved f__law_resolved d__law_resolved)
    (D__law_fits : Dx K mg "_law_fits" s_l_fits f__law_fits d__law_fits)
    (D__law_sets : Dx K mg "_law_sets" s_l_sets f__law_sets d__law_sets)
    (D__law_due : Dx K mg "_law_due" s_l_due f__law_due d__law_due)
    (D__law_use_built : Dx K mg "_law_use_built" s_l_use_built f__law_use_built d__law_use_built)
    (D__law_orders : Dx K mg "_law_orders" s_l_orders f__law_orders d__law_orders)
    (D__law_least_order : Dx K mg "_law_least_order" s_l_least_order f__law_least_order d__law_least_order)
    (D__law_is_ring : Dx K mg "_law_is_ring" s_l_is_ring f__law_is_ring d__law_is_ring)
    (D__law_ringed : Dx K mg "_law_ringed" s_l_ringed f__law_ringed d__law_ringed)
    (D__law_draw : Dx K mg "_law_draw" sDraw f__law_draw d__law_draw)
    (D__law_start : Dx K mg "_law_start" sStart f__law_start d__law_start)
    (D__law_pick : Dx K mg "_law_pick" sPick f__law_pick d__law_pick)
    (D__law_mixed : Dx K mg "_law_mixed" sMixed f__law_mixed d__law_mixed)
    (D__law_same : Dx K mg "_law_same" sSame f__law_same d__law_same)
    (D__law_letters : Dx K mg "_law_letters" Tt.sLet f__law_letters d__law_letters)
    (D__law_form_text : Dx K mg "_law_form_text" sFtext f__law_form_text d__law_form_text)
    : ∃ fd : FuncData, (∀ (s : Shared) (v : Value), BindsTo s fd ⟨[v], []⟩ [("_law_script", v)]) ∧ ∀ base : Heap, K.In base → base.Ns mainGlobals mg → FnOk l.prog w K mg base CX0 7 fa fd ["_law_script"] (spLaw K) := by
  have e := hfa.symm.trans (PySem.W.mg_of X G lA)
  cases e
  have B : Bt mg := ⟨PySem.W.mg_none_of X G z_isinstance, PySem.W.mg_none_of X G z_list, PySem.W.mg_none_of X G z_tuple, PySem.W.mg_none_of X G z_len, PySem.W.mg_none_of X G z_all, PySem.W.mg_none_of X G z_zip, PySem.W.mg_none_of X G z_dict, PySem.W.mg_none_of X G z_int, PySem.W.mg_none_of X G z_bool, PySem.W.mg_none_of X G z_range⟩
  have S : Bs mg := ⟨PySem.W.mg_none_of X G z_str, PySem.W.mg_none_of X G z_any, PySem.W.mg_none_of X G z_sorted, PySem.W.mg_none_of X G z_ValueError⟩
  have B2 : Bx mg := ⟨PySem.W.mg_none_of X G z_sorted, PySem.W.mg_none_of X G z_enumerate, PySem.W.mg_none_of X G z_str⟩
  have T : Fm K mg C fI BF AW KD (.type "type") := { cl := ⟨pg, hd, po, sa⟩, nK := nK, nA := nA, mkC := ⟨mk, a1, i1, kC⟩, mC := PySem.W.mg_of X G aC, mB := PySem.W.mg_of X G aB, xB := xB, kB := kB, rB := rB, tB := tB, most := ⟨t3, PySem.W.mg_of X G aM⟩, cr := ⟨r1, r2⟩, kd := ⟨kd, rfl⟩, kdT := fun H => sq_const kl kz kv, mAW := PySem.W.mg_of X G aA, awT := fun H => sq_const al az av }
  have Uc : Us K U C := ⟨⟨vpg, vhd, vpo, vsa⟩, vn, vl, vf, ⟨pg, hd, po, sa⟩, nK⟩
  have Y : Uy K U C := ⟨Uc, nA⟩
  have MU : Mk K U fU := ⟨vmk, v1, v2, vk⟩
  have mU := PySem.W.mg_of X G vA
  have Fu : Fun K "__init__" "Use.__init__" sUini fU _ := fun_mk v3 v4 v5
  have bU := Fu.binds (ps := ["self", "name", "letters", "form"]) fun _ _ _ _ _ _ us hl => match us, hl with | [_, _, _, _], _ => rfl
  have Frd : Fun K "read" "Form.read" sRead gR _ := fun_mk m4 m5 m6
  have bRd := Frd.binds (ps := ["cls", "text"]) fun _ _ _ _ _ _ us hl => match us, hl with | [_, _], _ => rfl
  have Fl : Fun K "law" "law" s_law fa _ := fun_mk lL lC lk
  have b_is_whole := D_is_whole.F.binds (ps := ["n"]) fun _ _ _ _ _ _ us hl => match us, hl with | [_], _ => rfl
  have b_frozen := D_frozen.F.binds (ps := ["worth"]) fun _ _ _ _ _ _ us hl => match us, hl with | [_], _ => rfl
  have b_ascending := D_ascending.F.binds (ps := ["names"]) fun _ _ _ _ _ _ us hl => match us, hl with | [_], _ => rfl
  have b_are_axes := D_are_axes.F.binds (ps := ["axes", "many"]) fun _ _ _ _ _ _ us hl => match us, hl with | [_, _], _ => rfl
  have b_check_letters := D_check_letters.F.binds (ps := ["letters"]) fun _ _ _ _ _ _ us hl => match us, hl with | [_], _ => rfl
  have b_level_letters := D_level_letters.F.binds (ps := ["use"]) fun _ _ _ _ _ _ us hl => match us, hl with | [_], _ => rfl
  have b_use_steps := D_use_steps.F.binds (ps := ["number", "use"]) fun _ _ _ _ _ _ us hl => match us, hl with | [_, _], _ => rfl
  have b_steps_of := D_steps_of.F.binds (ps := ["uses", "numbers"]) fun _ _ _ _ _ _ us hl => match us, hl with | [_, _], _ => rfl
  have b_ring_in := D_ring_in.F.binds (ps := ["steps", "letters"]) fun _ _ _ _ _ _ us hl => match us, hl with | [_, _], _ => rfl
  have b_order_or_ring := D_order_or_ring.F.binds (ps := ["steps", "letters"]) fun _ _ _ _ _ _ us hl => match us, hl with | [_, _], _ => rfl
  have b_chosen := D_chosen.F.binds (ps := ["worths", "many"]) fun _ _ _ _ _ _ us hl => match us, hl with | [_, _], _ => rfl
  have b_tried_without := D_tried_without.F.binds (ps := ["uses", "letters", "many"]) fun _ _ _ _ _ _ us hl => match us, hl with | [_, _, _], _ => rfl
  have b_fewest_turned := D_fewest_turned.F.binds (ps := ["uses", "letters"]) fun _ _ _ _ _ _ us hl => match us, hl with | [_, _], _ => rfl
  have b__law_level_letters := D__law_level_letters.F.binds (ps := ["_law_use"]) fun _ _ _ _ _ _ us hl => match us, hl with | [_], _ => rfl
  have b__law_resolved := D__law_resolved.F.binds (ps := ["_law_use", "_law_bound"]) fun _ _ _ _ _ _ us hl => match us, hl with | [_, _], _ => rfl
  have b__law_fits := D__law_fits.F.binds (ps := ["_law_use", "_law_order"]) fun _ _ _ _ _ _ us hl => match us, hl with | [_, _], _ => rfl
  have b__law_sets := D__law_sets.F.binds (ps := ["_law_many", "_law_size"]) fun _ _ _ _ _ _ us hl => match us, hl with | [_, _], _ => rfl
  have b__law_due := D__law_due.F.binds (ps := ["_law_uses", "_law_letters_here"]) fun _ _ _ _ _ _ us hl => match us, hl with | [_, _], _ => rfl
  have b__law_use_built := D__law_use_built.F.binds (ps := ["_law_use"]) fun _ _ _ _ _ _ us hl => match us, hl with | [_], _ => rfl
  have b__law_orders := D__law_orders.F.binds (ps := ["_law_letters_here"]) fun _ _ _ _ _ _ us hl => match us, hl with | [_], _ => rfl
  have b__law_least_order := D__law_least_order.F.binds (ps := ["_law_uses", "_law_letters_here"]) fun _ _ _ _ _ _ us hl => match us, hl with | [_, _], _ => rfl
  have b__law_is_ring := D__law_is_ring.F.binds (ps := ["_law_steps", "_law_uses", "_law_numbers"]) fun _ _ _ _ _ _ us hl => match us, hl with | [_, _, _], _ => rfl
  have b__law_ringed := D__law_ringed.F.binds (ps := ["_law_stream", "_law_many"]) fun _ _ _ _ _ _ us hl => match us, hl with | [_, _], _ => rfl
  have b__law_draw := D__law_draw.F.binds (ps := ["_law_stream", "_law_many"]) fun _ _ _ _ _ _ us hl => match us, hl with | [_, _], _ => rfl
  have b__law_start := D__law_start.F.binds (ps := ["_law_script"]) fun _ _ _ _ _ _ us hl => match us, hl with | [_], _ => rfl
  have b__law_pick := D__law_pick.F.binds (ps := ["_law_stream", "_law_some"]) fun _ _ _ _ _ _ us hl => match us, hl with | [_, _], _ => rfl
  have b__law_mixed := D__law_mixed.F.binds (ps := ["_law_stream", "_law_some"]) fun _ _ _ _ _ _ us hl => match us, hl with | [_, _], _ => rfl
  have b__law_same := D__law_same.F.binds (ps := ["_law_found", "_law_due_here"]) fun _ _ _ _ _ _ us hl => match us, hl with | [_, _], _ => rfl
  have b__law_letters := D__law_letters.F.binds (ps := ["_law_stream", "_law_many"]) fun _ _ _ _ _ _ us hl => match us, hl with | [_, _], _ => rfl
  have b__law_form_text := D__law_form_text.F.binds (ps := ["_law_form"]) fun _ _ _ _ _ _ us hl => match us, hl with | [_], _ => rfl
  refine ⟨_, fun s v => .of_eq (fd := PySem.W.fnOf "law" "law" (defArgs s_law) (defBody s_law) (defScope s_law) .none kV0 dc0 pm0 an0 cd0 ct0) rfl, fun base _ _ => ?_⟩
  have GD := ok_draw (P := l.prog) (w := w) (base := base) D__law_draw.F B
  have CD := ca_of D__law_draw b__law_draw GD
  have CS := ca_of D__law_start b__law_start (ok_start (P := l.prog) (w := w) (base := base) D__law_start.F B)
  have CP := ca_of D__law_pick b__law_pick (ok_pick D__law_pick.F GD b__law_draw D__law_draw.F.kp D__law_draw.m B)
  have CMi := ca_of D__law_mixed b__law_mixed (ok_mixed D__law_mixed.F GD b__law_draw D__law_draw.F.kp D__law_draw.m B)
  have CMs := ca_of D__law_mixed b__law_mixed (Tt.ok_mixed D__law_mixed.F GD b__law_draw D__law_draw.F.kp D__law_draw.m B)
  have CL := ca_of D__law_letters b__law_letters (Tt.ok_let D__law_letters.F GD b__law_draw D__law_draw.F.kp D__law_draw.m B)
  have CRg := ca_of D__law_ringed b__law_ringed (ok_l_ringed D__law_ringed.F B CL CMs CMi CP)
  have GX := ok_ftext (P := l.prog) (w := w) (base := base) D__law_form_text.F B S
  have GW := ok_whole (P := l.prog) (w := w) (base := base) D_is_whole.F B
  have GZ := ok_frz (P := l.prog) (w := w) (base := base) D_frozen.F b_frozen D_frozen.m B
  have GZs := ok_frzS (P := l.prog) (w := w) (base := base) D_frozen.F b_frozen D_frozen.m B
  have GA := ok_axes D_are_axes.F GW b_is_whole D_is_whole.F.kp D_is_whole.m B
  have FI := ok_init (P := l.prog) (w := w) (base := base) (du := .none) l1 c1 n1 T B GZ b_frozen D_frozen.F.kp D_frozen.m GA b_are_axes D_are_axes.F.kp D_are_axes.m
  have GR := fnR_of (ok_read Frd T B FI) bRd
  have GC := ok_chkL (P := l.prog) (w := w) (base := base) D_check_letters.F B2
  have GU := ok_uini Fu Uc B GZs b_frozen D_frozen.F.kp D_frozen.m GC b_check_letters D_check_letters.F.kp D_check_letters.m
  have CUb := ca_of D__law_use_built b__law_use_built (ok_l_use_built D__law_use_built.F MU GU bU mU GX b__law_form_text D__law_form_text.F.kp D__law_form_text.m T GR ⟨m1, ⟨_, m2⟩, m3⟩)
  have CLv := ca_of D__law_level_letters b__law_level_letters (ok_l_level_letters (P := l.prog) (w := w) (mg := mg) (base := base) D__law_level_letters.F)
  have CRs := ca_of D__law_resolved b__law_resolved (ok_l_resolved D__law_resolved.F B B2 CLv)
  have CFi := ca_of D__law_fits b__law_fits (ok_l_fits D__law_fits.F B CLv CRs)
  have COr := ca_of D__law_orders b__law_orders (ok_l_orders (P := l.prog) (w := w) (base := base) D__law_orders.F B B2)
  have CLo := ca_of D__law_least_order b__law_least_order (ok_l_least_order D__law_least_order.F B COr CFi)
  have CIr := ca_of D__law_is_ring b__law_is_ring (ok_l_is_ring D__law_is_ring.F B B2 CLv)
  have CE := ca_of D__law_same b__law_same (ok_sames (P := l.prog) (w := w) (base := base) D__law_same.F b__law_same D__law_same.m B 3)
  have CPl := ca_of D_level_letters b_level_letters (ok_level_letters (P := l.prog) (w := w) (mg := mg) (base := base) D_level_letters.F Y)
  have CUs := ca_of D_use_steps b_use_steps (ok_use_steps D_use_steps.F Y B2 CPl)
  have CSo := ca_of D_steps_of b_steps_of (ok_steps_of D_steps_of.F CUs)
  have CAs := ca_of D_ascending b_ascending (ok_asc (P := l.prog) (w := w) (base := base) D_ascending.F B B2 (PySem.W.mg_none_of X G z_set))
  have CRi := ca_of D_ring_in b_ring_in (ok_ring_in (P := l.prog) (w := w) (base := base) D_ring_in.F B)
  have COo := ca_of D_order_or_ring b_order_or_ring (ok_order_or_ring D_order_or_ring.F B CAs CRi)
  have CCh := ca_of D_chosen b_chosen (ok_chosen (P := l.prog) (w := w) (base := base) D_chosen.F B)
  have CTw := ca_of D_tried_without b_tried_without (ok_tried_without D_tried_without.F B CCh CSo COo)
  have CFt := ca_of D_fewest_turned b_fewest_turned (ok_fewest_turned D_fewest_turned.F B CTw)
  have CSe := ca_of D__law_sets b__law_sets (ok_l_sets (P := l.prog) (w := w) (base := base) D__law_sets.F B)
  have CDu := ca_of D__law_due b__law_due (ok_l_due D__law_due.F B B2 CSe CLo)
  exact ok_law Fl B B2 CS CD CRg CDu CUb CFt CE CIr
theorem walk {l : PySem.W.OpenLaw} {q : Program} {loose : List Str} {XP : (Str → Option Value) → Heap → Prop} {YP : World → Heap → Prop} {d : DefRec} {K : Params → PySem.W.Frag} (hn : l.most = some 63) (hdf : d.params.defaults = [])
    (hY : ∀ (w : World) (h : Heap), YP w h → (K w.params).In h)
    (F : ∀ (w : World) (mg : Str → Option Value) (fa : Addr) (h : Heap), (K w.params).In h → h.Ns mainGlobals mg → mg d.name = some (.ref fa) →
      ∃ fd : FuncData, (∀ (s : Shared) (u : Value), BindsTo s fd ⟨[u], []⟩ [("_law_script", u)]) ∧ ∀ base : Heap, (K w.params).In base → base.Ns mainGlobals mg → FnOk l.prog w (K w.params) mg base CX0 7 fa fd ["_law_script"] (spLaw (K w.params))) :
    PySem.W.WalkO q loose XP YP l.row.toRowW d [] (fun f vs => PySem.call f vs) :=
  L2.walk_of (n := 63) (k := 7) (x := "_law_script") (CX := fun _ => CX0) (sp := fun w => spLaw (K w.params)) hn (by decide) hdf ⟨rfl, by decide, by decide⟩ hY F (fun _ _ a ns hl _ hS => ⟨a, ns, rfl, hS, hl, fun _ => rfl⟩) fun _ _ _ _ _ z => z
end Lw
open PySem PySem.W PyProof.Rows
set_option maxRecDepth 100000 in
set_option maxHeartbeats 0 in
theorem PySem.Challenge.cw_levelwalks_k64_whole_fewest_turned_holds : PySem.Challenge.rw_levelwalks_k64_whole_fewest_turned.Holds := by
  w_on; o_law; k_head; (case hw => w_witness2)
  k_fill
  refine Lw.walk (l := PySem.Challenge.rw_levelwalks_k64_whole_fewest_turned) rfl rfl (fun w h Y => PySem.W.kIn_of Y) ?F
  case F =>
    intro w mg fa h KX G hmg
    refine' Lw.all_mk KX G hmg ?lA ?lL ?lC ?lk ?aC ?aB ?aM ?aA ?a1 ?i1 ?l1 ?c1 ?n1 ?mk ?kC ?pg ?hd ?po ?sa ?nK ?nA ?r1 ?r2 ?kd ?kl ?kz ?kv ?al ?az ?av ?m1 ?m2 ?m3 ?m4 ?m5 ?m6 ?xB ?kB ?rB ?tB ?vA ?v1 ?v2 ?v3 ?v4 ?v5 ?vmk ?vk ?vpg ?vhd ?vpo ?vsa ?vn ?vl ?vf ?z_isinstance ?z_list ?z_tuple ?z_len ?z_all ?z_zip ?z_dict ?z_int ?z_bool ?z_range ?z_str ?z_any ?z_sorted ?z_ValueError ?z_enumerate ?z_set ?D_is_whole ?D_frozen ?D_ascending ?D_are_axes ?D_check_letters ?D_level_letters ?D_use_steps ?D_steps_of ?D_ring_in ?D_order_or_ring ?D_chosen ?D_tried_without ?D_fewest_turned ?D__law_level_letters ?D__law_resolved ?D__law_fits ?D__law_sets ?D__law_due ?D__law_use_built ?D__law_orders ?D__law_least_order ?D__law_is_ring ?D__law_ringed ?D__law_draw ?D__law_start ?D__law_pick ?D__law_mixed ?D__law_same ?D__law_letters ?D__law_form_text
    (case lA => k_is)
    (case lL => k_is)
    (case lC => k_is)
    (case lk => k_is)
    (case aC => k_is)
    (case aB => k_is)
    (case aM => k_is)
    (case aA => k_is)
    (case a1 => k_is)
    (case i1 => k_is)
    (case l1 => k_is)
    (case c1 => k_is)
    (case n1 => k_is)
    (case mk => k_is)
    (case kC => k_is)
    (case pg => k_is)
    (case hd => k_is)
    (case po => k_is)
    (case sa => k_is)
    (case nK => k_is)
    (case nA => k_is)
    (case r1 => k_is)
    (case r2 => k_is)
    (case kd => k_is)
    (case kl => k_is)
    (case kz => decide)
    (case kv => exact .cons ⟨_, rfl⟩ (.cons ⟨_, rfl⟩ (.cons ⟨_, rfl⟩ (.cons ⟨_, rfl⟩ (.nil)))))
    (case al => k_is)
    (case az => decide)
    (case av => exact .cons ⟨_, rfl⟩ (.cons ⟨_, rfl⟩ (.cons ⟨_, rfl⟩ (.nil))))
    (case m1 => k_is)
    (case m2 => k_is)
    (case m3 => k_is)
    (case m4 => k_is)
    (case m5 => k_is)
    (case m6 => k_is)
    (case xB => k_exc)
    (case kB => k_is)
    (case rB => k_is)
    (case tB => k_is)
    (case vA => k_is)
    (case v1 => k_is)
    (case v2 => k_is)
    (case v3 => k_is)
    (case v4 => k_is)
    (case v5 => k_is)
    (case vmk => k_is)
    (case vk => k_is)
    (case vpg => k_is)
    (case vhd => k_is)
    (case vpo => k_is)
    (case vsa => k_is)
    (case vn => k_is)
    (case vl => k_is)
    (case vf => k_is)
    (case z_isinstance => k_is)
    (case z_list => k_is)
    (case z_tuple => k_is)
    (case z_len => k_is)
    (case z_all => k_is)
    (case z_zip => k_is)
    (case z_dict => k_is)
    (case z_int => k_is)
    (case z_bool => k_is)
    (case z_range => k_is)
    (case z_str => k_is)
    (case z_any => k_is)
    (case z_sorted => k_is)
    (case z_ValueError => k_is)
    (case z_enumerate => k_is)
    (case z_set => k_is)
    (case D_is_whole => (refine' Lw.dx_mk KX G ?a ?l ?c ?k; (case a => k_is); (case l => k_is); (case c => k_is); (case k => k_is)))
    (case D_frozen => (refine' Lw.dx_mk KX G ?a ?l ?c ?k; (case a => k_is); (case l => k_is); (case c => k_is); (case k => k_is)))
    (case D_ascending => (refine' Lw.dx_mk KX G ?a ?l ?c ?k; (case a => k_is); (case l => k_is); (case c => k_is); (case k => k_is)))
    (case D_are_axes => (refine' Lw.dx_mk KX G ?a ?l ?c ?k; (case a => k_is); (case l => k_is); (case c => k_is); (case k => k_is)))
    (case D_check_letters => (refine' Lw.dx_mk KX G ?a ?l ?c ?k; (case a => k_is); (case l => k_is); (case c => k_is); (case k => k_is)))
    (case D_level_letters => (refine' Lw.dx_mk KX G ?a ?l ?c ?k; (case a => k_is); (case l => k_is); (case c => k_is); (case k => k_is)))
    (case D_use_steps => (refine' Lw.dx_mk KX G ?a ?l ?c ?k; (case a => k_is); (case l => k_is); (case c => k_is); (case k => k_is)))
    (case D_steps_of => (refine' Lw.dx_mk KX G ?a ?l ?c ?k; (case a => k_is); (case l => k_is); (case c => k_is); (case k => k_is)))
    (case D_ring_in => (refine' Lw.dx_mk KX G ?a ?l ?c ?k; (case a => k_is); (case l => k_is); (case c => k_is); (case k => k_is)))
    (case D_order_or_ring => (refine' Lw.dx_mk KX G ?a ?l ?c ?k; (case a => k_is); (case l => k_is); (case c => k_is); (case k => k_is)))
    (case D_chosen => (refine' Lw.dx_mk KX G ?a ?l ?c ?k; (case a => k_is); (case l => k_is); (case c => k_is); (case k => k_is)))
    (case D_tried_without => (refine' Lw.dx_mk KX G ?a ?l ?c ?k; (case a => k_is); (case l => k_is); (case c => k_is); (case k => k_is)))
    (case D_fewest_turned => (refine' Lw.dx_mk KX G ?a ?l ?c ?k; (case a => k_is); (case l => k_is); (case c => k_is); (case k => k_is)))
    (case D__law_level_letters => (refine' Lw.dx_mk KX G ?a ?l ?c ?k; (case a => k_is); (case l => k_is); (case c => k_is); (case k => k_is)))
    (case D__law_resolved => (refine' Lw.dx_mk KX G ?a ?l ?c ?k; (case a => k_is); (case l => k_is); (case c => k_is); (case k => k_is)))
    (case D__law_fits => (refine' Lw.dx_mk KX G ?a ?l ?c ?k; (case a => k_is); (case l => k_is); (case c => k_is); (case k => k_is)))
    (case D__law_sets => (refine' Lw.dx_mk KX G ?a ?l ?c ?k; (case a => k_is); (case l => k_is); (case c => k_is); (case k => k_is)))
    (case D__law_due => (refine' Lw.dx_mk KX G ?a ?l ?c ?k; (case a => k_is); (case l => k_is); (case c => k_is); (case k => k_is)))
    (case D__law_use_built => (refine' Lw.dx_mk KX G ?a ?l ?c ?k; (case a => k_is); (case l => k_is); (case c => k_is); (case k => k_is)))
    (case D__law_orders => (refine' Lw.dx_mk KX G ?a ?l ?c ?k; (case a => k_is); (case l => k_is); (case c => k_is); (case k => k_is)))
    (case D__law_least_order => (refine' Lw.dx_mk KX G ?a ?l ?c ?k; (case a => k_is); (case l => k_is); (case c => k_is); (case k => k_is)))
    (case D__law_is_ring => (refine' Lw.dx_mk KX G ?a ?l ?c ?k; (case a => k_is); (case l => k_is); (case c => k_is); (case k => k_is)))
    (case D__law_ringed => (refine' Lw.dx_mk KX G ?a ?l ?c ?k; (case a => k_is); (case l => k_is); (case c => k_is); (case k => k_is)))
    (case D__law_draw => (refine' Lw.dx_mk KX G ?a ?l ?c ?k; (case a => k_is); (case l => k_is); (case c => k_is); (case k => k_is)))
    (case D__law_start => (refine' Lw.dx_mk KX G ?a ?l ?c ?k; (case a => k_is); (case l => k_is); (case c => k_is); (case k => k_is)))
    (case D__law_pick => (refine' Lw.dx_mk KX G ?a ?l ?c ?k; (case a => k_is); (case l => k_is); (case c => k_is); (case k => k_is)))
    (case D__law_mixed => (refine' Lw.dx_mk KX G ?a ?l ?c ?k; (case a => k_is); (case l => k_is); (case c => k_is); (case k => k_is)))
    (case D__law_same => (refine' Lw.dx_mk KX G ?a ?l ?c ?k; (case a => k_is); (case l => k_is); (case c => k_is); (case k => k_is)))
    (case D__law_letters => (refine' Lw.dx_mk KX G ?a ?l ?c ?k; (case a => k_is); (case l => k_is); (case c => k_is); (case k => k_is)))
    (case D__law_form_text => (refine' Lw.dx_mk KX G ?a ?l ?c ?k; (case a => k_is); (case l => k_is); (case c => k_is); (case k => k_is)))
