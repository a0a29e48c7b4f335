import PyProof.Rows.All
import Wide.All
import OpenK.AllK
import Wide.FinOn
import HandS.ForExc
import HandS.ForMost
import HandS.Wide
import HandS.IsInst
import HandS.Walk
import HandS.Zip
import HandS.Style
import HandS.Codes
import HandS.Conv
import HandS.FStr
import HandS.Property
import HandS.ClsMeth
import HandS.Text
import HandS.Strs
import HandS.SortKw
import HandS.RaiseMore
import HandS.ExcIs
import HandS.TryMany
import HandS.Lambda
import HandS.EndTab
import HandS.EndBits
import HandS.TupAny
import HandS.Star
import HandS.MakeKw
import HandS.MakeKwOnly
import HandS.ReCall
import HandS.Zip0
import HandS.Iter
import HandS.SlotsOwn
import KE.KOpsOwn
import KE.DataCmp
import KE.KDictList
import PyProof.StrWalks
import HandS.SetTxt0
import HandS.Set
import HandS.SetFor
import HandS.DictComp
import HandS.DictTup
import KE.KDictKeyed
import KE.KeyNested
import HandS.TupSets
import HandS.SortOrd
import KE.SortData
import HandS.Comp
import HandS.ExcField
import HandS.ExcInit
import HandS.SetKeys
import HandS.WordsExc
import HandS.Deep
import HandS.Small
import HandS.EndOwn
import KE.KNestM
import PySem.Challenge.RW_levelwalks_k38_members
set_option Elab.async false
set_option linter.all false
set_option maxRecDepth 100000
set_option maxHeartbeats 8000000
namespace L2
open PySem PySem.Spec PyProof.Rows
/-- len(d), the keys texts or whole numbers -/
theorem call_len_dictK {X : Cx} : CallR X (.builtin "len") (fun xs H Q => ∃ (p : Addr) (kvs : List (Key × V)), xs = [.ref p] ∧ Rd H p (.dK kvs) ∧ Q (.int ((kvs.length : Nat) : Int)) H) := by
  intro pins s σ H xs us Q I r h
  obtain ⟨p, kvs, rfl, hp, q⟩ := h
  obtain ⟨u, rfl, rx⟩ := vals1 r
  obtain rfl : u = .ref p := rx
  exact d_len I hp fun t s' I' => ⟨.int _, H, I', ⟨t, rfl⟩, q⟩
end L2
namespace Lw
open PySem L2
def topS (i : Nat) : Stmt := PySem.Challenge.pw_levelwalks_k38_members.main.body.getD i (.Pass ⟨0, 0, 0, 0⟩)
theorem seqT {K : PySem.W.Frag} {H H' : Hp} (g : Same H H') {a : Addr} {xs : List V} (h : SqT K H a xs) : SqT K H' a xs := by
  rcases h with (h | ⟨o, h⟩) | h
  · exact .inl (.inl (g _ _ h))
  · exact .inl (.inr ⟨o, g _ _ h⟩)
  · exact .inr h
theorem tyT {K : PySem.W.Frag} {H : Hp} {a : Addr} {xs : List V} (h : SqT K H a xs) : TyX K H (.ref a) (.type "tuple") := by
  rcases h with (h | ⟨o, h⟩) | ⟨o, its, n, h, c, _⟩
  · exact .base (.tup h)
  · exact .fTuple h
  · exact .kTuple h c
theorem tyL {K : PySem.W.Frag} {H : Hp} {a : Addr} {xs : List V} (h : SqL K H a xs) : TyX K H (.ref a) (.type "list") := by
  rcases h with (h | ⟨o, h⟩) | ⟨o, its, n, h, c, _⟩
  · exact .base (.lst h)
  · exact .base (.frz h)
  · exact .kList h c
/-! two values that show the same data: ints, texts, truth values, tuples and lists of such; at most n deep -/
def Sm (K : PySem.W.Frag) (H : Hp) : Nat → V → V → Prop
  | 0, _, _ => False
  | n + 1, v, w => (∃ i : Int, v = .int i ∧ w = .int i) ∨ (∃ s : Str, v = .str s ∧ w = .str s) ∨ (∃ b : Bool, v = .bl b ∧ w = .bl b) ∨
    (∃ (a b : Addr) (xs ys : List V), v = .ref a ∧ w = .ref b ∧ SqT K H a xs ∧ SqT K H b ys ∧ xs.length = ys.length ∧ xs.length ≤ 1000 ∧ ∀ (i : Nat) (x y : V), xs[i]? = some x → ys[i]? = some y → Sm K H n x y) ∨
    (∃ (a b : Addr) (xs ys : List V), v = .ref a ∧ w = .ref b ∧ H a = some (.lst xs) ∧ H b = some (.lst ys) ∧ xs.length = ys.length ∧ xs.length ≤ 1000 ∧ ∀ (i : Nat) (x y : V), xs[i]? = some x → ys[i]? = some y → Sm K H n x y) ∨ (∃ (a b : Addr) (kvs : List (Key × V)), v = .ref a ∧ w = .ref b ∧ a ≠ b ∧ H a = some (.dK kvs) ∧ H b = some (.dK kvs) ∧ kvs.length ≤ 1000 ∧ 1 ≤ n ∧ ∀ kv ∈ kvs, valV kvs kv.1 = some kv.2 ∧ ∃ i : Int, kv.2 = .int i)
theorem Sm.mono {K : PySem.W.Frag} {H H' : Hp} (g : Same H H') : ∀ {n : Nat} {v w : V}, Sm K H n v w → Sm K H' n v w
  | 0, _, _, h => h
  | n + 1, v, w, h => by
    rcases h with h | h | h | ⟨a, b, xs, ys, e1, e2, h1, h2, h3, h4, h5⟩ | ⟨a, b, xs, ys, e1, e2, h1, h2, h3, h4, h5⟩ | ⟨a, b, kvs, e1, e2, e3, h1, h2, h3⟩
    · exact .inl h
    · exact .inr (.inl h)
    · exact .inr (.inr (.inl h))
    · exact .inr (.inr (.inr (.inl ⟨a, b, xs, ys, e1, e2, seqT g h1, seqT g h2, h3, h4, fun i x y p q => Sm.mono g (h5 i x y p q)⟩)))
    · exact .inr (.inr (.inr (.inr (.inl ⟨a, b, xs, ys, e1, e2, g _ _ h1, g _ _ h2, h3, h4, fun i x y p q => Sm.mono g (h5 i x y p q)⟩))))
    · exact .inr (.inr (.inr (.inr (.inr ⟨a, b, kvs, e1, e2, e3, g _ _ h1, g _ _ h2, h3⟩))))
theorem Sm.int {K : PySem.W.Frag} {H : Hp} {n : Nat} (i : Int) : Sm K H (n + 1) (.int i) (.int i) := .inl ⟨i, rfl, rfl⟩
theorem Sm.str {K : PySem.W.Frag} {H : Hp} {n : Nat} (z : Str) : Sm K H (n + 1) (.str z) (.str z) := .inr (.inl ⟨z, rfl, rfl⟩)
theorem Sm.bl {K : PySem.W.Frag} {H : Hp} {n : Nat} (b : Bool) : Sm K H (n + 1) (.bl b) (.bl b) := .inr (.inr (.inl ⟨b, rfl, rfl⟩))
/-- place by place -/
def SmAll (K : PySem.W.Frag) (H : Hp) (n : Nat) (xs ys : List V) : Prop := xs.length = ys.length ∧ ∀ (i : Nat) (x y : V), xs[i]? = some x → ys[i]? = some y → Sm K H n x y
theorem SmAll.nil {K : PySem.W.Frag} {H : Hp} {n : Nat} : SmAll K H n [] [] := ⟨rfl, fun i x y e => by cases e⟩
theorem SmAll.cons {K : PySem.W.Frag} {H : Hp} {n : Nat} {x y : V} {xs ys : List V} (h : Sm K H n x y) (t : SmAll K H n xs ys) : SmAll K H n (x :: xs) (y :: ys) :=
  ⟨congrArg Nat.succ t.1, fun i a b e1 e2 => by
    cases i with
    | zero => cases e1; cases e2; exact h
    | succ i => exact t.2 i a b e1 e2⟩
theorem Sm.tup {K : PySem.W.Frag} {H : Hp} {n : Nat} {a b : Addr} {xs ys : List V} (h1 : SqT K H a xs) (h2 : SqT K H b ys) (hl : xs.length ≤ 1000) (t : SmAll K H n xs ys) : Sm K H (n + 1) (.ref a) (.ref b) :=
  .inr (.inr (.inr (.inl ⟨a, b, xs, ys, rfl, rfl, h1, h2, t.1, hl, t.2⟩)))
theorem Sm.lst {K : PySem.W.Frag} {H : Hp} {n : Nat} {a b : Addr} {xs ys : List V} (h1 : H a = some (.lst xs)) (h2 : H b = some (.lst ys)) (hl : xs.length ≤ 1000) (t : SmAll K H n xs ys) : Sm K H (n + 1) (.ref a) (.ref b) :=
  .inr (.inr (.inr (.inr (.inl ⟨a, b, xs, ys, rfl, rfl, h1, h2, t.1, hl, t.2⟩))))
def TK (K : PySem.W.Frag) (H H' : Hp) : Prop := ∀ (b : Addr) (xs : List V), SqT K H b xs → SqT K H' b xs
theorem TK.of {K : PySem.W.Frag} {H H' : Hp} (g : Same H H') : TK K H H' := fun b xs h => seqT g h
theorem TK.trans {K : PySem.W.Frag} {H H1 H2 : Hp} (g : TK K H H1) (g' : TK K H1 H2) : TK K H H2 := fun b xs h => g' b xs (g b xs h)
theorem TK.but {K : PySem.W.Frag} {H H' : Hp} (h : ∀ (b : Addr) (o : HO), (∀ xs, o ≠ .lst xs) → H b = some o → H' b = some o) : TK K H H' := fun b xs q => by
  rcases q with (q | ⟨o, q⟩) | q
  · exact .inl (.inl (h _ _ (by intro z e; cases e) q))
  · exact .inl (.inr ⟨o, h _ _ (by intro z e; cases e) q⟩)
  · exact .inr q
theorem TK.lst {K : PySem.W.Frag} {H : Hp} {D : Addr} {xs ys : List V} (h : H D = some (.lst xs)) : TK K H (upd H D (.lst ys)) := .but fun b o no q => by
  rw [upd_ne (fun e => by rw [e, h] at q; exact no _ (Option.some.inj q).symm)]
  exact q
theorem same_new {H : Hp} {p : Addr} (h : H p = none) (o : HO) : Same H (upd H p o) := fun b u q => by rw [upd_ne (ne_of_none q h)]; exact q
theorem same_over {H H' : Hp} {p : Addr} (g : Same H H') (h : H p = none) (o : HO) : Same H (upd H' p o) := fun b u q => by rw [upd_ne (ne_of_none q h)]; exact g _ _ q
/-- a comprehension's turn without a test -/
theorem kept {te : TE} {σ : St} {H : Hp} {R : V → Hp → Prop} {S : Hp → Prop} (h : te σ H R) : tYes σ H fun b H3 => if b = true then te σ H3 R else S H3 := iteT (A := te σ H R) (B := S H) h
/-- the built-in names that the program's text does not make its own -/
structure Bt (mg : Str → Option Value) : Prop where
  isi : mg "isinstance" = none
  lst : mg "list" = none
  tup : mg "tuple" = none
  len : mg "len" = none
  all : mg "all" = none
  zip : mg "zip" = none
  dict : mg "dict" = none
  int : mg "int" = none
  bool : mg "bool" = none
  range : mg "range" = none
section
variable {P : Program} {w : World} {K : PySem.W.Frag} {mg : Str → Option Value} {base : Heap} {f : Addr} {fd : FuncData}
theorem none_left {sp : Sp} {ps : List Str} {CX : CXT} (no : ∀ vs H Q E, ¬ sp vs H Q E) : FnOk P w K mg base CX 0 f fd ps sp :=
  ⟨fun vs H Q E h => absurd h (no vs H Q E), fun A outer s H args us vs Q E _ _ _ _ h => absurd h (no vs H Q E)⟩
theorem is_seq {K : PySem.W.Frag} {t : String} {b : Bool} (h1 : kitB t "list" = some false) (h2 : kitB t "tuple" = some b) : PySem.W.kitAny K (.type t) [.type "list", .type "tuple"] = some b :=
  kitAny_cons (kit_ty h1) (fun _ => kitAny_cons (kit_ty h2) (fun e => by rw [e]; exact kitAny_nil) (fun e => e)) (fun e => by cases e)
abbrev sSame : Stmt := topS 58
/-! zip of two tuples, as a walk -/
theorem walk_zipT {K : PySem.W.Frag} {a b : Addr} {xs ys : List V} (e : xs.length = ys.length) : Walk (RZ.ItzT K a b) xs.length (fun H => SqT K H a xs ∧ SqT K H b ys) (YPair (fun i => xs[i]?) (fun i => ys[i]?)) :=
  ⟨fun i _ hi q => ⟨xs, ys, xs[i], ys[i]'(by omega), q.1, q.2, List.getElem?_eq_getElem hi, List.getElem?_eq_getElem (by omega)⟩, fun _ q => ⟨xs, ys, q.1, q.2, .inl (Nat.le_refl _)⟩,
    fun i H v H' _ q ⟨T, x, y, h1, h2, h3, h4, h5⟩ => ⟨T, x, y, h1, h2, h3, h4 xs q.1, h5 ys q.2⟩⟩
def spSame (K : PySem.W.Frag) (n : Nat) : Sp := fun vs H Q _ => ∃ v u : V, vs = [v, u] ∧ Sm K H n v u ∧ ∀ H' : Hp, Same H H' → Q (.bl true) H'
abbrev namesS : List Str := ["_law_found", "_law_due_here", "_law_one", "_law_other", "_law_key"]
theorem scS : FnScope namesS ["_law_found", "_law_due_here"] (defScope sSame) := ⟨rfl, rfl, rfl, by decide +kernel, rfl, by decide +kernel, by decide +kernel⟩
theorem is_four {K : PySem.W.Frag} {t : String} (h1 : kitB t "int" = some false) (h2 : kitB t "list" = some false) (h3 : kitB t "tuple" = some false) (h4 : kitB t "dict" = some false) :
    PySem.W.kitAny K (.type t) [.type "int", .type "list", .type "tuple", .type "dict"] = some false :=
  kitAny_cons (kit_ty h1) (fun _ => kitAny_cons (kit_ty h2) (fun _ => kitAny_cons (kit_ty h3) (fun _ => kitAny_cons (kit_ty h4) (fun _ => kitAny_nil) (fun e => by cases e)) (fun e => by cases e)) (fun e => by cases e)) (fun e => by cases e)
theorem is_seqL {K : PySem.W.Frag} : PySem.W.kitAny K (.type "list") [.type "list", .type "tuple"] = some true :=
  kitAny_cons (kit_ty (r := true) (by decide +kernel)) (fun e => by cases e) (fun _ => rfl)
theorem iteC {c : Bool} {A B : Prop} (hc : c = true) (h : A) : if c = true then A else B := by
  rw [if_pos hc]
  exact h
theorem iteN {c : Bool} {A B : Prop} (hc : c = false) (h : B) : if c = true then A else B := by
  rw [if_neg (by rw [hc]; decide)]
  exact h
theorem all_true {n : Nat} : (List.replicate n true).all id = true := by
  rw [List.all_eq_true]
  intro x hx
  rw [(List.mem_replicate.mp hx).2]
  rfl
/-- the list of answers so far -/
def InvS (H0 : Hp) (D : Addr) (i : Nat) (H : Hp) : Prop := H D = some (.lst (List.replicate i (.bl true))) ∧ Same H0 H
theorem ok_same {n : Nat} (F : Fun K "_law_same" "_law_same" sSame f fd) (G : FnOk P w K mg base CX0 n f fd ["_law_found", "_law_due_here"] (spSame K n)) (bF : Binds K fd ["_law_found", "_law_due_here"] []) (kF : PySem.W.keepIn K (.ref f) = true) (mF : mg "_law_same" = some (.ref f)) (B : Bt mg) :
    FnOk P w K mg base CX0 (n + 1) f fd ["_law_found", "_law_due_here"] (spSame K (n + 1)) := by
  refine F.ok scS (fun vs H Q E h => ?_) (fun cdv A outer s H vs Q E hr h => ?_)
  · obtain ⟨v, u, rfl, _⟩ := h
    rfl
  obtain ⟨v, u, rfl, hA, q⟩ := h
  have hu1 : (cxOf CX0 P w K mg base namesS "_law_same" (defScope sSame) f cdv A outer s H E).nox.A.units + 1 < cLine := by
    have := hr.un
    show (A.deeper _).units + 1 < cLine
    omega
  refine ⟨_, pss_cons (ps_if (pt_val (pe_callB call_isiT (by rfl) B.isi (by decide +kernel) (pa_cons (pv 1) (pa_cons (pe_tup (pa_cons (pe_bltn (v := .ty "list") (by rfl) B.lst (by decide +kernel) rfl) (pa_cons (pe_bltn (v := .ty "tuple") (by rfl) B.tup (by decide +kernel) rfl) pa_nil))) pa_nil))))
      (pss_cons (ps_if (PW.pt (pw_or (pt_cmpR op_ne (pe_callB call_isi (by rfl) B.isi (by decide +kernel) (pa_cons (pv 0) (pa_cons (pe_bltn (v := .ty "list") (by rfl) B.lst (by decide +kernel) rfl) pa_nil))) (pe_callB call_isi (by rfl) B.isi (by decide +kernel) (pa_cons (pv 1) (pa_cons (pe_bltn (v := .ty "list") (by rfl) B.lst (by decide +kernel) rfl) pa_nil))) (nomark _)) (pw_or1 (pt_cmpR op_ne (pe_callB call_isi (by rfl) B.isi (by decide +kernel) (pa_cons (pv 0) (pa_cons (pe_bltn (v := .ty "tuple") (by rfl) B.tup (by decide +kernel) rfl) pa_nil))) (pe_callB call_isi (by rfl) B.isi (by decide +kernel) (pa_cons (pv 1) (pa_cons (pe_bltn (v := .ty "tuple") (by rfl) B.tup (by decide +kernel) rfl) pa_nil))) (nomark _))))) (pss_one (ps_ret pe_bl)) pss_nil)
        (pss_one (ps_ret (pe_and (pe_cmpR op_eq (pe_callB call_len_seq (by rfl) B.len PySem.boot_len (pa_cons (pv 0) pa_nil)) (pe_callB call_len_seq (by rfl) B.len PySem.boot_len (pa_cons (pv 1) pa_nil)) (nomark _)) (pe_one (pe_callB (cr_all rfl) (by rfl) B.all (by decide +kernel) (pa_cons
          (pe_lc (own := [("_law_one", 2), ("_law_other", 3)]) (g := gTup K 2 (gCons (gName 2) (gCons (gName 3) gNil))) (tt := tYes) rfl scS.nd (RZ.pi_zipA (by rfl) B.zip (pa_cons (pv 0) (pa_cons (pv 1) pa_nil))) (blkOk_by (N := namesS) (sc := defScope sSame) (by decide +kernel))
            (fun _ _ _ _ _ => pg_tup rfl (pgs_cons (pg_name (i := 2) scS.nd rfl (Or.inl rfl)) (pgs_cons (pg_name (i := 3) scS.nd rfl (Or.inl rfl)) pgs_nil))) (fun _ _ _ _ _ => pts_nil)
            (fun _ _ _ _ _ => pe_call G hr rfl mF kF bF .nil pass0 (pa_cons (pv 2) (pa_cons (pv 3) pa_nil)))) pa_nil))))))) pss_nil)
    (pss_cons (ps_if (pt_val (pe_callB call_isi (by rfl) B.isi (by decide +kernel) (pa_cons (pv 1) (pa_cons (pe_bltn (v := .ty "dict") (by rfl) B.dict (by decide +kernel) rfl) pa_nil)))) (pss_cons (ps_if (PW.pt (pw_or (pt_not (pt_val (pe_callB call_isi (by rfl) B.isi (by decide +kernel) (pa_cons (pv 0) (pa_cons (pe_bltn (v := .ty "dict") (by rfl) B.dict (by decide +kernel) rfl) pa_nil))))) (pw_or1 (pt_cmpR op_ne (pe_callB L2.call_len_dictK (by rfl) B.len PySem.boot_len (pa_cons (pv 0) pa_nil)) (pe_callB L2.call_len_dictK (by rfl) B.len PySem.boot_len (pa_cons (pv 1) pa_nil)) (nomark _))))) (pss_one ps_never) pss_nil)
        (pss_one (ps_lock (ps_ret (pe_callB (cr_all rfl) (by rfl) B.all (by decide +kernel) (pa_cons (pe_lc (own := [("_law_key", 4)]) (g := gName 4) (tt := tYes) (te := tAndV (tDIn (tVar 4) (tVar 0)) (tCall (spSame K n) [] E0 (tCons (tDGet (tVar 0) (tVar 4)) (tCons (tDGet (tVar 1) (tVar 4)) tNil)))) rfl scS.nd (pi_keys (pv 1)) (blkOk_by (N := namesS) (sc := defScope sSame) (by decide +kernel)) (fun _ _ _ _ _ => pg_name (i := 4) scS.nd rfl (Or.inl rfl)) (fun _ _ _ _ _ => pts_nil) (fun _ _ _ _ _ => pe_and (pe_cmp (pc_din hu1 (pv 4) (pv 0)) (by rfl)) (pe_one (pe_call G hr rfl mF kF bF .nil pass0 (pa_cons (pe_dget hu1 (pv 0) (pv 4) (fun _ _ => rfl)) (pa_cons (pe_dget hu1 (pv 1) (pv 4) (fun _ _ => rfl)) pa_nil)))))) pa_nil)))))) pss_nil)
    (pss_cons (ps_if (pt_val (pe_callB call_isi (by rfl) B.isi (by decide +kernel) (pa_cons (pv 1) (pa_cons (pe_bltn (v := .ty "int") (by rfl) B.int (by decide +kernel) rfl) pa_nil)))) (pss_one (ps_ret (pe_and (pe_callB call_isi (by rfl) B.isi (by decide +kernel) (pa_cons (pv 0) (pa_cons (pe_bltn (v := .ty "int") (by rfl) B.int (by decide +kernel) rfl) pa_nil))) (pe_and (pe_cmpR op_eq (pe_callB call_isi (by rfl) B.isi (by decide +kernel) (pa_cons (pv 0) (pa_cons (pe_bltn (v := .ty "bool") (by rfl) B.bool (by decide +kernel) rfl) pa_nil))) (pe_callB call_isi (by rfl) B.isi (by decide +kernel) (pa_cons (pv 1) (pa_cons (pe_bltn (v := .ty "bool") (by rfl) B.bool (by decide +kernel) rfl) pa_nil))) (nomark _)) (pe_one (pe_cmpR op_eq (pv 0) (pv 1) (nomark _))))))) pss_nil)
    (pss_one (ps_ret (pe_and (pe_cmpR op_eq (pv 0) (pv 1) (nomark _)) (pe_one (pe_cmpR op_isBl (pe_callB call_isiT (by rfl) B.isi (by decide +kernel) (pa_cons (pv 0) (pa_cons (pe_tup (pa_cons (pe_bltn (v := .ty "int") (by rfl) B.int (by decide +kernel) rfl) (pa_cons (pe_bltn (v := .ty "list") (by rfl) B.lst (by decide +kernel) rfl) (pa_cons (pe_bltn (v := .ty "tuple") (by rfl) B.tup (by decide +kernel) rfl) (pa_cons (pe_bltn (v := .ty "dict") (by rfl) B.dict (by decide +kernel) rfl) pa_nil))))) pa_nil))) pe_bl (nomark _)))))))), ?_⟩
  refine ⟨_, rfl, (by show 2 ≤ sizeLine; decide), fun t ht => ?_⟩
  have g1 : Same H (upd H t (.tup [.ty "list", .ty "tuple"])) := same_new ht _
  rcases hA with ⟨i, rfl, rfl⟩ | ⟨z, rfl, rfl⟩ | ⟨bb, rfl, rfl⟩ | ⟨a, b, xs, ys, rfl, rfl, h1, h2, h3, h4, h5⟩ | ⟨a, b, xs, ys, rfl, rfl, h1, h2, h3, h4, h5⟩ | ⟨a, b, kvs, rfl, rfl, nab, h1, h2, h3, hn1, h4⟩
  · refine ⟨_, t, _, .type "int", [.type "list", .type "tuple"], false, rfl, upd_same, .cons (.ty _) (.cons (.ty _) .nil), .base (.int i), is_seq (by decide +kernel) (by decide +kernel), _, rfl, ?_⟩
    refine iteF ?_
    refine ⟨_, rfl, _, _, .type "int", .type "dict", false, rfl, .ty _, .base (.int i), kit_ty (by decide +kernel), _, rfl, ?_⟩
    refine iteF ?_
    refine ⟨_, rfl, _, _, .type "int", .type "int", true, rfl, .ty _, .base (.int i), kit_ty (by decide +kernel), _, rfl, ?_⟩
    refine iteT ?_
    refine ⟨_, rfl, _, _, .type "int", .type "int", true, rfl, .ty _, .base (.int i), kit_ty (by decide +kernel), _, rfl, ?_⟩
    refine iteT ?_
    refine ⟨_, rfl, _, _, .type "int", .type "bool", false, rfl, .ty _, .base (.int i), kit_ty (by decide +kernel), ?_⟩
    refine ⟨_, rfl, _, _, .type "int", .type "bool", false, rfl, .ty _, .base (.int i), kit_ty (by decide +kernel), ?_⟩
    refine ⟨rfl, _, rfl, iteC (decide_eq_true rfl) ?_⟩
    refine ⟨_, rfl, _, rfl, rfl, ?_⟩
    show Q (.bl (decide (V.int i = V.int i))) _
    rw [decide_eq_true rfl]
    exact q _ g1
  · refine ⟨_, t, _, .type "str", [.type "list", .type "tuple"], false, rfl, upd_same, .cons (.ty _) (.cons (.ty _) .nil), .base (.str z), is_seq (by decide +kernel) (by decide +kernel), _, rfl, ?_⟩
    refine iteF ?_
    refine ⟨_, rfl, _, _, .type "str", .type "dict", false, rfl, .ty _, .base (.str z), kit_ty (by decide +kernel), _, rfl, ?_⟩
    refine iteF ?_
    refine ⟨_, rfl, _, _, .type "str", .type "int", false, rfl, .ty _, .base (.str z), kit_ty (by decide +kernel), _, rfl, ?_⟩
    refine iteF ?_
    refine ⟨_, rfl, _, rfl, rfl, _, rfl, iteC (decide_eq_true rfl) ?_⟩
    refine ⟨_, rfl, (by show 4 ≤ sizeLine; decide), fun t2 ht2 => ?_⟩
    refine ⟨_, t2, _, .type "str", [.type "int", .type "list", .type "tuple", .type "dict"], false, rfl, upd_same, .cons (.ty _) (.cons (.ty _) (.cons (.ty _) (.cons (.ty _) .nil))), .base (.str z), is_four (by decide +kernel) (by decide +kernel) (by decide +kernel) (by decide +kernel), _, _, rfl, rfl, ?_⟩
    exact q _ (g1.trans (same_new ht2 _))
  · refine ⟨_, t, _, .type "bool", [.type "list", .type "tuple"], false, rfl, upd_same, .cons (.ty _) (.cons (.ty _) .nil), .base (.bl bb), is_seq (by decide +kernel) (by decide +kernel), _, rfl, ?_⟩
    refine iteF ?_
    refine ⟨_, rfl, _, _, .type "bool", .type "dict", false, rfl, .ty _, .base (.bl bb), kit_ty (by decide +kernel), _, rfl, ?_⟩
    refine iteF ?_
    refine ⟨_, rfl, _, _, .type "bool", .type "int", true, rfl, .ty _, .base (.bl bb), kit_ty (by decide +kernel), _, rfl, ?_⟩
    refine iteT ?_
    refine ⟨_, rfl, _, _, .type "bool", .type "int", true, rfl, .ty _, .base (.bl bb), kit_ty (by decide +kernel), _, rfl, ?_⟩
    refine iteT ?_
    refine ⟨_, rfl, _, _, .type "bool", .type "bool", true, rfl, .ty _, .base (.bl bb), kit_ty (by decide +kernel), ?_⟩
    refine ⟨_, rfl, _, _, .type "bool", .type "bool", true, rfl, .ty _, .base (.bl bb), kit_ty (by decide +kernel), ?_⟩
    refine ⟨rfl, _, rfl, iteC (decide_eq_true rfl) ?_⟩
    refine ⟨_, rfl, _, rfl, rfl, ?_⟩
    show Q (.bl (decide (V.bl bb = V.bl bb))) _
    rw [decide_eq_true rfl]
    exact q _ g1
  · refine ⟨_, t, _, .type "tuple", [.type "list", .type "tuple"], true, rfl, upd_same, .cons (.ty _) (.cons (.ty _) .nil), tyT (seqT g1 h2), is_seq (by decide +kernel) (by decide +kernel), _, rfl, ?_⟩
    refine iteT ?_
    have ka := seqT g1 h1
    have kb := seqT g1 h2
    refine ⟨_, rfl, _, _, .type "tuple", .type "list", false, rfl, .ty _, tyT ka, kit_ty (by decide +kernel), _, rfl, _, _, .type "tuple", .type "list", false, rfl, .ty _, tyT kb, kit_ty (by decide +kernel), rfl, _, rfl, ?_⟩
    refine iteN rfl ?_
    refine ⟨_, rfl, _, _, .type "tuple", .type "tuple", true, rfl, .ty _, tyT ka, kit_ty (by decide +kernel), _, rfl, _, _, .type "tuple", .type "tuple", true, rfl, .ty _, tyT kb, kit_ty (by decide +kernel), rfl, _, rfl, ?_⟩
    refine iteN rfl ?_
    refine ⟨_, rfl, a, xs, rfl, .inr (ka), _, rfl, b, ys, rfl, .inr (kb), rfl, _, rfl, iteC (decide_eq_true (by rw [h3])) ?_⟩
    refine ⟨_, rfl, _, rfl, a, b, xs, ys, rfl, .inr ⟨ka, kb, fun D hD => ?_⟩⟩
    have hD0 : H D = none := g1.free hD
    refine lc_it (walk_zipT (K := K) (a := a) (b := b) h3) (InvS H D) ⟨upd_same, same_over g1 hD0 _⟩ (fun i H' _ ⟨_, g⟩ => ⟨seqT g h1, seqT g h2⟩) ?_ ?_
    · rintro i v H' H'' hi ⟨hd, g⟩ ⟨T, x, y, rfl, hT, rfl, ex, ey⟩
      have gT : Same H' (upd H' T (.tup [x, y])) := same_new hT _
      have hi1 : i < 1001 := by omega
      refine ⟨T, [x, y], rfl, SqT.of upd_same, rfl, x, [y], rfl, y, [], rfl, rfl, ?_⟩
      refine ⟨rfl, kept ?_⟩
      refine ⟨_, rfl, _, rfl, x, y, rfl, (h5 i x y ex ey).mono (g.trans gT), fun H2 g2 => ?_⟩
      refine ⟨_, g2 _ _ (gT _ _ hd), by rw [List.length_replicate]; exact small1000 (by omega), by rw [upd_same, List.replicate_succ'], same_over ((g.trans gT).trans g2) hD0 _⟩
    · rintro H' ⟨hd, g⟩
      exact ⟨D, List.replicate xs.length true, rfl, SqL.of (by rw [hd, List.map_replicate]), by rw [all_true]; exact q _ g⟩
  · refine ⟨_, t, _, .type "list", [.type "list", .type "tuple"], true, rfl, upd_same, .cons (.ty _) (.cons (.ty _) .nil), .base (.lst (g1 _ _ h2)), is_seqL, _, rfl, ?_⟩
    refine iteT ?_
    have ka := g1 _ _ h1
    have kb := g1 _ _ h2
    refine ⟨_, rfl, _, _, .type "list", .type "list", true, rfl, .ty _, .base (.lst ka), kit_ty (by decide +kernel), _, rfl, _, _, .type "list", .type "list", true, rfl, .ty _, .base (.lst kb), kit_ty (by decide +kernel), rfl, _, rfl, ?_⟩
    refine iteN rfl ?_
    refine ⟨_, rfl, _, _, .type "list", .type "tuple", false, rfl, .ty _, .base (.lst ka), kit_ty (by decide +kernel), _, rfl, _, _, .type "list", .type "tuple", false, rfl, .ty _, .base (.lst kb), kit_ty (by decide +kernel), rfl, _, rfl, ?_⟩
    refine iteN rfl ?_
    refine ⟨_, rfl, a, xs, rfl, .inl (SqL.of ka), _, rfl, b, ys, rfl, .inl (SqL.of kb), rfl, _, rfl, iteC (decide_eq_true (by rw [h3])) ?_⟩
    refine ⟨_, rfl, _, rfl, a, b, xs, ys, rfl, .inl ⟨SqL.of ka, SqL.of kb, fun D hD => ?_⟩⟩
    have hD0 : H D = none := g1.free hD
    refine lc_it (walk_zip (K := K) (a := a) (b := b) (n := xs.length) (by omega)) (InvS H D) ⟨upd_same, same_over g1 hD0 _⟩ (fun i H' _ ⟨_, g⟩ => ⟨SqL.of (g _ _ h1), SqL.of (g _ _ h2)⟩) ?_ ?_
    · rintro i v H' H'' hi ⟨hd, g⟩ ⟨T, x, y, rfl, hT, rfl, ex, ey⟩
      have gT : Same H' (upd H' T (.tup [x, y])) := same_new hT _
      have hi1 : i < 1001 := by omega
      refine ⟨T, [x, y], rfl, SqT.of upd_same, rfl, x, [y], rfl, y, [], rfl, rfl, ?_⟩
      refine ⟨rfl, kept ?_⟩
      refine ⟨_, rfl, _, rfl, x, y, rfl, (h5 i x y ex ey).mono (g.trans gT), fun H2 g2 => ?_⟩
      refine ⟨_, g2 _ _ (gT _ _ hd), by rw [List.length_replicate]; exact small1000 (by omega), by rw [upd_same, List.replicate_succ'], same_over ((g.trans gT).trans g2) hD0 _⟩
    · rintro H' ⟨hd, g⟩
      exact ⟨D, List.replicate xs.length true, rfl, SqL.of (by rw [hd, List.map_replicate]), by rw [all_true]; exact q _ g⟩
  · refine ⟨_, t, _, .type "dict", [.type "list", .type "tuple"], false, rfl, upd_same, .cons (.ty _) (.cons (.ty _) .nil), .base (.dK (g1 _ _ h2)), is_seq (by decide +kernel) (by decide +kernel), _, rfl, ?_⟩
    refine iteF ?_
    have ka := g1 _ _ h1
    have kb := g1 _ _ h2
    refine ⟨_, rfl, _, _, .type "dict", .type "dict", true, rfl, .ty _, .base (.dK kb), kit_ty (by decide +kernel), _, rfl, ?_⟩
    refine iteT ?_
    refine ⟨_, rfl, _, _, .type "dict", .type "dict", true, rfl, .ty _, .base (.dK ka), kit_ty (by decide +kernel), _, rfl, ?_⟩
    refine iteF ?_
    refine ⟨_, rfl, a, kvs, rfl, .of ka, _, rfl, b, kvs, rfl, .of kb, rfl, _, rfl, iteN (by rw [decide_eq_true rfl] <;> rfl) ?_⟩
    refine ⟨b, .dK kvs, kb, trivial, fun od => ?_⟩
    have hl : upd (upd H t (.tup [.ty "list", .ty "tuple"])) b (.frz od (.dK kvs)) b = some (.frz od (.dK kvs)) := upd_same
    have ha : upd (upd H t (.tup [.ty "list", .ty "tuple"])) b (.frz od (.dK kvs)) a = some (.dK kvs) := by rw [upd_ne nab]; exact ka
    have ho : ∀ x o, x ≠ b → H x = some o → upd (upd H t (.tup [.ty "list", .ty "tuple"])) b (.frz od (.dK kvs)) x = some o := fun x o n e => by rw [upd_ne n]; exact g1 _ _ e
    generalize upd (upd H t (.tup [.ty "list", .ty "tuple"])) b (.frz od (.dK kvs)) = Hl at hl ha ho ⊢
    refine ⟨_, rfl, b, od, rfl, .inl ⟨kvs, hl, fun D hD => ?_⟩⟩
    refine lc_it (walk_keys (d := b) (o := od) (kvs := kvs)) (InvS Hl D) ⟨upd_same, same_new hD _⟩ (fun i H' _ ⟨_, g⟩ => g _ _ hl) ?_ ?_
    · rintro i x H' H'' hi ⟨hd, g⟩ ⟨rfl, k, v, ek, rfl⟩
      obtain ⟨hv, j, ej⟩ := h4 (k, v) (List.mem_of_getElem? ek)
      have ej : v = .int j := ej
      subst ej
      have hv : valV kvs k = some (.int j) := hv
      have da : DGet H'' a (kV k) (some (.int j)) := .inl ⟨kvs, k, .of (g _ _ ha), rfl, hv.symm⟩
      have db : DGet H'' b (kV k) (some (.int j)) := .inl ⟨kvs, k, .inr ⟨od, g _ _ hl⟩, rfl, hv.symm⟩
      refine ⟨rfl, kept ?_⟩
      refine ⟨_, rfl, _, rfl, a, _, rfl, da, _, rfl, iteT ?_⟩
      obtain ⟨m, rfl⟩ : ∃ m, n = m + 1 := ⟨n - 1, by omega⟩
      refine ⟨_, rfl, _, rfl, a, _, rfl, da, _, rfl, _, rfl, b, _, rfl, db, .int j, .int j, rfl, Sm.int j, fun H2 g2 => ?_⟩
      exact ⟨_, g2 _ _ hd, by rw [List.length_replicate]; exact small1000 (by omega), by rw [upd_same, List.replicate_succ'], same_over (g.trans g2) hD _⟩
    · rintro H' ⟨hd, g⟩
      refine ⟨D, List.replicate kvs.length true, rfl, SqL.of (by rw [hd, List.map_replicate]), g _ _ hl, ?_⟩
      rw [all_true]
      refine q _ fun x o e => ?_
      by_cases c : x = b
      · subst c
        rw [h2] at e
        cases e
        exact upd_same
      · rw [upd_ne c]
        exact g _ _ (ho x o c e)
abbrev sDraw : Stmt := topS 54
/-! the spring of numbers: a list of four, its first one a list of ints -/
def Spr (H : Hp) (st q : Addr) (b : Int) : Prop := ∃ (ns : List Int) (a c : Int), H st = some (.lst [.ref q, .int a, .int b, .int c]) ∧ H q = some (.lst (ns.map V.int)) ∧ 0 ≤ a ∧ 0 ≤ c ∧ c < 2147483647 ∧ ns.length ≤ 63
/-! all else is as it was -/
def SX (st q : Addr) (H H' : Hp) : Prop := ∀ (x : Addr) (o : HO), x ≠ st → x ≠ q → H x = some o → H' x = some o
theorem SX.refl {st q : Addr} {H : Hp} : SX st q H H := fun _ _ _ _ h => h
theorem SX.trans {st q : Addr} {H H1 H2 : Hp} (g : SX st q H H1) (g' : SX st q H1 H2) : SX st q H H2 := fun x o h1 h2 h => g' x o h1 h2 (g x o h1 h2 h)
theorem SX.of {st q : Addr} {H H' : Hp} (g : Same H H') : SX st q H H' := fun x o _ _ h => g x o h
theorem SX.st {st q : Addr} {H : Hp} {o : HO} : SX st q H (upd H st o) := fun x u h1 _ h => by rw [upd_ne h1]; exact h
theorem SX.q {st q : Addr} {H : Hp} {o : HO} : SX st q H (upd H q o) := fun x u _ h2 h => by rw [upd_ne h2]; exact h
theorem Spr.ne {H : Hp} {st q : Addr} {a b c : Int} {ns : List Int} (h1 : H st = some (.lst [.ref q, .int a, .int b, .int c])) (h2 : H q = some (.lst (ns.map V.int))) : q ≠ st := fun e => by
  rw [e, h1] at h2
  cases ns with
  | nil => cases h2
  | cons n r => cases h2
def spDraw : Sp := fun vs H Q _ => ∃ (st q : Addr) (b m : Int), vs = [.ref st, .int m] ∧ Spr H st q b ∧ 0 ≤ b ∧ b ≤ 2000 ∧ 0 < m ∧ m < 1073741824 ∧
  ∀ (r : Int) (H' : Hp), 0 ≤ r → r < m → Spr H' st q (b + 1) → SX st q H H' → Q (.int r) H'
theorem scD : FnScope ["_law_stream", "_law_many", "_law_digit", "_law_mixed_here"] ["_law_stream", "_law_many"] (defScope sDraw) := ⟨rfl, rfl, rfl, by decide +kernel, rfl, by decide +kernel, by decide +kernel⟩
theorem dp_ints {H : Hp} : ∀ ns : List Int, DpAll K H (ns.map V.int) (ns.map PyData.int)
  | [] => .nil
  | n :: r => .cons (.int n) (dp_ints r)
theorem first_ix {n : Nat} (h : 0 < n) : seqIndex? 0 n = some 0 := (ixN_seq (n := n) (i := 0) (j := 0) (by unfold ixN; rw [if_pos (by decide), if_pos (by omega)]; rfl)).1
theorem ok_draw (F : Fun K "_law_draw" "_law_draw" sDraw f fd) (B : Bt mg) : FnOk P w K mg base CX0 1 f fd ["_law_stream", "_law_many"] spDraw := by
  refine F.ok scD (fun vs H Q E h => ?_) (fun cdv A outer s H vs Q E hr h => ?_)
  · obtain ⟨st, q, b, m, rfl, _⟩ := h
    rfl
  obtain ⟨st, q, b, m, rfl, ⟨ns, a, c, h1, h2, ha, hc, hc2, hns⟩, hb0, hb1, hm0, hm1, k⟩ := h
  refine ⟨_, pss_cons (ps_asg (pe_op op_add (pe_ix ix_list (pv 0) pe_int (fun _ _ => rfl)) pe_int) (pg_sub (pv 0) pe_int set_list))
    (C8.pss_cut (ps_if (PW.pt (pw_and (pt_cmpR op_eq (pe_ix ix_list (pv 0) pe_int (fun _ _ => rfl)) pe_int (nomark _)) (pw_and1 (pt_cmpR (op_neD hr.units) (pe_ix ix_list (pv 0) pe_int (fun _ _ => rfl)) (pe_lst pa_nil) (nomark _))))) (pss_cons (ps_asg (pe_bm PySem.F.plainAttrs_list PySem.F.slot_list_pop PySem.F.type_list_pop mt_popAt (pe_ix ix_list (pv 0) pe_int (fun _ _ => rfl)) (pa_cons pe_int pa_nil)) (pg_sub (pv 0) pe_int set_list)) (pss_one (ps_if (pt_cmpR op_lt (pe_ix ix_list (pv 0) pe_int (fun _ _ => rfl)) (pe_op op_pow pe_int pe_int) (nomark _)) (pss_cons (ps_asg (pe_op op_mod (pe_callTy call_int1 (by rfl) B.int (by decide +kernel) (pa_cons (pe_op op_add (pe_op op_add (pe_op op_mul (pe_ix ix_list (pv 0) pe_int (fun _ _ => rfl)) pe_int) (pe_ix ix_list (pv 0) pe_int (fun _ _ => rfl))) pe_int) pa_nil)) pe_int) (pg_sub (pv 0) pe_int set_list)) (pss_one (ps_asg pe_int (pg_sub (pv 0) pe_int set_list)))) pss_nil))) pss_nil)
    (pss_cons (ps_if (pt_cmpR op_gt (pe_ix ix_list (pv 0) pe_int (fun _ _ => rfl)) pe_int (nomark _)) (pss_cons (ps_set (i := 2) scD.nd rfl (Or.inl rfl) (pe_op op_mod (pe_callTy call_int1 (by rfl) B.int (by decide +kernel) (pa_cons (pe_ix ix_list (pv 0) pe_int (fun _ _ => rfl)) pa_nil)) (pv 1))) (pss_cons (ps_asg (pe_op op_fdiv (pe_ix ix_list (pv 0) pe_int (fun _ _ => rfl)) (pv 1)) (pg_sub (pv 0) pe_int set_list)) (pss_one (ps_ret (pv 2))))) pss_nil)
    (pss_cons (ps_set (i := 3) scD.nd rfl (Or.inl rfl) (pe_op op_mod (pe_op op_pow (pe_op op_add (pe_op op_add (pe_ix ix_list (pv 0) pe_int (fun _ _ => rfl)) (pe_op op_mul pe_int (pe_ix ix_list (pv 0) pe_int (fun _ _ => rfl)))) pe_int) pe_int) pe_int))
    (pss_one (ps_ret (pe_op op_mod (pe_op op_mod (pe_op op_pow (pe_op op_add (pe_op op_add (pe_op op_mul (pv 3) pe_int) (pe_op op_mul (pe_op op_mul pe_int (pe_ix ix_list (pv 0) pe_int (fun _ _ => rfl))) (pe_ix ix_list (pv 0) pe_int (fun _ _ => rfl)))) pe_int) pe_int) pe_int) (pv 1))))))), ?_⟩
  have nqs : q ≠ st := Spr.ne h1 h2
  refine ⟨_, rfl, st, _, _, _, rfl, rfl, SqL.of h1, rfl, _, _, rfl, rfl, _, rfl, st, _, _, _, rfl, rfl, h1, rfl, ?_⟩
  have e1 : upd H st (.lst [.ref q, .int a, .int (b + 1), .int c]) st = some (.lst [.ref q, .int a, .int (b + 1), .int c]) := upd_same
  have e2 : upd H st (.lst [.ref q, .int a, .int (b + 1), .int c]) q = some (.lst (ns.map V.int)) := by rw [upd_ne nqs]; exact h2
  have gx : SX st q H (upd H st (.lst [.ref q, .int a, .int (b + 1), .int c])) := SX.st
  refine ⟨fun σ' H' => σ' = [some (.ref st), some (.int m), none, none] ∧ Spr H' st q (b + 1) ∧ SX st q H H', ?_, ?_⟩
  · refine ⟨_, rfl, st, _, _, _, rfl, rfl, SqL.of e1, rfl, rfl, _, rfl, ?_⟩
    refine ite2 (fun ca => ?_) (fun _ => ⟨rfl, ⟨ns, a, c, e1, e2, ha, hc, hc2, hns⟩, gx⟩)
    have ca0 : a = 0 := by
      have z := of_decide_eq_true ca
      cases z
      rfl
    refine ⟨_, rfl, st, _, _, _, rfl, rfl, SqL.of e1, rfl, Nat.zero_le _, fun l hl => ?_⟩
    have g2 := same_new hl (.lst [])
    have f1 := g2 _ _ e1
    have f2 := g2 _ _ e2
    have gx2 := gx.trans (.of g2)
    cases ns with
    | nil =>
      refine ⟨.list [], .list [], .lst (SqL.of f2) .nil, .lst (SqL.of upd_same) .nil, by decide +kernel, by decide +kernel, _, rfl, ?_⟩
      refine iteN (by decide +kernel) ⟨rfl, ⟨[], a, c, f1, f2, ha, hc, hc2, hns⟩, gx2⟩
    | cons n r =>
      refine ⟨.list ((n :: r).map PyData.int), .list [], .lst (SqL.of f2) (dp_ints _), .lst (SqL.of upd_same) .nil, PySem.W.ke_shaped_ints _, by decide +kernel, _, rfl, ?_⟩
      refine iteC rfl ?_
      refine ⟨_, rfl, st, _, _, _, rfl, rfl, SqL.of f1, rfl, .inl ⟨rfl, _, SqL.of f2⟩, q, _, 0, 0, _, rfl, rfl, f2, by decide, by decide, first_ix (by simp), rfl, ?_⟩
      have p1 := (upd_ne (o := .lst (r.map V.int)) nqs.symm).trans f1
      have gx3 := gx2.trans (SX.q (o := .lst (r.map V.int)))
      refine ⟨_, rfl, st, _, _, _, rfl, rfl, p1, rfl, ?_⟩
      have gx4 := gx3.trans (SX.st (o := .lst [.ref q, .int n, .int (b + 1), .int c]))
      refine ⟨_, rfl, st, _, _, _, rfl, rfl, SqL.of upd_same, rfl, _, _, rfl, rfl, ⟨by decide, by decide, by decide⟩, _, _, rfl, rfl, _, rfl, ?_⟩
      refine ite2 (fun cn => ?_) (fun cn => ?_)
      · refine ⟨_, rfl, st, _, _, _, rfl, rfl, SqL.of upd_same, rfl, _, _, rfl, rfl, .inr ⟨by decide, by decide⟩, _, rfl, st, _, _, _, rfl, rfl, SqL.of upd_same, rfl, _, _, rfl, rfl, _, _, rfl, rfl, .inl ⟨_, rfl, ?_⟩⟩
        refine ⟨_, _, rfl, rfl, (by show (0 : Int) < 2147483647; decide), _, rfl, st, _, _, _, rfl, rfl, upd_same, rfl, _, rfl, st, _, _, _, rfl, rfl, upd_same, rfl, ?_⟩
        refine ⟨rfl, ⟨r, 0, (c * 31 + n + 7) % 2147483647, upd_same, ?_, by decide, Int.emod_nonneg _ (by decide), Int.emod_lt_of_pos _ (by decide), by simp at hns; omega⟩, (gx4.trans SX.st).trans SX.st⟩
        rw [upd_ne nqs, upd_ne nqs, upd_ne nqs, upd_same]
        rfl
      · have cn1 : ¬ n < (10 : Int) ^ 18 := of_decide_eq_false (Bool.eq_false_iff.mpr cn)
        refine ⟨rfl, ⟨r, n, c, upd_same, ?_, by omega, hc, hc2, by simp at hns; omega⟩, gx4⟩
        rw [upd_ne nqs, upd_same]
        rfl
  · rintro σ' H' ⟨rfl, ⟨ns', a', c', d1, d2, ha', hc', hc2', hns'⟩, g'⟩
    refine ⟨_, rfl, st, _, _, _, rfl, rfl, SqL.of d1, rfl, _, _, rfl, rfl, _, rfl, ?_⟩
    refine ite2 (fun cp => ?_) (fun cp => ?_)
    · have cp1 : a' > 0 := of_decide_eq_true cp
      refine ⟨_, rfl, st, _, _, _, rfl, rfl, SqL.of d1, rfl, .inl ⟨_, rfl, ?_⟩⟩
      refine ⟨_, rfl, _, _, rfl, rfl, hm0, _, rfl, st, _, _, _, rfl, rfl, SqL.of d1, rfl, _, rfl, _, _, rfl, rfl, ⟨hm0, hm1⟩, _, rfl, st, _, _, _, rfl, rfl, d1, rfl, _, rfl, ?_⟩
      exact k _ _ (Int.emod_nonneg _ (by omega)) (Int.emod_lt_of_pos _ hm0) ⟨ns', a' / m, c', upd_same, by rw [upd_ne nqs]; exact d2, Int.ediv_nonneg ha' (by omega), hc', hc2', hns'⟩ (g'.trans SX.st)
    · refine ⟨_, rfl, st, _, _, _, rfl, rfl, SqL.of d1, rfl, _, rfl, st, _, _, _, rfl, rfl, SqL.of d1, rfl, _, _, rfl, rfl, .inl ⟨by decide, by decide⟩, _, _, rfl, rfl, _, _, rfl, rfl, _, _, rfl, rfl, ⟨by decide, by decide, ?_⟩, _, _, rfl, rfl, (by show (0 : Int) < 2147483629; decide), ?_⟩
      · show (c' + 104729 * (b + 1) + 17).natAbs < 18446744073709551616
        omega
      have x0 : 0 ≤ (c' + 104729 * (b + 1) + 17) ^ (5 : Int).toNat % 2147483629 := Int.emod_nonneg _ (by decide)
      have x1 : (c' + 104729 * (b + 1) + 17) ^ (5 : Int).toNat % 2147483629 < 2147483629 := Int.emod_lt_of_pos _ (by decide)
      refine ⟨_, rfl, _, _, rfl, rfl, .inr ⟨by decide, by decide⟩, _, rfl, st, _, _, _, rfl, rfl, SqL.of d1, rfl, _, _, rfl, rfl, .inl ⟨by decide, by decide⟩, _, rfl, st, _, _, _, rfl, rfl, SqL.of d1, rfl, _, _, rfl, rfl, .inr ⟨?_, ?_⟩, _, _, rfl, rfl, _, _, rfl, rfl, _, _, rfl, rfl, ⟨by decide, by decide, ?_⟩, _, _, rfl, rfl, (by show (0 : Int) < 1000000007; decide), _, rfl, _, _, rfl, rfl, hm0, ?_⟩
      · show -(18446744073709551616 : Int) < b + 1
        omega
      · show b + 1 < (18446744073709551616 : Int)
        omega
      · show ((c' + 104729 * (b + 1) + 17) ^ (5 : Int).toNat % 2147483629 * 48271 + 40503 * (b + 1) * (b + 1) + 13).natAbs < 18446744073709551616
        have y0 : 0 ≤ 40503 * (b + 1) * (b + 1) := Int.mul_nonneg (by omega) (by omega)
        have y1 : 40503 * (b + 1) * (b + 1) ≤ 81046503 * 2001 := Int.mul_le_mul (by omega) (by omega) (by omega) (by omega)
        revert x0 x1 y0 y1
        generalize (c' + 104729 * (b + 1) + 17) ^ (5 : Int).toNat % 2147483629 = x
        generalize 40503 * (b + 1) * (b + 1) = y
        intro x0 x1 y0 y1
        omega
      · exact k _ _ (Int.emod_nonneg _ (by omega)) (Int.emod_lt_of_pos _ hm0) ⟨ns', a', c', d1, d2, ha', hc', hc2', hns'⟩ g'
theorem Spr.same {H H' : Hp} {st q : Addr} {b : Int} (g : Same H H') : Spr H st q b → Spr H' st q b
  | ⟨ns, a, c, h1, h2, r⟩ => ⟨ns, a, c, g _ _ h1, g _ _ h2, r⟩
theorem TK.sx {H H' : Hp} {st q : Addr} {b : Int} (s : Spr H st q b) (g : SX st q H H') : TK K H H' := by
  obtain ⟨ns, a, c, h1, h2, _⟩ := s
  exact .but fun t o no h => g _ _ (fun e => by rw [e, h1] at h; exact no _ (Option.some.inj h).symm) (fun e => by rw [e, h2] at h; exact no _ (Option.some.inj h).symm) h
abbrev sStart : Stmt := topS 55
abbrev sPick : Stmt := topS 56
def spStart (K : PySem.W.Frag) : Sp := fun vs H Q _ => ∃ (a : Addr) (ns : List Int), vs = [.ref a] ∧ SqL K H a (ns.map V.int) ∧ ns.length ≤ 63 ∧
  ∀ (st q : Addr) (H' : Hp), Same H H' → Spr H' st q 0 → Q (.ref st) H'
theorem scT : FnScope ["_law_script"] ["_law_script"] (defScope sStart) := ⟨rfl, rfl, rfl, by decide +kernel, rfl, by decide +kernel, by decide +kernel⟩
theorem ok_start (F : Fun K "_law_start" "_law_start" sStart f fd) (B : Bt mg) : FnOk P w K mg base CX0 1 f fd ["_law_script"] (spStart K) := by
  refine F.ok scT (fun vs H Q E h => ?_) (fun cdv A outer s H vs Q E hr h => ?_)
  · obtain ⟨a, ns, rfl, _⟩ := h
    rfl
  obtain ⟨a, ns, rfl, hS, hn, k⟩ := h
  refine ⟨_, pss_one (ps_ret (pe_lst (pa_cons (pe_callTy call_list_of (by rfl) B.lst (by decide +kernel) (pa_cons (pv 0) pa_nil)) (pa_cons pe_int (pa_cons pe_int (pa_cons pe_int pa_nil)))))), ?_⟩
  refine ⟨_, rfl, a, _, rfl, .inl hS, fun l hl => ?_⟩
  have g1 := same_new hl (.lst (ns.map V.int))
  refine ⟨(by show 4 ≤ sizeLine; decide), fun t ht => ?_⟩
  have g2 := same_new ht (.lst [.ref l, .int 0, .int 0, .int 0])
  exact k t l _ (g1.trans g2) ⟨ns, 0, 0, upd_same, g2 _ _ upd_same, by decide, by decide, by decide, hn⟩
def spPick (K : PySem.W.Frag) : Sp := fun vs H Q _ => ∃ (st q p : Addr) (b : Int) (xs : List V), vs = [.ref st, .ref p] ∧ Spr H st q b ∧ 0 ≤ b ∧ b ≤ 2000 ∧ H p = some (.lst xs) ∧ p ≠ st ∧ p ≠ q ∧ 0 < xs.length ∧ xs.length ≤ 1000 ∧
  ∀ (v : V) (H' : Hp), v ∈ xs → Spr H' st q (b + 1) → SX st q H H' → Q v H'
theorem scP : FnScope ["_law_stream", "_law_some"] ["_law_stream", "_law_some"] (defScope sPick) := ⟨rfl, rfl, rfl, by decide +kernel, rfl, by decide +kernel, by decide +kernel⟩
theorem at_int {xs : List V} {r : Int} (h0 : 0 ≤ r) (h1 : r < (xs.length : Int)) : ∃ v, v ∈ xs ∧ atI xs r = some v := by
  have hk : r.toNat < xs.length := by omega
  refine ⟨xs[r.toNat], List.getElem_mem hk, ?_⟩
  have q := atI_nat (xs := xs) (j := r.toNat) (v := xs[r.toNat]) (List.getElem?_eq_getElem hk)
  rwa [show ((r.toNat : Nat) : Int) = r by omega] at q
theorem ok_pick (F : Fun K "_law_pick" "_law_pick" sPick f fd) {g : Addr} {gd : FuncData} (G : FnOk P w K mg base CX0 1 g gd ["_law_stream", "_law_many"] spDraw) (bG : Binds K gd ["_law_stream", "_law_many"] []) (kG : PySem.W.keepIn K (.ref g) = true) (mG : mg "_law_draw" = some (.ref g)) (B : Bt mg) :
    FnOk P w K mg base CX0 2 f fd ["_law_stream", "_law_some"] (spPick K) := by
  refine F.ok scP (fun vs H Q E h => ?_) (fun cdv A outer s H vs Q E hr h => ?_)
  · obtain ⟨st, q, p, b, xs, rfl, _⟩ := h
    rfl
  obtain ⟨st, q, p, b, xs, rfl, hs, hb0, hb1, hp, n1, n2, hx0, hx1, k⟩ := h
  refine ⟨_, pss_one (ps_ret (pe_ix ix_list (pv 1) (pe_call G hr rfl mG kG bG .nil pass0 (pa_cons (pv 0) (pa_cons (pe_callB call_len_seq (by rfl) B.len PySem.boot_len (pa_cons (pv 1) pa_nil)) pa_nil))) (fun _ _ => rfl))), ?_⟩
  refine ⟨_, rfl, _, rfl, _, rfl, p, xs, rfl, .inl (SqL.of hp), st, q, b, _, rfl, hs, hb0, hb1, by omega, by omega, fun r H' r0 r1 hs' gx => ?_⟩
  obtain ⟨v, hv, ev⟩ := at_int r0 r1
  exact ⟨p, xs, r, v, rfl, rfl, SqL.of (gx _ _ n1 n2 hp), ev, k v H' hv hs' gx⟩
theorem all_nil {p : V → Prop} : ∀ x ∈ ([] : List V), p x := fun x h => by cases h
theorem all_cons {p : V → Prop} {a : V} {l : List V} (h : p a) (t : ∀ x ∈ l, p x) : ∀ x ∈ a :: l, p x := fun x q => by
  cases q with
  | head => exact h
  | tail _ q => exact t x q
end
end Lw
namespace PySem.W
open PySem PySem.Calls PyProof.Rows
section
variable {M : Model} {A : Around} {E : Value → Shared → Prop} {s : Shared} {K : Frag} {env : Env} {pos p : Pos} {f : Value} {first : List Value} {Q : Value → Shared → Prop} {h₀ : Heap} {e : Expr} {rest : List Expr}
/-- f(*x, k = v): the starred one is read last -/
theorem lone_kw {x : Sem Value} {kw : List (Option Str × Sem Value)} {R : Args → Shared → Prop} (hall : kw.all (·.1.isSome) = true)
    (h : wpAny M A x (fun v s1 => wpAny M A (evalAll (kw.map (·.2))) (fun ks s2 => StarOf M A E v (fun vs s3 => R ⟨vs, (kw.filterMap (·.1)).zip ks⟩ s3) s2) E s1) E s) :
    wpAny M A (evalArgs f true [(true, (do let v ← x; standAt pos; pure v))] kw) R E s := by
  unfold evalArgs
  first
    | refine wpAny_bind (wpAny_bind (wpAny_mono h (fun v s1 h1 => wpAny_bind (wpAny_standAt (wpAny_pure ?_))) fun _ _ x => x))
    | refine wpAny_bind (wpAny_bind (wpAny_bind (wpAny_mono h (fun v s1 h1 => wpAny_bind (wpAny_standAt (wpAny_pure (wpAny_pure ?_)))) fun _ _ x => x)))
  refine wpAny_holding ?_
  simp only [hall, if_true]
  refine wpAny_bind (wpAny_mono h1 (fun ks s2 h2 => ?_) fun _ _ x => x)
  unfold StarOf at h2
  refine wpAny_bind (wpAny_bind (wpAny_mono h2 (fun b s3 h3 => ?_) fun _ _ x => x))
  obtain ⟨rfl, h3⟩ := h3
  have z := wpAny_holding (vs := ((kw.filterMap (·.1)).zip ks).map (·.2)) (wpAny_mono h3 (fun vs s4 h4 => (wpAny_pure h4 : wpAny M A (pure (⟨vs, (kw.filterMap (·.1)).zip ks⟩ : Args)) R E s4)) fun _ _ x => x)
  try simp only [Bool.false_eq_true, if_false]
  first
    | exact z
    | exact wpAny_bind (wpAny_pure z)
    | exact wpAny_bind z
theorem call_star_kw {P : Heap → Prop} {args : List (Bool × Sem Value)} {kw : List (Option Str × Sem Value)} (hst : args.any (·.1) = true)
    (hk : ∀ h, P h → ∃ k, (k = Keeper.frame ∨ k = Keeper.machine ∨ k = Keeper.boundFrame) ∧ Looks M h (keeperOf f) k)
    (h : wpAny M A (evalArgs f true args kw) (fun a s1 => P s1.heap ∧ wpAny M A (call f (first ++ a.pos) a.kw) Q E s1) E s) : wpAny M A (callWith pos f first args kw) Q E s := by
  unfold callWith
  refine wpAny_bind (wpAny_holding (wpAny_mono h (fun a s1 h1 => wpAny_bind (wpAny_standAt ?_)) fun _ _ x => x))
  obtain ⟨k, hk', L⟩ := hk _ h1.1
  simp only [hst, Bool.true_or]
  refine wpAny_bind (L.here ?_)
  have fin : ∀ {t : Sem Value}, wpAny M A t Q E s1 → wpAny M A (t >>= fun r => holding [r] point >>= fun _ => pure r) Q E s1 :=
    fun ht => wpAny_bind (wpAny_mono ht (fun r s2 hr => wpAny_bind (wpAny_holding (wpAny_point (wpAny_pure hr)))) fun _ _ x => x)
  have mrk (mk : Value) : wpAny M A (callMarked mk f (first ++ a.pos) a.kw) Q E s1 := by unfold callMarked; exact Calls.wpAny_keep h1.2
  rcases hk' with rfl | rfl | rfl <;> dsimp only <;> first | exact fin (mrk _) | exact fin h1.2 | exact fin (wpAny_operating h1.2)
end
end PySem.W
namespace L2
open PySem PySem.Spec PyProof.Rows
/-- raise C(): an own class without an __init__ of its own -/
theorem pmk_own0 {X : Cx} {C : Addr} {bmB : List Value} {B newId initId : String} {x : Str} {p pos : Pos} (F : ExcBaseFacts B newId initId bmB) (q : PySem.W.excIn X.K C bmB newId = true) (gC : X.mg x = some (.ref C))
    (kC : PySem.W.keepIn X.K (.ref C) = true) (r : Raises X (.ref C)) (hg : Gl X x) (hdb : (x == ("__debug__" : Str)) = false := by decide) : PMk X (.Call (.Name x p) [] [] pos) (fun _ H Q => Q (.ref C) none H) := by
  intro pins s σ H Q I h
  refine wpAny_Call_Name_kw (ld_glob I hg gC ?_ hdb)
  refine PySem.W.callWith_KW0 (h₀ := X.base) (kws := []) I.ok.mod.kin kC rfl ?_ rfl
  refine wpAny_evalAll_nil ⟨I.kIn, ?_⟩
  show wpAny _ _ (call (.ref C) []) _ _ _
  obtain ⟨bm, N, nm, qn, bs, hdct, sn, sub, ab, col, dd, k0, k1, k2, k3, k5, mN, hC, hN, hni, T⟩ := exc_obj I.kIn q
  refine wpAny_call_exc_subT F T hC hN hni (fun h' e hm => ?_) (by show 0 ≤ sizeLine; decide)
  exact mk_of I hm r h (I.hok.gone hm.new)
/-! a class whose __init__ is (self, *v, k=d): what it promises, by the items of v and the value of k -/
/-- self, the positional items, the keyword's value -/
abbrev SpF := V → List V → V → Hp → VK → XK → Prop
/-- how such a call is written: the keyword there (its value), or not -/
def KwOf (kn : Str) : Option Value → List (Str × Value)
  | some u => [(kn, u)]
  | none => []
def FnF (P : Program) (w : World) (K : PySem.W.Frag) (mg : Str → Option Value) (base : Heap) (CX : CXT) (k : Nat) (f : Addr) (kn : Str) (d : V) (sp : SpF) : Prop :=
  ∀ (A : Around) (outer : List Env) (s : Shared) (H : Hp) (x : V) (xu : Value) (us : List Value) (vs : List V) (ku : Option Value) (kv : V) (Q : VK) (E : XK), Room k A → Env0 P w K mg base A outer s H → RelV x xu → Vals vs us → vs.length ≤ sizeLine →
    (∀ u, ku = some u → RelV kv u) → (ku = none → kv = d) → sp x vs kv H Q E → codeAny (model P w) A (.call (.ref f) ⟨xu :: us, KwOf kn ku⟩) (CR CX outer P w H s Q E) s
section
variable {CX : CXT} {P : Program} {w : World} {K : PySem.W.Frag} {mg : Str → Option Value} {base : Heap} {k : Nat} {f D : Addr} {name qual : Str} {params : Arguments} {body : List Stmt} {scope : Scope} {doc pm cdv ct oc : Value} {an od : Option Addr}
  {osl : Array (Option Value)} {N : List Str}
theorem fn_F {p1 kn pv : Str} {d : V} {du : Value} {sp : SpF} (lk : K.lookup f = some ⟨oc, od, .func (PySem.W.fnOf name qual params body scope .none (.ref D) doc pm an cdv ct), osl⟩) (hcd : PySem.W.codeIn K cdv qual = true) (S : FnScope N [p1, kn, pv] scope) (hCX : StX.CXUp CX)
    (hd : PySem.W.nsIn K D kn = some (some du)) (rd : RelV d du)
    (hb1 : ∀ (x u : Value) (us : List Value), bindArgs (PySem.W.fnOf name qual params body scope .none (.ref D) doc pm an cdv ct) ⟨x :: us, [(kn, u)]⟩ = (newTuple us >>= fun t => pure [(p1, x), (kn, u), (pv, t)]))
    (hb0 : ∀ (x : Value) (us : List Value), ∃ (β γ : Type) (k1 : Option Value → Sem β) (k2 : β → Sem γ) (k3 : γ → Sem (List (Str × Value))) (a : β), bindArgs (PySem.W.fnOf name qual params body scope .none (.ref D) doc pm an cdv ct) ⟨x :: us, []⟩ = ((nsGet D kn >>= k1) >>= k2) >>= k3 ∧
      k1 (some du) = pure a ∧ (k2 a >>= k3) = (newTuple us >>= fun t => pure [(p1, x), (kn, du), (pv, t)]))
    (hbody : ∀ (A : Around) (outer : List Env) (s : Shared) (H : Hp) (x : V) (vs : List V) (kv : V) (p : Addr) (H0 : Hp) (Q : VK) (E : XK), Room k (A.deeper (envOfC qual scope s.heap.objs.size f cdv)) → H0 p = none → H = upd H0 p (.tup vs) → sp x vs kv H0 Q E →
      ∃ t, PSs (cxOf CX P w K mg base N qual scope f cdv A outer s H E) body t ∧ t { nx := fun _ H' => Q .non H', rt := Q } (start N [x, kv, .ref p]) H) :
    FnF P w K mg base CX (k + 1) f kn d sp := by
  intro A outer s H x xu us vs ku kv Q E hr e0 rx rv hz hk1 hk0 hsp
  have hn : H s.heap.objs.size = Option.none := e0.hok.fresh (Nat.le_refl _)
  have hl2 : us.length ≤ sizeLine := by rw [← rv.length]; exact hz
  have KX : K.In s.heap := e0.mod.kin.keeps fun b o e => (e0.bs b o e).1
  refine StX.run_bnd lk hcd S hr e0 (G := fun xs H2 => ∃ p, H p = Option.none ∧ xs = [x, kv, V.ref p] ∧ H2 = upd H p (.tup vs)) (fun A' Ex Q' h => ?_) fun s2 H2 xs ⟨p, hp, ex, eH⟩ hr' => ?_
  · have fin : ∀ ku', RelV kv ku' → wpAny (model P w) A' (newTuple us >>= fun t => pure [(p1, xu), (kn, ku'), (pv, t)]) Q' Ex s := fun ku' rk => by
      refine wpAny_bind (wpAny_newTuple (wpAny_pure ?_) hl2)
      have new : ObjOk P w (upd H s.heap.objs.size (.tup vs)) (s.heap.push ({ cls := .type "tuple", data := .seq us.toArray } : Obj)) s.heap.objs.size (.tup vs) := ⟨hz, us, rv, ⟨_, Heap.get?_push_size _ rfl, rfl, _, rfl⟩⟩
      have un := StX.un_laid (fs := frs outer) (s := s) (o := ({ cls := .type "tuple", data := .seq us.toArray } : Obj)) (u := .tup vs) hn
      exact h _ _ [x, kv, V.ref s.heap.objs.size] [xu, ku', Value.ref s.heap.objs.size] (StX.env0_laid e0 new) un rfl (fun e s' => hCX outer s H _ _ E e s' un (fun b o q => Heap.get?_push_of_some _ q) rfl) (.cons rx (.cons rk (.cons rfl .nil))) rfl ⟨_, hn, rfl, rfl⟩
    cases ku with
    | some u =>
      show wpAny _ _ (bindArgs _ ⟨xu :: us, [(kn, u)]⟩) _ _ _
      rw [hb1]
      exact fin u (hk1 u rfl)
    | none =>
      obtain ⟨β, γ, k1, k2, k3, a, e1, e2, e3⟩ := hb0 xu us
      show wpAny _ _ (bindArgs _ ⟨xu :: us, []⟩) _ _ _
      rw [e1, bind_assoc]
      refine wpAny_bind (((PySem.W.looks_nsIn KX hd).andThen (PySem.W.Looks.of_pure e2)).here ?_)
      rw [e3]
      exact fin du (by rw [hk0 rfl]; exact rd)
  · subst ex
    exact hbody A outer s2 H2 x vs kv p H Q E hr' hp eH hsp
end
/-- C(..): a new instance and its dict, then the promise of its __init__ -/
def mkF (C : Addr) (sp : SpF) (E : XK) (vs : List V) (kv : V) (H : Hp) (Q : VK) : Prop := ∀ x dx, H x = none → H dx = none → dx ≠ x → sp (.ref x) vs kv (upd (upd H dx (.own x)) x (.ins C dx [])) (fun v H2 => v = .non ∧ Q (.ref x) H2) E
section
variable {X : Cx} {CX : CXT} {k : Nat} {f C : Addr} {kn x : Str} {d : V} {sp : SpF} {E : XK} {e : Expr} {es : List Expr} {te tk : TE} {t : TA} {p pos kpos sp_ : Pos}
theorem run_makeF {pins : List (Addr × Obj)} {σ : St} {H : Hp} {s : Shared} {Q : VK} {us : List Value} {vs : List V} {ku : Option Value} {kv : V} (M : Mk X.K C f) (F : FnF X.prog X.w X.K X.mg X.base CX k f kn d sp) (hr : Room (k + 1) X.A) (hx : Passes CX X E)
    (I : Inv X pins σ H s) (r : Vals vs us) (hz : vs.length ≤ sizeLine) (hk1 : ∀ u, ku = some u → RelV kv u) (hk0 : ku = none → kv = d) (h : mkF C sp E vs kv H Q) :
    wpAny (model X.prog X.w) X.A (call (.ref C) us (KwOf kn ku)) (EP X pins σ Q) X.xe s := by
  have hq := h (s.heap.objs.size + 1) s.heap.objs.size (I.hok.fresh (Nat.le_succ _)) (I.hok.fresh (Nat.le_refl _)) (Nat.ne_of_lt (Nat.lt_succ_self _))
  have I2 := Inv.made (C := C) I
  refine wpAny_call (make_map (f := f) I.kIn M.makes M.init (beq_iff_eq.mp M.fn) (codeAny_mono (F _ X.stack _ _ (.ref (s.heap.objs.size + 1)) (.ref (s.heap.objs.size + 1)) us vs ku kv _ E (hr.make C us (KwOf kn ku)) (I2.env0.make C us (KwOf kn ku)) rfl r hz hk1 hk0 hq) fun r s' hq' => ?_))
  cases r with
  | error e => exact hx pins σ _ _ e s' I2 hq'
  | ok fl =>
    cases fl with
    | ret u =>
      obtain ⟨v, H', I3, rv, ev, q3⟩ := I2.after hq'
      subst ev
      exact ⟨rv, ⟨V.ref (s.heap.objs.size + 1), H', I3, rfl, q3⟩⟩
    | next => exact False.elim hq'
    | brk => exact False.elim hq'
    | cont => exact False.elim hq'
/-- C() -/
theorem pe_F0 (M : Mk X.K C f) (F : FnF X.prog X.w X.K X.mg X.base CX k f kn d sp) (hr : Room (k + 1) X.A) (hg : Gl X x) (hm : X.mg x = some (.ref C)) (hx : Passes CX X E) (hdb : (x == ("__debug__" : Str)) = false := by decide) :
    PE X (.Call (.Name x p) [] [] pos) (fun _ H Q => mkF C sp E [] d H Q) := by
  refine ⟨fun pins s σ H Q I h => ?_⟩
  refine wpAny_Call_Name_kw (ld_glob I hg hm ?_ hdb)
  refine PySem.W.callWith_KW0 (h₀ := X.base) (kws := []) I.ok.mod.kin M.kp rfl ?_ rfl
  refine wpAny_evalAll_nil ⟨I.kIn, ?_⟩
  exact run_makeF (us := []) (ku := none) M F hr hx I .nil (Nat.zero_le _) (fun u z => nomatch z) (fun _ => rfl) h
/-- C(kn = e) -/
theorem pe_Fk (M : Mk X.K C f) (F : FnF X.prog X.w X.K X.mg X.base CX k f kn d sp) (hr : Room (k + 1) X.A) (hg : Gl X x) (hm : X.mg x = some (.ref C)) (hx : Passes CX X E) (hk : PE X e tk) (hdb : (x == ("__debug__" : Str)) = false := by decide) :
    PE X (.Call (.Name x p) [] [⟨some kn, e, kpos⟩] pos) (fun σ H Q => tk σ H fun kv H1 => mkF C sp E [] kv H1 Q) := by
  refine ⟨fun pins s σ H Q I h => ?_⟩
  refine wpAny_Call_Name_kw (ld_glob I hg hm ?_ hdb)
  refine PySem.W.callWith_KW0 (h₀ := X.base) I.ok.mod.kin M.kp rfl ?_ rfl
  refine kwAll_cons (thn (hk.run pins s σ H _ I h) fun u s1 ⟨kv, H1, I1, rk, q1⟩ => ?_)
  refine wpAny_evalAll_nil ⟨I1.kIn, ?_⟩
  exact run_makeF (us := []) (ku := some u) M F hr hx I1 .nil (Nat.zero_le _) (fun u' z => by cases z; exact rk) (fun z => nomatch z) q1
/-- C(e, .., kn = e) -/
theorem pe_Fpk (M : Mk X.K C f) (F : FnF X.prog X.w X.K X.mg X.base CX k f kn d sp) (hr : Room (k + 1) X.A) (hg : Gl X x) (hm : X.mg x = some (.ref C)) (hx : Passes CX X E) {a : Expr} {as : List Expr} (ha : PA X (a :: as) t) (hk : PE X e tk) (hdb : (x == ("__debug__" : Str)) = false := by decide)
    (he : starEach (a :: as) X.env = (false, eval a X.env) :: starEach as X.env := by rfl) (hpl : ((backTo pos (starEach (a :: as) X.env)).any (·.1) || (backToKw pos (keywordEach [⟨some kn, e, kpos⟩] X.env)).any (·.1.isNone)) = false := by rfl) :
    PE X (.Call (.Name x p) (a :: as) [⟨some kn, e, kpos⟩] pos) (fun σ H Q => t σ H fun vs H1 => tk σ H1 fun kv H2 => vs.length ≤ sizeLine ∧ mkF C sp E vs kv H2 Q) := by
  refine ⟨fun pins s σ H Q I h => ?_⟩
  refine wpAny_Call_Name_kw (ld_glob I hg hm ?_ hdb)
  refine PySem.W.callWith_KW (h₀ := X.base) I.ok.mod.kin M.kp rfl (thn (ha.run pos pins s σ H _ I h) fun us s1 ⟨vs, H1, I1, r, q⟩ => ?_) hpl he
  refine kwAll_cons (thn (hk.run pins s1 σ H1 _ I1 q) fun u s2 ⟨kv, H2, I2, rk, hz, q2⟩ => ?_)
  refine wpAny_evalAll_nil ⟨I2.kIn, ?_⟩
  exact run_makeF (ku := some u) M F hr hx I2 r hz (fun u' z => by cases z; exact rk) (fun z => nomatch z) q2
/-- C(*e, kn = e) -/
theorem pe_Fsk (M : Mk X.K C f) (F : FnF X.prog X.w X.K X.mg X.base CX k f kn d sp) (hr : Room (k + 1) X.A) (hg : Gl X x) (hm : X.mg x = some (.ref C)) (hx : Passes CX X E) {a : Expr} (ha : PE X a te) (hk : PE X e tk) (hdb : (x == ("__debug__" : Str)) = false := by decide)
    (he : starEach [.Starred a sp_] X.env = [(true, eval a X.env)] := by rfl) :
    PE X (.Call (.Name x p) [.Starred a sp_] [⟨some kn, e, kpos⟩] pos) (fun σ H Q => te σ H fun y H1 => tk σ H1 fun kv H2 => ∃ q xs, y = .ref q ∧ (SqT X.K H2 q xs ∨ SqL X.K H2 q xs) ∧ xs.length ≤ sizeLine ∧ mkF C sp E xs kv H2 Q) := by
  refine ⟨fun pins s σ H Q I h => ?_⟩
  refine wpAny_Call_Name_kw (ld_glob I hg hm ?_ hdb)
  rw [he]
  refine PySem.W.call_star_kw rfl (PySem.W.keeps_K M.kp) ?_
  refine PySem.W.lone_kw rfl (thn (ha.run pins s σ H _ I h) fun yv s1 ⟨y, H1, I1, ry, q⟩ => ?_)
  refine kwAll_cons (thn (hk.run pins s1 σ H1 _ I1 q) fun u s2 ⟨kv, H2, I2, rk, q0, xs, ey, hs, hz, q2⟩ => ?_)
  subst ey
  obtain rfl : yv = Value.ref q0 := ry
  refine wpAny_evalAll_nil (StX.star_any I2 hs fun us s3 I3 rv => ⟨I3.kIn, ?_⟩)
  exact run_makeF (ku := some u) M F hr hx I3 rv hz (fun u' z => by cases z; exact rk) (fun z => nomatch z) q2
end
end L2
namespace Lw
open PySem L2
abbrev sWhole : Stmt := topS 2
abbrev sFrozen : Stmt := topS 3
abbrev sAxes : Stmt := topS 44
/-! the mathematics of forms -/
def axesOk (is : List Int) (n : Nat) : Bool := decide (is.length = n) && (List.range n).all fun j => decide ((j : Int) ∈ is)
theorem inV_int (k : Int) : ∀ is : List Int, inV (.int k) (is.map V.int) = decide (k ∈ is)
  | [] => by simp [inV]
  | i :: r => by
    have q := inV_int k r
    unfold inV at q ⊢
    rw [List.map_cons, List.any_cons, q]
    show ((i == k) || decide (k ∈ r)) = decide (k ∈ i :: r)
    by_cases h : i = k
    · subst h
      simp
    · have h2 : ¬ k = i := fun e => h e.symm
      simp [h, h2]
theorem flat_ints (is : List Int) : (is.map V.int).all flatV = true := by
  rw [List.all_eq_true]
  intro x hx
  obtain ⟨i, _, rfl⟩ := List.mem_map.mp hx
  rfl
theorem flat_strs (ss : List Str) : (ss.map V.str).all flatV = true := by
  rw [List.all_eq_true]
  intro x hx
  obtain ⟨i, _, rfl⟩ := List.mem_map.mp hx
  rfl
theorem inV_str (k : Str) : ∀ ss : List Str, inV (.str k) (ss.map V.str) = decide (k ∈ ss)
  | [] => by simp [inV]
  | i :: r => by
    have q := inV_str k r
    unfold inV at q ⊢
    rw [List.map_cons, List.any_cons, q]
    show ((i == k) || decide (k ∈ r)) = decide (k ∈ i :: r)
    by_cases h : i = k
    · subst h
      simp
    · have h2 : ¬ k = i := fun e => h e.symm
      simp [h, h2]
/-- the list of answers so far -/
def InvB (H0 : Hp) (D : Addr) (f : Nat → Bool) (i : Nat) (H : Hp) : Prop := H D = some (.lst (((List.range i).map f).map V.bl)) ∧ Same H0 H
theorem InvB.next {H0 H : Hp} {D : Addr} {f : Nat → Bool} {i : Nat} (hd0 : H0 D = none) (h : InvB H0 D f i H) : InvB H0 D f (i + 1) (upd H D (.lst (((List.range i).map f).map V.bl ++ [.bl (f i)]))) :=
  ⟨by rw [upd_same, List.range_succ, List.map_append, List.map_append] <;> rfl, same_over h.2 hd0 _⟩
theorem len_b {f : Nat → Bool} {i : Nat} (h : i ≤ 1000) : (((List.range i).map f).map V.bl).length < sizeLine := by
  rw [List.length_map, List.length_map, List.length_range]
  exact small1000 h
section
variable {P : Program} {w : World} {K : PySem.W.Frag} {mg : Str → Option Value} {base : Heap} {f : Addr} {fd : FuncData}
def spWhole : Sp := fun vs H Q _ => ∃ i : Int, vs = [.int i] ∧ Q (.bl true) H
theorem scW : FnScope ["n"] ["n"] (defScope sWhole) := ⟨rfl, rfl, rfl, by decide +kernel, rfl, by decide +kernel, by decide +kernel⟩
theorem ok_whole (F : Fun K "is_whole" "is_whole" sWhole f fd) (B : Bt mg) : FnOk P w K mg base CX0 1 f fd ["n"] spWhole := by
  refine F.ok scW (fun vs H Q E h => ?_) (fun cdv A outer s H vs Q E hr h => ?_)
  · obtain ⟨i, rfl, _⟩ := h
    rfl
  obtain ⟨i, rfl, q⟩ := h
  refine ⟨_, pss_one (ps_ret (pe_and (pe_callB call_isi (by rfl) B.isi (by decide +kernel) (pa_cons (pv 0) (pa_cons (pe_bltn (v := .ty "int") (by rfl) B.int (by decide +kernel) rfl) pa_nil)))
    (pe_one (pe_not (pe_callB call_isi (by rfl) B.isi (by decide +kernel) (pa_cons (pv 0) (pa_cons (pe_bltn (v := .ty "bool") (by rfl) B.bool (by decide +kernel) rfl) pa_nil))))))), ?_⟩
  refine ⟨_, rfl, _, _, .type "int", .type "int", true, rfl, .ty _, .base (.int i), kit_ty (by decide +kernel), _, rfl, ?_⟩
  refine iteT ?_
  exact ⟨_, rfl, _, _, .type "int", .type "bool", false, rfl, .ty _, .base (.int i), kit_ty (by decide +kernel), _, rfl, q⟩
def spFrI : Sp := fun vs H Q _ => ∃ i : Int, vs = [.int i] ∧ ∀ H' : Hp, Same H H' → Q (.int i) H'
def spFrz (K : PySem.W.Frag) : Sp := fun vs H Q _ => ∃ (a : Addr) (is : List Int), vs = [.ref a] ∧ (SqL K H a (is.map V.int) ∨ SqT K H a (is.map V.int)) ∧ is.length ≤ 1000 ∧
  ∀ (p : Addr) (H' : Hp), Same H H' → H p = none → H' p = some (.tup (is.map V.int)) → Q (.ref p) H'
theorem scF : FnScope ["worth", "part"] ["worth"] (defScope sFrozen) := ⟨rfl, rfl, rfl, by decide +kernel, rfl, by decide +kernel, by decide +kernel⟩
theorem ok_frI (F : Fun K "frozen" "frozen" sFrozen f fd) (B : Bt mg) : FnOk P w K mg base CX0 1 f fd ["worth"] spFrI := by
  refine F.ok scF (fun vs H Q E h => ?_) (fun cdv A outer s H vs Q E hr h => ?_)
  · obtain ⟨i, rfl, _⟩ := h
    rfl
  obtain ⟨i, rfl, q⟩ := h
  refine ⟨_, pss_cons (ps_if (pt_val (pe_callB call_isiT (by rfl) B.isi (by decide +kernel) (pa_cons (pv 0) (pa_cons (pe_tup (pa_cons (pe_bltn (v := .ty "list") (by rfl) B.lst (by decide +kernel) rfl) (pa_cons (pe_bltn (v := .ty "tuple") (by rfl) B.tup (by decide +kernel) rfl) pa_nil))) pa_nil)))) (pss_one ps_never) pss_nil)
    (pss_one (ps_ret (pv 0))), ?_⟩
  refine ⟨_, rfl, (by show 2 ≤ sizeLine; decide), fun t ht => ?_⟩
  refine ⟨_, t, _, .type "int", [.type "list", .type "tuple"], false, rfl, upd_same, .cons (.ty _) (.cons (.ty _) .nil), .base (.int i), is_seq (by decide +kernel) (by decide +kernel), _, rfl, ?_⟩
  exact iteF ⟨_, rfl, q _ (same_new ht _)⟩
/-- the ints so far -/
def InvI (H0 : Hp) (D : Addr) (is : List Int) (i : Nat) (H : Hp) : Prop := H D = some (.lst ((is.take i).map V.int)) ∧ Same H0 H
theorem take_map_succ {is : List Int} {i : Nat} {x : V} (h : (is.map V.int)[i]? = some x) : ∃ n, x = .int n ∧ (is.take (i + 1)).map V.int = (is.take i).map V.int ++ [.int n] := by
  rw [List.getElem?_map] at h
  cases e : is[i]? with
  | none => rw [e] at h; cases h
  | some n =>
    rw [e] at h
    refine ⟨n, (Option.some.inj h).symm, ?_⟩
    rw [List.take_succ, e, List.map_append] <;> rfl
theorem ok_frz (F : Fun K "frozen" "frozen" sFrozen f fd) (bF : Binds K fd ["worth"] []) (mF : mg "frozen" = some (.ref f)) (B : Bt mg) : FnOk P w K mg base CX0 2 f fd ["worth"] (spFrz K) := by
  have G : FnOk P w K mg base CX0 1 f fd ["worth"] spFrI := ok_frI F B
  refine F.ok scF (fun vs H Q E h => ?_) (fun cdv A outer s H vs Q E hr h => ?_)
  · obtain ⟨a, is, rfl, _⟩ := h
    rfl
  obtain ⟨a, is, rfl, hS, hl, q⟩ := h
  have turn : ∀ {te : TE} {D : Addr}, H D = none → ∀ i x H', (is.map V.int)[i]? = some x → InvI H D is i H' → tCall spFrI [] E0 (tCons (tVar 1) tNil) [some (.ref a), some x] H' fun y H4 => ∃ acc, H4 D = some (.lst acc) ∧ acc.length < sizeLine ∧ InvI H D is (i + 1) (upd H4 D (.lst (acc ++ [y]))) := by
    rintro te D hD i x H' hx ⟨hd, g⟩
    obtain ⟨n, rfl, en⟩ := take_map_succ hx
    refine ⟨_, rfl, n, rfl, fun H2 g2 => ⟨_, g2 _ _ hd, ?_, by rw [upd_same, en], same_over (g.trans g2) hD _⟩⟩
    rw [List.length_map]
    exact small1000 (by rw [List.length_take]; omega)
  rcases hS with hS | hS
  · refine ⟨_, pss_cons (ps_if (pt_val (pe_callB call_isiT (by rfl) B.isi (by decide +kernel) (pa_cons (pv 0) (pa_cons (pe_tup (pa_cons (pe_bltn (v := .ty "list") (by rfl) B.lst (by decide +kernel) rfl) (pa_cons (pe_bltn (v := .ty "tuple") (by rfl) B.tup (by decide +kernel) rfl) pa_nil))) pa_nil))))
        (pss_one (ps_ret (pe_callTy call_tuple_of (by rfl) B.tup (by decide +kernel) (pa_cons (pe_lc (own := [("part", 1)]) (g := gName 1) (tt := tYes) rfl scF.nd (pi_list (pv 0)) (blkOk_by (N := ["worth", "part"]) (sc := defScope sFrozen) (by decide +kernel))
          (fun _ _ _ _ _ => pg_name (i := 1) scF.nd rfl (Or.inl rfl)) (fun _ _ _ _ _ => pts_nil) (fun _ _ _ _ _ => pe_call G hr rfl mF F.kp bF .nil pass0 (pa_cons (pv 1) pa_nil))) pa_nil)))) pss_nil)
      (pss_one (ps_ret (pv 0))), ?_⟩
    refine ⟨_, rfl, (by show 2 ≤ sizeLine; decide), fun t ht => ?_⟩
    have g1 : Same H (upd H t (.tup [.ty "list", .ty "tuple"])) := same_new ht _
    refine ⟨_, t, _, .type "list", [.type "list", .type "tuple"], true, rfl, upd_same, .cons (.ty _) (.cons (.ty _) .nil), tyL (g1.seq hS), is_seqL, _, rfl, ?_⟩
    refine iteT ?_
    refine ⟨_, rfl, a, rfl, ⟨_, g1.seq hS⟩, fun D hD => ?_⟩
    have hD0 : H D = none := g1.free hD
    refine lc_list (K := K) (a := a) (xs := is.map V.int) (InvI H D is) ⟨upd_same, same_over g1 hD0 _⟩ (fun i H' _ ⟨_, g⟩ => g.seq hS) (fun i x H' hx hi => ⟨rfl, kept (turn (te := fun _ _ _ => True) hD0 i x H' hx hi)⟩) ?_
    rintro H' ⟨hd, g⟩
    rw [List.length_map, List.take_length] at hd
    refine ⟨D, _, rfl, .inl ⟨SqL.of hd, fun l hl0 => ?_⟩⟩
    exact q l _ (g.trans (same_new hl0 _)) (g.free hl0) upd_same
  · refine ⟨_, pss_cons (ps_if (pt_val (pe_callB call_isiT (by rfl) B.isi (by decide +kernel) (pa_cons (pv 0) (pa_cons (pe_tup (pa_cons (pe_bltn (v := .ty "list") (by rfl) B.lst (by decide +kernel) rfl) (pa_cons (pe_bltn (v := .ty "tuple") (by rfl) B.tup (by decide +kernel) rfl) pa_nil))) pa_nil))))
        (pss_one (ps_ret (pe_callTy call_tuple_of (by rfl) B.tup (by decide +kernel) (pa_cons (pe_lc (own := [("part", 1)]) (g := gName 1) (tt := tYes) rfl scF.nd (pi_tup (pv 0)) (blkOk_by (N := ["worth", "part"]) (sc := defScope sFrozen) (by decide +kernel))
          (fun _ _ _ _ _ => pg_name (i := 1) scF.nd rfl (Or.inl rfl)) (fun _ _ _ _ _ => pts_nil) (fun _ _ _ _ _ => pe_call G hr rfl mF F.kp bF .nil pass0 (pa_cons (pv 1) pa_nil))) pa_nil)))) pss_nil)
      (pss_one (ps_ret (pv 0))), ?_⟩
    refine ⟨_, rfl, (by show 2 ≤ sizeLine; decide), fun t ht => ?_⟩
    have g1 : Same H (upd H t (.tup [.ty "list", .ty "tuple"])) := same_new ht _
    refine ⟨_, t, _, .type "tuple", [.type "list", .type "tuple"], true, rfl, upd_same, .cons (.ty _) (.cons (.ty _) .nil), tyT (seqT g1 hS), is_seq (by decide +kernel) (by decide +kernel), _, rfl, ?_⟩
    refine iteT ?_
    refine ⟨_, rfl, a, rfl, ⟨_, seqT g1 hS⟩, fun D hD => ?_⟩
    have hD0 : H D = none := g1.free hD
    refine lc_tup (K := K) (a := a) (xs := is.map V.int) (InvI H D is) ⟨upd_same, same_over g1 hD0 _⟩ (fun i H' _ ⟨_, g⟩ => seqT g hS) (fun i x H' hx hi => ⟨rfl, kept (turn (te := fun _ _ _ => True) hD0 i x H' hx hi)⟩) ?_
    rintro H' ⟨hd, g⟩
    rw [List.length_map, List.take_length] at hd
    refine ⟨D, _, rfl, .inl ⟨SqL.of hd, fun l hl0 => ?_⟩⟩
    exact q l _ (g.trans (same_new hl0 _)) (g.free hl0) upd_same
def spAxes (K : PySem.W.Frag) : Sp := fun vs H Q _ => ∃ (a : Addr) (is : List Int) (n : Nat), vs = [.ref a, .int n] ∧ SqT K H a (is.map V.int) ∧ is.length ≤ 1000 ∧ n ≤ 1000 ∧ ∀ H' : Hp, Same H H' → Q (.bl (axesOk is n)) H'
theorem scA : FnScope ["axes", "many", "axis"] ["axes", "many"] (defScope sAxes) := ⟨rfl, rfl, rfl, by decide +kernel, rfl, by decide +kernel, by decide +kernel⟩
theorem ok_axes {g : Addr} {gd : FuncData} (F : Fun K "are_axes" "are_axes" sAxes f fd) (G : FnOk P w K mg base CX0 1 g gd ["n"] spWhole) (bG : Binds K gd ["n"] []) (kG : PySem.W.keepIn K (.ref g) = true) (mG : mg "is_whole" = some (.ref g)) (B : Bt mg) :
    FnOk P w K mg base CX0 2 f fd ["axes", "many"] (spAxes K) := by
  refine F.ok scA (fun vs H Q E h => ?_) (fun cdv A outer s H vs Q E hr h => ?_)
  · obtain ⟨a, is, n, rfl, _⟩ := h
    rfl
  obtain ⟨a, is, n, rfl, hS, hl, hn, q⟩ := h
  refine ⟨_, pss_cons (ps_if (PW.pt (pw_or (pt_not (pt_val (pe_callB call_isi (by rfl) B.isi (by decide +kernel) (pa_cons (pv 0) (pa_cons (pe_bltn (v := .ty "tuple") (by rfl) B.tup (by decide +kernel) rfl) pa_nil)))))
        (pw_or1 (pt_cmpR op_ne (pe_callB call_len_seq (by rfl) B.len PySem.boot_len (pa_cons (pv 0) pa_nil)) (pv 1) (nomark _))))) (pss_one (ps_ret pe_bl)) pss_nil)
    (pss_cons (ps_if (pt_not (pt_val (pe_callB (cr_all rfl) (by rfl) B.all (by decide +kernel) (pa_cons (pe_lc (own := [("axis", 2)]) (g := gName 2) (tt := tYes) rfl scA.nd (pi_tup (pv 0)) (blkOk_by (N := ["axes", "many", "axis"]) (sc := defScope sAxes) (by decide +kernel))
        (fun _ _ _ _ _ => pg_name (i := 2) scA.nd rfl (Or.inl rfl)) (fun _ _ _ _ _ => pts_nil) (fun _ _ _ _ _ => pe_call G hr rfl mG kG bG .nil pass0 (pa_cons (pv 2) pa_nil))) pa_nil)))) (pss_one (ps_ret pe_bl)) pss_nil)
    (pss_one (ps_ret (pe_callB (cr_all rfl) (by rfl) B.all (by decide +kernel) (pa_cons (pe_lc (own := [("axis", 2)]) (g := gName 2) (tt := tYes) rfl scA.nd (pi_range1 (by rfl) B.range (pa_cons (pv 1) pa_nil)) (blkOk_by (N := ["axes", "many", "axis"]) (sc := defScope sAxes) (by decide +kernel))
        (fun _ _ _ _ _ => pg_name (i := 2) scA.nd rfl (Or.inl rfl)) (fun _ _ _ _ _ => pts_nil) (fun _ _ _ _ _ => pe_cmpR (r := rIn K false) op_in_seq (pv 2) (pv 0) (by rfl))) pa_nil))))), ?_⟩
  refine ⟨_, rfl, _, _, .type "tuple", .type "tuple", true, rfl, .ty _, tyT hS, kit_ty (by decide +kernel), _, rfl, ?_⟩
  refine iteF ?_
  refine ⟨_, rfl, a, _, rfl, .inr hS, _, rfl, rfl, _, rfl, ?_⟩
  refine ite2 (fun c => ?_) (fun c => ?_)
  · have e : axesOk is n = false := by
      rw [List.length_map] at c
      have c2 : ¬ is.length = n := fun e => by
        rw [e, decide_eq_true rfl] at c
        cases c
      unfold axesOk
      rw [decide_eq_false c2]
      rfl
    have z := q H (Same.refl H)
    rw [e] at z
    exact z
  · have e : is.length = n := by
      rw [List.length_map] at c
      by_cases z : is.length = n
      · exact z
      · exact absurd (by rw [decide_eq_false (fun y => z (by cases y; rfl))]; rfl) c
    refine ⟨_, rfl, a, rfl, ⟨_, hS⟩, fun D hD => ?_⟩
    refine lc_tup (K := K) (a := a) (xs := is.map V.int) (InvB H D fun _ => true) ⟨upd_same, same_new hD _⟩ (fun i H' _ ⟨_, g⟩ => seqT g hS) (fun i x H' hx hi => ⟨rfl, kept ?_⟩) ?_
    · obtain ⟨m, rfl, _⟩ := take_map_succ hx
      have hi2 : i < is.length := by
        have z := (List.getElem?_eq_some_iff.mp hx).1
        rwa [List.length_map] at z
      exact ⟨_, rfl, m, rfl, _, hi.1, len_b (by omega), hi.next hD⟩
    rintro H' ⟨hd, g⟩
    refine ⟨D, _, rfl, SqL.of hd, _, rfl, ?_⟩
    have ea : (((List.range (is.map V.int).length).map fun _ => true)).all id = true := by simp
    rw [ea]
    refine iteF ?_
    refine ⟨_, rfl, n, rfl, by omega, by omega, fun D2 hD2 => ?_⟩
    have hD20 : H D2 = none := g.free hD2
    refine lc_range (lo := 0) (n := n) (InvB H D2 fun j => decide ((j : Int) ∈ is)) ⟨upd_same, same_over g hD20 _⟩ (fun i H2 hi hv => ⟨rfl, kept ?_⟩) ?_
    · refine ⟨_, rfl, _, rfl, a, _, rfl, .inr (seqT hv.2 hS), rfl, flat_ints is, _, hv.1, len_b (by omega), ?_⟩
      have z := hv.next hD20
      rw [show inV (.int (0 + (i : Int))) (is.map V.int) = decide ((i : Int) ∈ is) by rw [Int.zero_add, inV_int]]
      exact z
    rintro H2 ⟨hd2, g2⟩
    refine ⟨D2, _, rfl, SqL.of hd2, ?_⟩
    have ez : axesOk is n = ((List.range n).map fun j : Nat => decide ((j : Int) ∈ is)).all id := by
      unfold axesOk
      rw [decide_eq_true e, Bool.true_and, List.all_map] <;> rfl
    rw [← ez]
    exact q _ g2
end
end Lw
namespace Lw
open PySem L2
abbrev sInit : Stmt := inClass (topS 45) 1
abbrev sText : Stmt := inClass (topS 45) 2
abbrev sRead : Stmt := inClass (topS 45) 3
def KINDS : List Str := ["dense", "packed", "bits", "hashed"]
def AWORDS : List Str := ["0", "1", "2"]
def valid (ks : List Str) (is : List Int) : Bool := decide (ks.length ≤ 3) && (ks.all (fun k => decide (k ∈ KINDS)) && axesOk is ks.length)
def iota (n : Nat) : List Int := (List.range n).map fun i : Nat => (i : Int)
theorem rg_iota (n : Nat) : rgV 0 (n : Int) = (iota n).map V.int := by
  unfold rgV iota
  rw [List.map_map, show ((n : Int) - 0).toNat = n by omega]
  refine List.map_congr_left fun i _ => ?_
  show V.int (0 + (i : Int)) = V.int (i : Int)
  rw [Int.zero_add]
theorem iota_len (n : Nat) : (iota n).length = n := by unfold iota; rw [List.length_map, List.length_range]
/-- the chain of a class over ValueError, behind its own ones -/
abbrev veB : List Value := [.type "ValueError", .type "Exception", .type "BaseException", .type "object"]
structure Fm (K : PySem.W.Frag) (mg : Str → Option Value) (C fI BF AW KD : Addr) (MC : Value) : Prop where
  cl : Cls K C
  nK : NoAttr K C "kinds"
  nA : NoAttr K C "axes"
  mkC : Mk K C fI
  mC : mg "Form" = some (.ref C)
  mB : mg "BadForm" = some (.ref BF)
  xB : PySem.W.excIn K BF veB "ValueError.__new__" = true
  kB : PySem.W.keepIn K (.ref BF) = true
  rB : PySem.W.subIn K (.ref BF) (.type "BaseException") = some true
  tB : PySem.W.typeIn K (.ref BF) = some (.type "type")
  most : ∃ t, mg "MOST_LEVELS" = some (.int 3 t)
  cr : ClX.CRead K C MC
  kd : ClX.CVal K C MC "KINDS" (.ref KD) (.ref KD)
  kdT : ∀ H : Hp, SqT K H KD (KINDS.map V.str)
  mAW : mg "AXIS_WORDS" = some (.ref AW)
  awT : ∀ H : Hp, SqT K H AW (AWORDS.map V.str)
theorem ka_ : ¬ (("kinds" : Str) = "axes") := by decide +kernel
theorem ak_ : ¬ (("axes" : Str) = "kinds") := by decide +kernel
def flds (tk ta : Addr) : List (Str × V) := putF "axes" (.ref ta) (putF "kinds" (.ref tk) [])
theorem flds_k (tk ta : Addr) : (flds tk ta).lookup ("kinds" : Str) = some (.ref tk) := by
  unfold flds
  rw [lookup_putF, if_neg ka_, lookup_putF, if_pos rfl]
theorem flds_a (tk ta : Addr) : (flds tk ta).lookup ("axes" : Str) = some (.ref ta) := by
  unfold flds
  rw [lookup_putF, if_pos rfl]
theorem fld1_k (tk : Addr) : (putF "kinds" (V.ref tk) []).lookup ("kinds" : Str) = some (.ref tk) := by
  rw [lookup_putF, if_pos rfl]
/-- what a comprehension without a test has made so far -/
def InvM {α : Type} (H0 : Hp) (D : Addr) (f : α → V) (l : List α) (i : Nat) (H : Hp) : Prop := H D = some (.lst ((l.take i).map f)) ∧ Same H0 H
theorem InvM.next {α : Type} {H0 H : Hp} {D : Addr} {f : α → V} {l : List α} {i : Nat} {a : α} (hd0 : H0 D = none) (hH : Same H0 H) (e : l[i]? = some a) (acc : List V) (ea : acc = (l.take i).map f) : InvM H0 D f l (i + 1) (upd H D (.lst (acc ++ [f a]))) :=
  ⟨by rw [upd_same, ea, List.take_succ, e, List.map_append] <;> rfl, same_over hH hd0 _⟩
theorem at_map {α : Type} {g : α → V} {l : List α} {i : Nat} {x : V} (h : (l.map g)[i]? = some x) : ∃ a, l[i]? = some a ∧ x = g a := by
  rw [List.getElem?_map] at h
  cases e : l[i]? with
  | none => rw [e] at h; cases h
  | some a =>
    rw [e] at h
    exact ⟨a, rfl, (Option.some.inj h).symm⟩
theorem len_m {α : Type} {f : α → V} {l : List α} {i : Nat} (h : l.length ≤ 1000) : ((l.take i).map f).length < sizeLine := by
  rw [List.length_map, List.length_take]
  exact small1000 (by omega)
def Kp (p : Addr) (H H' : Hp) : Prop := ∀ b o, b ≠ p → H b = some o → H' b = some o
theorem Kp.same {p : Addr} {H H1 H2 : Hp} (k : Kp p H H1) (g : Same H1 H2) : Kp p H H2 := fun b o n e => g _ _ (k b o n e)
theorem Kp.seq {K : PySem.W.Frag} {p a : Addr} {H H' : Hp} {xs : List V} {C dx : Addr} {fs : List (Str × V)} (k : Kp p H H') (hp : H p = some (.ins C dx fs)) (h : SqT K H a xs) : SqT K H' a xs := by
  rcases h with (h | ⟨o, h⟩) | h
  · exact .inl (.inl (k _ _ (fun e => by rw [e, hp] at h; cases h) h))
  · exact .inl (.inr ⟨o, k _ _ (fun e => by rw [e, hp] at h; cases h) h⟩)
  · exact .inr h
theorem Kp.seqL {K : PySem.W.Frag} {p a : Addr} {H H' : Hp} {xs : List V} {C dx : Addr} {fs : List (Str × V)} (k : Kp p H H') (hp : H p = some (.ins C dx fs)) (h : SqL K H a xs) : SqL K H' a xs := by
  rcases h with (h | ⟨o, h⟩) | h
  · exact .inl (.inl (k _ _ (fun e => by rw [e, hp] at h; cases h) h))
  · exact .inl (.inr ⟨o, k _ _ (fun e => by rw [e, hp] at h; cases h) h⟩)
  · exact .inr h
/-- the promise of Form.__init__ -/
def spInit (K : PySem.W.Frag) (C BF : Addr) : SpF := fun x vs kv H Q E => ∃ (p dx : Addr) (ks : List Str) (is : List Int), x = .ref p ∧ vs = ks.map V.str ∧ H p = some (.ins C dx []) ∧ ks.length ≤ 1000 ∧ is.length ≤ 1000 ∧
  ((kv = .non ∧ is = iota ks.length) ∨ ∃ a, kv = .ref a ∧ (SqL K H a (is.map V.int) ∨ SqT K H a (is.map V.int))) ∧
  (∀ (H' : Hp) (tk ta : Addr), valid ks is = true → Kp p H H' → H' p = some (.ins C dx (flds tk ta)) → SqT K H' tk (ks.map V.str) → SqT K H' ta (is.map V.int) → Q .non H') ∧
  (∀ H' : Hp, valid ks is = false → Kp p H H' → E (.ref BF) none H')
section
variable {P : Program} {w : World} {K : PySem.W.Frag} {mg : Str → Option Value} {base : Heap} {C fI BF AW KD gF gA : Addr} {MC : Value} {dF dA : FuncData}
theorem pe_kinds {X : Cx} {p pos : PySem.Pos} (hg : Gl X "Form") (hm : X.mg "Form" = some (.ref C)) : PE X (.Attribute (.Name "Form" p) "KINDS" pos) (ClX.tCVal X.K (tC (.ref C)) "KINDS") := ClX.pe_cval (pe_glob hg hm rfl)
abbrev namesI : List Str := ["self", "axes", "kinds", "kind"]
theorem scI : FnScope namesI ["self", "axes", "kinds"] (defScope sInit) := ⟨rfl, rfl, rfl, by decide +kernel, rfl, by decide +kernel, by decide +kernel⟩
theorem ok_init {oc cdv ct dc pm du : Value} {od an : Option Addr} {osl : Array (Option Value)} {D : Addr} (lk : K.lookup fI = some ⟨oc, od, .func (PySem.W.fnOf "__init__" "Form.__init__" (defArgs sInit) (defBody sInit) (defScope sInit) .none (.ref D) dc pm an cdv ct), osl⟩) (hcd : PySem.W.codeIn K cdv "Form.__init__" = true)
    (hD : PySem.W.nsIn K D "axes" = some (some .none)) (T : Fm K mg C fI BF AW KD MC) (B : Bt mg)
    (GF : FnOk P w K mg base CX0 2 gF dF ["worth"] (spFrz K)) (bF : Binds K dF ["worth"] []) (kF : PySem.W.keepIn K (.ref gF) = true) (mF : mg "frozen" = some (.ref gF))
    (GA : FnOk P w K mg base CX0 2 gA dA ["axes", "many"] (spAxes K)) (bA : Binds K dA ["axes", "many"] []) (kA : PySem.W.keepIn K (.ref gA) = true) (mA : mg "are_axes" = some (.ref gA)) :
    FnF P w K mg base (L2.CX P w) 3 fI "axes" .non (spInit K C BF) := by
  obtain ⟨tm, hmost⟩ := T.most
  refine fn_F (N := namesI) (p1 := "self") (kn := "axes") (pv := "kinds") lk hcd scI StX.cxUp hD rfl (fun x u us => ?_) (fun x us => ?_) (fun A outer s H x vs kv tk H0 Q E hr htk eH h => ?_)
  · cases us <;> rfl
  · cases us <;> exact ⟨_, _, _, _, _, _, rfl, rfl, rfl⟩
  obtain ⟨p, dx, ks, is, rfl, rfl, hp, hk, hi, hkv, q, qe⟩ := h
  subst eH
  refine ⟨_, C8.pss_cut (ps_if (pt_cmpR op_isN (pv 1) pe_non (nomark _)) (pss_one (ps_set (i := 1) scI.nd rfl (Or.inl rfl) (pe_listRg rfl (by rfl) B.lst (prg_1 (by rfl) B.range (pe_callB call_len_seq (by rfl) B.len PySem.boot_len (pa_cons (pv 2) pa_nil)))))) pss_nil)
    (pss_cons (ps_fld (pv 0) (pe_callTy call_tuple_of (by rfl) B.tup (by decide +kernel) (pa_cons (pv 2) pa_nil)) rfl)
    (pss_cons (ps_fld (pv 0) (pe_call GF hr rfl mF kF bF .nil pass0 (pa_cons (pv 1) pa_nil)) rfl)
    (pss_cons (ps_if (pt_cmpR op_gt (pe_callB call_len_seq (by rfl) B.len PySem.boot_len (pa_cons (pe_fld (pv 0) rfl) pa_nil)) (pe_glob (v := .int 3) (by rfl) hmost ⟨_, rfl⟩) (nomark _))
      (pss_one (ps_raise rfl (takes_of rfl rfl rfl rfl) (pmk_own0 PySem.F.excBase_ValueError T.xB T.mB T.kB (raises_own T.rB T.tB) (by rfl)))) pss_nil)
    (pss_cons (ps_if (pt_not (pt_val (pe_callB (cr_all rfl) (by rfl) B.all (by decide +kernel) (pa_cons (pe_lc (own := [("kind", 3)]) (g := gName 3) (tt := tYes) rfl scI.nd (pi_tup (pe_fld (pv 0) rfl)) (blkOk_by (N := namesI) (sc := defScope sInit) (by decide +kernel))
        (fun _ _ _ _ _ => pg_name (i := 3) scI.nd rfl (Or.inl rfl)) (fun _ _ _ _ _ => pts_nil) (fun _ _ _ _ _ => pe_cmpR (r := rIn K false) (tb := ClX.tCVal K (tC (.ref C)) "KINDS") op_in_seq (pv 3) (pe_kinds (by rfl) T.mC) (by rfl))) pa_nil))))
      (pss_one (ps_raise rfl (takes_of rfl rfl rfl rfl) (pmk_own0 PySem.F.excBase_ValueError T.xB T.mB T.kB (raises_own T.rB T.tB) (by rfl)))) pss_nil)
    (pss_one (ps_if (pt_not (pt_val (pe_call GA hr rfl mA kA bA .nil pass0 (pa_cons (pe_fld (pv 0) rfl) (pa_cons (pe_callB call_len_seq (by rfl) B.len PySem.boot_len (pa_cons (pe_fld (pv 0) rfl) pa_nil)) pa_nil)))))
      (pss_one (ps_raise rfl (takes_of rfl rfl rfl rfl) (pmk_own0 PySem.F.excBase_ValueError T.xB T.mB T.kB (raises_own T.rB T.tB) (by rfl)))) pss_nil)))))), ?_⟩
  have h0 : (upd H0 tk (.tup (ks.map V.str))) p = some (.ins C dx []) := by rw [upd_ne (ne_of_none hp htk)]; exact hp
  have ht : SqT K (upd H0 tk (.tup (ks.map V.str))) tk (ks.map V.str) := SqT.of upd_same
  have g0 : Same H0 (upd H0 tk (.tup (ks.map V.str))) := same_new htk _
  revert h0 ht g0
  generalize upd H0 tk (.tup (ks.map V.str)) = H1
  intro h0 ht g0
  refine ⟨fun σ' H' => ∃ a, σ' = [some (.ref p), some (.ref a), some (.ref tk), none] ∧ (SqL K H' a (is.map V.int) ∨ SqT K H' a (is.map V.int)) ∧ Same H1 H', ?_, ?_⟩
  · rcases hkv with ⟨rfl, rfl⟩ | ⟨a, rfl, hS⟩
    · refine ⟨_, rfl, rfl, _, rfl, iteC (decide_eq_true rfl) ?_⟩
      refine ⟨_, rfl, tk, _, rfl, .inr ht, _, rfl, RgOk.of_le (by decide) (by rw [List.length_map]; omega) (by decide) (by omega), fun q' hq' => ?_⟩
      refine ⟨q', rfl, .inl (SqL.of ?_), same_new hq' _⟩
      rw [upd_same, List.length_map, rg_iota]
    · refine ⟨_, rfl, rfl, _, rfl, iteN (decide_eq_false (by intro z; cases z)) ?_⟩
      exact ⟨a, rfl, hS.imp (fun z => g0.seq z) (fun z => seqT g0 z), Same.refl _⟩
  · rintro σ' H' ⟨a, rfl, hS, g1⟩
    have kp0 : Kp p H0 H' := fun b o _ e => g1 _ _ (g0 _ _ e)
    have hp1 := g1 _ _ h0
    have ht1 := seqT g1 ht
    refine ⟨_, rfl, tk, _, rfl, .inr ⟨ht1, _, rfl, p, C, dx, _, rfl, hp1, T.cl, T.nK, (by show 0 < 1000; decide), ?_⟩⟩
    have k1 : Kp p H' (upd H' p (.ins C dx (putF "kinds" (.ref tk) []))) := fun b o n e => by rw [upd_ne n]; exact e
    have hS1 := hS.imp (fun z => k1.seqL hp1 z) (fun z => k1.seq hp1 z)
    have ht2 := k1.seq hp1 ht1
    refine ⟨_, rfl, a, is, rfl, hS1, hi, fun ta H3 g3 n3 h3 => ?_⟩
    have hp3 := g3 _ _ (upd_same (H := H') (a := p) (o := .ins C dx (putF "kinds" (.ref tk) [])))
    have ht3 := seqT g3 ht2
    refine ⟨_, rfl, p, C, dx, _, rfl, hp3, T.cl, T.nA, (by show 1 < 1000; decide), ?_⟩
    have k3 : Kp p H3 (upd H3 p (.ins C dx (flds tk ta))) := fun b o n e => by rw [upd_ne n]; exact e
    have ht4 := k3.seq hp3 ht3
    have ha4 := k3.seq (K := K) hp3 (SqT.of h3)
    have hp4 : upd H3 p (.ins C dx (flds tk ta)) p = some (.ins C dx (flds tk ta)) := upd_same
    have kp4 : Kp p H0 (upd H3 p (.ins C dx (flds tk ta))) := fun b o n e => k3 b o n (g3 _ _ (k1 b o n (kp0 b o n e)))
    revert ht4 ha4 hp4 kp4
    show SqT K (upd H3 p (.ins C dx (flds tk ta))) tk (ks.map V.str) → SqT K (upd H3 p (.ins C dx (flds tk ta))) ta (is.map V.int) → upd H3 p (.ins C dx (flds tk ta)) p = some (.ins C dx (flds tk ta)) → Kp p H0 (upd H3 p (.ins C dx (flds tk ta))) → _
    intro ht4 ha4 hp4 kp4
    refine ⟨_, rfl, p, C, dx, _, _, rfl, hp4, T.cl, T.nK, flds_k _ _, tk, _, rfl, .inr ht4, _, _, rfl, rfl, _, rfl, ?_⟩
    refine ite2 (fun c => ?_) (fun c => ?_)
    · refine qe _ ?_ kp4
      have c2 : (3 : Int) < (((ks.map V.str).length : Nat) : Int) := of_decide_eq_true c
      rw [List.length_map] at c2
      unfold valid
      rw [decide_eq_false (by omega), Bool.false_and]
    have c2 : ¬ (3 : Int) < (((ks.map V.str).length : Nat) : Int) := of_decide_eq_false (Bool.eq_false_iff.mpr c)
    rw [List.length_map] at c2
    have e3 : decide (ks.length ≤ 3) = true := decide_eq_true (by omega)
    refine ⟨_, rfl, p, C, dx, _, _, rfl, hp4, T.cl, T.nK, flds_k _ _, tk, rfl, ⟨_, ht4⟩, fun D hD => ?_⟩
    refine lc_tup (K := K) (a := tk) (xs := ks.map V.str) (InvM _ D (fun k : Str => V.bl (decide (k ∈ KINDS))) ks) ⟨upd_same, same_new hD _⟩ (fun i H5 _ ⟨_, g⟩ => seqT g ht4) (fun i x H5 hx hv => ?_) ?_
    · obtain ⟨k, ek, rfl⟩ := at_map hx
      refine ⟨rfl, kept ?_⟩
      refine ⟨_, rfl, C, MC, _, _, rfl, T.cr, T.kd, KD, _, rfl, .inr (T.kdT _), rfl, flat_strs _, _, hv.1, len_m (by omega), ?_⟩
      have z := InvM.next (f := fun k : Str => V.bl (decide (k ∈ KINDS))) hD hv.2 ek _ rfl
      rw [show inV (.str k) (KINDS.map V.str) = decide (k ∈ KINDS) from inV_str k KINDS]
      exact z
    rintro H5 ⟨hd5, g5⟩
    rw [List.length_map, List.take_length] at hd5
    have kp5 := kp4.same g5
    have hp5 := g5 _ _ hp4
    refine ⟨D, ks.map (fun k : Str => decide (k ∈ KINDS)), rfl, SqL.of (by rw [hd5, List.map_map] <;> rfl), _, rfl, ?_⟩
    have eall : (ks.map (fun k : Str => decide (k ∈ KINDS))).all id = ks.all fun k => decide (k ∈ KINDS) := by rw [List.all_map] <;> rfl
    rw [eall]
    refine ite2 (fun c5 => ?_) (fun c5 => ?_)
    · refine qe _ ?_ kp5
      unfold valid
      rw [show (ks.all fun k => decide (k ∈ KINDS)) = false by simpa using c5, Bool.false_and, Bool.and_false]
    have e5 : (ks.all fun k => decide (k ∈ KINDS)) = true := by
      cases z : (ks.all fun k => decide (k ∈ KINDS)) with
      | true => rfl
      | false => exact absurd (by rw [z]; rfl) c5
    refine ⟨_, rfl, p, C, dx, _, _, rfl, hp5, T.cl, T.nA, flds_a _ _, _, rfl, p, C, dx, _, _, rfl, hp5, T.cl, T.nK, flds_k _ _, tk, _, rfl, .inr (seqT g5 ht4), ta, is, (ks.map V.str).length, rfl, seqT g5 ha4, hi, by rw [List.length_map]; exact hk, fun H6 g6 => ⟨_, rfl, ?_⟩⟩
    have kp6 := kp5.same g6
    have hp6 := g6 _ _ hp5
    rw [List.length_map]
    refine ite2 (fun c6 => ?_) (fun c6 => ?_)
    · refine qe _ ?_ kp6
      unfold valid
      rw [show axesOk is ks.length = false by simpa using c6, Bool.and_false, Bool.and_false]
    have e6 : axesOk is ks.length = true := by
      cases z : axesOk is ks.length with
      | true => rfl
      | false => exact absurd (by rw [z]; rfl) c6
    exact q _ tk ta (by unfold valid; rw [e3, e5, e6]; rfl) kp6 hp6 (seqT g6 (seqT g5 ht4)) (seqT g6 (seqT g5 ha4))
end
end Lw
namespace Lw
open PySem L2 TL
/-! cutting a text at a separator, and joining the parts -/
theorem spl_lens (S : List Nat) : ∀ (l : List Nat) (k : Nat) (acc : List Nat), (∀ p ∈ spl S k acc l, p.length ≤ acc.length + l.length) ∧ (spl S k acc l).length ≤ l.length + 1
  | [], k, acc => by
    rw [spl_nil]
    exact ⟨fun p hp => by rw [List.mem_singleton.mp hp]; exact Nat.le_add_right _ _, Nat.le_refl _⟩
  | c :: r, 0, acc => by
    cases h : pre S (c :: r) with
    | true =>
      rw [spl_hit h]
      obtain ⟨i1, i2⟩ := spl_lens S r (S.length - 1) []
      refine ⟨fun p hp => ?_, by rw [List.length_cons, List.length_cons]; omega⟩
      rcases List.mem_cons.mp hp with e | hp
      · rw [e]; exact Nat.le_add_right _ _
      · have z := i1 p hp
        rw [List.length_nil] at z
        rw [List.length_cons]
        omega
    | false =>
      rw [spl_miss h]
      obtain ⟨i1, i2⟩ := spl_lens S r 0 (acc ++ [c])
      refine ⟨fun p hp => ?_, by rw [List.length_cons]; omega⟩
      have z := i1 p hp
      rw [List.length_append, List.length_singleton] at z
      rw [List.length_cons]
      omega
  | c :: r, k + 1, acc => by
    obtain ⟨i1, i2⟩ := spl_lens S r k acc
    refine ⟨fun p hp => ?_, by rw [List.length_cons]; show (spl S k acc r).length ≤ _; omega⟩
    have z := i1 p hp
    rw [List.length_cons]
    omega
theorem spl_ne (S : List Nat) : ∀ (l : List Nat) (k : Nat) (acc : List Nat), spl S k acc l ≠ []
  | [], k, acc => by rw [spl_nil]; simp
  | c :: r, 0, acc => by
    cases h : pre S (c :: r) with
    | true => rw [spl_hit h]; simp
    | false => rw [spl_miss h]; exact spl_ne S r 0 _
  | c :: r, k + 1, acc => spl_ne S r k acc
theorem joinL_cons {S p : List Nat} : ∀ {l : List (List Nat)}, l ≠ [] → joinL S (p :: l) = p ++ (S ++ joinL S l)
  | [], h => absurd rfl h
  | q :: r, _ => rfl
theorem spl_back {S : List Nat} (hS : S ≠ []) : ∀ (n : Nat) (l : List Nat), l.length ≤ n → ∀ acc, joinL S (spl S 0 acc l) = acc ++ l
  | _, [], _, acc => by
    rw [spl_nil, List.append_nil] <;> rfl
  | 0, c :: r, h, acc => by simp at h
  | n + 1, c :: r, h, acc => by
    rw [List.length_cons] at h
    cases hp : pre S (c :: r) with
    | true =>
      rw [spl_hit hp, joinL_cons (spl_ne S r _ _), spl_pass, spl_back hS n _ (by rw [List.length_drop]; omega) [], List.nil_append]
      have e1 : (c :: r).take S.length = S := by
        unfold pre at hp
        exact eq_of_beq hp
      have e2 : (c :: r).drop S.length = r.drop (S.length - 1) := by
        cases S with
        | nil => exact absurd rfl hS
        | cons a S' => rfl
      rw [← e2]
      have e3 := List.take_append_drop S.length (c :: r)
      rw [e1] at e3
      rw [e3]
    | false =>
      rw [spl_miss hp, spl_back hS n r (by omega), List.append_assoc] <;> rfl
theorem split_back (z y : Str) (hy : tl y ≠ []) (hk : y.cps.all (· < 256) = true) : Txt.join y (Txt.split z y) = z := by
  refine ext_tl ?_
  rw [join_eq, tl_join, split_spl z y hy (kind_ok hk), spl_back hy _ _ (Nat.le_refl _), List.nil_append]
theorem split_lens (z y : Str) (hy : tl y ≠ []) (hk : y.cps.all (· < 256) = true) : (∀ p ∈ Txt.split z y, p.length ≤ z.length) ∧ (Txt.split z y).length ≤ z.length + 1 := by
  have e := split_spl z y hy (kind_ok hk)
  obtain ⟨i1, i2⟩ := spl_lens (tl y) (tl z) 0 []
  rw [← e] at i1 i2
  refine ⟨fun p hp => ?_, ?_⟩
  · have q := i1 (tl p) (List.mem_map_of_mem hp)
    rw [List.length_nil, Nat.zero_add] at q
    rw [len_tl, len_tl]
    exact q
  · rw [List.length_map] at i2
    rw [len_tl]
    exact i2
/-! forms as texts -/
def aval (a : Str) : Int := if a = "0" then 0 else if a = "1" then 1 else 2
/-- one level of a text -/
def lvl (p : Str) : Option (Str × Int) := match Txt.split p " " with
  | [k, a] => if a ∈ AWORDS then some (k, aval a) else none
  | _ => none
def lks (ps : List Str) : List Str := (ps.filterMap lvl).map (·.1)
def lis (ps : List Str) : List Int := (ps.filterMap lvl).map (·.2)
/-- what Form.read makes of a text -/
def rd (z : Str) : Option (List Str × List Int) :=
  if z = "-" then some ([], []) else if ((Txt.split z ", ").all fun p => (lvl p).isSome) = true ∧ valid (lks (Txt.split z ", ")) (lis (Txt.split z ", ")) = true then some (lks (Txt.split z ", "), lis (Txt.split z ", ")) else none
def itm (k : Str) (i : Int) : Str := Str.empty ++ k ++ " " ++ ((toString i : String) : Str)
def ftext (ks : List Str) (is : List Int) : Str := if ks.length = 0 then "-" else Txt.join ", " ((ks.zip is).map fun p => itm p.1 p.2)
theorem small_itm : ∀ k ∈ KINDS, ∀ i ∈ ([0, 1, 2] : List Int), (Str.empty ++ k).length ≤ 20 ∧ (Str.empty ++ k ++ " ").length ≤ 20 ∧ (itm k i).length ≤ 20 ∧ k.length ≤ 20 ∧ i.natAbs.log2 < 1920 := by decide +kernel
theorem axes_small {is : List Int} {n : Nat} (h : axesOk is n = true) (hn : n ≤ 3) : is.length = n ∧ ∀ i ∈ is, i ∈ ([0, 1, 2] : List Int) := by
  unfold axesOk at h
  rw [Bool.and_eq_true] at h
  obtain ⟨h1, h2⟩ := h
  have e1 : is.length = n := of_decide_eq_true h1
  refine ⟨e1, ?_⟩
  rw [List.all_eq_true] at h2
  have m : ∀ j, j < n → ((j : Nat) : Int) ∈ is := fun j hj => of_decide_eq_true (h2 j (List.mem_range.mpr hj))
  match n, is, e1, hn, m with
  | 0, [], _, _, _ => intro i hi; cases hi
  | 1, [a], _, _, m =>
    have m0 := m 0 (by omega)
    simp at m0
    intro i hi
    simp at hi
    simp [hi, ← m0]
  | 2, [a, b], _, _, m =>
    have m0 := m 0 (by omega)
    have m1 := m 1 (by omega)
    simp at m0 m1
    intro i hi
    simp at hi ⊢
    omega
  | 3, [a, b, c], _, _, m =>
    have m0 := m 0 (by omega)
    have m1 := m 1 (by omega)
    have m2 := m 2 (by omega)
    simp at m0 m1 m2
    intro i hi
    simp at hi ⊢
    omega
  | n + 4, _, _, hn, _ => omega
theorem valid_parts {ks : List Str} {is : List Int} (h : valid ks is = true) : ks.length ≤ 3 ∧ (∀ k ∈ ks, k ∈ KINDS) ∧ is.length = ks.length ∧ ∀ i ∈ is, i ∈ ([0, 1, 2] : List Int) := by
  unfold valid at h
  rw [Bool.and_eq_true, Bool.and_eq_true] at h
  obtain ⟨h1, h2, h3⟩ := h
  have e1 : ks.length ≤ 3 := of_decide_eq_true h1
  rw [List.all_eq_true] at h2
  obtain ⟨h4, h5⟩ := axes_small h3 e1
  exact ⟨e1, fun k hk => of_decide_eq_true (h2 k hk), h4, h5⟩
theorem sum_le : ∀ {ys : List Str}, (∀ y ∈ ys, y.length ≤ 20) → (ys.map (·.length)).sum ≤ 20 * ys.length
  | [], _ => by simp
  | y :: r, h => by
    have q := sum_le (ys := r) fun y hy => h y (List.mem_cons_of_mem _ hy)
    have z := h y (List.mem_cons_self ..)
    rw [List.map_cons, List.sum_cons, List.length_cons]
    omega
end Lw
namespace Lw
open PySem L2
/-- a form stands at p -/
def FormAt (K : PySem.W.Frag) (C p : Addr) (ks : List Str) (is : List Int) (H : Hp) : Prop := ∃ dx tk ta : Addr, H p = some (.ins C dx (flds tk ta)) ∧ SqT K H tk (ks.map V.str) ∧ SqT K H ta (is.map V.int)
theorem FormAt.same {K : PySem.W.Frag} {C p : Addr} {ks : List Str} {is : List Int} {H H' : Hp} (g : Same H H') : FormAt K C p ks is H → FormAt K C p ks is H'
  | ⟨dx, tk, ta, h1, h2, h3⟩ => ⟨dx, tk, ta, g _ _ h1, seqT g h2, seqT g h3⟩
def spText (K : PySem.W.Frag) (C : Addr) : Sp := fun vs H Q _ => ∃ (p : Addr) (ks : List Str) (is : List Int), vs = [.ref p] ∧ FormAt K C p ks is H ∧ valid ks is = true ∧ ∀ H' : Hp, Same H H' → Q (.str (ftext ks is)) H'
def spRead (K : PySem.W.Frag) (C BF : Addr) : Sp := fun vs H Q E => ∃ z : Str, vs = [.ref C, .str z] ∧ z.length ≤ 900 ∧ (∀ (ks : List Str) (is : List Int), rd z = some (ks, is) → ∀ (p : Addr) (H' : Hp), Same H H' → FormAt K C p ks is H' → Q (.ref p) H') ∧ (rd z = none → ∀ H' : Hp, Same H H' → E (.ref BF) none H')
section
variable {P : Program} {w : World} {K : PySem.W.Frag} {mg : Str → Option Value} {base : Heap} {C fI BF AW KD f : Addr} {MC : Value} {fd : FuncData}
theorem scX : FnScope ["self", "kind", "axis"] ["self"] (defScope sText) := ⟨rfl, rfl, rfl, by decide +kernel, rfl, by decide +kernel, by decide +kernel⟩
theorem ok_text (F : Fun K "text" "Form.text" sText f fd) (T : Fm K mg C fI BF AW KD MC) (B : Bt mg) : FnOk P w K mg base CX0 1 f fd ["self"] (spText K C) := by
  refine F.ok scX (fun vs H Q E h => ?_) (fun cdv A outer s H vs Q E hr h => ?_)
  · obtain ⟨p, ks, is, rfl, _⟩ := h
    rfl
  obtain ⟨p, ks, is, rfl, ⟨dx, tk, ta, hp, ht, ha⟩, hv, q⟩ := h
  obtain ⟨v1, v2, v3, v4⟩ := valid_parts hv
  refine ⟨_, pss_cons (ps_if (pt_cmpR op_eq (pe_callB call_len_seq (by rfl) B.len PySem.boot_len (pa_cons (pe_fld (pv 0) rfl) pa_nil)) pe_int (nomark _)) (pss_one (ps_ret pe_str)) pss_nil)
    (pss_one (ps_ret (pe_join pe_str (pe_lc (own := [("kind", 1), ("axis", 2)]) (g := gTup K 2 (gCons (gName 1) (gCons (gName 2) gNil))) (tt := tYes) rfl scX.nd (RZ.pi_zipA (by rfl) B.zip (pa_cons (pe_fld (pv 0) rfl) (pa_cons (pe_fld (pv 0) rfl) pa_nil))) (blkOk_by (N := ["self", "kind", "axis"]) (sc := defScope sText) (by decide +kernel))
      (fun _ _ _ _ _ => pg_tup rfl (pgs_cons (pg_name (i := 1) scX.nd rfl (Or.inl rfl)) (pgs_cons (pg_name (i := 2) scX.nd rfl (Or.inl rfl)) pgs_nil))) (fun _ _ _ _ _ => pts_nil)
      (fun _ _ _ _ _ => pe_joined (.cons (pe_fmt (pv 1)) (.cons pe_str (.cons (pe_fmt (pv 2)) .nil)))))))), ?_⟩
  refine ⟨_, rfl, p, C, dx, _, _, rfl, hp, T.cl, T.nK, flds_k _ _, tk, _, rfl, .inr ht, rfl, _, rfl, ?_⟩
  refine ite2 (fun c => ?_) (fun c => ?_)
  · have e : ks.length = 0 := by
      have z := of_decide_eq_true c
      rw [List.length_map] at z
      simpa using z
    have z := q H (Same.refl H)
    unfold ftext at z
    rw [if_pos e] at z
    exact z
  · have e : ¬ ks.length = 0 := fun e => c (by rw [List.length_map, e]; rfl)
    refine ⟨⟨_, rfl⟩, _, rfl, p, C, dx, _, _, rfl, hp, T.cl, T.nK, flds_k _ _, _, rfl, p, C, dx, _, _, rfl, hp, T.cl, T.nA, flds_a _ _, tk, ta, _, _, rfl, .inr ⟨ht, ha, fun D hD => ?_⟩⟩
    have elen : (ks.map V.str).length = (is.map V.int).length := by rw [List.length_map, List.length_map, v3]
    refine lc_it (te := fun σ H Q => tJs [tFmt (tVar 1), tC (.str " "), tFmt (tVar 2)] Str.empty σ H fun out H1 => Q (.str out) H1) (walk_zipT (K := K) (a := tk) (b := ta) elen) (InvM H D (fun p : Str × Int => V.str (itm p.1 p.2)) (ks.zip is)) ⟨upd_same, same_new hD _⟩ (fun i H' _ ⟨_, g⟩ => ⟨seqT g ht, seqT g ha⟩) ?_ ?_
    · rintro i v H' H'' hi ⟨hd, g⟩ ⟨U, x, y, rfl, hU, rfl, ex, ey⟩
      obtain ⟨k, ek, rfl⟩ := at_map ex
      obtain ⟨j, ej, rfl⟩ := at_map ey
      obtain ⟨l1, l2, l3, l4, l5⟩ := small_itm k (v2 k (List.mem_of_getElem? ek)) j (v4 j (List.mem_of_getElem? ej))
      have gU : Same H' (upd H' U (.tup [.str k, .int j])) := same_new hU _
      have sz : ∀ {n : Nat}, n ≤ 20 → n ≤ sizeLine := fun h => Nat.le_of_lt (small1000 (by omega))
      refine ⟨U, [.str k, .int j], rfl, SqT.of upd_same, rfl, _, _, rfl, _, _, rfl, rfl, ?_⟩
      refine ⟨rfl, kept ?_⟩
      refine ⟨_, rfl, .inl ⟨k, rfl, sz l4, k, rfl, sz l1, " ", rfl, sz l2, _, rfl, .inr ⟨j, rfl, l5, _, rfl, sz l3, ?_⟩⟩⟩
      have ez : (ks.zip is)[i]? = some (k, j) := List.getElem?_zip_eq_some.mpr ⟨ek, ej⟩
      exact ⟨_, gU _ _ hd, len_m (by rw [List.length_zip]; omega), InvM.next (f := fun p : Str × Int => V.str (itm p.1 p.2)) hD (g.trans gU) ez _ rfl⟩
    · rintro H' ⟨hd, g⟩
      have el : ((ks.zip is).take (ks.map V.str).length) = ks.zip is := List.take_of_length_le (by rw [List.length_zip, List.length_map]; omega)
      rw [el] at hd
      refine ⟨_, D, (ks.zip is).map (fun p => itm p.1 p.2), rfl, rfl, .inl (SqL.of (by rw [hd, List.map_map] <;> rfl)), ?_, ?_⟩
      · have z := sum_le (ys := (ks.zip is).map (fun p => itm p.1 p.2)) fun y hy => by
          obtain ⟨⟨k, j⟩, hm, rfl⟩ := List.mem_map.mp hy
          obtain ⟨m1, m2⟩ := List.of_mem_zip hm
          exact (small_itm k (v2 k m1) j (v4 j m2)).2.2.1
        have z2 : ((ks.zip is).map (fun p => itm p.1 p.2)).length ≤ 3 := by rw [List.length_map, List.length_zip]; omega
        have z3 : ((ks.zip is).map (fun p => itm p.1 p.2)).length * Str.length ", " ≤ 3 * 2 := Nat.mul_le_mul z2 (by decide)
        omega
      · have z := q H' g
        unfold ftext at z
        rw [if_neg e] at z
        exact z
end
end Lw
namespace Lw
open PySem L2
theorem fnR_of {P : Program} {w : World} {K : PySem.W.Frag} {mg : Str → Option Value} {base : Heap} {CX : CXT} {k : Nat} {f : Addr} {fd : FuncData} {ps : List Str} {sp : Sp} (F : FnOk P w K mg base CX k f fd ps sp) (hb : Binds K fd ps []) : FnR P w K mg base CX k f sp := by
  intro A outer s H us vs Q E hr e0 r hsp
  have KX : K.In s.heap := e0.mod.kin.keeps fun b o e => (e0.bs b o e).1
  have hl : us.length = ps.length := by rw [← r.length]; exact F.len _ _ _ _ hsp
  have hb2 := hb s us KX (by rw [List.append_nil]; exact hl)
  rw [List.append_nil] at hb2
  exact F.run A outer s H ⟨us, []⟩ us vs Q E hr e0 hb2 r hsp
theorem lvl_two {p k a : Str} (h : Txt.split p " " = [k, a]) : lvl p = if a ∈ AWORDS then some (k, aval a) else none := by
  unfold lvl
  rw [h]
theorem lvl_not {p : Str} (h : (Txt.split p " ").length ≠ 2) : lvl p = none := by
  unfold lvl
  split
  · rename_i k a e
    rw [e] at h
    exact absurd rfl h
  · rfl
theorem int_word {a : Str} (h : a ∈ AWORDS) : PySem.intText? a = some (aval a) ∧ a.length ≤ 640 := by
  have z : ∀ a ∈ AWORDS, PySem.intText? a = some (aval a) ∧ a.length ≤ 640 := by decide +kernel
  exact z a h
theorem rd_none {z p : Str} (hz : z ≠ "-") (hp : p ∈ Txt.split z ", ") (h : lvl p = none) : rd z = none := by
  unfold rd
  rw [if_neg hz, if_neg]
  rintro ⟨h1, _⟩
  rw [List.all_eq_true] at h1
  have q := h1 p hp
  rw [h] at q
  cases q
section
variable {P : Program} {w : World} {K : PySem.W.Frag} {mg : Str → Option Value} {base : Heap} {C fI BF AW KD f : Addr} {MC : Value} {fd : FuncData}
abbrev namesR : List Str := ["cls", "text", "kinds", "axes", "level", "words"]
theorem scR : FnScope namesR ["cls", "text"] (defScope sRead) := ⟨rfl, rfl, rfl, by decide +kernel, rfl, by decide +kernel, by decide +kernel⟩
/-- between the turns -/
def InvR (K : PySem.W.Frag) (H0 : Hp) (C L k a : Addr) (z : Str) (i : Nat) (σ : St) (H : Hp) : Prop := ∃ u4 u5 : Option V, σ = [some (.ref C), some (.str z), some (.ref k), some (.ref a), u4, u5] ∧ Same H0 H ∧ H L = some (.lst ((Txt.split z ", ").map V.str)) ∧
  H k = some (.lst ((lks ((Txt.split z ", ").take i)).map V.str)) ∧ H a = some (.lst ((lis ((Txt.split z ", ").take i)).map V.int)) ∧ (∀ p ∈ (Txt.split z ", ").take i, (lvl p).isSome = true) ∧ (lks ((Txt.split z ", ").take i)).length ≤ i ∧ (lis ((Txt.split z ", ").take i)).length ≤ i
/-- Form(..): from the promise of its __init__ to the new form -/
theorem mk_form {H : Hp} {Q : VK} {E : XK} {ks : List Str} {is : List Int} {kv : V} (hk : ks.length ≤ 1000) (hi : is.length ≤ 1000) (hkv : (kv = .non ∧ is = iota ks.length) ∨ ∃ a, kv = .ref a ∧ (SqL K H a (is.map V.int) ∨ SqT K H a (is.map V.int)))
    (h1 : valid ks is = true → ∀ (p : Addr) (H' : Hp), Same H H' → FormAt K C p ks is H' → Q (.ref p) H') (h2 : valid ks is = false → ∀ H' : Hp, Same H H' → E (.ref BF) none H') : mkF C (spInit K C BF) E (ks.map V.str) kv H Q := by
  intro x dx nx ndx ne
  have g : Same H (upd (upd H dx (.own x)) x (.ins C dx [])) := fun b o e => by rw [upd_ne (ne_of_none e nx), upd_ne (ne_of_none e ndx)]; exact e
  have sm : ∀ {H' : Hp}, Kp x (upd (upd H dx (.own x)) x (.ins C dx [])) H' → Same H H' := fun kp b o e => kp b o (ne_of_none e nx) (g _ _ e)
  refine ⟨x, dx, ks, is, rfl, rfl, upd_same, hk, hi, ?_, fun H' tk ta hv kp hp ht ha => ⟨rfl, h1 hv x H' (sm kp) ⟨dx, tk, ta, hp, ht, ha⟩⟩, fun H' hv kp => h2 hv H' (sm kp)⟩
  rcases hkv with z | ⟨a, e, z⟩
  · exact .inl z
  · exact .inr ⟨a, e, z.imp (fun q => g.seq q) (fun q => seqT g q)⟩
theorem ok_read (F : Fun K "read" "Form.read" sRead f fd) (T : Fm K mg C fI BF AW KD MC) (B : Bt mg) (FI : FnF P w K mg base (L2.CX P w) 3 fI "axes" .non (spInit K C BF)) : FnOk P w K mg base (L2.CX P w) 5 f fd ["cls", "text"] (spRead K C BF) := by
  refine F.okX scR (fun vs H Q E h => ?_) (fun cdv A outer s H vs Q E hr h => ?_)
  · obtain ⟨z, rfl, _⟩ := h
    rfl
  obtain ⟨z, rfl, hz, q, qe⟩ := h
  obtain ⟨pl, pn⟩ := split_lens z ", " (by decide +kernel) (by decide +kernel)
  refine ⟨_, pss_cons (ps_if (pt_cmpR op_eq (pv 1) pe_str (nomark _)) (pss_one (ps_ret (pe_F0 T.mkC FI hr (by rfl) T.mC (passes_call (takes_of rfl rfl rfl rfl) (fun _ _ _ _ h => h))))) pss_nil)
    (pss_cons (ps_set (i := 2) scR.nd rfl (Or.inl rfl) (pe_lst pa_nil))
    (pss_cons (ps_set (i := 3) scR.nd rfl (Or.inl rfl) (pe_lst pa_nil))
    (pss_cons (ps_for (passes_of rfl) rfl (pi_list (pe_split (pv 1) pe_str)) (pg_name (i := 4) scR.nd rfl (Or.inl rfl))
      (pss_cons (ps_set (i := 5) scR.nd rfl (Or.inl rfl) (pe_split (pv 4) pe_str))
      (pss_cons (ps_if (PW.pt (pw_or (pt_cmpR op_ne (pe_callB call_len_seq (by rfl) B.len PySem.boot_len (pa_cons (pv 5) pa_nil)) pe_int (nomark _)) (pw_or1 (pt_cmpR op_notIn_seq (pe_ix ix_list (pv 5) pe_int (fun _ _ => rfl)) (pe_glob (v := .ref AW) (by rfl) T.mAW rfl) (by rfl)))))
        (pss_one (ps_raise rfl (takes_of rfl rfl rfl rfl) (pmk_own0 PySem.F.excBase_ValueError T.xB T.mB T.kB (raises_own T.rB T.tB) (by rfl)))) pss_nil)
      (pss_cons (ps_expr (pe_bm PySem.F.plainAttrs_list PySem.F.slot_list_append PySem.F.type_list_append mt_append (pv 2) (pa_cons (pe_ix ix_list (pv 5) pe_int (fun _ _ => rfl)) pa_nil)))
      (pss_one (ps_expr (pe_bm PySem.F.plainAttrs_list PySem.F.slot_list_append PySem.F.type_list_append mt_append (pv 3) (pa_cons (pe_callTy call_int_str (by rfl) B.int (by decide +kernel) (pa_cons (pe_ix ix_list (pv 5) pe_int (fun _ _ => rfl)) pa_nil)) pa_nil))))))))
    (pss_one (ps_ret (pe_Fsk T.mkC FI hr (by rfl) T.mC (passes_call (takes_of rfl rfl rfl rfl) (fun _ _ _ _ h => h)) (pv 2) (pv 3))))))), ?_⟩
  refine ⟨_, rfl, rfl, _, rfl, ?_⟩
  refine ite2 (fun c => ?_) (fun c => ?_)
  · have ez : z = "-" := by
      have y := of_decide_eq_true c
      cases y
      rfl
    have er : rd z = some ([], []) := by
      unfold rd
      rw [if_pos ez]
    exact mk_form (ks := []) (is := []) (Nat.zero_le _) (Nat.zero_le _) (.inl ⟨rfl, rfl⟩) (fun _ p H' g h => q _ _ er p H' g h) (fun hv => by cases hv)
  · have nz : z ≠ "-" := fun e => c (by rw [e]; exact decide_eq_true rfl)
    refine ⟨Nat.zero_le _, fun k hk0 => ⟨Nat.zero_le _, fun a ha0 => ?_⟩⟩
    have gk := same_new hk0 (.lst [])
    have ga := same_new ha0 (.lst [])
    have hkH : H k = none := hk0
    have haH : H a = none := gk.free ha0
    have sz : ∀ {n : Nat}, n ≤ 1010 → n ≤ sizeLine := fun h => Nat.le_trans h (by decide)
    refine ⟨_, rfl, ⟨_, rfl⟩, _, _, rfl, rfl, rfl, sz (by omega), fun L hL => ?_⟩
    have gL := same_new hL (.lst ((Txt.split z ", ").map V.str))
    have hLH : H L = none := gk.free (ga.free hL)
    have k0 := gL _ _ (ga _ _ (upd_same (H := H) (a := k) (o := .lst [])))
    have a0 := gL _ _ (upd_same (H := upd H k (.lst [])) (a := a) (o := .lst []))
    have nak : a ≠ k := (ne_of_none (upd_same (H := H) (a := k) (o := .lst [])) ha0).symm
    have nLk : L ≠ k := (ne_of_none (ga _ _ (upd_same (H := H) (a := k) (o := .lst []))) hL).symm
    have nLa : L ≠ a := (ne_of_none (upd_same (H := upd H k (.lst [])) (a := a) (o := .lst [])) hL).symm
    refine ⟨L, rfl, ⟨_, SqL.of upd_same⟩, for_list (K := K) (a := L) (xs := (Txt.split z ", ").map V.str) (InvR K H C L k a z)
      ⟨none, none, rfl, gk.trans (ga.trans gL), upd_same, k0, a0, fun p hp => by simp at hp, Nat.le_refl _, Nat.le_refl _⟩ (fun i σ H' _ ⟨_, _, _, _, hl, _⟩ => SqL.of hl) ?_ ?_⟩
    · rintro i y σ H' hi ⟨u4, u5, rfl, g, hl, hk, ha, hp, n1, n2⟩
      obtain ⟨p, ep, rfl⟩ := at_map hi
      have hi2 : i < (Txt.split z ", ").length := (List.getElem?_eq_some_iff.mp ep).1
      have hpm : p ∈ Txt.split z ", " := List.mem_of_getElem? ep
      have plen := pl p hpm
      have gW : ∀ {W : Addr}, H' W = none → Same H' (upd H' W (.lst ((Txt.split p " ").map V.str))) := fun h => same_new h _
      refine ⟨_, rfl, ⟨_, rfl⟩, _, _, rfl, rfl, rfl, sz (by omega), fun W hW => ?_⟩
      refine ⟨_, rfl, W, _, rfl, .inl (SqL.of upd_same), rfl, _, rfl, ?_⟩
      by_cases hl2 : (Txt.split p " ").length = 2
      · refine iteN (by rw [List.length_map, hl2]; rfl) ?_
        obtain ⟨kw, aw, ew⟩ : ∃ kw aw, Txt.split p " " = [kw, aw] := by
          match hh : Txt.split p " ", hl2 with
          | [x, y], _ => exact ⟨x, y, rfl⟩
        have eW : upd H' W (.lst ((Txt.split p " ").map V.str)) W = some (.lst [.str kw, .str aw]) := by rw [upd_same, ew] <;> rfl
        refine ⟨_, rfl, W, _, _, _, rfl, rfl, SqL.of eW, rfl, AW, _, rfl, .inr (T.awT _), rfl, flat_strs _, _, rfl, ?_⟩
        rw [show inV (.str aw) (AWORDS.map V.str) = decide (aw ∈ AWORDS) from inV_str aw AWORDS]
        by_cases haw : aw ∈ AWORDS
        · have ev : lvl p = some (kw, aval aw) := by rw [lvl_two ew, if_pos haw]
          obtain ⟨w1, w2⟩ := int_word haw
          refine iteN (by rw [decide_eq_true haw]; rfl) ?_
          have et : (Txt.split z ", ").take (i + 1) = (Txt.split z ", ").take i ++ [p] := by rw [List.take_succ, ep]; rfl
          have ek : lks ((Txt.split z ", ").take (i + 1)) = lks ((Txt.split z ", ").take i) ++ [kw] := by
            unfold lks
            rw [et, List.filterMap_append, List.map_append]
            show _ ++ (List.filterMap lvl [p]).map _ = _
            rw [List.filterMap_cons_some ev] <;> rfl
          have ei : lis ((Txt.split z ", ").take (i + 1)) = lis ((Txt.split z ", ").take i) ++ [aval aw] := by
            unfold lis
            rw [et, List.filterMap_append, List.map_append]
            show _ ++ (List.filterMap lvl [p]).map _ = _
            rw [List.filterMap_cons_some ev] <;> rfl
          have nWk : W ≠ k := (ne_of_none hk hW).symm
          have nWa : W ≠ a := (ne_of_none ha hW).symm
          have hk2 := gW hW _ _ hk
          have ha2 := gW hW _ _ ha
          refine ⟨_, rfl, .inl ⟨rfl, _, SqL.of hk2⟩, _, rfl, W, _, _, _, rfl, rfl, SqL.of eW, rfl, k, _, _, rfl, rfl, hk2, by rw [List.length_map]; exact small1000 (by omega), ?_⟩
          have ha3 := (upd_ne (o := .lst ((lks ((Txt.split z ", ").take i)).map V.str ++ [.str kw])) nak).trans ha2
          have eW3 := (upd_ne (o := .lst ((lks ((Txt.split z ", ").take i)).map V.str ++ [.str kw])) nWk).trans eW
          refine ⟨_, rfl, .inl ⟨rfl, _, SqL.of ha3⟩, _, rfl, W, _, _, _, rfl, rfl, SqL.of eW3, rfl, aw, _, rfl, w1, w2, a, _, _, rfl, rfl, ha3, by rw [List.length_map]; exact small1000 (by omega), ?_⟩
          refine ⟨_, _, rfl, same_over (same_over (g.trans (gW hW)) hkH _) haH _, ?_, ?_, ?_, fun q' hq' => ?_, by rw [ek, List.length_append, List.length_singleton]; omega, by rw [ei, List.length_append, List.length_singleton]; omega⟩
          · rw [upd_ne nLa, upd_ne nLk]
            exact gW hW _ _ hl
          · rw [upd_ne nak.symm, upd_same, ek, List.map_append] <;> rfl
          · rw [upd_same, ei, List.map_append] <;> rfl
          · rw [et] at hq'
            rcases List.mem_append.mp hq' with h | h
            · exact hp q' h
            · rw [List.mem_singleton.mp h, ev] <;> rfl
        · refine iteC (by rw [decide_eq_false haw]; rfl) ?_
          exact qe (rd_none nz hpm (by rw [lvl_two ew, if_neg haw])) _ (g.trans (gW hW))
      · refine iteC (by rw [List.length_map]; exact by rw [decide_eq_false (fun e => hl2 (by injection e with e; omega))]; rfl) ?_
        refine iteC rfl ?_
        exact qe (rd_none nz hpm (lvl_not hl2)) _ (g.trans (gW hW))
    · rintro σ H' ⟨u4, u5, rfl, g, hl, hk, ha, hp, n1, n2⟩
      rw [List.length_map] at hk ha hp n1 n2
      rw [List.take_length] at hk ha hp n1 n2
      have hall : ((Txt.split z ", ").all fun p => (lvl p).isSome) = true := by
        rw [List.all_eq_true]
        exact hp
      refine ⟨_, rfl, _, rfl, k, _, rfl, .inr (SqL.of hk), sz (by rw [List.length_map]; omega), ?_⟩
      refine mk_form (ks := lks (Txt.split z ", ")) (is := lis (Txt.split z ", ")) ?_ ?_ (.inr ⟨a, rfl, .inl (SqL.of ha)⟩) (fun hv p H2 g2 h2 => q _ _ ?_ p H2 (g.trans g2) h2) (fun hv H2 g2 => qe ?_ H2 (g.trans g2))
      · omega
      · omega
      · unfold rd
        rw [if_neg nz, if_pos ⟨hall, hv⟩]
      · unfold rd
        rw [if_neg nz, if_neg (fun z => by rw [z.2] at hv; cases hv)]
end
end Lw
namespace Lw
open PySem L2
abbrev sMixed : Stmt := topS 57
abbrev sForm : Stmt := topS 62
abbrev sFtext : Stmt := topS 63
theorem SX.upd_out {st q D : Addr} {H H' : Hp} {o : HO} (g : SX st q H H') (n : H D = none) : SX st q H (upd H' D o) := fun b u h1 h2 e => by rw [upd_ne (ne_of_none e n)]; exact g b u h1 h2 e
theorem Spr.upd {st q D : Addr} {H : Hp} {b : Int} {o : HO} (s : Spr H st q b) (n1 : D ≠ st) (n2 : D ≠ q) : Spr (upd H D o) st q b := by
  obtain ⟨ns, a, c, h1, h2, r⟩ := s
  exact ⟨ns, a, c, by rw [upd_ne n1.symm]; exact h1, by rw [upd_ne n2.symm]; exact h2, r⟩
theorem Spr.out {st q D : Addr} {H : Hp} {b : Int} (s : Spr H st q b) (n : H D = none) : D ≠ st ∧ D ≠ q := by
  obtain ⟨ns, a, c, h1, h2, _⟩ := s
  exact ⟨(ne_of_none h1 n).symm, (ne_of_none h2 n).symm⟩
section
variable {P : Program} {w : World} {K : PySem.W.Frag} {mg : Str → Option Value} {base : Heap} {f g : Addr} {fd gd : FuncData}
def spMixed : Sp := fun vs H Q _ => ∃ (st q p : Addr) (b : Int) (is : List Int), vs = [.ref st, .ref p] ∧ Spr H st q b ∧ 0 ≤ b ∧ b ≤ 1900 ∧ H p = some (.lst (is.map V.int)) ∧ is.length ≤ 10 ∧
  ∀ (r : Addr) (os : List Int) (H' : Hp), os.Perm is → Spr H' st q (b + is.length) → SX st q H H' → H' r = some (.lst (os.map V.int)) → H r = none → Q (.ref r) H'
abbrev namesM : List Str := ["_law_stream", "_law_some", "_law_left", "_law_k"]
theorem scM : FnScope namesM ["_law_stream", "_law_some"] (defScope sMixed) := ⟨rfl, rfl, rfl, by decide +kernel, rfl, by decide +kernel, by decide +kernel⟩
def InvMx (H0 : Hp) (st q L D : Addr) (b : Int) (is : List Int) (i : Nat) (H : Hp) : Prop := ∃ acc ls : List Int, H D = some (.lst (acc.map V.int)) ∧ H L = some (.lst (ls.map V.int)) ∧ acc.length = i ∧ ls.length + i = is.length ∧ (acc ++ ls).Perm is ∧ Spr H st q (b + i) ∧ SX st q H0 H
theorem er_perm {α : Type} : ∀ (l : List α) (k : Nat) (h : k < l.length), (l[k] :: l.eraseIdx k).Perm l
  | a :: r, 0, _ => List.Perm.refl _
  | a :: r, k + 1, h => (List.Perm.swap _ _ _).trans (List.Perm.cons a (er_perm r k (Nat.lt_of_succ_lt_succ h)))
theorem er_map {α β : Type} (f : α → β) : ∀ (l : List α) (k : Nat), (l.map f).eraseIdx k = (l.eraseIdx k).map f
  | [], _ => rfl
  | a :: r, 0 => rfl
  | a :: r, k + 1 => congrArg (f a :: ·) (er_map f r k)
theorem pop_at {ls : List Int} {r : Int} (h0 : 0 ≤ r) (h1 : r < (ls.length : Int)) : ∃ (k : Nat) (n : Int), seqIndex? r (ls.map V.int).length = some k ∧ (ls.map V.int)[k]? = some (.int n) ∧ (ls.map V.int).eraseIdx k = (ls.eraseIdx k).map V.int ∧ (n :: ls.eraseIdx k).Perm ls ∧ (ls.eraseIdx k).length + 1 = ls.length := by
  have hk : r.toNat < ls.length := by omega
  refine ⟨r.toNat, ls[r.toNat], ?_, by rw [List.getElem?_map, List.getElem?_eq_getElem hk] <;> rfl, ?_, er_perm ls _ hk, by rw [List.length_eraseIdx_of_lt hk]; omega⟩
  · refine (ixN_seq (n := (ls.map V.int).length) (i := r) (j := r.toNat) ?_).1
    unfold ixN
    rw [if_pos h0, if_pos (by rw [List.length_map]; exact h1)]
  · rw [er_map]
theorem ok_mixed (F : Fun K "_law_mixed" "_law_mixed" sMixed f fd) (G : FnOk P w K mg base CX0 1 g gd ["_law_stream", "_law_many"] spDraw) (bG : Binds K gd ["_law_stream", "_law_many"] []) (kG : PySem.W.keepIn K (.ref g) = true) (mG : mg "_law_draw" = some (.ref g)) (B : Bt mg) :
    FnOk P w K mg base CX0 2 f fd ["_law_stream", "_law_some"] spMixed := by
  refine F.ok scM (fun vs H Q E h => ?_) (fun cdv A outer s H vs Q E hr h => ?_)
  · obtain ⟨st, q, p, b, is, rfl, _⟩ := h
    rfl
  obtain ⟨st, q, p, b, is, rfl, hs, hb0, hb1, hp, hl, k⟩ := h
  refine ⟨_, pss_cons (ps_set (i := 2) scM.nd rfl (Or.inr rfl) (pe_callTy call_list_of (by rfl) B.lst (by decide +kernel) (pa_cons (pv 1) pa_nil)))
    (pss_one (ps_ret (pe_lc (own := [("_law_k", 3)]) (g := gName 3) (tt := tYes) (te := tBM K "list" rPopAt (tVar 2) (tCons (tCall spDraw [] E0 (tCons (tVar 0) (tCons (tCB (fun xs H Q => ∃ p ys, xs = [.ref p] ∧ (SqL K H p ys ∨ SqT K H p ys) ∧ Q (.int ys.length) H) (tCons (tVar 2) tNil)) tNil))) tNil)) rfl scM.nd (pi_range1 (by rfl) B.range (pa_cons (pe_callB call_len_seq (by rfl) B.len PySem.boot_len (pa_cons (pv 2) pa_nil)) pa_nil)) (blkOk_by (N := namesM) (sc := defScope sMixed) (by decide +kernel))
      (fun _ _ _ _ _ => pg_name (i := 3) scM.nd rfl (Or.inl rfl)) (fun _ _ _ _ _ => pts_nil)
      (fun _ _ _ _ _ => pe_bm PySem.F.plainAttrs_list PySem.F.slot_list_pop PySem.F.type_list_pop mt_popAt (pv 2) (pa_cons (pe_call G hr rfl mG kG bG .nil pass0 (pa_cons (pv 0) (pa_cons (pe_callB call_len_seq (by rfl) B.len PySem.boot_len (pa_cons (pv 2) pa_nil)) pa_nil))) pa_nil))))), ?_⟩
  refine ⟨_, rfl, p, _, rfl, .inl (SqL.of hp), fun L hL => ?_⟩
  have gL := same_new hL (.lst (is.map V.int))
  obtain ⟨nL1, nL2⟩ := hs.out hL
  have hsL := hs.same gL
  refine ⟨_, rfl, L, _, rfl, .inl (SqL.of upd_same), _, rfl, by rw [List.length_map]; omega, by rw [List.length_map]; omega, fun D hD => ?_⟩
  obtain ⟨nD1, nD2⟩ := hsL.out hD
  have nDL : D ≠ L := (ne_of_none (upd_same (H := H) (a := L) (o := .lst (is.map V.int))) hD).symm
  have hD0 : H D = none := gL.free hD
  have gD := same_new hD (.lst [])
  have elm : (is.map V.int).length = is.length := List.length_map _
  refine lc_range (lo := 0) (n := (is.map V.int).length) (InvMx H st q L D b is) ⟨[], is, upd_same, gD _ _ upd_same, rfl, rfl, List.Perm.refl _, ?_, .of (gL.trans gD)⟩ ?_ ?_
  · rw [show b + ((0 : Nat) : Int) = b from Int.add_zero b]
    exact hsL.same gD
  · rintro i H2 hi ⟨acc, ls, hd, hl2, ha, hn, hp2, hs2, gx⟩
    have hlen : (((ls.map V.int).length : Nat) : Int) = (ls.length : Int) := by rw [List.length_map]
    refine ⟨rfl, kept ?_⟩
    refine ⟨_, rfl, .inl ⟨rfl, _, SqL.of hl2⟩, _, rfl, _, rfl, L, _, rfl, .inl (SqL.of hl2), st, q, b + i, _, rfl, hs2, by omega, by omega, by rw [hlen]; omega, by rw [hlen]; omega, fun r H3 r0 r1 hs3 g3 => ?_⟩
    have hd3 := g3 _ _ nD1 nD2 hd
    have hl3 := g3 _ _ nL1 nL2 hl2
    obtain ⟨j, n, e1, e2, e3, e4, e5⟩ := pop_at r0 (by rw [hlen] at r1; exact r1)
    refine ⟨L, _, r, j, _, rfl, rfl, hl3, by omega, by rw [hlen] at r1; omega, e1, e2, ?_⟩
    have hd4 := (upd_ne (o := .lst ((ls.map V.int).eraseIdx j)) nDL).trans hd3
    refine ⟨_, hd4, by rw [List.length_map]; exact small1000 (by omega), acc ++ [n], ls.eraseIdx j, by rw [upd_same, List.map_append] <;> rfl, by rw [upd_ne nDL.symm, upd_same, e3], by rw [List.length_append, ha] <;> rfl, by omega, ?_, ?_, ?_⟩
    · rw [List.append_assoc]
      exact (List.Perm.append_left acc e4).trans hp2
    · have e6 : b + (i : Int) + 1 = b + ((i + 1 : Nat) : Int) := by omega
      rw [← e6]
      exact (hs3.upd nL1 nL2).upd nD1 nD2
    · exact ((gx.trans g3).upd_out hL).upd_out hD0
  · rintro H2 ⟨acc, ls, hd, hl2, ha, hn, hp2, hs2, gx⟩
    rw [elm] at hs2
    have els : ls = [] := List.length_eq_zero_iff.mp (by omega)
    subst els
    rw [List.append_nil] at hp2
    exact k D acc H2 hp2 hs2 gx hd hD0
end
end Lw
namespace Lw
open PySem L2 TL
/-- a form's levels as pairs -/
def Tups (K : PySem.W.Frag) (H : Hp) (vs : List V) (l : List (Str × Int)) : Prop := vs.length = l.length ∧ ∀ (i : Nat) (v : V) (p : Str × Int), vs[i]? = some v → l[i]? = some p → ∃ a, v = .ref a ∧ SqT K H a [.str p.1, .int p.2]
theorem Tups.mono {K : PySem.W.Frag} {H H' : Hp} {vs : List V} {l : List (Str × Int)} (g : TK K H H') (h : Tups K H vs l) : Tups K H' vs l :=
  ⟨h.1, fun i v p e1 e2 => by obtain ⟨a, r, z⟩ := h.2 i v p e1 e2; exact ⟨a, r, g _ _ z⟩⟩
def Good (l : List (Str × Int)) (n : Nat) : Prop := l.length = n ∧ (∀ p ∈ l, p.1 ∈ KINDS) ∧ (l.map (·.2)).Perm (iota n)
def K5 : List Str := ["dense", "packed", "bits", "hashed", "packed"]
theorem k5_kinds : ∀ k ∈ K5, k ∈ KINDS := by decide +kernel
section
variable {P : Program} {w : World} {K : PySem.W.Frag} {mg : Str → Option Value} {base : Heap} {f g g2 : Addr} {fd gd gd2 : FuncData}
def spForm (K : PySem.W.Frag) : Sp := fun vs H Q _ => ∃ (st q : Addr) (b : Int) (n : Nat), vs = [.ref st, .int (n : Int)] ∧ Spr H st q b ∧ 0 ≤ b ∧ b ≤ 1800 ∧ n ≤ 3 ∧
  ∀ (t : Addr) (us : List V) (l : List (Str × Int)) (b' : Int) (H' : Hp), Good l n → SqT K H' t us → Tups K H' us l → b ≤ b' → b' ≤ b + 6 → Spr H' st q b' → SX st q H H' → Q (.ref t) H'
abbrev namesFo : List Str := ["_law_stream", "_law_rank", "_law_sides", "_law_axis"]
theorem scFo : FnScope namesFo ["_law_stream", "_law_rank"] (defScope sForm) := ⟨rfl, rfl, rfl, by decide +kernel, rfl, by decide +kernel, by decide +kernel⟩
def InvFo (K : PySem.W.Frag) (H0 : Hp) (st q r D : Addr) (b : Int) (os : List Int) (i : Nat) (H : Hp) : Prop := ∃ (acc : List V) (l : List (Str × Int)), H D = some (.lst acc) ∧ H r = some (.lst (os.map V.int)) ∧ acc.length = i ∧ l.map (·.2) = os.take i ∧ (∀ p ∈ l, p.1 ∈ KINDS) ∧ Tups K H acc l ∧ Spr H st q (b + i) ∧ SX st q H0 H
theorem ok_form (F : Fun K "_law_form" "_law_form" sForm f fd) (GM : FnOk P w K mg base CX0 2 g gd ["_law_stream", "_law_some"] spMixed) (bM : Binds K gd ["_law_stream", "_law_some"] []) (kM : PySem.W.keepIn K (.ref g) = true) (mM : mg "_law_mixed" = some (.ref g))
    (GP : FnOk P w K mg base CX0 2 g2 gd2 ["_law_stream", "_law_some"] (spPick K)) (bP : Binds K gd2 ["_law_stream", "_law_some"] []) (kP : PySem.W.keepIn K (.ref g2) = true) (mP : mg "_law_pick" = some (.ref g2)) (B : Bt mg) :
    FnOk P w K mg base CX0 3 f fd ["_law_stream", "_law_rank"] (spForm K) := by
  refine F.ok scFo (fun vs H Q E h => ?_) (fun cdv A outer s H vs Q E hr h => ?_)
  · obtain ⟨st, q, b, n, rfl, _⟩ := h
    rfl
  obtain ⟨st, q, b, n, rfl, hs, hb0, hb1, hn, k⟩ := h
  refine ⟨_, pss_cons (ps_set (i := 2) scFo.nd rfl (Or.inl rfl) (pe_call GM hr rfl mM kM bM .nil pass0 (pa_cons (pv 0) (pa_cons (pe_listRg rfl (by rfl) B.lst (prg_1 (by rfl) B.range (pv 1))) pa_nil))))
    (pss_one (ps_ret (pe_callTy call_tuple_of (by rfl) B.tup (by decide +kernel) (pa_cons (pe_lc (own := [("_law_axis", 3)]) (g := gName 3) (tt := tYes) rfl scFo.nd (pi_list (pv 2)) (blkOk_by (N := namesFo) (sc := defScope sForm) (by decide +kernel))
      (fun _ _ _ _ _ => pg_name (i := 3) scFo.nd rfl (Or.inl rfl)) (fun _ _ _ _ _ => pts_nil)
      (fun _ _ _ _ _ => pe_tup (pa_cons (pe_call GP hr rfl mP kP bP .nil pass0 (pa_cons (pv 0) (pa_cons (pe_lst (pa_cons pe_str (pa_cons pe_str (pa_cons pe_str (pa_cons pe_str (pa_cons pe_str pa_nil)))))) pa_nil))) (pa_cons (pv 3) pa_nil)))) pa_nil)))), ?_⟩
  refine ⟨_, rfl, _, rfl, n, rfl, RgOk.of_le (by decide) (by omega) (by decide) (by omega), fun p hp => ?_⟩
  rw [rg_iota]
  have gp := same_new hp (.lst ((iota n).map V.int))
  obtain ⟨np1, np2⟩ := hs.out hp
  refine ⟨st, q, p, b, iota n, rfl, hs.same gp, hb0, by omega, upd_same, by rw [iota_len]; omega, fun r os H1 hperm hs1 gx1 hr1 hr0 => ?_⟩
  have hs1' : Spr H1 st q (b + n) := by rw [iota_len] at hs1; exact hs1
  have hrH : H r = none := gp.free hr0
  have elen : os.length = n := by rw [hperm.length_eq, iota_len]
  obtain ⟨nr1, nr2⟩ := hs.out hrH
  refine ⟨_, rfl, r, rfl, ⟨_, SqL.of hr1⟩, fun D hD => ?_⟩
  obtain ⟨nD1, nD2⟩ := hs1'.out hD
  have nDr : D ≠ r := (ne_of_none hr1 hD).symm
  have gD := same_new hD (.lst [])
  have elm : (os.map V.int).length = n := by rw [List.length_map, elen]
  refine lc_list (K := K) (a := r) (xs := os.map V.int) (InvFo K H1 st q r D (b + n) os) ⟨[], [], upd_same, gD _ _ hr1, rfl, (by simp), (fun p hp => by cases hp), ⟨rfl, fun i v p e => (by simp at e)⟩, ?_, .of gD⟩ (fun i H2 _ ⟨_, _, _, h2, _⟩ => SqL.of h2) ?_ ?_
  · rw [show b + (n : Int) + ((0 : Nat) : Int) = b + n from Int.add_zero _]
    exact hs1'.same gD
  · rintro i x H2 hx ⟨acc, l, hd, hr2, ha, hm, hk, ht, hs2, gx⟩
    obtain ⟨o, eo, rfl⟩ := at_map hx
    have hi : i < n := by rw [← elen]; exact (List.getElem?_eq_some_iff.mp eo).1
    have ell : l.length = i := by rw [← ha]; exact ht.1.symm
    refine ⟨rfl, kept ?_⟩
    refine ⟨_, rfl, (by show 5 ≤ sizeLine; decide), fun m hm' => ?_⟩
    have gm := same_new hm' (.lst [.str "dense", .str "packed", .str "bits", .str "hashed", .str "packed"])
    obtain ⟨nm1, nm2⟩ := hs2.out hm'
    refine ⟨st, q, m, b + n + i, _, rfl, hs2.same gm, by omega, by omega, upd_same, nm1, nm2, (by show 0 < 5; decide), (by show 5 ≤ 1000; decide), fun v H3 hv hs3 g3 => ?_⟩
    obtain ⟨kd, hkd, rfl⟩ : ∃ kd, kd ∈ KINDS ∧ v = V.str kd := by
      have hv' : v ∈ K5.map V.str := hv
      obtain ⟨kd, hm, rfl⟩ := List.mem_map.mp hv'
      exact ⟨kd, k5_kinds kd hm, rfl⟩
    refine ⟨_, rfl, (by show 2 ≤ sizeLine; decide), fun t ht' => ?_⟩
    have gt := same_new ht' (.tup [.str kd, .int o])
    have tk3 : TK K H2 H3 := (TK.of gm).trans (TK.sx (hs2.same gm) g3)
    have hd3 := g3 _ _ nD1 nD2 (gm _ _ hd)
    have hd4 := gt _ _ hd3
    have tk4 : TK K H3 (upd (upd H3 t (.tup [.str kd, .int o])) D (.lst (acc ++ [.ref t]))) := (TK.of gt).trans (TK.lst hd4)
    refine ⟨acc, hd4, small1000 (by omega), acc ++ [.ref t], l ++ [(kd, o)], upd_same, ?_, by rw [List.length_append, ha] <;> rfl, ?_, fun p hp => ?_, ⟨by rw [List.length_append, List.length_append, ht.1] <;> rfl, fun j v p ev ep => ?_⟩, ?_, ?_⟩
    · rw [upd_ne nDr.symm]
      exact gt _ _ (g3 _ _ nr1 nr2 (gm _ _ hr2))
    · rw [List.map_append, hm, List.take_succ, eo] <;> rfl
    · rcases List.mem_append.mp hp with hp | hp
      · exact hk p hp
      · rw [List.mem_singleton.mp hp]
        exact hkd
    · by_cases hj : j < acc.length
      · rw [List.getElem?_append_left hj] at ev
        rw [List.getElem?_append_left (by omega)] at ep
        obtain ⟨a, r1, z⟩ := ht.2 j v p ev ep
        exact ⟨a, r1, tk4 _ _ (tk3 _ _ z)⟩
      · have hj2 : j = acc.length := by
          have q1 := (List.getElem?_eq_some_iff.mp ev).1
          rw [List.length_append, List.length_singleton] at q1
          omega
        subst hj2
        rw [List.getElem?_append_right (Nat.le_refl _), Nat.sub_self] at ev
        rw [List.getElem?_append_right (by omega), show acc.length - l.length = 0 by omega] at ep
        cases ev
        cases ep
        exact ⟨t, rfl, TK.lst hd4 _ _ (SqT.of upd_same)⟩
    · have e6 : b + (n : Int) + (i : Int) + 1 = b + n + ((i + 1 : Nat) : Int) := by omega
      rw [← e6]
      exact (hs3.same gt).upd nD1 nD2
    · exact ((gx.trans (.of gm)).trans (g3.trans (.of gt))).upd_out hD
  · rintro H2 ⟨acc, l, hd, hr2, ha, hm, hk, ht, hs2, gx⟩
    rw [elm] at ha hm hs2
    rw [List.take_of_length_le (by omega)] at hm
    refine ⟨D, acc, rfl, .inl ⟨SqL.of hd, fun t ht' => ?_⟩⟩
    have gt := same_new ht' (.tup acc)
    refine k t acc l (b + n + n) _ ⟨by rw [← ht.1, ha], hk, by rw [hm]; exact hperm⟩ (SqT.of upd_same) (ht.mono (.of gt)) (by omega) (by omega) (hs2.same gt) ?_
    exact (((SX.of gp).trans gx1).trans gx).trans (.of gt)
/-! the law's own text of a form -/
theorem zip_maps : ∀ l : List (Str × Int), (l.map (·.1)).zip (l.map (·.2)) = l
  | [] => rfl
  | (a, b) :: r => by
    show (a, b) :: (r.map (·.1)).zip (r.map (·.2)) = _
    rw [zip_maps r]
theorem iota_valid {l : List (Str × Int)} {n : Nat} (h : Good l n) (hn : n ≤ 3) : valid (l.map (·.1)) (l.map (·.2)) = true := by
  obtain ⟨h1, h2, h3⟩ := h
  unfold valid axesOk
  rw [List.length_map, List.length_map, h1]
  have e1 : decide (n ≤ 3) = true := decide_eq_true hn
  have e2 : ((l.map (·.1)).all fun k => decide (k ∈ KINDS)) = true := by
    rw [List.all_eq_true]
    intro k hk
    obtain ⟨p, hp, rfl⟩ := List.mem_map.mp hk
    exact decide_eq_true (h2 p hp)
  have e3 : ((List.range n).all fun j => decide ((j : Int) ∈ l.map (·.2))) = true := by
    rw [List.all_eq_true]
    intro j hj
    refine decide_eq_true (h3.symm.mem_iff.mp ?_)
    unfold iota
    exact List.mem_map.mpr ⟨j, hj, rfl⟩
  rw [e1, e2, e3, decide_eq_true rfl] <;> rfl
def litm (p : Str × Int) : Str := p.1 ++ " " ++ ((toString p.2 : String) : Str)
theorem litm_itm (p : Str × Int) : litm p = itm p.1 p.2 := by
  refine ext_tl ?_
  unfold litm itm
  rw [tl_append, tl_append, tl_append, tl_append, tl_append] <;> rfl
def spFtext (K : PySem.W.Frag) : Sp := fun vs H Q _ => ∃ (t : Addr) (us : List V) (l : List (Str × Int)) (n : Nat), vs = [.ref t] ∧ SqT K H t us ∧ Tups K H us l ∧ Good l n ∧ n ≤ 3 ∧ ∀ H' : Hp, Same H H' → Q (.str (ftext (l.map (·.1)) (l.map (·.2)))) H'
theorem dp_tups {H : Hp} : ∀ {us : List V} {l : List (Str × Int)}, Tups K H us l → DpAll K H us (l.map fun p => PyData.tuple [.str p.1, .int p.2])
  | [], [], _ => .nil
  | [], _ :: _, h => by cases h.1
  | _ :: _, [], h => by cases h.1
  | u :: us, p :: l, h => by
    obtain ⟨a, rfl, z⟩ := h.2 0 u p rfl rfl
    exact .cons (.tup z (.cons (.str _) (.cons (.int _) .nil))) (dp_tups ⟨Nat.succ.inj h.1, fun i v p e1 e2 => h.2 (i + 1) v p e1 e2⟩)
end
end Lw
namespace Lw
open PySem L2 TL
/-- more built-in names -/
structure Bs (mg : Str → Option Value) : Prop where
  str : mg "str" = none
  any : mg "any" = none
  sorted : mg "sorted" = none
  ve : mg "ValueError" = none
section
variable {P : Program} {w : World} {K : PySem.W.Frag} {mg : Str → Option Value} {base : Heap} {C fI BF AW KD f g g2 : Addr} {MC : Value} {fd gd gd2 : FuncData}
theorem sz20 {n : Nat} (h : n ≤ 1000) : n ≤ sizeLine := Nat.le_of_lt (small1000 h)
theorem kinds_ok : ∀ k ∈ KINDS, PyData.strOk k = true := by decide +kernel
theorem shaped_form : ∀ {l : List (Str × Int)}, l.length ≤ 3 → (∀ p ∈ l, p.1 ∈ KINDS) → SeqAt.shaped (.tuple (l.map fun p => PyData.tuple [.str p.1, .int p.2])) = true
  | [], _, _ => by decide +kernel
  | [a], _, h => by
    have h1 := kinds_ok _ (h a (by simp))
    simp [SeqAt.shaped, PyData.canLay0, PyData.canLayAll0, PyData.depth, PyData.depthAll, h1]
  | [a, b], _, h => by
    have h1 := kinds_ok _ (h a (by simp))
    have h2 := kinds_ok _ (h b (by simp))
    simp [SeqAt.shaped, PyData.canLay0, PyData.canLayAll0, PyData.depth, PyData.depthAll, h1, h2]
  | [a, b, c], _, h => by
    have h1 := kinds_ok _ (h a (by simp))
    have h2 := kinds_ok _ (h b (by simp))
    have h3 := kinds_ok _ (h c (by simp))
    simp [SeqAt.shaped, PyData.canLay0, PyData.canLayAll0, PyData.depth, PyData.depthAll, h1, h2, h3]
  | _ :: _ :: _ :: _ :: _, h, _ => by simp at h
abbrev namesFt : List Str := ["_law_form_here", "_law_kind", "_law_axis"]
theorem scFt : FnScope namesFt ["_law_form_here"] (defScope sFtext) := ⟨rfl, rfl, rfl, by decide +kernel, rfl, by decide +kernel, by decide +kernel⟩
theorem ok_ftext (F : Fun K "_law_form_text" "_law_form_text" sFtext f fd) (B : Bt mg) (S : Bs mg) : FnOk P w K mg base CX0 1 f fd ["_law_form_here"] (spFtext K) := by
  refine F.ok scFt (fun vs H Q E h => ?_) (fun cdv A outer s H vs Q E hr h => ?_)
  · obtain ⟨t, us, l, n, rfl, _⟩ := h
    rfl
  obtain ⟨t, us, l, n, rfl, hT, htu, hg, hn, q⟩ := h
  have hll : l.length ≤ 3 := by rw [hg.1]; exact hn
  have hax : ∀ p ∈ l, p.1 ∈ KINDS ∧ p.2 ∈ ([0, 1, 2] : List Int) := fun p hp => by
    obtain ⟨_, _, _, z⟩ := valid_parts (iota_valid hg hn)
    exact ⟨hg.2.1 p hp, z _ (List.mem_map_of_mem hp)⟩
  refine ⟨_, pss_one (ps_ret (pe_ifExp (pt_cmpR (op_neD hr.units) (pv 0) (pe_tup pa_nil) (nomark _)) (pe_join pe_str (pe_lc (own := [("_law_kind", 1), ("_law_axis", 2)]) (g := gTup K 2 (gCons (gName 1) (gCons (gName 2) gNil))) (tt := tYes) rfl scFt.nd (pi_tup (pv 0)) (blkOk_by (N := namesFt) (sc := defScope sFtext) (by decide +kernel))
      (fun _ _ _ _ _ => pg_tup rfl (pgs_cons (pg_name (i := 1) scFt.nd rfl (Or.inl rfl)) (pgs_cons (pg_name (i := 2) scFt.nd rfl (Or.inl rfl)) pgs_nil))) (fun _ _ _ _ _ => pts_nil)
      (fun _ _ _ _ _ => pe_op op_add_str (pe_op op_add_str (pv 1) pe_str) (pe_callTy call_str_int (by rfl) S.str (by decide +kernel) (pa_cons (pv 2) pa_nil))))) pe_str)), ?_⟩
  refine ⟨_, rfl, (by show 0 ≤ sizeLine; decide), fun e he => ?_⟩
  have ge := same_new he (.tup [])
  refine ⟨_, .tuple [], .tup (seqT ge hT) (dp_tups (htu.mono (.of ge))), .tup (SqT.of upd_same) .nil, shaped_form hll hg.2.1, by decide +kernel, _, rfl, ?_⟩
  cases l with
  | nil =>
    refine iteN (by decide +kernel) ?_
    have z := q _ ge
    exact z
  | cons p r =>
    refine iteC rfl ?_
    refine ⟨⟨_, rfl⟩, _, rfl, t, rfl, ⟨_, seqT ge hT⟩, fun D hD => ?_⟩
    have hD0 : H D = none := ge.free hD
    refine lc_tup (K := K) (a := t) (xs := us) (InvM H D (fun p : Str × Int => V.str (litm p)) (p :: r)) ⟨upd_same, same_over ge hD0 _⟩ (fun i H' _ ⟨_, g⟩ => seqT g hT) (fun i x H' hx hv => ?_) ?_
    · have hi : i < (p :: r).length := by rw [← htu.1]; exact (List.getElem?_eq_some_iff.mp hx).1
      obtain ⟨a, rfl, za⟩ := htu.2 i x _ hx (List.getElem?_eq_getElem hi)
      have hm := hax _ (List.getElem_mem hi)
      obtain ⟨l1, l2, l3, l4, l5⟩ := small_itm _ hm.1 _ hm.2
      refine ⟨a, _, rfl, seqT hv.2 za, rfl, _, _, rfl, _, _, rfl, rfl, rfl, kept ?_⟩
      refine ⟨_, rfl, _, _, rfl, rfl, sz20 (by show _ + 1 ≤ 1000; omega), _, rfl, _, rfl, l5, _, _, rfl, rfl, sz20 ?_, ?_⟩
      · rw [← litm_itm] at l3
        have e1 : (litm ((p :: r)[i])).length = ((p :: r)[i].1 ++ (" " : Str)).length + ((toString (p :: r)[i].2 : String) : Str).length := Str.length_append _ _
        rw [e1] at l3
        omega
      · exact ⟨_, hv.1, len_m (by omega), InvM.next (f := fun p : Str × Int => V.str (litm p)) hD0 hv.2 (List.getElem?_eq_getElem hi) _ rfl⟩
    · rintro H' ⟨hd, g⟩
      rw [List.take_of_length_le (by rw [htu.1]; exact Nat.le_refl _)] at hd
      have el : ((p :: r).map litm) = ((((p :: r).map (·.1)).zip ((p :: r).map (·.2))).map fun p => itm p.1 p.2) := by
        rw [zip_maps]
        exact List.map_congr_left fun p _ => litm_itm p
      refine ⟨_, D, (p :: r).map litm, rfl, rfl, .inl (SqL.of (by rw [hd, List.map_map] <;> rfl)), ?_, ?_⟩
      · have z := sum_le (ys := (p :: r).map litm) fun y hy => by
          obtain ⟨p', hp', rfl⟩ := List.mem_map.mp hy
          rw [litm_itm]
          exact (small_itm _ (hax p' hp').1 _ (hax p' hp').2).2.2.1
        have z2 : ((p :: r).map litm).length ≤ 3 := by rw [List.length_map]; exact hll
        have z3 : ((p :: r).map litm).length * Str.length ", " ≤ 3 * 2 := Nat.mul_le_mul z2 (by decide)
        omega
      · have z := q H' g
        unfold ftext at z
        rw [if_neg (by simp), ← el] at z
        exact z
/-! a form made from parts -/
end
end Lw
/-! tuples that are known to have no dict: their methods -/
namespace TzR
open PySem PySem.Spec PyProof.Rows L2
/-- the tuple at p, its object known -/
def TzAt (H : Hp) (p : Addr) (xs : List V) : Prop := ∃ o : Obj, H p = some (.frz o (.tup xs)) ∧ o.cls = .type "tuple" ∧ o.dict = none
theorem TzAt.seq {K : PySem.W.Frag} {H : Hp} {p : Addr} {xs : List V} : TzAt H p xs → SqT K H p xs
  | ⟨o, h, _⟩ => .inl (.inr ⟨o, h⟩)
theorem TzAt.of {H : Hp} {p : Addr} {o : Obj} {xs : List V} (h : H p = some (.frz o (.tup xs))) (hc : o.cls = .type "tuple") (hd : o.dict = none) : TzAt H p xs := ⟨o, h, hc, hd⟩
section
variable {X : Cx} {pins : List (Addr × Obj)} {σ : L2.St} {H : Hp} {s : Shared} {p : Addr} {xs : List V}
theorem TzAt.obj (I : L2.Inv X pins σ H s) : TzAt H p xs → ∃ (o : Obj) (its : List Value) (n : Nat), s.heap.get? p = some o ∧ o.cls = .type "tuple" ∧ o.dict = none ∧ o.data = .seq its.toArray n ∧ Vals xs its
  | ⟨o, h1, h2, h3⟩ => by
    obtain ⟨e, _, its, r, ⟨o', e', _, n, hd⟩⟩ := I.hok p _ h1
    rw [e] at e'
    cases e'
    exact ⟨o, its, n, e, h2, h3, hd, r⟩
theorem ty_tz : TyOk X "tuple" (fun x H => ∃ (p : Addr) (xs : List V), x = .ref p ∧ TzAt H p xs) := by
  intro pins σ H s x v I r ty
  obtain ⟨p, xs, rfl, t⟩ := ty
  cases r
  obtain ⟨o, its, n, e, hc, hd, _, _⟩ := t.obj I
  refine ⟨⟨o, e, hc⟩, fun b z => ?_⟩
  cases z
  exact ⟨o, e, hd⟩
/-- tuple(l), the new tuple's object known -/
theorem call_tuple_frz : CallR X (.type "tuple") (fun xs H Q => ∃ (p : Addr) (ys : List V), xs = [.ref p] ∧ SqL X.K H p ys ∧ ∀ (l : Addr) (o : Obj), H l = none → o.cls = .type "tuple" → o.dict = none → Q (.ref l) (upd H l (.frz o (.tup ys)))) := by
  intro pins s σ H xs us Q I r h
  obtain ⟨p, ys, rfl, hq, q⟩ := h
  obtain ⟨u, rfl, rx⟩ := vals1 r
  cases rx
  obtain ⟨its, r', pl, hz⟩ := I.list hq
  have hlen := r'.length
  refine call_tuple_list pl.isList (fun h' kp => ?_) (by simp only [List.size_toArray] <;> omega)
  have I1 : L2.Inv X pins σ H { s with heap := h' } := I.kept (t' := s.toks) kp
  have e : (h'.push { cls := .type "tuple", data := .seq its.toArray }).get? h'.objs.size = some { cls := .type "tuple", data := .seq its.toArray } := Heap.get?_push_size _ rfl
  have I2 : L2.Inv X pins σ (upd H h'.objs.size (.frz { cls := .type "tuple", data := .seq its.toArray } (.tup ys))) { s with heap := h'.push { cls := .type "tuple", data := .seq its.toArray } } :=
    I1.laid (t' := s.toks) (fun b o e => Heap.get?_push_of_some _ e) (Nat.le_refl _) (show ObjOk X.prog X.w _ _ _ (.frz _ (.tup ys)) from ⟨e, hz, its, r', IsTup.new _ _⟩)
  exact ⟨.ref h'.objs.size, _, I2, rfl, q _ _ (I1.hok.fresh (Nat.le_refl _)) rfl rfl⟩
/-- t.index(x) of texts -/
def tIxZ (K : PySem.W.Frag) (to : TE) (t : TA) : TE := tMG (fun x H => ∃ (p : Addr) (xs : List V), x = .ref p ∧ TzAt H p xs) (fun x xs H Q => ∃ p, ∃ ys : List Str, ∃ z j, x = .ref p ∧ xs = [.str z] ∧ SqT K H p (ys.map V.str) ∧ ys[j]? = some z ∧ (∀ m, m < j → ys[m]? ≠ some z) ∧ Q (.int (j : Nat)) H) to t
theorem pe_ixZ {o e : Expr} {to : TE} {t : TA} {apos cpos : Pos} (ho : PE X o to) (ha : PA X [e] t)
    (hbase : attributeBase o "index" X.env (eval o X.env) = eval o X.env := by rfl)
    (hfew : ((backTo cpos (starEach [e] X.env)).all (fun x => !x.1) && (backToKw cpos (keywordEach [] X.env)).all (fun x => x.1.isSome)
      && decide (([e] : List Expr).length + ([] : List Keyword).length + (if ([] : List Keyword).isEmpty then 0 else 1) < 30)) = true := by rfl)
    (hline : (apos.endLine == cpos.line) = true := by rfl) (hs : starEach [e] X.env = (false, eval e X.env) :: starEach [] X.env := by rfl) :
    PE X (.Call (.Attribute o "index" apos) [e] [] cpos) (tIxZ X.K to t) :=
  pe_mG ty_tz PySem.F.plainAttrs_tuple PySem.F.slot_tuple_index PySem.F.type_tuple_index mt_tup_index ho ha hbase hfew hline hs
end
/-- the first place of a text -/
theorem idx_at {ys : List Str} {z : Str} (h : z ∈ ys) : ys[ys.idxOf z]? = some z ∧ ∀ m, m < ys.idxOf z → ys[m]? ≠ some z := by
  have lt := List.idxOf_lt_length_iff.mpr h
  refine ⟨by rw [List.getElem?_eq_getElem lt, List.getElem_idxOf lt], fun m hm e => ?_⟩
  obtain ⟨h1, h2⟩ := List.getElem?_eq_some_iff.mp e
  have := List.not_of_lt_findIdx (p := (· == z)) (xs := ys) (i := m) hm
  simp [h2] at this
end TzR
/-! enumerate(t), t a tuple -/
namespace EnT
open PySem PySem.Spec PyProof.Rows L2
theorem drawsT {prog : Program} {w : World} {A : Around} (hh : A.handled = none) (it t : Addr) (hne : t ≠ it) (items : Array Value) :
    Draws prog w A it [it, t] items.size (fun i v => items[i]? = some v) (fun i h => h.IsTupleIter it t i ∧ h.IsTuple t items) where
  live := fun _ _ st => let ⟨o, ho, _⟩ := st.1; ⟨o, ho⟩
  frame := fun _ _ _ st k => ⟨let ⟨o, ho, r⟩ := st.1; ⟨o, k it (by simp) o ho, r⟩, let ⟨o, ho, r⟩ := st.2; ⟨o, k t (by simp) o ho, r⟩⟩
  item := fun i s Q E hi st hQ => by
    refine RZ.nextOf_tuple_item st.1 st.2 (x := items[i]) (by simp [hi]) fun h' hit' hs' => ?_
    exact hQ _ h' s.toks (by simp [hi]) ⟨hit', let ⟨o, ho, r⟩ := st.2; ⟨o, (hs'.2 t hne).trans ho, r⟩⟩ hs'
  done := fun s Q E st hE => RZ.nextOf_tuple_end hh st.1 st.2 (by simp) hE
theorem meets_new (t : Addr) (items : Array Value) :
    Meets (Builtin.«enumerate.__new__» ⟨[.type "enumerate", .ref t], []⟩) (fun _ R s => s.heap.IsTuple t items ∧
      R (.ok (.ret (.ref (s.heap.push { cls := .type "tuple_iterator", data := .fields #[.ref t, .int 0 0] }).objs.size)))
        { s with heap := (s.heap.push { cls := .type "tuple_iterator", data := .fields #[.ref t, .int 0 0] }).push { cls := .type "enumerate", data := .fields #[.none, .bool false, .ref s.heap.objs.size, rawInt 0, .none, .none] } }) :=
  .of_wp fun prog w A R s h => by
    obtain ⟨hp, g, d, tk, os⟩ := s
    obtain ⟨hl, h⟩ := h
    have hsub := sub_enumerate
    have hL : Heap.IsTuple (Shared.heap ⟨hp, g, d, tk, os⟩) t items := hl
    obtain ⟨⟨c0, d0, dt0, sl0⟩, ho, hc, n, hd⟩ := hl
    replace hc : c0 = .type "tuple" := hc
    replace hd : dt0 = .seq items n := hd
    subst hc hd
    wp_walk using AutoSeq1.wpAny_loadPart' ho
    refine wpAny_stack_any fun st => wpAny_pure ?_
    split
    · rename_i c _ _ _ _ _
      cases (c == Value.type "enumerate")
      · wp_walk using AutoSeq1.wpAny_loadPart' ho, wpAny_pyIter_tuple hL
        exact ⟨_, rfl, h⟩
      · wp_walk using AutoSeq1.wpAny_loadPart' ho, wpAny_pyIter_tuple hL
        exact ⟨_, rfl, h⟩
    · wp_walk using AutoSeq1.wpAny_loadPart' ho, wpAny_pyIter_tuple hL
      exact ⟨_, rfl, h⟩
section
variable {prog : Program} {w : World} {A : Around} {E : Value → Shared → Prop} {s : Shared}
theorem call_enum {t : Addr} {items : Array Value} {Q : Value → Shared → Prop} (hL : s.heap.IsTuple t items)
    (h : ∀ h', IsEnum h' (s.heap.objs.size + 1) s.heap.objs.size 0 .none → h'.IsTupleIter s.heap.objs.size t 0 → (∀ b o, s.heap.get? b = some o → h'.get? b = some o) → Q (.ref (s.heap.objs.size + 1)) { s with heap := h' }) :
    wpAny (model prog w) A (call (.type "enumerate") [.ref t]) Q E s := by
  refine callType_new PySem.F.called_enumerate (by decide) (PySem.F.typeCall_enumerate_1 _) (PySem.F.newCall_enumerate_1 _) (fun obj => PySem.F.args_object_init_2 obj _) PySem.F.entry_enumerate_new (meets_new t items) ⟨hL, ?_⟩
  have hz : (s.heap.push { cls := .type "tuple_iterator", data := .fields #[.ref t, .int 0 0] }).objs.size = s.heap.objs.size + 1 := Heap.size_push ..
  show _ ∧ _
  rw [hz]
  have he : IsEnum ((s.heap.push { cls := .type "tuple_iterator", data := .fields #[.ref t, .int 0 0] }).push { cls := .type "enumerate", data := .fields #[.none, .bool false, .ref s.heap.objs.size, rawInt 0, .none, .none] }) (s.heap.objs.size + 1) s.heap.objs.size 0 .none := by
    have q := Heap.get?_push_size (s.heap.push { cls := .type "tuple_iterator", data := .fields #[.ref t, .int 0 0] }) (o := { cls := .type "enumerate", data := .fields #[.none, .bool false, .ref s.heap.objs.size, rawInt 0, .none, .none] }) rfl
    rw [hz] at q
    exact q
  exact ⟨⟨_, he, rfl⟩, h _ he ⟨_, Heap.get?_push_of_some _ (Heap.get?_push_size _ rfl), rfl, rfl⟩ fun b o x => Heap.get?_push_of_some _ (Heap.get?_push_of_some _ x)⟩
end
/-- the tuple at a, each item in a new pair with its place -/
def IteT (K : PySem.W.Frag) (a : Addr) : It :=
  ⟨fun i H => ∃ (xs : List V) (x : V), SqT K H a xs ∧ xs[i]? = some x, fun i H v H' => ∃ T x, v = .ref T ∧ H T = none ∧ H' = upd H T (.tup [.int (i : Nat), x]) ∧ ∀ xs, SqT K H a xs → xs[i]? = some x, fun i H => ∃ xs : List V, SqT K H a xs ∧ xs.length = i⟩
theorem turn_enumT {P : Program} {w : World} {K : PySem.W.Frag} {elts : List Expr} {kk : Nat} {tpos : Pos} (a e it : Addr) (items : Array Value) :
    Turn P w K (.Tuple elts kk tpos) (IteT K a) [e, it] e (fun i h => (∃ old, IsEnum h e it ((i : Nat) : Int) old) ∧ h.IsTupleIter it a i ∧ e ≠ it ∧ a ≠ it ∧ e ≠ a) where
  mem := by simp
  obj := fun i h st b hb => by
    obtain ⟨⟨old, he⟩, ⟨o, ho, hc, hd⟩, _⟩ := st
    have e' : b = e ∨ b = it := by simpa using hb
    rcases e' with z | z
    · rw [z]; exact ⟨_, he, fun v q => nomatch q⟩
    · rw [z]; exact ⟨o, ho, fun v q => by rw [hd] at q; cases q⟩
  keep := fun i h h' st k => let ⟨⟨old, he⟩, ⟨o, ho, r⟩, hne⟩ := st; ⟨⟨old, k e (by simp) _ he⟩, ⟨o, k it (by simp) _ ho, r⟩, hne⟩
  item := by
    intro X hP hw hK hc i pins s σ H E I hf st hg
    subst hP hw hK
    obtain ⟨⟨old, he⟩, hit, hne, hat, hea⟩ := st
    obtain ⟨xs, x, hq, hx⟩ := hg
    obtain ⟨its, rv, p, hz⟩ := I.tuple hq
    obtain ⟨u, hu, ru⟩ := rv.get hx
    have hel : e < s.heap.objs.size := Heap.lt_size he
    have hi : i < its.toArray.size := by simpa using (List.getElem?_eq_some_iff.mp hu).1
    refine wpAny_pyNext_enum_itemD (drawsT (A := X.A.in1) (I.ok.hd hc) it a hat its.toArray) he ⟨hit, p⟩ hi hne (by simp [hne, hea]) fun v h' tk hv ho hst' hT hsz hk => ?_
    have ev : v = u := by
      have q : its.toArray[i]? = some v := hv
      rw [List.getElem?_toArray, hu] at q
      exact (Option.some.inj q).symm
    subst ev
    refine ⟨_, rfl, wpAny_letOwnedTupleGo_enum (s := { s with heap := h', toks := tk + 1 }) ho fun h'' he' sb => ?_⟩
    have hT2 : h''.get? s.heap.objs.size = some { cls := .type "tuple", data := .seq #[.int i tk, v] } := (sb.2 _ (Nat.ne_of_gt hel)).trans hT
    have new : ObjOk X.prog X.w (upd H s.heap.objs.size (.tup [.int (i : Nat), x])) h'' s.heap.objs.size (.tup [.int (i : Nat), x]) :=
      ⟨by show 2 ≤ sizeLine; decide, [.int i tk, v], .cons ⟨_, rfl⟩ (.cons ru .nil), ⟨_, hT2, rfl, _, rfl⟩⟩
    have I1 : Inv X pins σ (upd H s.heap.objs.size (.tup [.int (i : Nat), x])) { s with heap := h'', toks := tk + 1 } :=
      I.turnedNew (ch := [e, it]) (fun b ob hb q => (sb.2 b (fun z => hb (by simp [z]))).trans (hk b ob (fun z => hb (by simp [z])) (fun z => hb (by simp [z])) q)) hf (Nat.le_refl _) new
    refine ⟨.ref s.heap.objs.size, _, I1, rfl, ⟨_, x, rfl, I.hok.fresh (Nat.le_refl _), rfl, fun ys hy => by rw [I.tuple_inj hy hq]; exact hx⟩, ⟨⟨v, ?_⟩, ?_, hne, hat, hea⟩, fun b hb => ?_⟩
    · have e1 : ((i + 1 : Nat) : Int) = (i : Int) + 1 := by omega
      rw [e1]
      exact he'
    · obtain ⟨o, ho2, r⟩ := hst'.1
      exact ⟨o, (sb.2 it (Ne.symm hne)).trans ho2, r⟩
    · have hb' : b < s.heap.objs.size := by
        have e' : b = e ∨ b = it := by simpa using hb
        rcases e' with z | z
        · rw [z]; exact hel
        · obtain ⟨o, q, _⟩ := hit
          rw [z]; exact Heap.lt_size q
      rw [upd_ne (Nat.ne_of_lt hb')]
      exact (hf b hb).1
  done := by
    intro X hP hw hK hc i pins s σ H E I hf st hg
    subst hP hw hK
    obtain ⟨⟨old, he⟩, hit, hne, hat, hea⟩ := st
    obtain ⟨xs, hq, hx⟩ := hg
    obtain ⟨its, rv, p, hz⟩ := I.tuple hq
    obtain ⟨f0, f1, f2, f3, f4, f5⟩ := hf it (by simp)
    have hl := rv.length
    have ei : its.toArray.size = i := by simp; omega
    subst ei
    exact wpAny_pyNext_enum_endD (drawsT (A := X.A.in1) (I.ok.hd hc) it a hat its.toArray) he ⟨hit, p⟩ fun h' eb => ⟨rfl, I.turned (t' := s.toks) (fun b o hb q => eb b o hb q) f0 f1 f3 f4 f5⟩
  self := fun A i s Q E st h => let ⟨⟨_, he⟩, _⟩ := st; wpAny_pyIter_enum he h
def iEnumT (K : PySem.W.Frag) (ta : TA) : TI := fun σ H R => ta σ H fun vs H1 => ∃ a xs, vs = [.ref a] ∧ SqT K H1 a xs ∧ R (IteT K a) H1
theorem pi_enumT {X : Cx} {e : Expr} {ta : TA} {p pos tpos : Pos} {elts : List Expr} {kk : Nat} (hg : Gl X "enumerate") (hm : X.mg "enumerate" = none) (ha : PA X [e] ta) (hs : starEach [e] X.env = [(false, eval e X.env)] := by rfl) :
    PI X (.Tuple elts kk tpos) (.Call (.Name "enumerate" p) [e] [] pos) (iEnumT X.K ta) := by
  refine ⟨fun pins s σ H R I h => ?_⟩
  refine Call_ (ld_blt I hg hm boot_enumerate (PyProof.Rows.callWith_type1 (thn (ha.run pos pins s σ H _ I h) fun us s1 ⟨vs, H1, I1, r1, q1⟩ => ?_) hs rfl))
  obtain ⟨a, xs, ex, hq, q⟩ := q1
  subst ex
  cases r1 with
  | cons r rr =>
    cases rr
    cases r
    obtain ⟨its, rv, p', hz⟩ := I1.tuple hq
    have hal : a < s1.heap.objs.size := by
      obtain ⟨o, ho, _⟩ := p'
      exact Heap.lt_size ho
    refine call_enum p' fun h' he hit hk => wpAny_pyIter_enum he ?_
    have I2 : Inv X pins σ H1 { s1 with heap := h' } := I1.kept (t' := s1.toks) hk
    refine ⟨s1.heap.objs.size + 1, [s1.heap.objs.size + 1, s1.heap.objs.size], _, _, H1, rfl, I2, turn_enumT a (s1.heap.objs.size + 1) s1.heap.objs.size its.toArray, ⟨⟨.none, he⟩, hit, Nat.succ_ne_self _, Nat.ne_of_lt hal, Nat.ne_of_gt (Nat.lt_succ_of_lt hal)⟩, fun b hb => ?_, q⟩
    have e' : b = s1.heap.objs.size + 1 ∨ b = s1.heap.objs.size := by simpa using hb
    have hle : s1.heap.objs.size ≤ b := by
      rcases e' with z | z
      · rw [z]; exact Nat.le_add_right _ _
      · rw [z]; exact Nat.le_refl _
    exact I1.fpOk hle (I1.hok.fresh hle)
end EnT
namespace Lw
open PySem L2 TzR
theorem tzS {H H' : Hp} {p : Addr} {xs : List V} (g : Same H H') : TzAt H p xs → TzAt H' p xs
  | ⟨o, h, z⟩ => ⟨o, g _ _ h, z⟩
section
variable {P : Program} {w : World} {K : PySem.W.Frag} {mg : Str → Option Value} {base : Heap} {f : Addr} {fd : FuncData}
def spFrS1 : Sp := fun vs H Q _ => ∃ i : Str, vs = [.str i] ∧ ∀ H' : Hp, Same H H' → Q (.str i) H'
def spFrzS (K : PySem.W.Frag) : Sp := fun vs H Q _ => ∃ (a : Addr) (is : List Str), vs = [.ref a] ∧ (SqL K H a (is.map V.str) ∨ SqT K H a (is.map V.str)) ∧ is.length ≤ 1000 ∧
  ∀ (p : Addr) (H' : Hp), Same H H' → H p = none → TzAt H' p (is.map V.str) → Q (.ref p) H'
theorem ok_frS1 (F : Fun K "frozen" "frozen" sFrozen f fd) (B : Bt mg) : FnOk P w K mg base CX0 1 f fd ["worth"] spFrS1 := by
  refine F.ok scF (fun vs H Q E h => ?_) (fun cdv A outer s H vs Q E hr h => ?_)
  · obtain ⟨i, rfl, _⟩ := h
    rfl
  obtain ⟨i, rfl, q⟩ := h
  refine ⟨_, pss_cons (ps_if (pt_val (pe_callB call_isiT (by rfl) B.isi (by decide +kernel) (pa_cons (pv 0) (pa_cons (pe_tup (pa_cons (pe_bltn (v := .ty "list") (by rfl) B.lst (by decide +kernel) rfl) (pa_cons (pe_bltn (v := .ty "tuple") (by rfl) B.tup (by decide +kernel) rfl) pa_nil))) pa_nil)))) (pss_one ps_never) pss_nil)
    (pss_one (ps_ret (pv 0))), ?_⟩
  refine ⟨_, rfl, (by show 2 ≤ sizeLine; decide), fun t ht => ?_⟩
  refine ⟨_, t, _, .type "str", [.type "list", .type "tuple"], false, rfl, upd_same, .cons (.ty _) (.cons (.ty _) .nil), .base (.str i), is_seq (by decide +kernel) (by decide +kernel), _, rfl, ?_⟩
  exact iteF ⟨_, rfl, q _ (same_new ht _)⟩
/-- the ints so far -/
def InvSt (H0 : Hp) (D : Addr) (is : List Str) (i : Nat) (H : Hp) : Prop := H D = some (.lst ((is.take i).map V.str)) ∧ Same H0 H
theorem take_map_succS {is : List Str} {i : Nat} {x : V} (h : (is.map V.str)[i]? = some x) : ∃ n, x = .str n ∧ (is.take (i + 1)).map V.str = (is.take i).map V.str ++ [.str n] := by
  rw [List.getElem?_map] at h
  cases e : is[i]? with
  | none => rw [e] at h; cases h
  | some n =>
    rw [e] at h
    refine ⟨n, (Option.some.inj h).symm, ?_⟩
    rw [List.take_succ, e, List.map_append] <;> rfl
theorem ok_frzS (F : Fun K "frozen" "frozen" sFrozen f fd) (bF : Binds K fd ["worth"] []) (mF : mg "frozen" = some (.ref f)) (B : Bt mg) : FnOk P w K mg base CX0 2 f fd ["worth"] (spFrzS K) := by
  have G : FnOk P w K mg base CX0 1 f fd ["worth"] spFrS1 := ok_frS1 F B
  refine F.ok scF (fun vs H Q E h => ?_) (fun cdv A outer s H vs Q E hr h => ?_)
  · obtain ⟨a, is, rfl, _⟩ := h
    rfl
  obtain ⟨a, is, rfl, hS, hl, q⟩ := h
  have turn : ∀ {te : TE} {D : Addr}, H D = none → ∀ i x H', (is.map V.str)[i]? = some x → InvSt H D is i H' → tCall spFrS1 [] E0 (tCons (tVar 1) tNil) [some (.ref a), some x] H' fun y H4 => ∃ acc, H4 D = some (.lst acc) ∧ acc.length < sizeLine ∧ InvSt H D is (i + 1) (upd H4 D (.lst (acc ++ [y]))) := by
    rintro te D hD i x H' hx ⟨hd, g⟩
    obtain ⟨n, rfl, en⟩ := take_map_succS hx
    refine ⟨_, rfl, n, rfl, fun H2 g2 => ⟨_, g2 _ _ hd, ?_, by rw [upd_same, en], same_over (g.trans g2) hD _⟩⟩
    rw [List.length_map]
    exact small1000 (by rw [List.length_take]; omega)
  rcases hS with hS | hS
  · refine ⟨_, pss_cons (ps_if (pt_val (pe_callB call_isiT (by rfl) B.isi (by decide +kernel) (pa_cons (pv 0) (pa_cons (pe_tup (pa_cons (pe_bltn (v := .ty "list") (by rfl) B.lst (by decide +kernel) rfl) (pa_cons (pe_bltn (v := .ty "tuple") (by rfl) B.tup (by decide +kernel) rfl) pa_nil))) pa_nil))))
        (pss_one (ps_ret (pe_callTy call_tuple_frz (by rfl) B.tup (by decide +kernel) (pa_cons (pe_lc (own := [("part", 1)]) (g := gName 1) (tt := tYes) rfl scF.nd (pi_list (pv 0)) (blkOk_by (N := ["worth", "part"]) (sc := defScope sFrozen) (by decide +kernel))
          (fun _ _ _ _ _ => pg_name (i := 1) scF.nd rfl (Or.inl rfl)) (fun _ _ _ _ _ => pts_nil) (fun _ _ _ _ _ => pe_call G hr rfl mF F.kp bF .nil pass0 (pa_cons (pv 1) pa_nil))) pa_nil)))) pss_nil)
      (pss_one (ps_ret (pv 0))), ?_⟩
    refine ⟨_, rfl, (by show 2 ≤ sizeLine; decide), fun t ht => ?_⟩
    have g1 : Same H (upd H t (.tup [.ty "list", .ty "tuple"])) := same_new ht _
    refine ⟨_, t, _, .type "list", [.type "list", .type "tuple"], true, rfl, upd_same, .cons (.ty _) (.cons (.ty _) .nil), tyL (g1.seq hS), is_seqL, _, rfl, ?_⟩
    refine iteT ?_
    refine ⟨_, rfl, a, rfl, ⟨_, g1.seq hS⟩, fun D hD => ?_⟩
    have hD0 : H D = none := g1.free hD
    refine lc_list (K := K) (a := a) (xs := is.map V.str) (InvSt H D is) ⟨upd_same, same_over g1 hD0 _⟩ (fun i H' _ ⟨_, g⟩ => g.seq hS) (fun i x H' hx hi => ⟨rfl, kept (turn (te := fun _ _ _ => True) hD0 i x H' hx hi)⟩) ?_
    rintro H' ⟨hd, g⟩
    rw [List.length_map, List.take_length] at hd
    refine ⟨D, _, rfl, SqL.of hd, fun l o hl0 hc hdn => ?_⟩
    exact q l _ (g.trans (same_new hl0 _)) (g.free hl0) (TzAt.of upd_same hc hdn)
  · refine ⟨_, pss_cons (ps_if (pt_val (pe_callB call_isiT (by rfl) B.isi (by decide +kernel) (pa_cons (pv 0) (pa_cons (pe_tup (pa_cons (pe_bltn (v := .ty "list") (by rfl) B.lst (by decide +kernel) rfl) (pa_cons (pe_bltn (v := .ty "tuple") (by rfl) B.tup (by decide +kernel) rfl) pa_nil))) pa_nil))))
        (pss_one (ps_ret (pe_callTy call_tuple_frz (by rfl) B.tup (by decide +kernel) (pa_cons (pe_lc (own := [("part", 1)]) (g := gName 1) (tt := tYes) rfl scF.nd (pi_tup (pv 0)) (blkOk_by (N := ["worth", "part"]) (sc := defScope sFrozen) (by decide +kernel))
          (fun _ _ _ _ _ => pg_name (i := 1) scF.nd rfl (Or.inl rfl)) (fun _ _ _ _ _ => pts_nil) (fun _ _ _ _ _ => pe_call G hr rfl mF F.kp bF .nil pass0 (pa_cons (pv 1) pa_nil))) pa_nil)))) pss_nil)
      (pss_one (ps_ret (pv 0))), ?_⟩
    refine ⟨_, rfl, (by show 2 ≤ sizeLine; decide), fun t ht => ?_⟩
    have g1 : Same H (upd H t (.tup [.ty "list", .ty "tuple"])) := same_new ht _
    refine ⟨_, t, _, .type "tuple", [.type "list", .type "tuple"], true, rfl, upd_same, .cons (.ty _) (.cons (.ty _) .nil), tyT (seqT g1 hS), is_seq (by decide +kernel) (by decide +kernel), _, rfl, ?_⟩
    refine iteT ?_
    refine ⟨_, rfl, a, rfl, ⟨_, seqT g1 hS⟩, fun D hD => ?_⟩
    have hD0 : H D = none := g1.free hD
    refine lc_tup (K := K) (a := a) (xs := is.map V.str) (InvSt H D is) ⟨upd_same, same_over g1 hD0 _⟩ (fun i H' _ ⟨_, g⟩ => seqT g hS) (fun i x H' hx hi => ⟨rfl, kept (turn (te := fun _ _ _ => True) hD0 i x H' hx hi)⟩) ?_
    rintro H' ⟨hd, g⟩
    rw [List.length_map, List.take_length] at hd
    refine ⟨D, _, rfl, SqL.of hd, fun l o hl0 hc hdn => ?_⟩
    exact q l _ (g.trans (same_new hl0 _)) (g.free hl0) (TzAt.of upd_same hc hdn)
end
end Lw
namespace Lw
open PySem L2 EnT
abbrev sChkL : Stmt := topS 21
/-- more of the names that the text leaves to Python -/
structure Bx (mg : Str → Option Value) : Prop where
  sorted : mg "sorted" = none
  enum : mg "enumerate" = none
  str : mg "str" = none
theorem sIx_none (n d : Nat) : HT.sIx n d none = d := rfl
theorem sIx_nat (n d i : Nat) : HT.sIx n d (some (i : Int)) = min i n := by
  unfold HT.sIx
  simp only
  split
  · omega
  · omega
theorem cut_take (xs : List V) (i : Nat) (h : i ≤ xs.length) : cutV xs none (some (i : Int)) = xs.take i := by
  unfold cutV
  rw [sIx_nat, sIx_none, List.drop_zero, Nat.sub_zero, Nat.min_eq_left h]
theorem in_strs (z : Str) : ∀ ls : List Str, inV (.str z) (ls.map V.str) = decide (z ∈ ls)
  | [] => by simp [inV]
  | y :: r => by
    have q := in_strs z r
    unfold inV at q ⊢
    rw [List.map_cons, List.any_cons, q]
    show ((y == z) || decide (z ∈ r)) = decide (z ∈ y :: r)
    by_cases h : y = z
    · subst h
      simp
    · have h2 : ¬ z = y := fun e => h e.symm
      simp [h, h2]
theorem flat_strs' (ls : List Str) : (ls.map V.str).all flatV = true := by
  rw [List.all_eq_true]
  intro x hx
  obtain ⟨i, _, rfl⟩ := List.mem_map.mp hx
  rfl
theorem for_enumT {K : PySem.W.Frag} {a : Addr} {xs : List V} {g : TG} {tb : TS} {D : Ends} {σ : St} {H : Hp} (Pv : Nat → St → Hp → Prop) (h0 : Pv 0 σ H) (hl : ∀ i σ H, Pv i σ H → SqT K H a xs)
    (hs : ∀ i σ H x T, xs[i]? = some x → Pv i σ H → H T = none → g (.ref T) σ (upd H T (.tup [.int (i : Nat), x])) fun σ2 H2 => tb { D with nx := Pv (i + 1), ct := Pv (i + 1), bk := D.nx } σ2 H2) (hd : ∀ σ H, Pv xs.length σ H → D.nx σ H) :
    ∃ W : Nat → Nat → St → Hp → Prop, (∃ m, W 0 m σ H) ∧ ∀ i m σ H, W i m σ H →
      ((EnT.IteT K a).stop i H ∧ D.nx σ H) ∨ ((EnT.IteT K a).go i H ∧ ∃ N : St → Hp → Prop, (∀ σ' H', N σ' H' → ∃ m', m' < m ∧ W (i + 1) m' σ' H') ∧ ∀ x H', (EnT.IteT K a).yld i H x H' → g x σ H' fun σ2 H2 => tb { D with nx := N, ct := N, bk := D.nx } σ2 H2) := by
  refine ⟨fun i m σ H => m = xs.length - i ∧ i ≤ xs.length ∧ Pv i σ H, ⟨xs.length, by simp, Nat.zero_le _, h0⟩, ?_⟩
  rintro i m σ H ⟨rfl, hi, p⟩
  have sq := hl i σ H p
  by_cases hlt : i < xs.length
  · refine .inr ⟨⟨xs, xs[i], sq, List.getElem?_eq_getElem hlt⟩, Pv (i + 1), fun σ' H' p' => ⟨xs.length - (i + 1), by omega, rfl, hlt, p'⟩, fun x H' y => ?_⟩
    obtain ⟨T, x', rfl, hT, rfl, hx⟩ := y
    exact hs i σ H x' T (hx xs sq) p hT
  · have e : i = xs.length := by omega
    subst e
    exact .inl ⟨⟨xs, sq, rfl⟩, hd σ H p⟩
section
variable {P : Program} {w : World} {K : PySem.W.Frag} {mg : Str → Option Value} {base : Heap} {f : Addr} {fd : FuncData}
def spChkL (K : PySem.W.Frag) : Sp := fun vs H Q _ => ∃ (t : Addr) (ls : List Str), vs = [.ref t] ∧ SqT K H t (ls.map V.str) ∧ ls.length ≤ 100 ∧ ls.Nodup ∧ ∀ H' : Hp, Same H H' → Q .non H'
theorem scCL : FnScope ["letters", "at", "letter"] ["letters"] (defScope sChkL) := ⟨rfl, rfl, rfl, by decide +kernel, rfl, by decide +kernel, by decide +kernel⟩
theorem ok_chkL (F : Fun K "check_letters" "check_letters" sChkL f fd) (B2 : Bx mg) : FnOk P w K mg base CX0 1 f fd ["letters"] (spChkL K) := by
  refine F.ok scCL (fun vs H Q E h => ?_) (fun cdv A outer s H vs Q E hr h => ?_)
  · obtain ⟨t, ls, rfl, _⟩ := h
    rfl
  obtain ⟨t, ls, rfl, ht, hl, hn, k⟩ := h
  refine ⟨_, pss_one (ps_for PassesOwn.never rfl (EnT.pi_enumT (by rfl) B2.enum (pa_cons (pv 0) pa_nil)) (pg_tup rfl (pgs_cons (pg_name (i := 1) scCL.nd rfl (Or.inl rfl)) (pgs_cons (pg_name (i := 2) scCL.nd rfl (Or.inl rfl)) pgs_nil)))
    (pss_one (ps_if (pt_cmpR (r := rIn K false) op_in_seq (pv 2) (pe_slice sl_tupA (pv 0) po_none (po_some (pv 1))) (by rfl)) (pss_one ps_never) pss_nil))), ?_⟩
  refine ⟨_, rfl, t, _, rfl, ht, for_enumT (K := K) (a := t) (xs := ls.map V.str) (fun i σ' H' => (∃ u v : Option V, σ' = [some (.ref t), u, v]) ∧ Same H H') ⟨⟨_, _, rfl⟩, Same.refl H⟩ (fun i σ' H' ⟨_, g⟩ => seqT g ht) (fun i σ' H' x T hx ⟨⟨u, v, e⟩, g⟩ hT => ?_) (fun σ' H' ⟨_, g⟩ => k H' g)⟩
  subst e
  rw [List.getElem?_map] at hx
  cases ez : ls[i]? with
  | none => rw [ez] at hx; cases hx
  | some z =>
    rw [ez] at hx
    cases hx
    have hi : i < ls.length := (List.getElem?_eq_some_iff.mp ez).1
    have gT := same_new hT (.tup [.int (i : Nat), .str z])
    have htT := seqT (g.trans gT) ht
    have no : decide (z ∈ ls.take i) = false := by
      refine decide_eq_false fun hm => ?_
      obtain ⟨j, hj, ej⟩ := List.getElem_of_mem hm
      rw [List.length_take] at hj
      rw [List.getElem_take] at ej
      obtain ⟨_, e2⟩ := List.getElem?_eq_some_iff.mp ez
      exact absurd ((List.getElem_inj hn).mp (ej.trans e2.symm)) (by omega)
    have ecut : cutV (ls.map V.str) none (some (i : Int)) = (ls.take i).map V.str := by
      rw [cut_take _ _ (by rw [List.length_map]; omega), List.map_take]
    refine ⟨T, _, rfl, SqT.of upd_same, rfl, _, _, rfl, _, _, rfl, rfl, ?_⟩
    refine ⟨_, rfl, _, rfl, _, rfl, _, rfl, t, _, rfl, htT, fun hw => ?_, fun _ p hp => ?_⟩
    · exfalso
      have z2 := hw.2
      rw [sIx_nat, List.length_map] at z2
      omega
    · have gp := same_new hp (.tup (cutV (ls.map V.str) none (some (i : Int))))
      refine ⟨p, _, rfl, .inr (SqT.of upd_same), rfl, by rw [ecut]; exact flat_strs' _, _, rfl, ?_⟩
      have e3 : inV (.str z) (cutV (ls.map V.str) none (some (i : Int))) = false := by
        rw [ecut, in_strs]
        exact no
      exact iteN (c := inV (.str z) (cutV (ls.map V.str) none (some (i : Int)))) e3 ⟨⟨_, _, rfl⟩, (g.trans gT).trans gp⟩
end
end Lw
namespace Lw
open PySem L2 TzR
abbrev sUini : Stmt := inClass (topS 32) 0
/-- a use of the program: its name, its letters, its form -/
def UseAt (K : PySem.W.Frag) (U C : Addr) (H : Hp) (p : Addr) (nm : Str) (ls : List Str) (q : Addr) (ks : List Str) (is : List Int) : Prop :=
  ∃ dx tl : Addr, H p = some (.ins U dx [("name", .str nm), ("letters", .ref tl), ("form", .ref q)]) ∧ TzAt H tl (ls.map V.str) ∧ FormAt K C q ks is H
theorem UseAt.same {K : PySem.W.Frag} {U C : Addr} {H H' : Hp} {p q : Addr} {nm : Str} {ls ks : List Str} {is : List Int} (g : Same H H') : UseAt K U C H p nm ls q ks is → UseAt K U C H' p nm ls q ks is
  | ⟨dx, tl, h1, h2, h3⟩ => ⟨dx, tl, g _ _ h1, tzS g h2, h3.same g⟩
theorem tzK {H H' : Hp} {p q : Addr} {xs : List V} {U dx : Addr} {fs : List (Str × V)} (k : Kp p H H') (hp : H p = some (.ins U dx fs)) : TzAt H q xs → TzAt H' q xs
  | ⟨o, h, z⟩ => ⟨o, k _ _ (fun e => by rw [e, hp] at h; cases h) h, z⟩
structure Us (K : PySem.W.Frag) (U C : Addr) : Prop where
  cl : Cls K U
  nN : PySem.W.findIn K (.ref U) "name" = some none
  nL : PySem.W.findIn K (.ref U) "letters" = some none
  nF : PySem.W.findIn K (.ref U) "form" = some none
  clC : Cls K C
  nK : PySem.W.findIn K (.ref C) "kinds" = some none
theorem scUi : FnScope ["self", "name", "letters", "form"] ["self", "name", "letters", "form"] (defScope sUini) := ⟨rfl, rfl, rfl, by decide +kernel, rfl, by decide +kernel, by decide +kernel⟩
def spUini (K : PySem.W.Frag) (U C : Addr) : Sp := fun vs H Q _ => ∃ (p dx l q : Addr) (nm : Str) (ls ks : List Str) (is : List Int), vs = [.ref p, .str nm, .ref l, .ref q] ∧ H p = some (.ins U dx []) ∧ (SqL K H l (ls.map V.str) ∨ SqT K H l (ls.map V.str)) ∧ ls.length ≤ 100 ∧ ls.Nodup ∧ FormAt K C q ks is H ∧ ks.length = ls.length ∧
  ∀ (H' : Hp) (tl : Addr), Kp p H H' → H' p = some (.ins U dx [("name", .str nm), ("letters", .ref tl), ("form", .ref q)]) → TzAt H' tl (ls.map V.str) → Q .non H'
theorem FormAt.kp {K : PySem.W.Frag} {C p q U dx : Addr} {fs : List (Str × V)} {ks : List Str} {is : List Int} {H H' : Hp} (k : Kp p H H') (hp : H p = some (.ins U dx [])) : FormAt K C q ks is H → FormAt K C q ks is H'
  | ⟨dx', tk, ta, h1, h2, h3⟩ => by
    have nq : q ≠ p := fun e => by
      rw [e, hp] at h1
      cases h1
    exact ⟨dx', tk, ta, k _ _ nq h1, k.seq hp h2, k.seq hp h3⟩
section
variable {P : Program} {w : World} {K : PySem.W.Frag} {mg : Str → Option Value} {base : Heap} {f U C gF gC : Addr} {fd dF dC : FuncData}
theorem ok_uini (F : Fun K "__init__" "Use.__init__" sUini f fd) (T : Us K U C) (B : Bt mg) (GF : FnOk P w K mg base CX0 2 gF dF ["worth"] (spFrzS K)) (bF : Binds K dF ["worth"] []) (kF : PySem.W.keepIn K (.ref gF) = true) (mF : mg "frozen" = some (.ref gF))
    (GC : FnOk P w K mg base CX0 1 gC dC ["letters"] (spChkL K)) (bC : Binds K dC ["letters"] []) (kC : PySem.W.keepIn K (.ref gC) = true) (mC : mg "check_letters" = some (.ref gC)) : FnOk P w K mg base CX0 3 f fd ["self", "name", "letters", "form"] (spUini K U C) := by
  refine F.ok scUi (fun vs H Q E h => ?_) (fun cdv A outer s H vs Q E hr h => ?_)
  · obtain ⟨p, dx, l, q, nm, ls, ks, is, rfl, _⟩ := h
    rfl
  obtain ⟨p, dx, l, q, nm, ls, ks, is, rfl, hp, hS, hl, hn, hq, hkl, k⟩ := h
  refine ⟨_, pss_cons (ps_fld (pv 0) (pv 1) rfl) (pss_cons (ps_fld (pv 0) (pe_call GF hr rfl mF kF bF .nil pass0 (pa_cons (pv 2) pa_nil)) rfl) (pss_cons (ps_fld (pv 0) (pv 3) rfl)
    (pss_cons (ps_expr (pe_call GC (hr.mono (by decide)) rfl mC kC bC .nil pass0 (pa_cons (pe_fld (pv 0) rfl) pa_nil)))
    (pss_one (ps_if (pt_cmpR op_ne (pe_callB call_len_seq (by rfl) B.len PySem.boot_len (pa_cons (pe_fld (pv 3) rfl) pa_nil)) (pe_callB call_len_seq (by rfl) B.len PySem.boot_len (pa_cons (pe_fld (pv 0) rfl) pa_nil)) (nomark _)) (pss_one ps_never) pss_nil))))), ?_⟩
  have l0 : ls.length ≤ 1000 := by omega
  refine ⟨_, rfl, _, rfl, p, U, dx, _, rfl, hp, T.cl, T.nN, (by show 0 < 1000; decide), ?_⟩
  have k1 : Kp p H (upd H p (.ins U dx (putF "name" (.str nm) []))) := fun b o n e => by rw [upd_ne n]; exact e
  have hS1 := hS.imp (fun z => k1.seqL hp z) (fun z => k1.seq hp z)
  have hp1 : (upd H p (.ins U dx (putF "name" (.str nm) []))) p = _ := upd_same
  revert k1 hS1 hp1
  generalize upd H p (.ins U dx (putF "name" (.str nm) [])) = H1
  intro k1 hS1 hp1
  refine ⟨_, rfl, l, ls, rfl, hS1, l0, fun tl H2 g2 n2 h2 => ?_⟩
  have hp2 := g2 _ _ hp1
  refine ⟨_, rfl, p, U, dx, _, rfl, hp2, T.cl, T.nL, (by show 1 < 1000; decide), ?_⟩
  have k2 : Kp p H2 (upd H2 p (.ins U dx (putF "letters" (.ref tl) (putF "name" (.str nm) [])))) := fun b o n e => by rw [upd_ne n]; exact e
  have ht3 := tzK k2 hp2 h2
  have hp3 : (upd H2 p (.ins U dx (putF "letters" (.ref tl) (putF "name" (.str nm) [])))) p = _ := upd_same
  have k3 : Kp p H (upd H2 p (.ins U dx (putF "letters" (.ref tl) (putF "name" (.str nm) [])))) := fun b o n e => k2 b o n (g2 _ _ (k1 b o n e))
  revert ht3 hp3 k3
  generalize upd H2 p (.ins U dx (putF "letters" (.ref tl) (putF "name" (.str nm) []))) = H3
  intro ht3 hp3 k3
  refine ⟨_, rfl, _, rfl, p, U, dx, _, rfl, hp3, T.cl, T.nF, (by show 2 < 1000; decide), ?_⟩
  have k4 : Kp p H3 (upd H3 p (.ins U dx [("name", .str nm), ("letters", .ref tl), ("form", .ref q)])) := fun b o n e => by rw [upd_ne n]; exact e
  have ht4 := tzK k4 hp3 ht3
  have hp4 : (upd H3 p (.ins U dx [("name", .str nm), ("letters", .ref tl), ("form", .ref q)])) p = some (.ins U dx [("name", .str nm), ("letters", .ref tl), ("form", .ref q)]) := upd_same
  have k5 : Kp p H (upd H3 p (.ins U dx [("name", .str nm), ("letters", .ref tl), ("form", .ref q)])) := fun b o n e => k4 b o n (k3 b o n e)
  have hq5 := hq.kp (fs := []) k5 hp
  obtain ⟨dxq, tk, ta, hq1, hq2, hq3⟩ := hq5
  refine ⟨_, rfl, p, U, dx, _, _, rfl, hp4, T.cl, T.nL, rfl, tl, ls, rfl, ht4.seq, hl, hn, fun H5 g5 => ?_⟩
  refine ⟨_, rfl, q, C, dxq, _, _, rfl, g5 _ _ hq1, T.clC, T.nK, flds_k _ _, tk, _, rfl, .inr (seqT g5 hq2), _, rfl, p, U, dx, _, _, rfl, g5 _ _ hp4, T.cl, T.nL, rfl, tl, _, rfl, .inr (seqT g5 ht4.seq), rfl, _, rfl, ?_⟩
  refine iteN (by rw [List.length_map, List.length_map, hkl, dec_int]; simp) ?_
  exact k H5 tl (fun b o n e => g5 _ _ (k5 b o n e)) (g5 _ _ hp4) (tzS g5 ht4)
end
end Lw
/-! operators of the program's own classes: x op y, x op= y, op x by the class's own defs; order of data -/
namespace OwB
open PySem PySem.Spec PyProof.Rows L2
section
variable {X : Cx} {CX : CXT} {k : Nat} {g C : Addr} {gd : FuncData} {ps : List Str} {sp : Sp} {E : XK}
theorem inst_of {pins : List (Addr × Obj)} {σ : L2.St} {H : Hp} {s : Shared} {a dx : Addr} {fs : List (Str × V)} (I : Inv X pins σ H s) (h : H a = some (.ins C dx fs)) : ∃ od, PySem.W.InstAt s.heap a (PySem.W.instObj C dx) C (some od) := by
  obtain ⟨mA, O, _⟩ := ins_get I.hok h
  obtain ⟨od, J, _⟩ := O.look
  exact ⟨od, J⟩
theorem back_of {pins : List (Addr × Obj)} {σ : L2.St} {Q : VK} {v : Value} {s' : Shared} (h : EP X pins σ Q v s') : PySem.W.CmpBack (EP X pins σ Q) v s' := by
  obtain ⟨z, H', I', rz, qz⟩ := h
  exact SlX.cmpback rz ⟨z, H', I', rz, qz⟩
/-- the def at g stands for the class at C under the name x -/
structure OpD (K : PySem.W.Frag) (C g : Addr) (x : Str) : Prop where
  at_ : PySem.W.findIn K (.ref C) x = some (some (.ref g))
  fn : PySem.W.isFn K (.ref g) = true
/-- x op y, both instances of the class at C -/
def rOwnI (C : Addr) (sp : Sp) (E : XK) : R2 := fun x y H Q => ∃ a b dx dy fs gs, x = .ref a ∧ y = .ref b ∧ H a = some (.ins C dx fs) ∧ H b = some (.ins C dy gs) ∧ sp [x, y] H Q E
theorem op_ownB {op : Operator} (hc : PySem.W.selfFirst X.K C = true) (D : OpD X.K C g (PySem.dunder op.info.2)) (F : FnOk X.prog X.w X.K X.mg X.base CX k g gd ps sp) (hr : Room k X.A) (hb : Binds X.K gd ps []) (hx : Passes CX X E) :
    OpR X (binaryOp op) (rOwnI C sp E) := by
  intro pins s σ H x y v u Q I rx ry h
  obtain ⟨a, b, dx, dy, fs, gs, rfl, rfl, ha, hb', q⟩ := h
  cases (show v = Value.ref a from rx)
  cases (show u = Value.ref b from ry)
  obtain ⟨od, J⟩ := inst_of I ha
  obtain ⟨od', J'⟩ := inst_of I hb'
  obtain ⟨m, hF⟩ := I.fr
  refine PySem.W.binop_K hF I.ok.mod.kin J J'.type hc D.at_ D.fn ?_
  exact wpAny_mono (run_fn (us := [.ref a, .ref b]) (vs := [.ref a, .ref b]) F hr hb .nil hx I (.cons rfl (.cons rfl .nil)) q) (fun w s' z => back_of z) fun _ _ x => x
theorem op_ownC {op : CmpOp} (hop : ∀ a b, compareOp op a b = richCompare op a b) (D : OpD X.K C g (cmpInfo op).2.1) (F : FnOk X.prog X.w X.K X.mg X.base CX k g gd ps sp) (hr : Room k X.A) (hb : Binds X.K gd ps []) (hx : Passes CX X E) :
    OpR X (compareOp op) (rOwnI C sp E) := by
  intro pins s σ H x y v u Q I rx ry h
  obtain ⟨a, b, dx, dy, fs, gs, rfl, rfl, ha, hb', q⟩ := h
  cases (show v = Value.ref a from rx)
  cases (show u = Value.ref b from ry)
  obtain ⟨od, J⟩ := inst_of I ha
  obtain ⟨od', J'⟩ := inst_of I hb'
  obtain ⟨m, hF⟩ := I.fr
  rw [hop]
  refine PySem.W.cmp_K (op := op) (tb := .ref C) hr.units0 hF I.ok.mod.kin J J'.type ?_ D.at_ D.fn ?_
  · unfold PySem.W.notFirst
    rw [beq_self_eq_true, Bool.true_or]
  exact wpAny_mono (run_fn (us := [.ref a, .ref b]) (vs := [.ref a, .ref b]) F hr hb .nil hx I (.cons rfl (.cons rfl .nil)) q) (fun w s' z => back_of z) fun _ _ x => x
/-- x op= y, x an instance of the class at C -/
def rOwnA (C : Addr) (sp : Sp) (E : XK) : R2 := fun x y H Q => ∃ a dx fs, x = .ref a ∧ H a = some (.ins C dx fs) ∧ sp [x, y] H Q E
theorem op_ownA {op : Operator} (hc : PySem.W.selfFirst X.K C = true) (D : OpD X.K C g (PySem.dunderI op.info.2)) (F : FnOk X.prog X.w X.K X.mg X.base CX k g gd ps sp) (hr : Room k X.A) (hb : Binds X.K gd ps []) (hx : Passes CX X E) :
    OpR X (inplaceOp op) (rOwnA C sp E) := by
  intro pins s σ H x y v u Q I rx ry h
  obtain ⟨a, dx, fs, rfl, ha, q⟩ := h
  cases (show v = Value.ref a from rx)
  obtain ⟨od, J⟩ := inst_of I ha
  obtain ⟨m, hF⟩ := I.fr
  refine PySem.W.ksp_inplace hF I.ok.mod.kin J hc D.at_ D.fn ?_
  exact wpAny_mono (run_fn (us := [.ref a, u]) (vs := [.ref a, y]) F hr hb .nil hx I (.cons rfl (.cons ry .nil)) q) (fun w s' z => back_of z) fun _ _ x => x
/-- op x -/
def rOwnU (C : Addr) (sp : Sp) (E : XK) : V → Hp → VK → Prop := fun x H Q => ∃ a dx fs, x = .ref a ∧ H a = some (.ins C dx fs) ∧ sp [x] H Q E
theorem un_own_neg (D : OpD X.K C g "__neg__") (F : FnOk X.prog X.w X.K X.mg X.base CX k g gd ps sp) (hr : Room k X.A) (hb : Binds X.K gd ps []) (hx : Passes CX X E) : UnR X (unaryOp .USub) (rOwnU C sp E) := by
  intro pins s σ H x v Q I rx h
  obtain ⟨a, dx, fs, rfl, ha, q⟩ := h
  cases (show v = Value.ref a from rx)
  obtain ⟨od, J⟩ := inst_of I ha
  obtain ⟨m, hF⟩ := I.fr
  exact PySem.W.ksp_neg hF I.ok.mod.kin J D.at_ D.fn (run_fn (us := [.ref a]) (vs := [.ref a]) F hr hb .nil hx I (.cons rfl .nil) q)
theorem un_own_pos (D : OpD X.K C g "__pos__") (F : FnOk X.prog X.w X.K X.mg X.base CX k g gd ps sp) (hr : Room k X.A) (hb : Binds X.K gd ps []) (hx : Passes CX X E) : UnR X (unaryOp .UAdd) (rOwnU C sp E) := by
  intro pins s σ H x v Q I rx h
  obtain ⟨a, dx, fs, rfl, ha, q⟩ := h
  cases (show v = Value.ref a from rx)
  obtain ⟨od, J⟩ := inst_of I ha
  obtain ⟨m, hF⟩ := I.fr
  exact PySem.W.ksp_pos hF I.ok.mod.kin J D.at_ D.fn (run_fn (us := [.ref a]) (vs := [.ref a]) F hr hb .nil hx I (.cons rfl .nil) q)
theorem un_own_inv (D : OpD X.K C g "__invert__") (F : FnOk X.prog X.w X.K X.mg X.base CX k g gd ps sp) (hr : Room k X.A) (hb : Binds X.K gd ps []) (hx : Passes CX X E) : UnR X (unaryOp .Invert) (rOwnU C sp E) := by
  intro pins s σ H x v Q I rx h
  obtain ⟨a, dx, fs, rfl, ha, q⟩ := h
  cases (show v = Value.ref a from rx)
  obtain ⟨od, J⟩ := inst_of I ha
  obtain ⟨m, hF⟩ := I.fr
  exact PySem.W.ksp_inv hF I.ok.mod.kin J D.at_ D.fn (run_fn (us := [.ref a]) (vs := [.ref a]) F hr hb .nil hx I (.cons rfl .nil) q)
/-- x op i, x an instance, i an int -/
def rOwnN (C : Addr) (sp : Sp) (E : XK) : R2 := fun x y H Q => ∃ a dx fs i, x = .ref a ∧ y = .int i ∧ H a = some (.ins C dx fs) ∧ sp [x, y] H Q E
theorem op_ownN {op : Operator} {fo ro rc : Option Value} (hc : PySem.W.selfFirst X.K C = true) (D : OpD X.K C g (PySem.dunder op.info.2)) (hr' : PySem.W.findIn X.K (.ref C) (PySem.dunderR op.info.2) = some rc) (hp : rc = none ∨ ∃ g : Addr, rc = some (.ref g))
    (h1 : PySem.W.findIn X.K (.type "int") (PySem.dunder op.info.2) = some fo) (h2 : PySem.W.findIn X.K (.type "int") (PySem.dunderR op.info.2) = some ro) (hsub : PySem.W.subIn X.K (.type "int") (.ref C) = some false)
    (F : FnOk X.prog X.w X.K X.mg X.base CX k g gd ps sp) (hr : Room k X.A) (hb : Binds X.K gd ps []) (hx : Passes CX X E) : OpR X (binaryOp op) (rOwnN C sp E) := by
  intro pins s σ H x y v u Q I rx ry h
  obtain ⟨a, dx, fs, i, rfl, rfl, ha, q⟩ := h
  cases (show v = Value.ref a from rx)
  obtain ⟨t, rfl⟩ := (show ∃ t, u = Value.int i t from ry)
  obtain ⟨od, J⟩ := inst_of I ha
  obtain ⟨m, hF⟩ := I.fr
  refine PySem.W.ksp_binT (b := .int i t) hF I.ok.mod.kin J rfl hc D.at_ D.fn hr' hp h1 h2 hsub ?_
  exact wpAny_mono (run_fn (us := [.ref a, .int i t]) (vs := [.ref a, .int i]) F hr hb .nil hx I (.cons rfl (.cons ⟨t, rfl⟩ .nil)) q) (fun w s' z => back_of z) fun _ _ x => x
end
/-! ### the order of data -/
section
variable {X : Cx}
def rCmpD (K : PySem.W.Frag) (p : PyData → PyData → Bool) : R2 := fun x y H Q => ∃ d e, Dp K H x d ∧ Dp K H y e ∧ PySem.W.alike d e = true ∧ d ≠ .none ∧ min d.depth e.depth ≤ 32 ∧ Q (.bl (p d e)) H
theorem op_ltD (hu : X.A.units + 64 < cLine) : OpR X (compareOp .Lt) (rCmpD X.K fun d e => PySem.W.dataLt d e) := by
  intro pins s σ H x y v u Q I rx ry ⟨d, e, hd, he, ha, hn, hl, q⟩
  obtain ⟨as, r1⟩ := Dp.reads I d x v hd rx
  obtain ⟨bs, r2⟩ := Dp.reads I e y u he ry
  exact PySem.W.lt_data r1 r2 ha hn (by omega) ⟨.bl _, H, I, rfl, q⟩
theorem op_gtD (hu : X.A.units + 64 < cLine) : OpR X (compareOp .Gt) (rCmpD X.K fun d e => PySem.W.dataLt e d) := by
  intro pins s σ H x y v u Q I rx ry ⟨d, e, hd, he, ha, hn, hl, q⟩
  obtain ⟨as, r1⟩ := Dp.reads I d x v hd rx
  obtain ⟨bs, r2⟩ := Dp.reads I e y u he ry
  exact PySem.W.gt_data r1 r2 ha hn (by omega) ⟨.bl _, H, I, rfl, q⟩
theorem op_leD (hu : X.A.units + 64 < cLine) : OpR X (compareOp .LtE) (rCmpD X.K fun d e => !PySem.W.dataLt e d) := by
  intro pins s σ H x y v u Q I rx ry ⟨d, e, hd, he, ha, hn, hl, q⟩
  obtain ⟨as, r1⟩ := Dp.reads I d x v hd rx
  obtain ⟨bs, r2⟩ := Dp.reads I e y u he ry
  exact PySem.W.le_data r1 r2 ha hn (by omega) ⟨.bl _, H, I, rfl, q⟩
theorem op_geD (hu : X.A.units + 64 < cLine) : OpR X (compareOp .GtE) (rCmpD X.K fun d e => !PySem.W.dataLt d e) := by
  intro pins s σ H x y v u Q I rx ry ⟨d, e, hd, he, ha, hn, hl, q⟩
  obtain ⟨as, r1⟩ := Dp.reads I d x v hd rx
  obtain ⟨bs, r2⟩ := Dp.reads I e y u he ry
  exact PySem.W.ge_data r1 r2 ha hn (by omega) ⟨.bl _, H, I, rfl, q⟩
end
end OwB
/-! list(text): its signs -/
namespace LiS
open PySem PySem.Spec PyProof.Rows L2
section
variable {prog : Program} {w : World} {A : Around} {E : Value → Shared → Prop} {s : Shared} {x : Str} {t : Tok}
theorem hint_str {Q : Bool → Shared → Prop} (h : Q false s) : wpAny (model prog w) A (Builtin.List.listLengthHint (.str x t)) Q E s := by
  unfold Builtin.List.listLengthHint
  refine wpAny_bind (wpAny_specialOf (typeIs_str s x t) PySem.F.slot_str_len.lookup ?_)
  generalize hid : ("str.__len__" : String) = id0
  wp_delta
  rw [show splitId id0 = some ("str", "__len__") from by subst hid; decide +kernel]
  subst hid
  refine wpAny_bind (wpAny_isInstance (T := "str") (b := true) (typeIs_str s x t) (by rw [isSubtype_type]; kernel_rfl) ?_)
  refine wpAny_ite_split (fun hab => absurd hab (by decide)) (fun _ => ?_)
  refine wpAny_ite_split (fun _ => ?_) (fun hab => absurd (by decide +kernel) hab)
  refine wpAny_bind (wpAny_typeOf (typeIs_str s x t) ?_)
  exact wpAny_pure h
theorem ext_str {R : Result → Shared → Prop} (hh : A.handled = none) (ha : x.cps.all (· < 128) = true) (S : Addr) (res : Value) (c₀ : Nat) (hS : s.heap.get? S = some { cls := .type "list", data := .seq #[] c₀ })
    (hR : ∀ h' tk acc' c', (∀ b o, b ≠ S → s.heap.get? b = some o → h'.get? b = some o) → h'.get? S = some { cls := .type "list", dict := none, data := .seq acc' c', slots := #[] } → ItemsOf (SignAt x) acc' x.cps.size → R (.ok (.ret res)) { s with heap := h', toks := tk }) (hn : x.cps.size ≤ sizeLine) :
    wpAny (model prog w) A.in1 (Builtin.List.listExtendWith (.ref S) (.str x t) res)
      (fun fin s' => match fin with | .done f => R (.ok f) s' | .again c' => c'.quiet = true ∧ codeAny (model prog w) A c' R s') (fun e s' => R (.error e) s') s := by
  have hSI : S ≠ s.heap.objs.size := Nat.ne_of_lt (Heap.lt_size hS)
  have hSf : S ∉ [s.heap.objs.size] := by simp only [List.mem_cons, List.not_mem_nil, or_false]; exact hSI
  have W := Walks.strAscii (prog := prog) (w := w) (A := A.in1) hh s.heap.objs.size x t
  have key : ∀ (h : Heap) (c₁ tk : Nat), h.IsStrIter s.heap.objs.size "str_ascii_iterator" x t 0 → (∀ b o, b ≠ S → s.heap.get? b = some o → h.get? b = some o) →
      h.get? S = some { cls := .type "list", data := .seq #[] c₁ } → codeAny (model prog w) A (.builtin "list.extend.loop" ⟨[.ref S, .ref s.heap.objs.size, res], []⟩) R { s with heap := h, toks := tk } := by
    intro h c₁ tk hst hk hS₁
    refine codeAny_extend_loopS W.toS hn S hSf res x.cps.size 0 _ #[] c₁ rfl (Nat.zero_le _) hst hS₁ (ItemsOf.nil _) fun s' acc' c' hm hS' hacc => ?_
    rw [Moved.eq_with hm]
    refine hR s'.heap s'.toks acc' c' (fun b o hb e => hm.heap b o (fun hmem => ?_) (hk b o hb e)) hS' hacc
    rcases List.mem_cons.mp hmem with e' | hmem
    · exact hb e'
    · exact absurd (Heap.lt_size e) (by rw [List.mem_singleton.mp hmem]; exact Nat.lt_irrefl _)
  unfold Builtin.List.listExtendWith
  refine wpAny_bind (wpAny_typeOf (T := "str") (typeIs_str s x t) ?_)
  have h1 : Builtin.List.listSameRef (.ref S) (.str x t) = false := rfl
  have h2 : (Value.type "str" == Value.type "list") = false := by decide
  have h3 : (Value.type "str" == Value.type "tuple") = false := by decide
  simp only [h1, h2, h3, Bool.or_false, Bool.false_eq_true, if_false]
  refine wpAny_bind (wpAny_pyIter_ascii ha ?_)
  have hS₁ := Heap.get?_push_of_some { cls := .type "str_ascii_iterator", data := .fields #[.str x t, .int 0 0] } hS
  have st : (s.heap.push { cls := .type "str_ascii_iterator", data := .fields #[.str x t, .int 0 0] }).IsStrIter s.heap.objs.size "str_ascii_iterator" x t 0 := ⟨_, Heap.get?_push_size _ rfl, rfl, rfl⟩
  refine wpAny_bind (wpAny_holding (hint_str ?_))
  refine wpAny_ite_split (fun _ => ?_) (fun _ => wpAny_pure ⟨plainId_quiet PySem.F.plain_extend_loop _, key _ c₀ _ st (fun b o _ e => Heap.get?_push_of_some _ e) hS₁⟩)
  refine wpAny_bind (wpAny_rule ?_)
  refine wpAny_bind ?_
  show wpAny _ _ (updateSeq S (·.push .none) >>= fun _ => updateSeq S (·.pop)) _ _ _
  refine wpAny_bind (wpAny_updateSeq hS₁ rfl ?_)
  have hS₂ := Heap.get?_update_self (Obj.mapSeq (·.push Value.none)) hS₁ rfl
  refine wpAny_updateSeq (hz := by seq_fits) hS₂ rfl ?_
  have hS₃ := Heap.get?_update_self (Obj.mapSeq (·.pop)) hS₂ rfl
  refine wpAny_pure ⟨plainId_quiet PySem.F.plain_extend_loop _, key _ _ _ ?_ (fun b o hb e => ?_) hS₃⟩
  · refine W.frame 0 _ _ st fun b hb o e => ?_
    have hbS : b ≠ S := fun h => hSf (h ▸ hb)
    exact (Heap.get?_update_other _ _ (Ne.symm hbS)).trans ((Heap.get?_update_other _ _ (Ne.symm hbS)).trans e)
  · exact (Heap.get?_update_other _ _ (Ne.symm hb)).trans ((Heap.get?_update_other _ _ (Ne.symm hb)).trans (Heap.get?_push_of_some _ e))
theorem ini_str {R : Result → Shared → Prop} (hh : A.handled = none) (ha : x.cps.all (· < 128) = true) (S : Addr) (hS : s.heap.get? S = some { cls := .type "list", data := .seq #[] })
    (hR : ∀ h' tk acc' c', (∀ b o, b ≠ S → s.heap.get? b = some o → h'.get? b = some o) → h'.get? S = some { cls := .type "list", dict := none, data := .seq acc' c', slots := #[] } → ItemsOf (SignAt x) acc' x.cps.size → R (.ok (.ret .none)) { s with heap := h', toks := tk }) (hn : x.cps.size ≤ sizeLine) :
    wpAny (model prog w) A.in1 (Builtin.«list.__init__» ⟨[.ref S, .str x t], []⟩)
      (fun fin s' => match fin with | .done f => R (.ok f) s' | .again c' => c'.quiet = true ∧ codeAny (model prog w) A c' R s') (fun e s' => R (.error e) s') s := by
  show wpAny _ _ (do let old ← Builtin.List.listItems (.ref S); Builtin.List.listUpdate (.ref S) (fun _ => #[]); letGo old.toList.reverse; Builtin.List.listExtendWith (.ref S) (.str x t) .none) _ _ s
  refine wpAny_bind ?_
  unfold Builtin.List.listItems
  refine wpAny_bind (wpAny_seqItems hS rfl (wpAny_pure ?_))
  show wpAny _ _ (updateSeq S (fun _ => #[]) >>= fun _ => letGo (#[] : Array Value).toList.reverse >>= fun _ => Builtin.List.listExtendWith (.ref S) (.str x t) .none) _ _ s
  refine wpAny_bind (wpAny_updateSeq hS rfl ?_)
  have hS₂ := Heap.get?_update_self (Obj.mapSeq (fun _ => (#[] : Array Value))) hS rfl
  have oth : ∀ b o, b ≠ S → s.heap.get? b = some o → (s.heap.update S (Obj.mapSeq (fun _ => (#[] : Array Value)))).get? b = some o :=
    fun b o hb e => (Heap.get?_update_other _ _ (Ne.symm hb)).trans e
  refine wpAny_bind (wpAny_letGo ?_)
  refine ext_str hh ha S .none _ hS₂ (fun h' tk acc' c' hk hS' hacc => ?_) hn
  exact hR h' tk acc' c' (fun b o hb e => hk b o hb (oth b o hb e)) hS' hacc
theorem call_str {Q : Value → Shared → Prop} (hh : A.handled = none) (ha : x.cps.all (· < 128) = true) (hn : x.cps.size ≤ sizeLine)
    (hQ : ∀ h' tk acc' c', (∀ b o, s.heap.get? b = some o → h'.get? b = some o) → h'.get? s.heap.objs.size = some { cls := .type "list", dict := none, data := .seq acc' c', slots := #[] } → ItemsOf (SignAt x) acc' x.cps.size → Q (.ref s.heap.objs.size) { s with heap := h', toks := tk }) :
    wpAny (model prog w) A (call (.type "list") [.str x t]) Q E s := by
  refine callType_codes (Q₁ := fun obj s₁ => obj = .ref s.heap.objs.size ∧ s₁ = { s with heap := s.heap.push { cls := .type "list", data := .seq #[] } }) PySem.F.called_list (PySem.F.typeCall_list_1 _) PySem.F.entry_list_init
    (code_list_new _ ⟨rfl, rfl⟩) fun obj s₁ h₁ => ?_
  obtain ⟨rfl, rfl⟩ := h₁
  have hS : (s.heap.push { cls := .type "list", data := .seq #[] }).get? s.heap.objs.size = some { cls := .type "list", data := .seq #[] } := Heap.get?_push_size _ rfl
  refine ⟨⟨_, hS, rfl⟩, PySem.F.args_list_init_2 _ _, ini_str (A := A.in1) hh ha _ hS (fun h' tk acc' c' hk hS' hacc => ?_) hn⟩
  exact ⟨rfl, hQ h' tk acc' c' (fun b o e => hk b o (Nat.ne_of_lt (Heap.lt_size e)) (Heap.get?_push_of_some _ e)) hS' hacc⟩
end
/-- the signs of a text, each a text -/
def signs (z : Str) : List V := z.cps.toList.map fun c => V.str ⟨#[c]⟩
theorem call_listS {X : Cx} (hc : X.calm = true) : CallR X (.type "list") (fun xs H Q => ∃ z, xs = [.str z] ∧ z.cps.all (· < 128) = true ∧ z.cps.size ≤ sizeLine ∧ ∀ l, H l = none → Q (.ref l) (upd H l (.lst (signs z)))) := by
  intro pins s σ H xs us Q I r h
  obtain ⟨z, e, ha, hn, q⟩ := h
  subst e
  obtain ⟨u, rfl, rx⟩ := vals1 r
  obtain ⟨t, rfl⟩ := rx
  refine call_str (I.ok.hd hc) ha hn fun h' tk acc' c' hkeep hS hacc => ?_
  refine ⟨.ref s.heap.objs.size, upd H s.heap.objs.size (.lst (signs z)), I.laid hkeep (Nat.le_refl _) (show ObjOk X.prog X.w _ _ _ (.lst (signs z)) from ⟨?_, acc'.toList, c', ?_, ?_⟩), rfl, q _ (I.hok.fresh (Nat.le_refl _))⟩
  · unfold signs
    rw [List.length_map, Array.length_toList]
    exact hn
  · have el : acc'.toList.length = acc'.size := by simp
    refine vals_of_at (by unfold signs; rw [List.length_map, Array.length_toList, el, hacc.1]) fun j v u h1 h2 => ?_
    obtain ⟨c, tk', hc', rfl⟩ := hacc.2 j u (by rw [← Array.getElem?_toList]; exact h2)
    unfold signs at h1
    rw [List.getElem?_map, Array.getElem?_toList, hc'] at h1
    cases h1
    exact ⟨tk', rfl⟩
  · rw [Array.toArray_toList]; exact hS
end LiS
namespace Lw.Tt
open PySem L2 Lw OwB
abbrev sMixed : Stmt := topS 57
abbrev sLet : Stmt := topS 61
theorem SX.upd_out {st q D : Addr} {H H' : Hp} {o : HO} (g : SX st q H H') (n : H D = none) : SX st q H (upd H' D o) := fun b u h1 h2 e => by rw [upd_ne (ne_of_none e n)]; exact g b u h1 h2 e
theorem Spr.upd {st q D : Addr} {H : Hp} {b : Int} {o : HO} (s : Spr H st q b) (n1 : D ≠ st) (n2 : D ≠ q) : Spr (upd H D o) st q b := by
  obtain ⟨ns, a, c, h1, h2, r⟩ := s
  exact ⟨ns, a, c, by rw [upd_ne n1.symm]; exact h1, by rw [upd_ne n2.symm]; exact h2, r⟩
theorem Spr.out {st q D : Addr} {H : Hp} {b : Int} (s : Spr H st q b) (n : H D = none) : D ≠ st ∧ D ≠ q := by
  obtain ⟨ns, a, c, h1, h2, _⟩ := s
  exact ⟨(ne_of_none h1 n).symm, (ne_of_none h2 n).symm⟩
theorem er_perm {α : Type} : ∀ (l : List α) (k : Nat) (h : k < l.length), (l[k] :: l.eraseIdx k).Perm l
  | a :: r, 0, _ => List.Perm.refl _
  | a :: r, k + 1, h => (List.Perm.swap _ _ _).trans (List.Perm.cons a (er_perm r k (Nat.lt_of_succ_lt_succ h)))
theorem er_map {α β : Type} (f : α → β) : ∀ (l : List α) (k : Nat), (l.map f).eraseIdx k = (l.eraseIdx k).map f
  | [], _ => rfl
  | a :: r, 0 => rfl
  | a :: r, k + 1 => congrArg (f a :: ·) (er_map f r k)
theorem pop_at {ls : List Str} {r : Int} (h0 : 0 ≤ r) (h1 : r < (ls.length : Int)) : ∃ (k : Nat) (n : Str), seqIndex? r (ls.map V.str).length = some k ∧ (ls.map V.str)[k]? = some (.str n) ∧ (ls.map V.str).eraseIdx k = (ls.eraseIdx k).map V.str ∧ (n :: ls.eraseIdx k).Perm ls ∧ (ls.eraseIdx k).length + 1 = ls.length := by
  have hk : r.toNat < ls.length := by omega
  refine ⟨r.toNat, ls[r.toNat], ?_, by rw [List.getElem?_map, List.getElem?_eq_getElem hk] <;> rfl, ?_, er_perm ls _ hk, by rw [List.length_eraseIdx_of_lt hk]; omega⟩
  · refine (ixN_seq (n := (ls.map V.str).length) (i := r) (j := r.toNat) ?_).1
    unfold ixN
    rw [if_pos h0, if_pos (by rw [List.length_map]; exact h1)]
  · rw [er_map]
/-- drawing one by one, out of ls -/
def InvMx (H0 : Hp) (st q L D : Addr) (b : Int) (is : List Str) (i : Nat) (H : Hp) : Prop := ∃ acc ls : List Str, H D = some (.lst (acc.map V.str)) ∧ H L = some (.lst (ls.map V.str)) ∧ acc.length = i ∧ ls.length + i = is.length ∧ (acc ++ ls).Perm is ∧ Spr H st q (b + i) ∧ SX st q H0 H
section
variable {P : Program} {w : World} {K : PySem.W.Frag} {mg : Str → Option Value} {base : Heap} {f g : Addr} {fd gd : FuncData}
abbrev tPop (K : PySem.W.Frag) (i : Nat) : TE := tBM K "list" rPopAt (tVar i) (tCons (tCall spDraw [] E0 (tCons (tVar 0) (tCons (tCB (fun xs H Q => ∃ p ys, xs = [.ref p] ∧ (SqL K H p ys ∨ SqT K H p ys) ∧ Q (.int ys.length) H) (tCons (tVar i) tNil)) tNil))) tNil)
/-- one turn -/
theorem pop_turn {st q L D : Addr} {b : Int} {is : List Str} {i : Nat} {H H2 : Hp} {σ : St} {Nx : Hp → Prop} (nL1 : L ≠ st) (nL2 : L ≠ q) (nD1 : D ≠ st) (nD2 : D ≠ q) (nDL : D ≠ L) (hL : H L = none) (hD : H D = none) (hb0 : 0 ≤ b) (hb1 : b ≤ 1900) (h26 : is.length ≤ 50)
    (e0 : σ[0]? = some (some (.ref st))) (e2 : σ[2]? = some (some (.ref L))) (inv : InvMx H st q L D b is i H2) (hi : i < is.length) (nx : ∀ H3, InvMx H st q L D b is (i + 1) H3 → Nx H3) :
    tPop K 2 σ H2 fun y H3 => ∃ acc, H3 D = some (.lst acc) ∧ acc.length < sizeLine ∧ Nx (upd H3 D (.lst (acc ++ [y]))) := by
  obtain ⟨acc, ls, hd, hl2, ha, hn, hp2, hs2, gx⟩ := inv
  have hlen : (((ls.map V.str).length : Nat) : Int) = (ls.length : Int) := by rw [List.length_map]
  refine ⟨_, e2, .inl ⟨rfl, _, SqL.of hl2⟩, _, e0, _, e2, L, _, rfl, .inl (SqL.of hl2), st, q, b + i, _, rfl, hs2, by omega, by omega, by rw [hlen]; omega, by rw [hlen]; omega, fun r H3 r0 r1 hs3 g3 => ?_⟩
  have hd3 := g3 _ _ nD1 nD2 hd
  have hl3 := g3 _ _ nL1 nL2 hl2
  obtain ⟨j, n, e1, e2, e3, e4, e5⟩ := pop_at r0 (by rw [hlen] at r1; exact r1)
  refine ⟨L, _, r, j, _, rfl, rfl, hl3, by omega, by rw [hlen] at r1; omega, e1, e2, ?_⟩
  have hd4 := (upd_ne (o := .lst ((ls.map V.str).eraseIdx j)) nDL).trans hd3
  refine ⟨_, hd4, by rw [List.length_map]; exact small1000 (by omega), nx _ ⟨acc ++ [n], ls.eraseIdx j, by rw [upd_same, List.map_append] <;> rfl, by rw [upd_ne nDL.symm, upd_same, e3], by rw [List.length_append, ha] <;> rfl, by omega, ?_, ?_, ?_⟩⟩
  · rw [List.append_assoc]
    exact (List.Perm.append_left acc e4).trans hp2
  · have e6 : b + (i : Int) + 1 = b + ((i + 1 : Nat) : Int) := by omega
    rw [← e6]
    exact (hs3.upd nL1 nL2).upd nD1 nD2
  · exact ((gx.trans g3).upd_out hL).upd_out hD
def spMixed : Sp := fun vs H Q _ => ∃ (st q p : Addr) (b : Int) (is : List Str), vs = [.ref st, .ref p] ∧ Spr H st q b ∧ 0 ≤ b ∧ b ≤ 1900 ∧ H p = some (.lst (is.map V.str)) ∧ is.length ≤ 10 ∧
  ∀ (r : Addr) (os : List Str) (H' : Hp), os.Perm is → Spr H' st q (b + is.length) → SX st q H H' → H' r = some (.lst (os.map V.str)) → H r = none → Q (.ref r) H'
abbrev namesM : List Str := ["_law_stream", "_law_some", "_law_left", "_law_k"]
theorem scM : FnScope namesM ["_law_stream", "_law_some"] (defScope sMixed) := ⟨rfl, rfl, rfl, by decide +kernel, rfl, by decide +kernel, by decide +kernel⟩
theorem ok_mixed (F : Fun K "_law_mixed" "_law_mixed" sMixed f fd) (G : FnOk P w K mg base CX0 1 g gd ["_law_stream", "_law_many"] spDraw) (bG : Binds K gd ["_law_stream", "_law_many"] []) (kG : PySem.W.keepIn K (.ref g) = true) (mG : mg "_law_draw" = some (.ref g)) (B : Bt mg) :
    FnOk P w K mg base CX0 2 f fd ["_law_stream", "_law_some"] spMixed := by
  refine F.ok scM (fun vs H Q E h => ?_) (fun cdv A outer s H vs Q E hr h => ?_)
  · obtain ⟨st, q, p, b, is, rfl, _⟩ := h
    rfl
  obtain ⟨st, q, p, b, is, rfl, hs, hb0, hb1, hp, hl, k⟩ := h
  refine ⟨_, pss_cons (ps_set (i := 2) scM.nd rfl (Or.inr rfl) (pe_callTy call_list_of (by rfl) B.lst (by decide +kernel) (pa_cons (pv 1) pa_nil)))
    (pss_one (ps_ret (pe_lc (own := [("_law_k", 3)]) (g := gName 3) (tt := tYes) (te := tPop K 2) rfl scM.nd (pi_range1 (by rfl) B.range (pa_cons (pe_callB call_len_seq (by rfl) B.len PySem.boot_len (pa_cons (pv 2) pa_nil)) pa_nil)) (blkOk_by (N := namesM) (sc := defScope sMixed) (by decide +kernel))
      (fun _ _ _ _ _ => pg_name (i := 3) scM.nd rfl (Or.inl rfl)) (fun _ _ _ _ _ => pts_nil)
      (fun _ _ _ _ _ => pe_bm PySem.F.plainAttrs_list PySem.F.slot_list_pop PySem.F.type_list_pop mt_popAt (pv 2) (pa_cons (pe_call G hr rfl mG kG bG .nil pass0 (pa_cons (pv 0) (pa_cons (pe_callB call_len_seq (by rfl) B.len PySem.boot_len (pa_cons (pv 2) pa_nil)) pa_nil))) pa_nil))))), ?_⟩
  refine ⟨_, rfl, p, _, rfl, .inl (SqL.of hp), fun L hL => ?_⟩
  have gL := same_new hL (.lst (is.map V.str))
  obtain ⟨nL1, nL2⟩ := hs.out hL
  have hsL := hs.same gL
  refine ⟨_, rfl, L, _, rfl, .inl (SqL.of upd_same), _, rfl, by rw [List.length_map]; omega, by rw [List.length_map]; omega, fun D hD => ?_⟩
  obtain ⟨nD1, nD2⟩ := hsL.out hD
  have nDL : D ≠ L := (ne_of_none (upd_same (H := H) (a := L) (o := .lst (is.map V.str))) hD).symm
  have hD0 : H D = none := gL.free hD
  have gD := same_new hD (.lst [])
  have elm : (is.map V.str).length = is.length := List.length_map _
  refine lc_range (lo := 0) (n := (is.map V.str).length) (InvMx H st q L D b is) ⟨[], is, upd_same, gD _ _ upd_same, rfl, rfl, List.Perm.refl _, ?_, .of (gL.trans gD)⟩ ?_ ?_
  · rw [show b + ((0 : Nat) : Int) = b from Int.add_zero b]
    exact hsL.same gD
  · intro i H2 hi inv
    rw [elm] at hi
    exact ⟨rfl, kept (pop_turn nL1 nL2 nD1 nD2 nDL hL hD0 hb0 hb1 (by omega) rfl rfl inv hi fun _ h => h)⟩
  · rintro H2 ⟨acc, ls, hd, hl2, ha, hn, hp2, hs2, gx⟩
    rw [elm] at hs2
    have els : ls = [] := List.length_eq_zero_iff.mp (by omega)
    subst els
    rw [List.append_nil] at hp2
    exact k D acc H2 hp2 hs2 gx hd hD0
/-! the letters -/
def abc : Str := "abcdefghijklmnopqrstuvwxyz"
def abcL : List Str := abc.cps.toList.map fun c => (⟨#[c]⟩ : Str)
theorem abc_signs : LiS.signs abc = abcL.map V.str := by
  unfold LiS.signs abcL
  rw [List.map_map] <;> rfl
theorem abc_len : abcL.length = 26 := by decide +kernel
theorem abc_nd : abcL.Nodup := by decide +kernel
def spLet : Sp := fun vs H Q _ => ∃ (st q : Addr) (b : Int) (m : Nat), vs = [.ref st, .int m] ∧ Spr H st q b ∧ 0 ≤ b ∧ b ≤ 1900 ∧ m ≤ 10 ∧
  ∀ (r : Addr) (os : List Str) (H' : Hp), os.Nodup → (∀ z ∈ os, z ∈ abcL) → os.length = m → Spr H' st q (b + m) → SX st q H H' → H' r = some (.lst (os.map V.str)) → H r = none → Q (.ref r) H'
abbrev namesL : List Str := ["_law_stream", "_law_many", "_law_left", "_law_k"]
theorem scLt : FnScope namesL ["_law_stream", "_law_many"] (defScope sLet) := ⟨rfl, rfl, rfl, by decide +kernel, rfl, by decide +kernel, by decide +kernel⟩
theorem ok_let (F : Fun K "_law_letters" "_law_letters" sLet f fd) (G : FnOk P w K mg base CX0 1 g gd ["_law_stream", "_law_many"] spDraw) (bG : Binds K gd ["_law_stream", "_law_many"] []) (kG : PySem.W.keepIn K (.ref g) = true) (mG : mg "_law_draw" = some (.ref g)) (B : Bt mg) :
    FnOk P w K mg base CX0 2 f fd ["_law_stream", "_law_many"] spLet := by
  refine F.ok scLt (fun vs H Q E h => ?_) (fun cdv A outer s H vs Q E hr h => ?_)
  · obtain ⟨st, q, b, m, rfl, _⟩ := h
    rfl
  obtain ⟨st, q, b, m, rfl, hs, hb0, hb1, hm, k⟩ := h
  refine ⟨_, pss_cons (ps_set (i := 2) scLt.nd rfl (Or.inr rfl) (pe_callTy (LiS.call_listS rfl) (by rfl) B.lst (by decide +kernel) (pa_cons pe_str pa_nil)))
    (pss_one (ps_ret (pe_lc (own := [("_law_k", 3)]) (g := gName 3) (tt := tYes) (te := tPop K 2) rfl scLt.nd (pi_range1 (by rfl) B.range (pa_cons (pv 1) pa_nil)) (blkOk_by (N := namesL) (sc := defScope sLet) (by decide +kernel))
      (fun _ _ _ _ _ => pg_name (i := 3) scLt.nd rfl (Or.inl rfl)) (fun _ _ _ _ _ => pts_nil)
      (fun _ _ _ _ _ => pe_bm PySem.F.plainAttrs_list PySem.F.slot_list_pop PySem.F.type_list_pop mt_popAt (pv 2) (pa_cons (pe_call G hr rfl mG kG bG .nil pass0 (pa_cons (pv 0) (pa_cons (pe_callB call_len_seq (by rfl) B.len PySem.boot_len (pa_cons (pv 2) pa_nil)) pa_nil))) pa_nil))))), ?_⟩
  refine ⟨abc, rfl, by decide +kernel, Nat.le_trans (show abc.cps.size ≤ 26 by decide +kernel) (by decide), fun L hL => ?_⟩
  rw [abc_signs]
  have gL := same_new hL (.lst (abcL.map V.str))
  obtain ⟨nL1, nL2⟩ := hs.out hL
  have hsL := hs.same gL
  refine ⟨_, rfl, _, rfl, by omega, by omega, fun D hD => ?_⟩
  obtain ⟨nD1, nD2⟩ := hsL.out hD
  have nDL : D ≠ L := (ne_of_none (upd_same (H := H) (a := L) (o := .lst (abcL.map V.str))) hD).symm
  have hD0 : H D = none := gL.free hD
  have gD := same_new hD (.lst [])
  have h26 := abc_len
  refine lc_range (lo := 0) (n := m) (InvMx H st q L D b abcL) ⟨[], abcL, upd_same, gD _ _ upd_same, rfl, rfl, List.Perm.refl _, ?_, .of (gL.trans gD)⟩ ?_ ?_
  · rw [show b + ((0 : Nat) : Int) = b from Int.add_zero b]
    exact hsL.same gD
  · intro i H2 hi inv
    exact ⟨rfl, kept (pop_turn nL1 nL2 nD1 nD2 nDL hL hD0 hb0 hb1 (by omega) rfl rfl inv (by omega) fun _ h => h)⟩
  · rintro H2 ⟨acc, ls, hd, hl2, ha, hn, hp2, hs2, gx⟩
    have nd : (acc ++ ls).Nodup := hp2.nodup_iff.mpr abc_nd
    exact k D acc H2 (List.Nodup.sublist (List.sublist_append_left acc ls) nd) (fun z hz => hp2.mem_iff.mp (List.mem_append.mpr (.inl hz))) ha hs2 gx hd hD0
end
end Lw.Tt
namespace Lw.Tt
open PySem L2 Lw OwB TL
abbrev sName : Stmt := topS 59
theorem ne_tl {x y : Str} (h : tl x ≠ tl y) : x ≠ y := fun e => h (congrArg tl e)
theorem cutS_le (z : Str) (lo hi : Option Int) : (cutS z lo hi).length ≤ z.length := by
  unfold cutS
  show (List.toArray _).size ≤ z.length
  have e : z.cps.toList.length = z.length := by rw [Array.length_toList] <;> rfl
  rw [List.size_toArray, List.length_take, List.length_drop, e]
  omega
/-- four unlike ones don't fit into three -/
theorem pig {ns : List Str} (h : ns.length ≤ 3) (f : Nat → Str) (inj : ∀ i j, i < 4 → j < 4 → f i = f j → i = j) : ∃ i, i < 4 ∧ f i ∉ ns := by
  refine Classical.byContradiction fun no => ?_
  have all : ∀ i, i < 4 → ∃ j, j < 3 ∧ ns[j]? = some (f i) := fun i hi => by
    have hm : f i ∈ ns := Classical.byContradiction fun q => no ⟨i, hi, q⟩
    obtain ⟨j, hj, e⟩ := List.getElem_of_mem hm
    exact ⟨j, by omega, by rw [List.getElem?_eq_getElem hj, e]⟩
  have ne : ∀ i j a b : Nat, i < 4 → j < 4 → i ≠ j → ns[(a : Nat)]? = some (f i) → ns[(b : Nat)]? = some (f j) → a ≠ b := fun i j a b hi hj n e1 e2 q => by
    subst q
    exact n (inj i j hi hj (Option.some.inj (e1.symm.trans e2)))
  obtain ⟨a, ha, ea⟩ := all 0 (by decide)
  obtain ⟨b, hb, eb⟩ := all 1 (by decide)
  obtain ⟨c, hc, ec⟩ := all 2 (by decide)
  obtain ⟨d, hd, ed⟩ := all 3 (by decide)
  have n1 := ne 0 1 a b (by decide) (by decide) (by decide) ea eb
  have n2 := ne 0 2 a c (by decide) (by decide) (by decide) ea ec
  have n3 := ne 0 3 a d (by decide) (by decide) (by decide) ea ed
  have n4 := ne 1 2 b c (by decide) (by decide) (by decide) eb ec
  have n5 := ne 1 3 b d (by decide) (by decide) (by decide) eb ed
  have n6 := ne 2 3 c d (by decide) (by decide) (by decide) ec ed
  omega
/-- another name in its place -/
def zz (c : Nat) (x : Str) : Str := ("zz" : Str) ++ ⟨#[c]⟩ ++ x
theorem zz_ne {a b : Nat} {x : Str} (h : zz a x = zz b x) : a = b := by
  have e : tl (zz a x) = tl (zz b x) := congrArg tl h
  unfold zz at e
  rw [tl_append, tl_append, tl_append, tl_append] at e
  have e2 : ([122, 122, a] : List Nat) ++ tl x = [122, 122, b] ++ tl x := e
  injection e2 with _ e3
  injection e3 with _ e4
  injection e4 with e5 _
def abch : Str := "abcdefgh"
theorem abch_at : ∀ i, i < 4 → abch.cps[i]? = some (97 + i) := by
  intro i hi
  have h : i = 0 ∨ i = 1 ∨ i = 2 ∨ i = 3 := by omega
  rcases h with rfl | rfl | rfl | rfl <;> decide +kernel
/-! lower-case signs -/
def LowS (z : Str) : Prop := ∀ c ∈ tl z, 97 ≤ c ∧ c ≤ 122
def okL (z : Str) : Prop := ∃ c, z = ⟨#[c]⟩ ∧ 97 ≤ c ∧ c ≤ 122
def okNm (z : Str) : Prop := LowS z ∧ 1 ≤ z.length ∧ z.length ≤ 8
theorem abc_rng : ∀ c ∈ tl abc, 97 ≤ c ∧ c ≤ 122 := by decide +kernel
theorem abc_okL {z : Str} (h : z ∈ abcL) : okL z := by
  unfold abcL at h
  obtain ⟨c, hc, rfl⟩ := List.mem_map.mp h
  exact ⟨c, rfl, abc_rng c hc⟩
theorem mem_joinL {S : List Nat} {c : Nat} : ∀ {ps : List (List Nat)}, c ∈ joinL S ps → c ∈ S ∨ ∃ p ∈ ps, c ∈ p
  | [], h => by cases h
  | [p], h => .inr ⟨p, List.mem_singleton.mpr rfl, h⟩
  | p :: q :: r, h => by
    rcases List.mem_append.mp (show c ∈ p ++ (S ++ joinL S (q :: r)) from h) with h | h
    · exact .inr ⟨p, List.mem_cons_self .., h⟩
    · rcases List.mem_append.mp h with h | h
      · exact .inl h
      · rcases mem_joinL h with h | ⟨p', h1, h2⟩
        · exact .inl h
        · exact .inr ⟨p', List.mem_cons_of_mem _ h1, h2⟩
theorem low_join {acc : List Str} (h : ∀ z ∈ acc, okL z) : LowS (Txt.join Str.empty acc) := fun c hc => by
  rw [join_eq, tl_join] at hc
  rcases mem_joinL hc with h1 | ⟨p, h1, h2⟩
  · cases h1
  · obtain ⟨z, hz, rfl⟩ := List.mem_map.mp h1
    obtain ⟨d, rfl, e1, e2⟩ := h z hz
    cases List.mem_singleton.mp (show c ∈ [d] from h2)
    exact ⟨e1, e2⟩
theorem low_zz {c : Nat} {x : Str} (h1 : 97 ≤ c) (h2 : c ≤ 122) (hx : okNm x) : okNm (zz c (cutS x none (some 5))) := by
  have e : tl (zz c (cutS x none (some 5))) = [122, 122, c] ++ tl (cutS x none (some 5)) := by
    unfold zz
    rw [tl_append, tl_append] <;> rfl
  have e5 : tl (cutS x none (some 5)) = (tl x).take (min 5 x.length) := by
    unfold cutS
    rw [show (5 : Int) = ((5 : Nat) : Int) from rfl, HT.sIx_nat, HT.sIx_none]
    show (List.take _ _).toArray.toList = _
    rw [List.drop_zero] <;> rfl
  refine ⟨fun d hd => ?_, ?_, ?_⟩
  · rw [e] at hd
    rcases List.mem_append.mp hd with hd | hd
    · simp only [List.mem_cons, List.not_mem_nil, or_false] at hd
      rcases hd with rfl | rfl | rfl
      · exact ⟨by decide, by decide⟩
      · exact ⟨by decide, by decide⟩
      · exact ⟨h1, h2⟩
    · rw [e5] at hd
      exact hx.1 d (List.mem_of_mem_take hd)
  · rw [len_tl, e, List.length_append]
    show 1 ≤ 3 + _
    omega
  · rw [len_tl, e, List.length_append, e5, List.length_take]
    show 3 + _ ≤ 8
    omega
section
variable {P : Program} {w : World} {K : PySem.W.Frag} {mg : Str → Option Value} {base : Heap} {f g g2 : Addr} {fd gd gd2 : FuncData}
/-- one sign of a text -/
def spPickS : Sp := fun vs H Q _ => ∃ (st q : Addr) (b : Int) (z : Str), vs = [.ref st, .str z] ∧ Spr H st q b ∧ 0 ≤ b ∧ b ≤ 2000 ∧ 0 < z.length ∧ z.length ≤ 1000 ∧
  ∀ (c : Nat) (H' : Hp), c ∈ tl z → Spr H' st q (b + 1) → SX st q H H' → Q (.str ⟨#[c]⟩) H'
theorem ok_pickS (F : Fun K "_law_pick" "_law_pick" sPick f fd) (G : FnOk P w K mg base CX0 1 g gd ["_law_stream", "_law_many"] spDraw) (bG : Binds K gd ["_law_stream", "_law_many"] []) (kG : PySem.W.keepIn K (.ref g) = true) (mG : mg "_law_draw" = some (.ref g)) (B : Bt mg) :
    FnOk P w K mg base CX0 2 f fd ["_law_stream", "_law_some"] spPickS := by
  refine F.ok scP (fun vs H Q E h => ?_) (fun cdv A outer s H vs Q E hr h => ?_)
  · obtain ⟨st, q, b, z, rfl, _⟩ := h
    rfl
  obtain ⟨st, q, b, z, rfl, hs, hb0, hb1, hx0, hx1, k⟩ := h
  refine ⟨_, pss_one (ps_ret (pe_ix ix_str (pv 1) (pe_call G hr rfl mG kG bG .nil pass0 (pa_cons (pv 0) (pa_cons (pe_callB call_len_str (by rfl) B.len PySem.boot_len (pa_cons (pv 1) pa_nil)) pa_nil))) (fun _ _ => rfl))), ?_⟩
  refine ⟨_, rfl, _, rfl, _, rfl, z, rfl, Nat.le_trans hx1 (by decide), st, q, b, _, rfl, hs, hb0, hb1, by omega, by omega, fun r H' r0 r1 hs' gx => ?_⟩
  have hk : r.toNat < z.cps.toList.length := by rw [Array.length_toList]; show r.toNat < z.length; omega
  have q2 := atI_nat (xs := z.cps.toList) (j := r.toNat) (v := z.cps.toList[r.toNat]) (List.getElem?_eq_getElem hk)
  rw [show ((r.toNat : Nat) : Int) = r by omega] at q2
  exact ⟨z, r, _, rfl, rfl, Nat.le_trans hx1 (by decide), q2, k _ H' (List.getElem_mem _) hs' gx⟩
def spName : Sp := fun vs H Q _ => ∃ (st q : Addr) (b : Int), vs = [.ref st] ∧ Spr H st q b ∧ 0 ≤ b ∧ b ≤ 1900 ∧
  ∀ (nm : Str) (b' : Int) (H' : Hp), okNm nm → b ≤ b' → b' ≤ b + 9 → Spr H' st q b' → SX st q H H' → Q (.str nm) H'
abbrev namesN : List Str := ["_law_stream", "_law_k"]
theorem scNm : FnScope namesN ["_law_stream"] (defScope sName) := ⟨rfl, rfl, rfl, by decide +kernel, rfl, by decide +kernel, by decide +kernel⟩
def InvNm (H0 : Hp) (st q D : Addr) (b : Int) (i : Nat) (H : Hp) : Prop := ∃ acc : List Str, H D = some (.lst (acc.map V.str)) ∧ acc.length = i ∧ (acc.map (·.length)).sum = i ∧ (∀ z ∈ acc, okL z) ∧ Spr H st q (b + i) ∧ SX st q H0 H
theorem ok_name (F : Fun K "_law_name" "_law_name" sName f fd) (G : FnOk P w K mg base CX0 1 g gd ["_law_stream", "_law_many"] spDraw) (bG : Binds K gd ["_law_stream", "_law_many"] []) (kG : PySem.W.keepIn K (.ref g) = true) (mG : mg "_law_draw" = some (.ref g)) (B : Bt mg)
    (GP : FnOk P w K mg base CX0 2 g2 gd2 ["_law_stream", "_law_some"] spPickS) (bP : Binds K gd2 ["_law_stream", "_law_some"] []) (kP : PySem.W.keepIn K (.ref g2) = true) (mP : mg "_law_pick" = some (.ref g2)) :
    FnOk P w K mg base CX0 3 f fd ["_law_stream"] spName := by
  refine F.ok scNm (fun vs H Q E h => ?_) (fun cdv A outer s H vs Q E hr h => ?_)
  · obtain ⟨st, q, b, rfl, _⟩ := h
    rfl
  obtain ⟨st, q, b, rfl, hs, hb0, hb1, k⟩ := h
  refine ⟨_, pss_one (ps_ret (pe_join pe_str (pe_lc (own := [("_law_k", 1)]) (g := gName 1) (tt := tYes) (te := tCall spPickS [] E0 (tCons (tVar 0) (tCons (tC (.str abc)) tNil))) rfl scNm.nd (pi_range1 (by rfl) B.range (pa_cons (pe_op op_add pe_int (pe_call G (hr.mono (by decide)) rfl mG kG bG .nil pass0 (pa_cons (pv 0) (pa_cons pe_int pa_nil)))) pa_nil)) (blkOk_by (N := namesN) (sc := defScope sName) (by decide +kernel))
      (fun _ _ _ _ _ => pg_name (i := 1) scNm.nd rfl (Or.inl rfl)) (fun _ _ _ _ _ => pts_nil)
      (fun _ _ _ _ _ => pe_call GP hr rfl mP kP bP .nil pass0 (pa_cons (pv 0) (pa_cons pe_str pa_nil)))))), ?_⟩
  refine ⟨⟨_, rfl⟩, _, rfl, st, q, b, 8, rfl, hs, hb0, by omega, by decide, by decide, fun r H1 r0 r1 hs1 gx1 => ?_⟩
  obtain ⟨m, hm⟩ : ∃ m : Nat, (1 : Int) + r = (m : Int) := ⟨(1 + r).toNat, by omega⟩
  refine ⟨_, _, rfl, rfl, 1 + r, rfl, by omega, by omega, fun D hD => ?_⟩
  have em : (1 + r).toNat = m := by omega
  rw [em]
  obtain ⟨nD1, nD2⟩ := hs1.out hD
  have gD := same_new hD (.lst [])
  refine lc_range (lo := 0) (n := m) (InvNm H1 st q D (b + 1)) ⟨[], upd_same, rfl, rfl, (fun z hz => by cases hz), ?_, .of gD⟩ ?_ ?_
  · rw [show b + 1 + ((0 : Nat) : Int) = b + 1 from Int.add_zero _]
    exact hs1.same gD
  · rintro i H2 hi ⟨acc, hd, ha, hsum, hok, hs2, gx⟩
    refine ⟨rfl, kept ?_⟩
    refine ⟨_, rfl, st, q, _, abc, rfl, hs2, by omega, by omega, by decide +kernel, Nat.le_trans (show abc.length ≤ 26 by decide +kernel) (by decide), fun c H3 hc hs3 g3 => ?_⟩
    refine ⟨_, g3 _ _ nD1 nD2 hd, by rw [List.length_map]; exact small1000 (by omega), acc ++ [⟨#[c]⟩], by rw [upd_same, List.map_append] <;> rfl, by rw [List.length_append, ha] <;> rfl, ?_, ?_, ?_, (gx.trans g3).upd_out hD⟩
    · rw [List.map_append, List.sum_append, hsum] <;> rfl
    · intro z hz
      rcases List.mem_append.mp hz with hz | hz
      · exact hok z hz
      · cases List.mem_singleton.mp hz
        exact ⟨c, rfl, abc_rng c hc⟩
    · rw [show b + 1 + ((i + 1 : Nat) : Int) = b + 1 + (i : Int) + 1 by omega]
      exact hs3.upd nD1 nD2
  · rintro H2 ⟨acc, hd, ha, hsum, hok, hs2, gx⟩
    refine ⟨_, D, acc, rfl, rfl, .inl (SqL.of hd), ?_, ?_⟩
    · rw [hsum]
      show m + acc.length * 0 ≤ 16777216
      omega
    · refine k _ _ H2 ?_ ?_ ?_ hs2 (gx1.trans gx)
      · have hlen : (Txt.join Str.empty acc).length = m := by
          show (Builtin.Str.glued _ acc).length = m
          rw [size_glued, hsum]
          show m + (acc.length - 1) * 0 = m
          omega
        have hjl : okNm (Txt.join Str.empty acc) := ⟨low_join hok, by omega, by omega⟩
        exact hjl
      · omega
      · omega
end
end Lw.Tt
namespace Lw.Tt
open PySem L2 OwB TL
abbrev sNames : Stmt := topS 60
abbrev rCatS : R2 := fun x y H Q => ∃ i j, x = .str i ∧ y = .str j ∧ i.length + j.length ≤ sizeLine ∧ Q (.str (i ++ j)) H
section
variable {P : Program} {w : World} {K : PySem.W.Frag} {mg : Str → Option Value} {base : Heap} {f g g2 : Addr} {fd gd gd2 : FuncData}
def spNames : Sp := fun vs H Q _ => ∃ (st q : Addr) (b : Int) (m : Nat), vs = [.ref st, .int m] ∧ Spr H st q b ∧ 0 ≤ b ∧ b ≤ 1800 ∧ m ≤ 4 ∧
  ∀ (r : Addr) (os : List Str) (b' : Int) (H' : Hp), os.length = m → os.Nodup → (∀ z ∈ os, okNm z) → b ≤ b' → b' ≤ b + 9 * m → Spr H' st q b' → SX st q H H' → H' r = some (.lst (os.map V.str)) → H r = none → Q (.ref r) H'
abbrev namesNs : List Str := ["_law_stream", "_law_many", "_law_names_here", "_law_k", "_law_name_here", "_law_one", "_law_sign"]
theorem scNs : FnScope namesNs ["_law_stream", "_law_many"] (defScope sNames) := ⟨rfl, rfl, rfl, by decide +kernel, rfl, by decide +kernel, by decide +kernel⟩
/-- the candidates behind a name -/
def cands (x : Str) (n : Nat) : List Str := ((abch.cps.toList.take n).map fun c => zz c (cutS x none (some 5)))
def InvZz (H0 : Hp) (D : Addr) (x : Str) (i : Nat) (H : Hp) : Prop := H D = some (.lst ((cands x i).map V.str)) ∧ Same H0 H
def InvF (H0 : Hp) (D : Addr) (cs ns : List Str) (i : Nat) (H : Hp) : Prop := ∃ acc : List Str, H D = some (.lst (acc.map V.str)) ∧ acc.length ≤ i ∧ (∀ z ∈ acc, z ∈ cs) ∧ (∀ j z, j < i → cs[j]? = some z → z ∉ ns → acc ≠ []) ∧ (∀ z ∈ acc, z ∉ ns) ∧ Same H0 H
theorem ok_names (F : Fun K "_law_names" "_law_names" sNames f fd) (B : Bt mg)
    (GP : FnOk P w K mg base CX0 3 g gd ["_law_stream"] spName) (bP : Binds K gd ["_law_stream"] []) (kP : PySem.W.keepIn K (.ref g) = true) (mP : mg "_law_name" = some (.ref g)) :
    FnOk P w K mg base CX0 4 f fd ["_law_stream", "_law_many"] spNames := by
  refine F.ok scNs (fun vs H Q E h => ?_) (fun cdv A outer s H vs Q E hr h => ?_)
  · obtain ⟨st, q, b, m, rfl, _⟩ := h
    rfl
  obtain ⟨st, q, b, m, rfl, hs, hb0, hb1, hm, k⟩ := h
  refine ⟨_, pss_cons (ps_set (i := 2) scNs.nd rfl (Or.inr rfl) (pe_lst pa_nil))
    (pss_cons (ps_for PassesOwn.never rfl (pi_range1 (by rfl) B.range (pa_cons (pv 1) pa_nil)) (pg_name (i := 3) scNs.nd rfl (Or.inl rfl))
      (pss_cons (ps_set (i := 4) scNs.nd rfl (Or.inr rfl) (pe_call GP hr rfl mP kP bP .nil pass0 (pa_cons (pv 0) pa_nil)))
      (pss_one (ps_expr (pe_bm PySem.F.plainAttrs_list PySem.F.slot_list_append PySem.F.type_list_append mt_append (pv 2) (pa_cons
        (pe_ix ix_list (pe_lc (own := [("_law_one", 5)]) (g := gName 5) (tt := tTest (tOp (rIn K true) (tVar 5) (tVar 2))) (te := tVar 5) rfl scNs.nd (pi_list (pe_op op_cat (pe_lst (pa_cons (pv 4) pa_nil))
            (pe_lc (own := [("_law_sign", 6)]) (g := gName 6) (tt := tYes) (te := tOp rCatS (tOp rCatS (tC (.str "zz")) (tVar 6)) (tSl rSlS (tVar 4) tNoPart (tPart (tC (.int 5))))) rfl scNs.nd (pi_str pe_str) (blkOk_by (N := namesNs) (sc := defScope sNames) (by decide +kernel)) (fun _ _ _ _ _ => pg_name (i := 6) scNs.nd rfl (Or.inl rfl)) (fun _ _ _ _ _ => pts_nil)
              (fun _ _ _ _ _ => pe_op op_add_str (pe_op op_add_str pe_str (pv 6)) (pe_slice sl_str (pv 4) po_none (po_some pe_int))))))
          (blkOk_by (N := namesNs) (sc := defScope sNames) (by decide +kernel)) (fun _ _ _ _ _ => pg_name (i := 5) scNs.nd rfl (Or.inl rfl)) (fun _ _ _ _ _ => pts_one (pt_cmpR op_notIn_seq (pv 5) (pv 2) (by rfl))) (fun _ _ _ _ _ => pv 5)) pe_int (fun _ _ => rfl)) pa_nil))))))
    (pss_one (ps_ret (pv 2)))), ?_⟩
  refine ⟨(by show 0 ≤ sizeLine; exact Nat.zero_le _), fun L hL => ?_⟩
  obtain ⟨nL1, nL2⟩ := hs.out hL
  have gL := same_new hL (.lst [])
  refine ⟨_, rfl, (m : Int), rfl, by omega, by omega, for_range (lo := 0) (n := m) (fun i σ' H' => ∃ (ns : List Str) (b' : Int) (u v : Option V), σ' = [some (.ref st), some (.int m), some (.ref L), u, v, none, none] ∧ H' L = some (.lst (ns.map V.str)) ∧ ns.length = i ∧ ns.Nodup ∧ (∀ z ∈ ns, okNm z) ∧ b ≤ b' ∧ b' ≤ b + 9 * i ∧ Spr H' st q b' ∧ SX st q H H')
    ⟨[], b, _, _, rfl, upd_same, rfl, List.nodup_nil, (fun z hz => by cases hz), by omega, by omega, hs.same gL, .of gL⟩ ?_ ?_⟩
  · rintro i σ' H1 hi ⟨ns, b1, u, v, rfl, hl1, hn, hnd, hnok, hb2, hb3, hs1, gx1⟩
    refine ⟨_, rfl, st, q, b1, rfl, hs1, by omega, by omega, fun nm b2 H2 hnmk hb4 hb5 hs2 g2 => ?_⟩
    have hl2 := g2 _ _ nL1 nL2 hl1
    have hnm := hnmk.2.2
    refine ⟨_, rfl, .inl ⟨rfl, _, SqL.of hl2⟩, ?_⟩
    refine ⟨_, rfl, (by show 1 ≤ sizeLine; decide), fun t1 ht1 => ?_⟩
    have k1 := same_new ht1 (.lst [.str nm])
    refine ⟨abch, rfl, fun D hD => ?_⟩
    refine lc_it (walk_str (z := abch)) (InvZz (upd H2 t1 (.lst [.str nm])) D nm) ⟨upd_same, same_new hD _⟩ (fun _ _ _ _ => trivial) ?_ ?_
    · rintro j y H3 H4 hj ⟨hd, g3⟩ ⟨rfl, c, hc, rfl⟩
      refine ⟨rfl, kept ?_⟩
      have e2 : ("zz" : Str).length = 2 := by decide +kernel
      have hz := cutS_le nm none (some 5)
      refine ⟨_, rfl, _, _, rfl, rfl, (by rw [e2]; show 2 + 1 ≤ sizeLine; decide), _, rfl, 5, rfl, nm, rfl, Nat.le_trans hnm (by decide), _, _, rfl, rfl, ?_, ?_⟩
      · have e3 : (("zz" : Str) ++ (⟨#[c]⟩ : Str)).length = 3 := by
          rw [len_tl, tl_append, List.length_append, ← len_tl, e2] <;> rfl
        rw [e3]
        exact Nat.le_trans (Nat.add_le_add_left (Nat.le_trans hz hnm) 3) (by decide)
      · have hc2 : abch.cps.toList[j]? = some c := by rw [Array.getElem?_toList]; exact hc
        refine ⟨_, hd, ?_, ?_, same_over g3 hD _⟩
        · rw [List.length_map]
          unfold cands
          rw [List.length_map, List.length_take]
          have e8 : abch.cps.toList.length = 8 := by decide +kernel
          exact small1000 (by omega)
        · rw [upd_same]
          unfold cands
          rw [List.take_succ, hc2, List.map_append, List.map_append] <;> rfl
    · rintro H3 ⟨hd, g3⟩
      have ht3 := g3 _ _ (upd_same (H := H2) (a := t1) (o := .lst [.str nm]))
      have e8 : abch.cps.size = 8 := by decide +kernel
      refine ⟨t1, D, _, _, rfl, rfl, ht3, hd, ?_, fun p hp => ?_⟩
      · rw [List.length_map]
        unfold cands
        rw [List.length_map, List.length_take]
        have e8 : abch.cps.toList.length = 8 := by decide +kernel
        exact Nat.le_trans (show _ ≤ 10 by simp only [List.length_cons, List.length_nil]; omega) (by decide)
      have l9 : (nm :: cands nm abch.cps.size).length ≤ 9 := by
        unfold cands
        rw [List.length_cons, List.length_map, List.length_take]
        have e8 : abch.cps.toList.length = 8 := by decide +kernel
        omega
      obtain ⟨i0, hi0, hout⟩ := pig (ns := ns) (by omega) (fun i => zz (97 + i) (cutS nm none (some 5))) (fun i j _ _ e => by have := zz_ne e; omega)
      have hat : (nm :: cands nm abch.cps.size)[i0 + 1]? = some (zz (97 + i0) (cutS nm none (some 5))) := by
        rw [List.getElem?_cons_succ]
        unfold cands
        have e9 : abch.cps.toList[i0]? = some (97 + i0) := by rw [Array.getElem?_toList]; exact abch_at i0 hi0
        rw [List.getElem?_map, List.getElem?_take, if_pos (by omega), e9] <;> rfl
      have gp := same_new hp (.lst ([V.str nm] ++ (cands nm abch.cps.size).map V.str))
      have gA : Same H2 (upd H3 p (.lst ([V.str nm] ++ (cands nm abch.cps.size).map V.str))) := (k1.trans g3).trans gp
      have hcs : upd H3 p (.lst ([V.str nm] ++ (cands nm abch.cps.size).map V.str)) p = some (.lst ((nm :: cands nm abch.cps.size).map V.str)) := upd_same
      generalize upd H3 p (.lst ([V.str nm] ++ (cands nm abch.cps.size).map V.str)) = H5 at gA hcs
      have hcok : ∀ z ∈ nm :: cands nm abch.cps.size, okNm z := by
        intro z hz
        rcases List.mem_cons.mp hz with rfl | hz
        · exact hnmk
        · unfold cands at hz
          obtain ⟨c, hc, rfl⟩ := List.mem_map.mp hz
          obtain ⟨c1, c2⟩ := (show ∀ c ∈ abch.cps.toList, 97 ≤ c ∧ c ≤ 122 by decide +kernel) c (List.mem_of_mem_take hc)
          exact low_zz c1 c2 hnmk
      generalize nm :: cands nm abch.cps.size = cs at hcs l9 hat hcok
      have hl5 := gA _ _ hl2
      refine ⟨p, rfl, ⟨_, SqL.of hcs⟩, fun E' hE => ?_⟩
      refine lc_list (InvF H5 E' cs ns) ⟨[], upd_same, Nat.le_refl _, (fun z hz => by cases hz), fun j z hj => absurd hj (Nat.not_lt_zero _), fun z h => (by cases h), same_new hE _⟩ (fun j H6 _ ⟨_, _, _, _, _, _, g6⟩ => Same.seq g6 (SqL.of hcs)) ?_ ?_
      · rintro j y H6 hy ⟨acc, hd6, hle, hmm, hne, hno, g6⟩
        rw [List.getElem?_map] at hy
        cases ez : cs[j]? with
        | none => rw [ez] at hy; cases hy
        | some z =>
          rw [ez] at hy
          cases hy
          refine ⟨rfl, ?_⟩
          refine ⟨_, rfl, _, rfl, L, _, rfl, .inl (SqL.of (g6 _ _ hl5)), rfl, flat_strs' ns, _, rfl, ?_⟩
          have hj9 : j < cs.length := (List.getElem?_eq_some_iff.mp ez).1
          have ein := in_strs z ns
          refine ite2 (fun ct => ?_) (fun ct => ?_)
          · refine ⟨_, rfl, _, hd6, by rw [List.length_map]; exact small1000 (by omega), acc ++ [z], by rw [upd_same, List.map_append] <;> rfl, by rw [List.length_append]; exact Nat.succ_le_succ hle, (fun z' hz' => (List.mem_append.mp hz').elim (hmm z') (fun h => by cases List.mem_singleton.mp h; exact List.mem_of_getElem? ez)), fun j' z' _ _ _ e => ?_, fun z' hz' => ?_, same_over g6 hE _⟩
            · exact absurd e (by simp)
            · rcases List.mem_append.mp hz' with q | q
              · exact hno z' q
              · rw [List.mem_singleton.mp q]
                intro hin
                rw [ein, decide_eq_true hin] at ct
                exact absurd ct (by simp)
          · have hin : z ∈ ns := by
              have z2 : (!inV (.str z) (ns.map V.str)) = false := Bool.eq_false_iff.mpr ct
              rw [ein] at z2
              simpa using z2
            refine ⟨acc, hd6, by omega, hmm, fun j' z' hj' ez' hz' => ?_, hno, g6⟩
            by_cases ejj : j' = j
            · subst ejj
              rw [ez] at ez'
              cases ez'
              exact absurd hin hz'
            · exact hne j' z' (by omega) ez' hz'
      · rintro H6 ⟨acc, hd6, hle, hmm, hne, hno, g6⟩
        rw [List.length_map] at hne
        have hacc := hne (i0 + 1) _ (List.getElem?_eq_some_iff.mp hat).1 hat hout
        cases acc with
        | nil => exact absurd rfl hacc
        | cons z0 r0 =>
          have hl6 := g6 _ _ hl5
          have gAll : Same H2 H6 := gA.trans g6
          refine ⟨E', _, 0, .str z0, rfl, rfl, SqL.of hd6, atI_nat (j := 0) rfl, ?_⟩
          refine ⟨L, _, .str z0, rfl, rfl, hl6, by rw [List.length_map]; exact small1000 (by omega), ?_⟩
          refine ⟨ns ++ [z0], b2, _, _, rfl, by rw [upd_same, List.map_append] <;> rfl, by rw [List.length_append, hn] <;> rfl, (List.perm_append_singleton z0 ns).nodup_iff.mpr (List.nodup_cons.mpr ⟨hno z0 (List.mem_cons_self ..), hnd⟩), (fun z hz => (List.mem_append.mp hz).elim (hnok z) (fun h => by cases List.mem_singleton.mp h; exact hcok _ (hmm _ (List.mem_cons_self ..)))), by omega, by omega, (hs2.same gAll).upd nL1 nL2, ?_⟩
          exact (gx1.trans (g2.trans (.of gAll))).upd_out hL
  · rintro σ' H1 ⟨ns, b1, u, v, rfl, hl1, hn, hnd, hnok, hb2, hb3, hs1, gx1⟩
    exact ⟨_, rfl, k L ns b1 H1 hn hnd hnok hb2 hb3 hs1 gx1 hl1 hL⟩
end
end Lw.Tt
namespace Lw
open PySem L2 TL
/-- the law's own use: a name, letters, the form's pairs -/
def LuAt (K : PySem.W.Frag) (H : Hp) (u : Addr) (nm : Str) (ls : List Str) (l : List (Str × Int)) : Prop := ∃ (tl tf : Addr) (us : List V), SqT K H u [.str nm, .ref tl, .ref tf] ∧ SqT K H tl (ls.map V.str) ∧ SqT K H tf us ∧ Tups K H us l
theorem LuAt.mono {K : PySem.W.Frag} {H H' : Hp} {u : Addr} {nm : Str} {ls : List Str} {l : List (Str × Int)} (g : TK K H H') : LuAt K H u nm ls l → LuAt K H' u nm ls l
  | ⟨tl, tf, us, h1, h2, h3, h4⟩ => ⟨tl, tf, us, g _ _ h1, g _ _ h2, g _ _ h3, h4.mono g⟩
abbrev s_l_level_letters : Stmt := topS 47
theorem sc_l_level_letters : FnScope ["_law_use", "_law_kind", "_law_axis"] ["_law_use"] (defScope s_l_level_letters) := ⟨rfl, rfl, rfl, by decide +kernel, rfl, by decide +kernel, by decide +kernel⟩
/-- the letter of an axis -/
def letAt (ls : List Str) (p : Str × Int) : Str := ls.getD p.2.toNat Str.empty
def spLvl (K : PySem.W.Frag) : Sp := fun vs H Q _ => ∃ (u : Addr) (nm : Str) (ls : List Str) (l : List (Str × Int)), vs = [.ref u] ∧ LuAt K H u nm ls l ∧ l.length ≤ 3 ∧ (∀ p ∈ l, 0 ≤ p.2 ∧ p.2 < (ls.length : Int)) ∧ ∀ (D : Addr) (H' : Hp), Same H H' → H D = none → H' D = some (.lst ((l.map (letAt ls)).map V.str)) → Q (.ref D) H'
section
variable {P : Program} {w : World} {K : PySem.W.Frag} {mg : Str → Option Value} {base : Heap} {f : Addr} {fd : FuncData}
theorem ok_l_level_letters (F : Fun K "_law_level_letters" "_law_level_letters" s_l_level_letters f fd) : FnOk P w K mg base CX0 1 f fd ["_law_use"] (spLvl K) := by
  refine F.ok sc_l_level_letters (fun vs H Q E h => ?_) (fun cdv A outer s H vs Q E hr h => ?_)
  · obtain ⟨u, nm, ls, l, rfl, _⟩ := h
    rfl
  obtain ⟨u, nm, ls, l, rfl, ⟨tl, tf, us, h1, h2, h3, h4⟩, hl, hp, k⟩ := h
  refine ⟨_, (pss_one (ps_ret (pe_lc (own := [("_law_kind", 1), ("_law_axis", 2)]) (g := (gTup K 2 (gCons (gName 1) (gCons (gName 2) gNil)))) (tt := tYes) (te := tOp (rIxT K) (tOp (rIxT K) (tVar 0) (tC (.int 1))) (tVar 2)) rfl sc_l_level_letters.nd (pi_tup (pe_ix ix_tup (pv 0) pe_int (fun _ _ => rfl))) (blkOk_by (N := ["_law_use", "_law_kind", "_law_axis"]) (sc := defScope s_l_level_letters) (by decide +kernel)) (fun _ _ _ _ _ => (pg_tup rfl (pgs_cons (pg_name (i := 1) sc_l_level_letters.nd rfl (Or.inl rfl)) (pgs_cons (pg_name (i := 2) sc_l_level_letters.nd rfl (Or.inl rfl)) pgs_nil)))) (fun _ _ _ _ _ => pts_nil) (fun _ _ _ _ _ => (pe_ix ix_tup (pe_ix ix_tup (pv 0) pe_int (fun _ _ => rfl)) (pv 2) (fun _ _ => rfl)))))), ?_⟩
  have hul : us.length = l.length := h4.1
  refine ⟨_, rfl, u, _, (2 : Int), .ref tf, rfl, rfl, h1, atI_nat (j := 2) rfl, tf, rfl, ⟨us, h3⟩, fun D hD => ?_⟩
  refine lc_tup (K := K) (a := tf) (xs := us) (InvM H D (fun p : Str × Int => V.str (letAt ls p)) l) ⟨upd_same, same_new hD _⟩ (fun i H' _ ⟨_, g⟩ => seqT g h3) (fun j x H' hx hv => ?_) ?_
  · have hj : j < l.length := by rw [← hul]; exact (List.getElem?_eq_some_iff.mp hx).1
    have ej := List.getElem?_eq_getElem hj
    obtain ⟨y, rfl, zy⟩ := h4.2 j x _ hx ej
    obtain ⟨p0, p1⟩ := hp _ (List.getElem_mem hj)
    have lt : l[j].2.toNat < ls.length := by omega
    refine ⟨y, _, rfl, seqT hv.2 zy, rfl, _, _, rfl, _, _, rfl, rfl, rfl, kept ?_⟩
    have ea : atI (ls.map V.str) l[j].2 = some (.str (letAt ls l[j])) := by
      have z := atI_nat (xs := ls.map V.str) (j := l[j].2.toNat) (v := .str (letAt ls l[j])) (by rw [List.getElem?_map, List.getElem?_eq_getElem lt]; unfold letAt; rw [List.getD_eq_getElem?_getD, List.getElem?_eq_getElem lt] <;> rfl)
      rw [show ((l[j].2.toNat : Nat) : Int) = l[j].2 by omega] at z
      exact z
    refine ⟨_, rfl, u, _, (1 : Int), .ref tl, rfl, rfl, seqT hv.2 h1, atI_nat (j := 1) rfl, _, rfl, tl, _, _, _, rfl, rfl, seqT hv.2 h2, ea, ?_⟩
    exact ⟨_, hv.1, len_m (by omega), InvM.next (f := fun p : Str × Int => V.str (letAt ls p)) hD hv.2 ej _ rfl⟩
  rintro H' ⟨hd, g⟩
  rw [List.take_of_length_le (by rw [hul]; exact Nat.le_refl _)] at hd
  exact k D H' g hD (by rw [hd, List.map_map] <;> rfl)
end
end Lw
namespace Lw
open PySem L2 TL
theorem word_back {a : Str} (h : a ∈ AWORDS) : ((toString (aval a) : String) : Str) = a := by
  have z : ∀ a ∈ AWORDS, ((toString (aval a) : String) : Str) = a := by decide +kernel
  exact z a h
theorem lvl_itm {p : Str} {r : Str × Int} (h : lvl p = some r) : itm r.1 r.2 = p := by
  unfold lvl at h
  split at h
  · rename_i k a e
    by_cases m : a ∈ AWORDS
    · rw [if_pos m] at h
      cases h
      have b := split_back p " " (by decide +kernel) (by decide +kernel)
      rw [e] at b
      refine Eq.trans (ext_tl ?_) b
      show tl (itm k (aval a)) = _
      unfold itm
      rw [word_back m, join_eq, tl_join, tl_append, tl_append, tl_append]
      show tl Str.empty ++ tl k ++ tl " " ++ tl a = tl k ++ (tl " " ++ tl a)
      rw [show tl Str.empty = [] from rfl, List.nil_append, List.append_assoc]
    · rw [if_neg m] at h
      cases h
  · cases h
theorem lvl_all : ∀ {ps : List Str}, (ps.all fun p => (lvl p).isSome) = true → (ps.filterMap lvl).length = ps.length ∧ ((ps.filterMap lvl).map fun r => itm r.1 r.2) = ps
  | [], _ => ⟨rfl, rfl⟩
  | p :: r, h => by
    rw [List.all_cons, Bool.and_eq_true] at h
    obtain ⟨h1, h2⟩ := h
    obtain ⟨i1, i2⟩ := lvl_all h2
    obtain ⟨q, e⟩ := Option.isSome_iff_exists.mp h1
    rw [List.filterMap_cons_some e, List.map_cons, List.length_cons, List.length_cons, i1, i2, lvl_itm e]
    exact ⟨rfl, rfl⟩
theorem split_ne (z : Str) : Txt.split z ", " ≠ [] := fun e => by
  have q := split_spl z ", " (by decide +kernel) (kind_ok (by decide +kernel))
  rw [e] at q
  exact spl_ne _ _ _ _ q.symm
/-- what is read is the text of what was read -/
theorem rd_back {z : Str} {ks : List Str} {is : List Int} (h : rd z = some (ks, is)) : ftext ks is = z ∧ valid ks is = true := by
  unfold rd at h
  by_cases c : z = "-"
  · rw [if_pos c] at h
    cases h
    exact ⟨by rw [c]; rfl, by decide +kernel⟩
  rw [if_neg c] at h
  by_cases c2 : ((Txt.split z ", ").all fun p => (lvl p).isSome) = true ∧ valid (lks (Txt.split z ", ")) (lis (Txt.split z ", ")) = true
  · rw [if_pos c2] at h
    cases h
    obtain ⟨i1, i2⟩ := lvl_all c2.1
    refine ⟨?_, c2.2⟩
    unfold ftext
    rw [if_neg, show (lks (Txt.split z ", ")).zip (lis (Txt.split z ", ")) = (Txt.split z ", ").filterMap lvl from zip_maps _, i2]
    · exact split_back z ", " (by decide +kernel) (by decide +kernel)
    · unfold lks
      rw [List.length_map, i1]
      intro e
      exact split_ne z (List.length_eq_zero_iff.mp e)
  · rw [if_neg c2] at h
    cases h
theorem itm_facts : ∀ k ∈ KINDS, ∀ i ∈ ([0, 1, 2] : List Int), 44 ∉ tl (itm k i) ∧ 32 ∉ tl k ∧ 32 ∉ tl ((toString i : String) : Str) ∧ ((toString i : String) : Str) ∈ AWORDS ∧ aval ((toString i : String) : Str) = i ∧ PyData.strOk (itm k i) = true := by decide +kernel
theorem lvl_of {k : Str} {i : Int} (hk : k ∈ KINDS) (hi : i ∈ ([0, 1, 2] : List Int)) : lvl (itm k i) = some (k, i) := by
  obtain ⟨f1, f2, f3, f4, f5, _⟩ := itm_facts k hk i hi
  have e : Txt.split (itm k i) " " = [k, ((toString i : String) : Str)] := by
    have b := split_join (y := " ") (s := 32) (S := []) (by decide +kernel) (by decide +kernel) (parts := [k, ((toString i : String) : Str)]) (by simp) fun p hp => by
      rcases List.mem_cons.mp hp with rfl | hp
      · exact f2
      · rw [List.mem_singleton.mp hp]
        exact f3
    have e2 : itm k i = Txt.join " " [k, ((toString i : String) : Str)] := by
      refine ext_tl ?_
      unfold itm
      rw [join_eq, tl_join, tl_append, tl_append, tl_append]
      show tl Str.empty ++ tl k ++ tl " " ++ tl _ = tl k ++ (tl " " ++ tl _)
      rw [show tl Str.empty = [] from rfl, List.nil_append, List.append_assoc]
    rw [e2]
    exact b
  rw [lvl_two e, if_pos f4, f5]
theorem fm_itms : ∀ {l : List (Str × Int)}, (∀ p ∈ l, p.1 ∈ KINDS ∧ p.2 ∈ ([0, 1, 2] : List Int)) → ((l.map fun p => itm p.1 p.2).filterMap lvl) = l ∧ ((l.map fun p => itm p.1 p.2).all fun p => (lvl p).isSome) = true
  | [], _ => ⟨rfl, rfl⟩
  | p :: r, h => by
    obtain ⟨i1, i2⟩ := fm_itms (l := r) fun q hq => h q (List.mem_cons_of_mem _ hq)
    obtain ⟨a, b⟩ := h p (List.mem_cons_self ..)
    have e := lvl_of a b
    rw [List.map_cons, List.filterMap_cons_some e, i1, List.all_cons, i2, e]
    exact ⟨rfl, rfl⟩
theorem zip_all : ∀ {ks : List Str} {is : List Int}, is.length = ks.length → (∀ k ∈ ks, k ∈ KINDS) → (∀ i ∈ is, i ∈ ([0, 1, 2] : List Int)) →
    (ks.zip is).map (·.1) = ks ∧ (ks.zip is).map (·.2) = is ∧ ∀ p ∈ ks.zip is, p.1 ∈ KINDS ∧ p.2 ∈ ([0, 1, 2] : List Int)
  | [], [], _, _, _ => ⟨rfl, rfl, fun p h => by cases h⟩
  | [], _ :: _, h, _, _ => by cases h
  | _ :: _, [], h, _, _ => by cases h
  | k :: ks, i :: is, h, h1, h2 => by
    obtain ⟨a, b, c⟩ := zip_all (Nat.succ.inj h) (fun x hx => h1 x (List.mem_cons_of_mem _ hx)) fun x hx => h2 x (List.mem_cons_of_mem _ hx)
    rw [List.zip_cons_cons, List.map_cons, List.map_cons, a, b]
    refine ⟨rfl, rfl, fun p hp => ?_⟩
    rcases List.mem_cons.mp hp with rfl | hp
    · exact ⟨h1 _ (List.mem_cons_self ..), h2 _ (List.mem_cons_self ..)⟩
    · exact c p hp
theorem ok_list (z : Str) : PyData.strOk z = (tl z).all (· < 0x110000) := by
  unfold PyData.strOk
  rw [← Array.all_toList]
/-- the text of a form is read back -/
theorem rd_ftext {ks : List Str} {is : List Int} (h : valid ks is = true) : rd (ftext ks is) = some (ks, is) := by
  obtain ⟨h1, h2, h3, h4⟩ := valid_parts h
  by_cases c : ks.length = 0
  · have e1 : ks = [] := List.length_eq_zero_iff.mp c
    have e2 : is = [] := List.length_eq_zero_iff.mp (h3.trans c)
    subst e1
    subst e2
    rfl
  obtain ⟨z1, z2, z3⟩ := zip_all h3 h2 h4
  obtain ⟨f1, f2⟩ := fm_itms z3
  have ef : ftext ks is = Txt.join ", " ((ks.zip is).map fun p => itm p.1 p.2) := by
    unfold ftext
    rw [if_neg c]
  have ne : ((ks.zip is).map fun p => itm p.1 p.2) ≠ [] := fun e => by
    have e2 := congrArg List.length e
    rw [List.length_map, List.length_zip, h3, Nat.min_self] at e2
    exact c e2
  have es : Txt.split (ftext ks is) ", " = (ks.zip is).map fun p => itm p.1 p.2 := by
    rw [ef]
    refine split_join (s := 44) (S := [32]) (by decide +kernel) (by decide +kernel) ne fun p hp => ?_
    obtain ⟨q, hq, rfl⟩ := List.mem_map.mp hp
    obtain ⟨a, b⟩ := z3 q hq
    exact (itm_facts _ a _ b).1
  have nd : ftext ks is ≠ "-" := fun e => by
    rw [e] at es
    have e0 : Txt.split "-" ", " = [("-" : Str)] := by decide +kernel
    rw [e0] at es
    have m : lvl "-" = none := by decide +kernel
    rw [← es] at f2
    rw [List.all_cons, m] at f2
    cases f2
  unfold rd lks lis
  rw [if_neg nd, es, f1, z1, z2, if_pos ⟨f2, h⟩]
theorem join_len {S : List Nat} (hS : S.length ≤ 2) : ∀ {l : List (List Nat)}, (∀ p ∈ l, p.length ≤ 20) → (joinL S l).length ≤ 22 * l.length
  | [], _ => by simp [joinL]
  | [p], h => by
    have q := h p (List.mem_cons_self ..)
    show p.length ≤ 22 * 1
    omega
  | p :: q :: r, h => by
    have i := join_len hS (l := q :: r) fun x hx => h x (List.mem_cons_of_mem _ hx)
    have j := h p (List.mem_cons_self ..)
    rw [joinL_cons (by simp), List.length_append, List.length_append]
    simp only [List.length_cons] at i ⊢
    omega
theorem join_in {S : List Nat} : ∀ {l : List (List Nat)}, ∀ c ∈ joinL S l, c ∈ S ∨ ∃ p ∈ l, c ∈ p
  | [], c, h => by cases h
  | [p], c, h => .inr ⟨p, List.mem_cons_self .., h⟩
  | p :: q :: r, c, h => by
    rw [joinL_cons (by simp)] at h
    rcases List.mem_append.mp h with h | h
    · exact .inr ⟨p, List.mem_cons_self .., h⟩
    · rcases List.mem_append.mp h with h | h
      · exact .inl h
      · rcases join_in (l := q :: r) c h with z | ⟨x, a, b⟩
        · exact .inl z
        · exact .inr ⟨x, List.mem_cons_of_mem _ a, b⟩
theorem ftext_small {ks : List Str} {is : List Int} (h : valid ks is = true) : (ftext ks is).length ≤ 100 ∧ PyData.strOk (ftext ks is) = true := by
  obtain ⟨h1, h2, h3, h4⟩ := valid_parts h
  by_cases c : ks.length = 0
  · have e : ftext ks is = "-" := by
      unfold ftext
      rw [if_pos c]
    rw [e]
    exact ⟨by decide, by decide +kernel⟩
  obtain ⟨z1, z2, z3⟩ := zip_all h3 h2 h4
  have ef : ftext ks is = Txt.join ", " ((ks.zip is).map fun p => itm p.1 p.2) := by
    unfold ftext
    rw [if_neg c]
  have et : tl (ftext ks is) = joinL (tl ", ") (((ks.zip is).map fun p => itm p.1 p.2).map tl) := by rw [ef, join_eq, tl_join]
  constructor
  · rw [len_tl, et]
    have q := join_len (S := tl ", ") (by decide) (l := ((ks.zip is).map fun p => itm p.1 p.2).map tl) fun p hp => by
      obtain ⟨y, hy, rfl⟩ := List.mem_map.mp hp
      obtain ⟨q, hq, rfl⟩ := List.mem_map.mp hy
      obtain ⟨a, b⟩ := z3 q hq
      rw [← len_tl]
      exact (small_itm _ a _ b).2.2.1
    rw [List.length_map, List.length_map, List.length_zip, h3, Nat.min_self] at q
    omega
  · rw [ok_list, et, List.all_eq_true]
    intro x hx
    rcases join_in x hx with z | ⟨p, hp, hc⟩
    · have y : ∀ x ∈ tl ", ", decide (x < 0x110000) = true := by decide +kernel
      exact y x z
    · obtain ⟨y, hy, rfl⟩ := List.mem_map.mp hp
      obtain ⟨q, hq, rfl⟩ := List.mem_map.mp hy
      obtain ⟨a, b⟩ := z3 q hq
      have o := (itm_facts _ a _ b).2.2.2.2.2
      rw [ok_list, List.all_eq_true] at o
      exact o x hc
end Lw
namespace Lw
open PySem L2 TzR TL
abbrev s_l_use_built : Stmt := topS 50
theorem sc_l_use_built : FnScope ["_law_use"] ["_law_use"] (defScope s_l_use_built) := ⟨rfl, rfl, rfl, by decide +kernel, rfl, by decide +kernel, by decide +kernel⟩
def spUb (K : PySem.W.Frag) (U C : Addr) : Sp := fun vs H Q _ => ∃ (u : Addr) (nm : Str) (ls : List Str) (l : List (Str × Int)), vs = [.ref u] ∧ LuAt K H u nm ls l ∧ Good l ls.length ∧ ls.length ≤ 3 ∧ ls.Nodup ∧
  ∀ (p q : Addr) (H' : Hp), Same H H' → UseAt K U C H' p nm ls q (l.map (·.1)) (l.map (·.2)) → Q (.ref p) H'
section
variable {P : Program} {w : World} {K : PySem.W.Frag} {mg : Str → Option Value} {base : Heap} {U C fU fI BF AW KD gX gR pR f : Addr} {MC : Value} {dU dX fd : FuncData}
theorem ok_l_use_built (F : Fun K "_law_use_built" "_law_use_built" s_l_use_built f fd)
    (MU : Mk K U fU) (GU : FnOk P w K mg base CX0 3 fU dU ["self", "name", "letters", "form"] (spUini K U C)) (bU : Binds K dU ["self", "name", "letters", "form"] []) (mU : mg "Use" = some (.ref U))
    (GX : FnOk P w K mg base CX0 1 gX dX ["_law_form_here"] (spFtext K)) (bX : Binds K dX ["_law_form_here"] []) (kX : PySem.W.keepIn K (.ref gX) = true) (mX : mg "_law_form_text" = some (.ref gX))
    (T : Fm K mg C fI BF AW KD MC) (GR : FnR P w K mg base (L2.CX P w) 5 gR (spRead K C BF)) (cR : ClX.CMet K C MC "read" pR gR) :
    FnOk P w K mg base CX0 6 f fd ["_law_use"] (spUb K U C) := by
  refine F.ok sc_l_use_built (fun vs H Q E h => ?_) (fun cdv A outer s H vs Q E hr h => ?_)
  · obtain ⟨u, nm, ls, l, rfl, _⟩ := h
    rfl
  obtain ⟨u, nm, ls, l, rfl, ⟨tl, tf, us, h1, h2, h3, h4⟩, hg, hl, hn, k⟩ := h
  refine ⟨_, (pss_one (ps_ret (pe_make MU GU (hr.mono (by decide)) (by rfl) mU bU .nil pass0 (pa_cons (pe_ix ix_tup (pv 0) pe_int (fun _ _ => rfl)) (pa_cons (pe_ix ix_tup (pv 0) pe_int (fun _ _ => rfl)) (pa_cons (ClX.pe_cmeth (E := E0) (pe_glob (v := .ref C) (by rfl) T.mC rfl) T.cr cR GR (hr.mono (by decide)) (passL (X := (cxOf CX0 P w K mg base ["_law_use"] "_law_use_built" (defScope s_l_use_built) f cdv A outer s H E).nox)) (pa_cons (pe_call GX (hr.mono (by decide)) rfl mX kX bX .nil pass0 (pa_cons (pe_ix ix_tup (pv 0) pe_int (fun _ _ => rfl)) pa_nil)) pa_nil)) pa_nil)))))), ?_⟩
  have hv : valid (l.map (·.1)) (l.map (·.2)) = true := iota_valid hg hl
  refine ⟨_, rfl, u, _, (0 : Int), _, rfl, rfl, h1, atI_nat (j := 0) rfl, _, rfl, u, _, (1 : Int), _, rfl, rfl, h1, atI_nat (j := 1) rfl, ?_⟩
  refine ⟨rfl, _, rfl, u, _, (2 : Int), .ref tf, rfl, rfl, h1, atI_nat (j := 2) rfl, tf, us, l, _, rfl, h3, h4, hg, hl, fun H1 g1 => ?_⟩
  refine ⟨_, rfl, by have := (ftext_small hv).1; omega, fun ks is er pf H4 g4 hpf => ?_, fun z => by rw [rd_ftext hv] at z; cases z⟩
  rw [rd_ftext hv] at er
  cases er
  intro x dx nx ndx ne
  have g5 : Same H4 (upd (upd H4 dx (.own x)) x (.ins U dx [])) := fun b o e => by rw [upd_ne (ne_of_none e nx), upd_ne (ne_of_none e ndx)]; exact e
  refine ⟨x, dx, tl, pf, nm, ls, l.map (·.1), l.map (·.2), rfl, upd_same, .inr (seqT (g1.trans (g4.trans g5)) h2), by omega, hn, hpf.same g5, by rw [List.length_map, hg.1], fun H6 tl' k6 h6 ht6 => ⟨rfl, ?_⟩⟩
  have g6 : Same H4 H6 := fun b o e => k6 b o (ne_of_none e nx) (g5 _ _ e)
  exact k x pf H6 (g1.trans (g4.trans g6)) ⟨dx, tl', h6, ht6, hpf.same g6⟩
end
end Lw
/-! sets of texts: set(list of texts), sorted(such a set) -/
namespace TxS
open PySem PySem.Spec PyProof.Rows L2
abbrev SD := PySem.Froz.SD
abbrev sOb (D : SD) : Obj := PySem.Froz.sObj "set" D
/-- what a set's table holds: the texts l; it rises and can be walked -/
structure Pay (P : Program) (w : World) (D : SD) (l : List Str) : Prop where
  tx : PySem.Froz.TxOk P w D l
  ris : Ris D.2.2.place.toList
  led : w.params.followText "set-order" = true ∨ D.2.2.led = true
  nd : l.Nodup
section
variable {P : Program} {w : World} {A : Around} {E : Value → Shared → Prop} {s : Shared} {D : SD} {l : List Str} {k : Str} {a : Addr}
theorem tail_ris {ep : Nat} {es1 : Array (Int × Value)} {t2 : SetTable} {wd : Bool} (r : Ris t2.place.toList) : Ris (PySem.Froz.tailTx ep es1 t2 wd).2.2.place.toList := by
  unfold PySem.Froz.tailTx
  by_cases c : (!wd && t2.tooFull) = true
  · rw [if_pos c]
    exact relayAll_ris _ _ _
  · rw [if_neg c]
    exact r
theorem tail_led {ep : Nat} {es1 : Array (Int × Value)} {t2 : SetTable} {wd : Bool} (r : t2.led = true) : (PySem.Froz.tailTx ep es1 t2 wd).2.2.led = true := by
  unfold PySem.Froz.tailTx
  by_cases c : (!wd && t2.tooFull) = true
  · rw [if_pos c]
    exact (relayAll_led _ _ _).trans r
  · rw [if_neg c]
    exact r
theorem Pay.add (F : Pay P w D l) (hk : k ∉ l) (u : Tok) : Pay P w (PySem.Froz.addTx (hashStr w k) (.str k u) D) (k :: l) := by
  refine ⟨PySem.Froz.add_ok u F.tx, ?_, ?_, List.nodup_cons.mpr ⟨hk, F.nd⟩⟩
  · have r1 := layNew_ris D.2.2 D.1 (hashStr w k) (.str k u) F.ris
    refine tail_ris ?_
    by_cases c : (layNew D.2.2 D.1 (hashStr w k) (.str k u)).2.1.plain = true
    · rw [if_pos c]
      exact r1
    · rw [if_neg c]
      exact r1
  · refine F.led.imp id fun z => ?_
    have r1 := (layNew_led D.2.2 D.1 (hashStr w k) (.str k u)).trans z
    refine tail_led ?_
    by_cases c : (layNew D.2.2 D.1 (hashStr w k) (.str k u)).2.1.plain = true
    · rw [if_pos c]
      exact r1
    · rw [if_neg c]
      exact r1
theorem add_old {T : String} {u : Tok} {Q : Bool → Shared → Prop} (ho : s.heap.get? a = some (PySem.Froz.sObj T D)) (F : PySem.Froz.TxOk P w D l) (hk : k ∈ l) (hb : l.length < scanBound) (h : Q false s) :
    wpAny (model P w) A (setAddHashed a (.str k u) (hashStr w k)) Q E s := by
  obtain ⟨es, ep, t⟩ := D
  have hd : (PySem.Froz.sObj T (es, ep, t)).data = .set es ep t := rfl
  have hf : t.fits es.size = true := F.fit
  have hel : ElemsOf (PySem.strKind P w) es.toList := F.el
  have hsz : es.size = l.length := F.sz
  have hkey : (PySem.strKind P w).is k (.str k u) = true := PySem.Froz.is_str k u
  unfold setAddHashed setAddHashedIn
  refine wpAny_holding (wpAny_bind (wpAny_setState_of ho hd hf ?_))
  dsimp only
  rw [byScan_of (knd := PySem.strKind P w) rfl (by omega) hel]
  simp only [↓reduceIte]
  unfold setAddByScan
  refine wpAny_bind (wpAny_bind (wpAny_rule (wpAny_bind (wpAny_setScan_of (knd := PySem.strKind P w) (k := k) hkey ho hd hf hel ?_))))
  cases hr : List.findIdx? (fun e => (PySem.strKind P w).is k e.2) es.toList with
  | none =>
    obtain ⟨e, he, q⟩ := (F.mem k).mp hk
    have z := List.findIdx?_eq_none_iff.mp hr e he
    rw [q] at z
    cases z
  | some j =>
    dsimp only
    exact wpAny_pure (wpAny_pure h)
/-- one add: the text is there behind it -/
theorem add_one {u : Tok} {Q : Bool → Shared → Prop} (ho : s.heap.get? a = some (sOb D)) (F : Pay P w D l) (hb : l.length + 1 < scanBound)
    (h : ∀ (b : Bool) (h' : Heap) (D' : SD) (l' : List Str), Heap.SameBut a s.heap h' → h'.get? a = some (sOb D') → Pay P w D' l' → (∀ z, z ∈ l' ↔ z = k ∨ z ∈ l) → l'.length ≤ l.length + 1 → Q b { s with heap := h' }) :
    wpAny (model P w) A (setAddHashed a (.str k u) (hashStr w k)) Q E s := by
  by_cases hk : k ∈ l
  · exact add_old ho F.tx hk (by omega) (h false s.heap D l (Heap.SameBut.refl a s.heap) ho F (fun z => ⟨.inr, fun q => q.elim (fun e => e ▸ hk) id⟩) (Nat.le_succ _))
  · refine PySem.Froz.add_x ho F.tx hk hb (h true _ (PySem.Froz.addTx (hashStr w k) (.str k u) D) (k :: l) (Heap.SameBut.update s.heap a _) (PySem.Froz.get_upd _ ho rfl) (F.add hk u) (fun z => ?_) (Nat.le_refl _))
    rw [List.mem_cons]
/-- the loop of set(..) over texts -/
theorem upd_texts {R : Result → Shared → Prop} {I : Addr} {fp wr : List Addr} {G : Array GenState → Array GenState → Prop} {n : Nat} {Pv : Nat → Value → Prop} {St : Nat → Shared → Prop}
    (W : WalksS P w A.in1 I fp wr G n Pv St) (S : Addr) (hSf : S ∉ fp) (zs : List Str) (hn : n = zs.length) (hb : zs.length + 1 < scanBound) (hval : ∀ i v, Pv i v → ∃ z t, zs[i]? = some z ∧ v = .str z t) :
    ∀ (k i : Nat) (s : Shared), n - i = k → i ≤ n → St i s → (∃ D l, s.heap.get? S = some (sOb D) ∧ Pay P w D l ∧ (∀ z, z ∈ l ↔ z ∈ zs.take i) ∧ l.length ≤ i) →
      (∀ s', Moved (S :: wr) G s s' → (∃ D l, s'.heap.get? S = some (sOb D) ∧ Pay P w D l ∧ (∀ z, z ∈ l ↔ z ∈ zs) ∧ l.length ≤ n) → R (.ok (.ret .none)) s') →
      codeAny (model P w) A (.builtin "set.update.loop" ⟨[.ref S, .ref I], []⟩) R s := by
  have hSw : S ∉ wr := fun h => hSf (W.sub _ h)
  have hsub : ∀ b ∈ wr, b ∈ S :: wr := fun b hb => List.mem_cons_of_mem _ hb
  intro k
  induction k with
  | zero =>
    intro i s hk hi hst ⟨D, l, h1, h2, h3, h4⟩ hR
    obtain rfl : i = n := by omega
    refine codeAny_builtin F.entry_set_update_loop ?_
    rw [Around.under_plainId F.plain_set_update_loop _]
    show wpAny _ A.in1 (pyNext (.ref I) >>= _) _ _ s
    refine wpAny_bind (W.done s _ _ hst fun s' hm => ?_)
    show wpAny _ A.in1 (ret Value.none) _ _ s'
    rw [List.take_of_length_le (by omega)] at h3
    exact wpAny_pure (hR s' (hm.mono hsub) ⟨D, l, hm.heap S _ hSw h1, h2, h3, h4⟩)
  | succ k ih =>
    intro i s hk hi hst ⟨D, l, h1, h2, h3, h4⟩ hR
    have hlt : i < n := by omega
    refine codeAny_builtin F.entry_set_update_loop ?_
    rw [Around.under_plainId F.plain_set_update_loop _]
    show wpAny _ A.in1 (pyNext (.ref I) >>= _) _ _ s
    refine wpAny_bind (W.item i s _ _ hlt hst fun v s' hP hst' hm => ?_)
    obtain ⟨z, t, hz, rfl⟩ := hval i v hP
    have h1' := hm.heap S _ hSw h1
    show wpAny _ A.in1 (holding [Value.str z t] (setAdd S (.str z t)) >>= _) _ _ s'
    refine wpAny_bind (wpAny_holding ?_)
    unfold setAdd
    refine wpAny_holding (wpAny_bind ((PySem.strKind P w).pyHash (k := z) (PySem.Froz.is_str z t) ?_))
    refine add_one (k := z) (s := { s' with toks := s'.toks + 1 }) h1' h2 (by omega) fun b h' D' l' hsb q1 q2 q3 q4 => ?_
    refine wpAny_pure ⟨plainId_quiet F.plain_set_update_loop _, ih (i + 1) _ (by omega) hlt (W.frame _ s' _ _ hst' (Nat.le_succ _) fun b hb o e => ?_) ⟨D', l', q1, q2, fun y => ?_, by omega⟩ fun s'' hm2 hE => ?_⟩
    · rw [hsb.2 b (fun h : b = S => hSf (by rw [← h]; exact hb))]
      exact e
    · rw [q3 y, h3 y, List.take_add_one, hz, List.mem_append]
      show _ ↔ _ ∨ y ∈ [z]
      rw [List.mem_singleton]
      exact Or.comm
    · refine hR s'' (Moved.trans W.gtrans ((hm.mono hsub).then_heap (Nat.le_succ _) fun b o hb e => ?_) hm2) hE
      rw [hsb.2 b (fun h : b = S => hb (by rw [h]; exact List.mem_cons_self))]
      exact e
theorem pay_new {t : SetTable} {ep : Nat} (hf : t.fits 0 = true) (hp : t.place = #[]) (hl : w.params.followText "set-order" = true ∨ t.led = true) : Pay P w (#[], ep, t) [] :=
  ⟨PySem.Froz.TxOk.nil hf, by show Ris t.place.toList; rw [hp]; exact List.Pairwise.nil, hl, List.nodup_nil⟩
abbrev newSet (w : World) : Obj := { cls := .type "set", dict := none, data := .set #[] 0 (.fresh 0 0 (!w.params.followText "set-order")) }
theorem pay_fresh : Pay P w (#[], 0, .fresh 0 0 (!w.params.followText "set-order")) [] := by
  refine pay_new (by rfl) rfl ?_
  show _ ∨ (!w.params.followText "set-order") = true
  cases w.params.followText "set-order"
  · exact .inr rfl
  · exact .inl rfl
set_option maxHeartbeats 3200000 in
/-- set(xs), a list of texts -/
theorem call_set {L : Addr} {items : Array Value} (zs : List Str) {Q : Value → Shared → Prop} (hh : A.handled = none) (hl : s.heap.IsList L items) (hit : StrsAre items.toList zs) (hb : zs.length + 1 < scanBound)
    (h : ∀ (h' : Heap) (tk : Nat) (D : SD) (l : List Str), h'.get? s.heap.objs.size = some (sOb D) → Pay P w D l → (∀ z, z ∈ l ↔ z ∈ zs) → l.length ≤ zs.length → (∀ b o, s.heap.get? b = some o → h'.get? b = some o) → Q (.ref s.heap.objs.size) { s with heap := h', toks := tk }) :
    wpAny (model P w) A (call (.type "set") [.ref L]) Q E s := by
  have hisz : items.size = zs.length := by
    have q := StrsAre.len_eq hit
    rw [Array.length_toList] at q
    exact q
  obtain ⟨c, tl, hmro⟩ := PySem.F.called_set.mro
  have hmade := PySem.F.called_set.made
  have hsub := PySem.F.called_set.sub
  refine wpAny_call (codeAny_of_tree ?_)
  show wpAny _ _ (callAny (.type "set") _) _ _ _
  refine wpAny_pure ⟨Code.quiet_builtin _ (by decide +kernel), codeAny_builtin PySem.F.entry_type_call ?_⟩
  rw [Around.under_plain (weight_type_call_type "set" [.ref L] []) rfl]
  have h1 := PySem.F.called_set.notType
  have h2 := PySem.F.called_set.canCreate
  have hct := PySem.F.typeCall_set_1 (.ref L)
  repeat (any_goals (first | assumption | wp_step))
  refine codeAny_mono (code_set_led1 (.ref L) (E := E) (Q₁ := fun obj s₁ => obj = .ref s.heap.objs.size ∧ s₁ = { s with heap := s.heap.push (newSet w) }) ⟨rfl, rfl⟩) fun r s₁ hr => ?_
  cases r with
  | error e => exact hr
  | ok fl =>
    cases fl with
    | ret obj =>
      obtain ⟨rfl, rfl⟩ := hr
      have hS : (s.heap.push (newSet w)).get? s.heap.objs.size = some (newSet w) := Heap.get?_push_size _ rfl
      have hT : Shared.TypeIs { s with heap := s.heap.push (newSet w) } (.ref s.heap.objs.size) "set" := ⟨_, hS, rfl⟩
      have hli := PySem.F.called_set.init.lookup
      have hbi := PySem.F.called_set.init.bind (.ref s.heap.objs.size)
      repeat (any_goals (first | assumption | wp_step))
      refine codeAny_mono (codeAny_call_builtin (R := wants (fun r s₂ => r = .none ∧ ∃ h' tk, s₂ = { s with heap := h', toks := tk } ∧ (∃ D l, h'.get? s.heap.objs.size = some (sOb D) ∧ Pay P w D l ∧ (∀ z, z ∈ l ↔ z ∈ zs) ∧ l.length ≤ zs.length) ∧
          (∀ b o, s.heap.get? b = some o → h'.get? b = some o)) E) PySem.F.called_set.init.plain PySem.F.entry_set_init (check_set_init_1 hT ?_)) fun r₂ s₂ hr₂ => ?_
      · obtain ⟨⟨ocls, odict, odata, oslots⟩, hol, hcl, nl, hdl⟩ := hl
        simp only at hcl hdl
        subst hcl hdl
        have hol' : (s.heap.push (newSet w)).get? L = some { cls := .type "list", dict := odict, data := .seq items nl, slots := oslots } := Heap.get?_push_of_some _ hol
        have hsls := PySem.F.sub_list_set
        have hslf := PySem.F.sub_list_frozenset
        have hne : (Value.type "list" == Value.type "dict") = false := by decide
        have hl1 : (s.heap.push (newSet w)).IsList L items := ⟨_, hol', rfl, nl, rfl⟩
        unfold Builtin.«set.__init__» noKeywords Builtin.Frozenset.updateFrom
        generalize hPI : pyIter = PI
        wp_walk
        subst hPI
        refine wpAny_pyIter_list hl1 ?_
        refine wpAny_bind (wpAny_runValue ?_)
        have hlS : L < s.heap.objs.size := Heap.lt_size hol
        have hh3 : A.in1.in1.in1.handled = none := by simp [hh]
        have hneI : L ≠ (s.heap.push (newSet w)).objs.size := by
          rw [Heap.size_push]
          exact Nat.ne_of_lt (Nat.lt_succ_of_lt hlS)
        have hSf : s.heap.objs.size ∉ [(s.heap.push (newSet w)).objs.size, L] := by
          rw [Heap.size_push]
          simp only [List.mem_cons, List.mem_singleton, List.not_mem_nil, or_false, not_or]
          exact ⟨Nat.ne_of_lt (Nat.lt_succ_self _), Nat.ne_of_gt hlS⟩
        have hval : ∀ (i : Nat) (v : Value), items[i]? = some v → ∃ z t, zs[i]? = some z ∧ v = .str z t := fun i v hv => by
          have hi : i < zs.length := by rw [← hisz]; exact (Array.getElem?_eq_some_iff.mp hv).1
          obtain ⟨t, e⟩ := SS.strs_at hit i v (by rw [Array.getElem?_toList]; exact hv)
          refine ⟨zs[i], t, List.getElem?_eq_getElem hi, ?_⟩
          rw [e, List.getD_eq_getElem?_getD, List.getElem?_eq_getElem hi] <;> rfl
        refine upd_texts ((Walks.list hh3 _ L hneI items).toS) s.heap.objs.size hSf zs hisz hb hval (items.size - 0) 0 _ (by omega) (Nat.zero_le _) ⟨⟨_, Heap.get?_push_size _ rfl, rfl, rfl⟩, (hl1.push _)⟩ ?hS0 ?hR
        case hS0 =>
          refine ⟨(#[], 0, .fresh 0 0 (!w.params.followText "set-order")), [], ?_, pay_fresh, fun z => by simp, Nat.le_refl _⟩
          exact Heap.get?_push_of_some _ hS
        case hR =>
          intro s' hm hE
          obtain ⟨h', g', d', tk', os'⟩ := s'
          obtain rfl : g' = s.gens := hm.gens
          obtain rfl : d' = s.drawn := hm.drawn
          obtain rfl : os' = s.os := hm.os
          show wpAny _ _ _ _ _ _
          refine wpAny_pure ?_
          show wpAny _ _ (ret Value.none) _ _ _
          rw [hisz] at hE
          refine wpAny_pure ⟨rfl, h', tk', rfl, hE, fun b o e => ?_⟩
          have hb0 : b < s.heap.objs.size := Heap.lt_size e
          have hb2 : b ≠ (s.heap.push (newSet w)).objs.size := by
            rw [Heap.size_push]
            exact Nat.ne_of_lt (Nat.lt_succ_of_lt hb0)
          exact hm.heap b o (by simp only [List.mem_cons, List.mem_singleton, List.not_mem_nil, or_false, not_or]; exact ⟨Nat.ne_of_lt hb0, hb2⟩) (Heap.get?_push_of_some _ (Heap.get?_push_of_some _ e))
      · cases r₂ with
        | error e => exact hr₂
        | ok fl₂ =>
          cases fl₂ with
          | ret r =>
            obtain ⟨rfl, h', tk, rfl, ⟨D, l, q1, q2, q3, q4⟩, hk'⟩ := hr₂
            repeat (any_goals (first | assumption | wp_step))
            exact h _ _ D l q1 q2 q3 q4 hk'
          | _ => exact hr₂.elim
    | _ => exact hr.elim
theorem strs_out {es : List (Int × Value)} (h : ElemsOf (PySem.strKind P w) es) : ∀ v ∈ es.map (·.2), ∃ x t, v = Value.str x t := fun v hv => by
  obtain ⟨e, he, rfl⟩ := List.mem_map.mp hv
  obtain ⟨⟨x, q, _⟩, _⟩ := h e he
  have z : Value.isStrOf x e.2 = true := q
  obtain ⟨t, et⟩ := Value.isStrOf_shape (x := x) (v := e.2) z
  exact ⟨x, t, et⟩
/-- sorted(set of texts) -/
theorem call_sorted {Q : Value → Shared → Prop} (ho : s.heap.get? a = some (sOb D)) (F : Pay P w D l) (hh : A.handled = none) (h64 : l.length < 64)
    (h : ∀ s' p (out : Array Value) (c : Nat) (ys : List Str), (∀ b o, s.heap.get? b = some o → s'.heap.get? b = some o) → s'.gens = s.gens → s'.os = s.os → s.heap.objs.size ≤ p → s'.heap.get? p = some (seqObj "list" out c) → StrsAre out.toList ys → sortedS ys = true →
      (∀ z, z ∈ ys ↔ z ∈ l) → ys.length = l.length → Q (.ref p) s') : wpAny (model P w) A (call (.builtin "sorted") [.ref a]) Q E s := by
  obtain ⟨es, ep, t⟩ := D
  have hsz : es.size = l.length := F.tx.sz
  refine Calls.call_function_entry kind_sorted plain_sorted entry_sorted (args_sorted1 _) ?_
  unfold Builtin.«sorted»
  refine wpAny_bind (m := checkCount "sorted" 1 1 _) (wpAny_pure ?_)
  refine wpAny_bind (collect_set (A := A.in1) hh ⟨_, ho, rfl, rfl⟩ F.tx.fit (by show es.size < scanBound; rw [hsz]; exact Nat.lt_trans h64 (by decide)) F.ris F.led fun s1 vs k1 hz g1 o1 pm => ?_)
  have pm : vs.Perm (es.toList.map (·.2)) := pm
  have hvl : vs.length = l.length := by rw [pm.length_eq, List.length_map, Array.length_toList, hsz]
  have hall : ∀ v ∈ vs, ∃ x t, v = Value.str x t := fun v hv => strs_out F.tx.el v (pm.mem_iff.mp hv)
  have hS : StrsAre vs (vs.map strOf) := strsAre_map vs hall
  refine wpAny_bind (wpAny_newList ?_ (by rw [hvl, sizeLine_eq]; omega))
  have hoL : (s1.heap.push (seqObj "list" vs.toArray 0)).get? s1.heap.objs.size = some (seqObj "list" vs.toArray 0) := Heap.get?_push_size _ rfl
  refine wpAny_bind (wpAny_holding (wpAny_call_entry slot_list_sort ⟨_, hoL, rfl⟩ entry_list_sort (list_sort_treeK strKind_oneLt hoL hS.keysOf (fun v₁ v₂ rest e => keyKind_strs (by rw [← e]; exact hS)) (by rw [hvl]; exact h64) fun st' hp hs => ⟨_, rfl, ?_⟩) (args_list_sort _)))
  obtain ⟨ys, a1, a2, a3⟩ := sorted_out_str hS hp hs
  obtain ⟨c, hc⟩ := sortedHeap_at (vs := vs) (out := (arrOf st').map (·.2)) hoL
  refine wpAny_pure ⟨_, rfl, h _ s1.heap.objs.size _ c ys (fun b u e => ?_) g1 o1 hz hc a1 a3 (fun z => ?_) ?_⟩
  · have q := k1 b u e
    have hlt := Heap.lt_size q
    show (sortedHeap (s1.heap.push (seqObj "list" vs.toArray 0)) s1.heap.objs.size vs _).get? b = some u
    rw [sortedHeap_old (Nat.ne_of_lt hlt) (by rw [size_push']; exact Nat.lt_succ_of_lt hlt)]
    exact Heap.get?_push_of_some _ q
  · have m := F.tx.mem z
    rw [m, a2.mem_iff, List.mem_map]
    constructor
    · rintro ⟨v, hv, rfl⟩
      obtain ⟨x, t', rfl⟩ := hall v hv
      obtain ⟨e, he, q⟩ := List.mem_map.mp (pm.mem_iff.mp hv)
      exact ⟨e, he, by rw [q]; exact PySem.Froz.is_str x t'⟩
    · rintro ⟨e, he, q⟩
      have z1 : Value.isStrOf z e.2 = true := q
      obtain ⟨t', et⟩ := Value.isStrOf_shape (x := z) (v := e.2) z1
      exact ⟨e.2, pm.mem_iff.mpr (List.mem_map.mpr ⟨e, he, rfl⟩), by rw [et] <;> rfl⟩
  · rw [a2.length_eq, List.length_map, hvl]
end
/-- a set of the texts l -/
def SetT (P : Program) (w : World) (a : Addr) (l : List Str) : HO := .ext fun h => ∃ D, h.get? a = some (sOb D) ∧ Pay P w D l
theorem setT_ok {P : Program} {w : World} {H : Hp} {h : Heap} {a : Addr} {l : List Str} {D : SD} (ho : h.get? a = some (sOb D)) (F : Pay P w D l) : ObjOk P w H h a (SetT P w a l) :=
  ⟨⟨D, ho, F⟩, ⟨_, ho⟩, fun h1 h2 ⟨D', p, q⟩ k => ⟨D', k _ p, q⟩⟩
section
variable {X : Cx}
def rSetT (K : PySem.W.Frag) (P : Program) (w : World) : List V → Hp → VK → Prop := fun xs H Q => ∃ (L : Addr) (zs : List Str), xs = [V.ref L] ∧ SqL K H L (zs.map V.str) ∧ zs.length < 64 ∧
  ∀ (a : Addr) (l : List Str), H a = none → l.Nodup → (∀ z, z ∈ l ↔ z ∈ zs) → l.length ≤ zs.length → Q (.ref a) (upd H a (SetT P w a l))
theorem cr_setT (hc : X.calm = true) : CallR X (.type "set") (rSetT X.K X.prog X.w) := by
  intro pins s σ H xs us Q I r h
  obtain ⟨L, zs, rfl, hl, h64, q⟩ := h
  rw [Vals.ref1 r]
  obtain ⟨its, rv, pl, hz⟩ := I.list hl
  have hn : H s.heap.objs.size = none := I.hok.fresh (Nat.le_refl _)
  refine call_set (P := X.prog) (w := X.w) zs (I.ok.hd hc) pl.isList (by simpa using strsAre_of rv) (Nat.lt_trans (Nat.succ_lt_succ h64) (by decide)) fun h' tk D l q1 q2 q3 q4 k => ?_
  exact ⟨.ref s.heap.objs.size, upd H s.heap.objs.size (SetT X.prog X.w s.heap.objs.size l), I.laid (t' := tk) k (Nat.le_refl _) (setT_ok q1 q2), rfl, q _ l hn q2.nd q3 q4⟩
def rSortT (P : Program) (w : World) : List V → Hp → VK → Prop := fun xs H Q => ∃ (a : Addr) (l : List Str), xs = [V.ref a] ∧ H a = some (SetT P w a l) ∧ l.length < 64 ∧
  ∀ (ys : List Str) (p : Addr), sortedS ys = true → (∀ z, z ∈ ys ↔ z ∈ l) → ys.length = l.length → H p = none → Q (.ref p) (upd H p (.lst (ys.map V.str)))
theorem cr_sortT (hc : X.calm = true) : CallR X (.builtin "sorted") (rSortT X.prog X.w) := by
  intro pins s σ H vs us Q I r h
  obtain ⟨a, l, rfl, ha, h64, q⟩ := h
  obtain ⟨D, ho, F⟩ := (I.hok a _ ha).1
  rw [Vals.ref1 r]
  refine call_sorted ho F (I.ok.hd hc) h64 fun s' p out c ys k g o hp hg hi hs hm hl => ?_
  have hlen : (ys.map V.str).length ≤ sizeLine := by rw [List.length_map, hl, sizeLine_eq]; omega
  have hn : H p = none := I.hok.fresh hp
  have J : Inv X pins σ (upd H p (.lst (ys.map V.str))) { s with heap := s'.heap, gens := s'.gens, drawn := s'.drawn, toks := s'.toks } :=
    I.call (ch := []) (Un.laid k hp hn) (I.hok.laid k hp ⟨hlen, out.toList, c, vals_of_strs hi, hg⟩) (by rw [g]; exact I.bare) (fun _ z => nomatch z)
  have e : s' = { s with heap := s'.heap, gens := s'.gens, drawn := s'.drawn, toks := s'.toks } := by
    cases s'
    cases s
    cases o
    rfl
  rw [e]
  exact ⟨.ref p, _, J, rfl, q ys p hs hm hl hn⟩
end
end TxS
namespace Lw.Ey
open PySem L2 OwB
/-! a comprehension of two clauses whose element is the second name: the inner sources one behind another -/
def flat (fs : Nat → List V) : Nat → List V
  | 0 => []
  | n + 1 => flat fs n ++ fs n
/-- what walks the outer source: an item a turn, the heap stays -/
structure Outer (J : It) (H0 : Hp) (D : Addr) (xs : List V) : Prop where
  go : ∀ i H, i < xs.length → (∀ b o, H0 b = some o → H b = some o) → J.go i H
  yld : ∀ i H x H', (∀ b o, H0 b = some o → H b = some o) → J.yld i H x H' → H' = H ∧ xs[i]? = some x
  stop : ∀ H, (∀ b o, H0 b = some o → H b = some o) → J.stop xs.length H
theorem outer_list {K : PySem.W.Frag} {a : Addr} {xs : List V} {H0 : Hp} {D : Addr} (h : SqL K H0 a xs) : Outer (Itl K a) H0 D xs :=
  ⟨fun i H hi g => ⟨xs, xs[i], Same.seq g h, List.getElem?_eq_getElem hi⟩, fun i H x H' g y => ⟨y.1, y.2 xs (Same.seq g h)⟩, fun H g => ⟨xs, Same.seq g h, Nat.le_refl _⟩⟩
theorem outer_tup {K : PySem.W.Frag} {a : Addr} {xs : List V} {H0 : Hp} {D : Addr} (h : SqT K H0 a xs) : Outer (Itt K a) H0 D xs :=
  ⟨fun i H hi g => ⟨xs, xs[i], seqT g h, List.getElem?_eq_getElem hi⟩, fun i H x H' g y => ⟨y.1, y.2 xs (seqT g h)⟩, fun H g => ⟨xs, seqT g h, Nat.le_refl _⟩⟩
theorem lc2_it {K : PySem.W.Frag} {J : It} {xs : List V} {wi1 : TI} {σ : St} {H0 : Hp} {D : Addr} {Qd : Hp → Prop} {i0 j0 : Nat} (fs : Nat → List V) (hD : H0 D = none) (hJ : Outer J H0 D xs)
    (hw : ∀ i x H R, xs[i]? = some x → Same H0 H → (∀ b, SqT K H0 b (fs i) → R (Itt K b) H) → wi1 ((wipe σ [i0, j0]).set i0 (some x)) H R) (hlen : (flat fs xs.length).length ≤ 1000)
    (hmono : ∀ i, i < xs.length → ((flat fs i).length + (fs i).length ≤ 1000))
    (hq : ∀ H, H D = some (.lst (flat fs xs.length)) → Same H0 H → Qd H)
    (w1 : ∀ x, wipe ((wipe σ [i0, j0]).set i0 (some x)) [i0, j0] = wipe σ [i0, j0])
    (w2 : ∀ x y, wipe ((wipe ((wipe σ [i0, j0]).set i0 (some x)) [j0]).set j0 (some y)) [j0] = wipe ((wipe σ [i0, j0]).set i0 (some x)) [j0])
    (w3 : ∀ x y, ((wipe ((wipe σ [i0, j0]).set i0 (some x)) [j0]).set j0 (some y))[j0]? = some (some y)) :
    ∃ W : Nat → Nat → Hp → Prop, (∃ m, W 0 m (upd H0 D (.lst []))) ∧ ∀ i m H, W i m H →
      (J.stop i H ∧ Qd H) ∨ (J.go i H ∧ ∃ Nx : Hp → Prop, (∀ H', Nx H' → ∃ m', m' < m ∧ W (i + 1) m' H') ∧ ∀ x H', J.yld i H x H' → gName i0 x (wipe σ [i0, j0]) H' fun σ2 H2 => wipe σ2 [i0, j0] = wipe σ [i0, j0] ∧ tYes σ2 H2 fun b H3 =>
        if b = true then wi1 σ2 H3 fun J1 H4 => ∃ W1 : Nat → Nat → Hp → Prop, (∃ m, W1 0 m H4) ∧ ∀ j k H, W1 j k H →
          (J1.stop j H ∧ Nx H) ∨ (J1.go j H ∧ ∃ Nx1 : Hp → Prop, (∀ H', Nx1 H' → ∃ k', k' < k ∧ W1 (j + 1) k' H') ∧ ∀ x H', J1.yld j H x H' → gName j0 x (wipe σ2 [j0]) H' fun σ3 H5 => wipe σ3 [j0] = wipe σ2 [j0] ∧ tYes σ3 H5 fun b H6 =>
            if b = true then tVar j0 σ3 H6 fun y H7 => ∃ acc, H7 D = some (.lst acc) ∧ acc.length < sizeLine ∧ Nx1 (upd H7 D (.lst (acc ++ [y]))) else Nx1 H6)
        else Nx H3) := by
  refine ⟨fun i m H => m = xs.length - i ∧ i ≤ xs.length ∧ H D = some (.lst (flat fs i)) ∧ Same H0 H, ⟨xs.length, by simp, Nat.zero_le _, upd_same, same_new hD _⟩, ?_⟩
  rintro i m H ⟨rfl, hi, hd, g⟩
  by_cases hlt : i < xs.length
  · refine .inr ⟨hJ.go i H hlt g, fun H' => H' D = some (.lst (flat fs (i + 1))) ∧ Same H0 H', fun H' ⟨d', g'⟩ => ⟨xs.length - (i + 1), by omega, rfl, hlt, d', g'⟩, fun x H' y => ?_⟩
    obtain ⟨rfl, hx⟩ := hJ.yld i H x H' g y
    refine ⟨w1 x, iteT (B := H' D = some (.lst (flat fs (i + 1))) ∧ Same H0 H') ?_⟩
    refine hw i x H' _ hx g fun b hb => ?_
    refine ⟨fun j k H1 => k = (fs i).length - j ∧ j ≤ (fs i).length ∧ H1 D = some (.lst (flat fs i ++ (fs i).take j)) ∧ Same H0 H1, ⟨(fs i).length, by simp, Nat.zero_le _, by rw [List.take_zero, List.append_nil]; exact hd, g⟩, ?_⟩
    rintro j k H1 ⟨rfl, hj, hd1, g1⟩
    by_cases hlj : j < (fs i).length
    · refine .inr ⟨⟨fs i, (fs i)[j], seqT g1 hb, List.getElem?_eq_getElem hlj⟩, fun H2 => H2 D = some (.lst (flat fs i ++ (fs i).take (j + 1))) ∧ Same H0 H2, fun H2 ⟨d2, g2⟩ => ⟨(fs i).length - (j + 1), by omega, rfl, hlj, d2, g2⟩, fun z H2 yz => ?_⟩
      obtain ⟨rfl, yz⟩ := yz
      have hz := yz (fs i) (seqT g1 hb)
      refine ⟨w2 x z, iteT (B := H2 D = some (.lst (flat fs i ++ (fs i).take (j + 1))) ∧ Same H0 H2) ?_⟩
      refine ⟨z, w3 x z, _, hd1, ?_, ?_⟩
      · rw [List.length_append, List.length_take]
        have := hmono i hlt
        exact small1000 (by omega)
      · refine ⟨?_, same_over g1 hD _⟩
        rw [upd_same, List.take_add_one, hz, List.append_assoc] <;> rfl
    · have e : j = (fs i).length := by omega
      subst e
      refine .inl ⟨⟨fs i, seqT g1 hb, Nat.le_refl _⟩, ?_, g1⟩
      rw [hd1, List.take_length] <;> rfl
  · have e : i = xs.length := by omega
    subst e
    exact .inl ⟨hJ.stop H g, hq H hd g⟩
/-! expressions, as data -/
inductive Ex where
  | num (n : Int)
  | acc (nm : Str) (ls : List Str)
  | bi (k : Str) (x y : Ex)
  | nu (k : Str) (x : Ex) (n : Int)
  | un (k : Str) (x : Ex)
def Ex.kind : Ex → Str
  | .num _ => "number"
  | .acc _ _ => "access"
  | .bi k _ _ => k
  | .nu k _ _ => k
  | .un k _ => k
def Ex.accs : Ex → List (Str × List Str)
  | .num _ => []
  | .acc nm ls => [(nm, ls)]
  | .bi _ x y => x.accs ++ y.accs
  | .nu _ x _ => x.accs
  | .un _ x => x.accs
def Ex.nodes : Ex → Int
  | .num _ => 1
  | .acc _ _ => 1
  | .bi _ x y => 1 + (x.nodes + y.nodes)
  | .nu _ x _ => 1 + x.nodes
  | .un _ x => 1 + x.nodes
/-- letters in all accesses, doubles too -/
def lts (as : List (Str × List Str)) : List Str := (as.map (·.2)).flatten
/-- the fields of an expression -/
def fE (k : Str) (tp ta tl : Addr) (m : Int) : List (Str × V) := putF "letters" (.ref tl) (putF "accesses" (.ref ta) (putF "node_count" (.int m) (putF "parts" (.ref tp) (putF "kind" (.str k) []))))
theorem nb (a b : String) (h : (Str.ofString a == Str.ofString b) = false) : ¬ Str.ofString a = Str.ofString b := fun e => by rw [e, beq_self_eq_true] at h; cases h
theorem fE_k {k : Str} {tp ta tl : Addr} {m : Int} : (fE k tp ta tl m).lookup ("kind" : Str) = some (.str k) := by
  unfold fE
  rw [lookup_putF, if_neg (nb _ _ (by decide +kernel)), lookup_putF, if_neg (nb _ _ (by decide +kernel)), lookup_putF, if_neg (nb _ _ (by decide +kernel)), lookup_putF, if_neg (nb _ _ (by decide +kernel)), lookup_putF, if_pos rfl]
theorem fE_p {k : Str} {tp ta tl : Addr} {m : Int} : (fE k tp ta tl m).lookup ("parts" : Str) = some (.ref tp) := by
  unfold fE
  rw [lookup_putF, if_neg (nb _ _ (by decide +kernel)), lookup_putF, if_neg (nb _ _ (by decide +kernel)), lookup_putF, if_neg (nb _ _ (by decide +kernel)), lookup_putF, if_pos rfl]
theorem fE_n {k : Str} {tp ta tl : Addr} {m : Int} : (fE k tp ta tl m).lookup ("node_count" : Str) = some (.int m) := by
  unfold fE
  rw [lookup_putF, if_neg (nb _ _ (by decide +kernel)), lookup_putF, if_neg (nb _ _ (by decide +kernel)), lookup_putF, if_pos rfl]
theorem fE_a {k : Str} {tp ta tl : Addr} {m : Int} : (fE k tp ta tl m).lookup ("accesses" : Str) = some (.ref ta) := by
  unfold fE
  rw [lookup_putF, if_neg (nb _ _ (by decide +kernel)), lookup_putF, if_pos rfl]
theorem fE_l {k : Str} {tp ta tl : Addr} {m : Int} : (fE k tp ta tl m).lookup ("letters" : Str) = some (.ref tl) := by
  unfold fE
  rw [lookup_putF, if_pos rfl]
/-- a pair (name, letters) -/
def PairAt (K : PySem.W.Frag) (H : Hp) (v : V) (p : Str × List Str) : Prop := ∃ a t : Addr, v = .ref a ∧ SqT K H a [.str p.1, .ref t] ∧ SqT K H t (p.2.map V.str)
theorem PairAt.same {K : PySem.W.Frag} {H H' : Hp} {v : V} {p : Str × List Str} (g : Same H H') : PairAt K H v p → PairAt K H' v p
  | ⟨a, t, e, h1, h2⟩ => ⟨a, t, e, seqT g h1, seqT g h2⟩
/-- place by place -/
inductive PairsAt (K : PySem.W.Frag) (H : Hp) : List V → List (Str × List Str) → Prop where
  | nil : PairsAt K H [] []
  | cons {v : V} {p : Str × List Str} {vs : List V} {ps : List (Str × List Str)} (h : PairAt K H v p) (t : PairsAt K H vs ps) : PairsAt K H (v :: vs) (p :: ps)
theorem PairsAt.same {K : PySem.W.Frag} {H H' : Hp} (g : Same H H') : ∀ {vs : List V} {ps : List (Str × List Str)}, PairsAt K H vs ps → PairsAt K H' vs ps
  | _, _, .nil => .nil
  | _, _, .cons h t => .cons (h.same g) (PairsAt.same g t)
theorem PairsAt.app {K : PySem.W.Frag} {H : Hp} : ∀ {vs us : List V} {ps qs : List (Str × List Str)}, PairsAt K H vs ps → PairsAt K H us qs → PairsAt K H (vs ++ us) (ps ++ qs)
  | _, _, _, _, .nil, h => h
  | _, _, _, _, .cons h t, q => .cons h (PairsAt.app t q)
theorem PairsAt.len {K : PySem.W.Frag} {H : Hp} : ∀ {vs : List V} {ps : List (Str × List Str)}, PairsAt K H vs ps → vs.length = ps.length
  | _, _, .nil => rfl
  | _, _, .cons _ t => congrArg Nat.succ t.len
theorem PairsAt.get {K : PySem.W.Frag} {H : Hp} : ∀ {vs : List V} {ps : List (Str × List Str)} {i : Nat} {v : V}, PairsAt K H vs ps → vs[i]? = some v → ∃ p, ps[i]? = some p ∧ PairAt K H v p
  | _, _, i, _, .nil, e => by cases e
  | _, _, 0, _, .cons h _, e => by cases e; exact ⟨_, rfl, h⟩
  | _, _, i + 1, _, .cons _ t, e => PairsAt.get (i := i) t e
/-- the tuple of the letters: ascending, each once -/
structure LetOk (ys zs : List Str) : Prop where
  srt : PyProof.Rows.sortedS ys = true
  mem : ∀ z, z ∈ ys ↔ z ∈ zs
  ex : ∃ l : List Str, l.Nodup ∧ ys.length = l.length ∧ ∀ z, z ∈ l ↔ z ∈ zs
/-- an instance at p with the fields of an expression -/
def HdE (K : PySem.W.Frag) (C : Addr) (H : Hp) (p : Addr) (k : Str) (vs : List V) (as : List (Str × List Str)) (m : Int) : Prop :=
  ∃ (dx tp ta tl : Addr) (us : List V) (ys : List Str), H p = some (.ins C dx (fE k tp ta tl m)) ∧ SqT K H tp vs ∧ SqT K H ta us ∧ PairsAt K H us as ∧ SqT K H tl (ys.map V.str) ∧ LetOk ys (lts as)
theorem HdE.same {K : PySem.W.Frag} {C p : Addr} {H H' : Hp} {k : Str} {vs : List V} {as : List (Str × List Str)} {m : Int} (g : Same H H') : HdE K C H p k vs as m → HdE K C H' p k vs as m
  | ⟨dx, tp, ta, tl, us, ys, h1, h2, h3, h4, h5, h6⟩ => ⟨dx, tp, ta, tl, us, ys, g _ _ h1, seqT g h2, seqT g h3, h4.same g, seqT g h5, h6⟩
def okK (k : Str) : Prop := k ≠ "access" ∧ k ≠ "number" ∧ k ≠ "gain" ∧ k ≠ "loss"
/-- the expression e stands at p -/
def ExAt (K : PySem.W.Frag) (C : Addr) (H : Hp) : Ex → Addr → Prop
  | .num n, p => HdE K C H p "number" [.int n] [] 1
  | .acc nm ls, p => ∃ t, HdE K C H p "access" [.str nm, .ref t] [(nm, ls)] 1 ∧ SqT K H t (ls.map V.str)
  | .bi k x y, p => okK k ∧ ∃ a b, HdE K C H p k [.ref a, .ref b] (x.accs ++ y.accs) (1 + (x.nodes + y.nodes)) ∧ ExAt K C H x a ∧ ExAt K C H y b
  | .nu k x n, p => okK k ∧ ∃ a, HdE K C H p k [.ref a, .int n] x.accs (1 + x.nodes) ∧ ExAt K C H x a
  | .un k x, p => okK k ∧ ∃ a, HdE K C H p k [.ref a] x.accs (1 + x.nodes) ∧ ExAt K C H x a
theorem ExAt.same {K : PySem.W.Frag} {C : Addr} {H H' : Hp} (g : Same H H') : ∀ {e : Ex} {p : Addr}, ExAt K C H e p → ExAt K C H' e p
  | .num n, p, h => HdE.same g h
  | .acc nm ls, p, ⟨t, h1, h2⟩ => ⟨t, h1.same g, seqT g h2⟩
  | .bi k x y, p, ⟨o, a, b, h1, h2, h3⟩ => ⟨o, a, b, h1.same g, ExAt.same g h2, ExAt.same g h3⟩
  | .nu k x n, p, ⟨o, a, h1, h2⟩ => ⟨o, a, h1.same g, ExAt.same g h2⟩
  | .un k x, p, ⟨o, a, h1, h2⟩ => ⟨o, a, h1.same g, ExAt.same g h2⟩
/-- its head, whatever it is -/
theorem ExAt.hd {K : PySem.W.Frag} {C : Addr} {H : Hp} : ∀ {e : Ex} {p : Addr}, ExAt K C H e p → ∃ vs, HdE K C H p e.kind vs e.accs e.nodes
  | .num n, p, h => ⟨_, h⟩
  | .acc nm ls, p, ⟨t, h, _⟩ => ⟨_, h⟩
  | .bi k x y, p, ⟨_, a, b, h, _⟩ => ⟨_, h⟩
  | .nu k x n, p, ⟨_, a, h, _⟩ => ⟨_, h⟩
  | .un k x, p, ⟨_, a, h, _⟩ => ⟨_, h⟩
theorem ExAt.noGain {K : PySem.W.Frag} {C : Addr} {H : Hp} : ∀ {e : Ex} {p : Addr}, ExAt K C H e p → e.kind ≠ "gain" ∧ e.kind ≠ "loss"
  | .num n, p, h => ⟨nb _ _ (by decide +kernel), nb _ _ (by decide +kernel)⟩
  | .acc nm ls, p, h => ⟨nb _ _ (by decide +kernel), nb _ _ (by decide +kernel)⟩
  | .bi k x y, p, ⟨o, _⟩ => o.2.2
  | .nu k x n, p, ⟨o, _⟩ => o.2.2
  | .un k x, p, ⟨o, _⟩ => o.2.2
end Lw.Ey
namespace Lw.Ey
open PySem L2 OwB
abbrev sWhole : Stmt := topS 2
abbrev sAsc : Stmt := topS 4
abbrev sXini : Stmt := inClass (topS 18) 0
abbrev sNum : Stmt := topS 19
/-! the class Expression -/
structure Xc (K : PySem.W.Frag) (mg : Str → Option Value) (C fI : Addr) : Prop where
  ic : C8.InsC K C
  nK : NoAttr K C "kind"
  nP : NoAttr K C "parts"
  nN : NoAttr K C "node_count"
  nA : NoAttr K C "accesses"
  nL : NoAttr K C "letters"
  mkC : Mk K C fI
  mC : mg "Expression" = some (.ref C)
  sI : PySem.W.kitOne K (.type "int") (.ref C) = some false
  sS : PySem.W.kitOne K (.type "str") (.ref C) = some false
  sT : PySem.W.kitOne K (.type "tuple") (.ref C) = some false
  cI : PySem.W.kitOne K (.ref C) (.type "int") = some false
/-- more built-in names -/
structure Bx (mg : Str → Option Value) : Prop where
  sum : mg "sum" = none
  set : mg "set" = none
  sorted : mg "sorted" = none
  enum : mg "enumerate" = none
  str : mg "str" = none
def Kp (p : Addr) (H H' : Hp) : Prop := ∀ b o, b ≠ p → H b = some o → H' b = some o
theorem Kp.same {p : Addr} {H H1 H2 : Hp} (k : Kp p H H1) (g : Same H1 H2) : Kp p H H2 := fun b o n e => g _ _ (k b o n e)
theorem Kp.upd {p : Addr} {H H1 : Hp} (k : Kp p H H1) (o : HO) : Kp p H (upd H1 p o) := fun b u n e => by rw [upd_ne n]; exact k b u n e
theorem made_same {H H' : Hp} {x dx : Addr} {o1 o2 : HO} (hx : H x = none) (hd : H dx = none) (k : Kp x (upd (upd H dx o1) x o2) H') : Same H H' := fun b o e => by
  have n1 : b ≠ x := ne_of_none e hx
  have n2 : b ≠ dx := ne_of_none e hd
  exact k b o n1 (by rw [upd_ne n1, upd_ne n2]; exact e)
theorem Kp.seq {K : PySem.W.Frag} {p a C dx : Addr} {H H' : Hp} {xs : List V} {fs : List (Str × V)} (k : Kp p H H') (hp : H p = some (.ins C dx fs)) (h : SqT K H a xs) : SqT K H' a xs := by
  rcases h with (h | ⟨o, h⟩) | h
  · exact .inl (.inl (k _ _ (fun e => by rw [e, hp] at h; cases h) h))
  · exact .inl (.inr ⟨o, k _ _ (fun e => by rw [e, hp] at h; cases h) h⟩)
  · exact .inr h
theorem Kp.pair {K : PySem.W.Frag} {p C dx : Addr} {H H' : Hp} {fs : List (Str × V)} (k : Kp p H H') (hp : H p = some (.ins C dx fs)) {v : V} {q : Str × List Str} : PairAt K H v q → PairAt K H' v q
  | ⟨a, t, e, h1, h2⟩ => ⟨a, t, e, k.seq hp h1, k.seq hp h2⟩
theorem Kp.pairs {K : PySem.W.Frag} {p C dx : Addr} {H H' : Hp} {fs : List (Str × V)} (k : Kp p H H') (hp : H p = some (.ins C dx fs)) : ∀ {vs : List V} {ps : List (Str × List Str)}, PairsAt K H vs ps → PairsAt K H' vs ps
  | _, _, .nil => .nil
  | _, _, .cons h t => .cons (k.pair hp h) (Kp.pairs k hp t)
theorem fE_ne {k : Str} {tp ta tl : Addr} {m : Int} : fE k tp ta tl m ≠ [] := fun e => by
  have z := fE_l (k := k) (tp := tp) (ta := ta) (tl := tl) (m := m)
  rw [e] at z
  cases z
theorem Kp.hd {K : PySem.W.Frag} {p a C C' dx : Addr} {H H' : Hp} (k : Kp p H H') (hp : H p = some (.ins C dx [])) {w : Str} {vs : List V} {as : List (Str × List Str)} {m : Int} : HdE K C' H a w vs as m → HdE K C' H' a w vs as m
  | ⟨ex, tp, ta, tl, us, ys, h1, h2, h3, h4, h5, h6⟩ => ⟨ex, tp, ta, tl, us, ys, k _ _ (fun e => by
      rw [e, hp] at h1
      injection h1 with z
      injection z with _ _ z3
      exact fE_ne z3.symm) h1, k.seq hp h2, k.seq hp h3, k.pairs hp h4, k.seq hp h5, h6⟩
theorem Kp.ex {K : PySem.W.Frag} {p C C' dx : Addr} {H H' : Hp} (k : Kp p H H') (hp : H p = some (.ins C dx [])) : ∀ {e : Ex} {a : Addr}, ExAt K C' H e a → ExAt K C' H' e a
  | .num n, a, h => Kp.hd k hp h
  | .acc nm ls, a, ⟨t, h1, h2⟩ => ⟨t, k.hd hp h1, k.seq hp h2⟩
  | .bi w x y, a, ⟨o, b, c, h1, h2, h3⟩ => ⟨o, b, c, k.hd hp h1, Kp.ex k hp h2, Kp.ex k hp h3⟩
  | .nu w x n, a, ⟨o, b, h1, h2⟩ => ⟨o, b, k.hd hp h1, Kp.ex k hp h2⟩
  | .un w x, a, ⟨o, b, h1, h2⟩ => ⟨o, b, k.hd hp h1, Kp.ex k hp h2⟩
/-- a part: data, or an expression -/
def PtAt (K : PySem.W.Frag) (C : Addr) (H : Hp) (v : V) : Option Ex → Prop
  | none => (∃ i, v = .int i) ∨ (∃ s, v = .str s) ∨ ∃ t xs, v = .ref t ∧ SqT K H t xs
  | some e => ∃ a, v = .ref a ∧ ExAt K C H e a
theorem PtAt.same {K : PySem.W.Frag} {C : Addr} {H H' : Hp} {v : V} (g : Same H H') : ∀ {o : Option Ex}, PtAt K C H v o → PtAt K C H' v o
  | none, h => by
    rcases h with h | h | ⟨t, xs, e, h⟩
    · exact .inl h
    · exact .inr (.inl h)
    · exact .inr (.inr ⟨t, xs, e, seqT g h⟩)
  | some e, ⟨a, ea, h⟩ => ⟨a, ea, h.same g⟩
inductive PtsAt (K : PySem.W.Frag) (C : Addr) (H : Hp) : List V → List (Option Ex) → Prop where
  | nil : PtsAt K C H [] []
  | cons {v : V} {o : Option Ex} {vs : List V} {os : List (Option Ex)} (h : PtAt K C H v o) (t : PtsAt K C H vs os) : PtsAt K C H (v :: vs) (o :: os)
theorem PtsAt.get {K : PySem.W.Frag} {C : Addr} {H : Hp} : ∀ {vs : List V} {os : List (Option Ex)} {i : Nat} {v : V}, PtsAt K C H vs os → vs[i]? = some v → ∃ o, os[i]? = some o ∧ PtAt K C H v o
  | _, _, i, _, .nil, e => by cases e
  | _, _, 0, _, .cons h _, e => by cases e; exact ⟨_, rfl, h⟩
  | _, _, i + 1, _, .cons _ t, e => PtsAt.get (i := i) t e
theorem PtsAt.len {K : PySem.W.Frag} {C : Addr} {H : Hp} : ∀ {vs : List V} {os : List (Option Ex)}, PtsAt K C H vs os → vs.length = os.length
  | _, _, .nil => rfl
  | _, _, .cons _ t => congrArg Nat.succ t.len
/-- the operands, in a list -/
inductive OpsAt (K : PySem.W.Frag) (C : Addr) (H : Hp) : List V → List Ex → Prop where
  | nil : OpsAt K C H [] []
  | cons {a : Addr} {e : Ex} {vs : List V} {es : List Ex} (h : ExAt K C H e a) (t : OpsAt K C H vs es) : OpsAt K C H (.ref a :: vs) (e :: es)
theorem OpsAt.same {K : PySem.W.Frag} {C : Addr} {H H' : Hp} (g : Same H H') : ∀ {vs : List V} {es : List Ex}, OpsAt K C H vs es → OpsAt K C H' vs es
  | _, _, .nil => .nil
  | _, _, .cons h t => .cons (h.same g) (OpsAt.same g t)
theorem OpsAt.snoc {K : PySem.W.Frag} {C : Addr} {H : Hp} {a : Addr} {e : Ex} (h : ExAt K C H e a) : ∀ {vs : List V} {es : List Ex}, OpsAt K C H vs es → OpsAt K C H (vs ++ [.ref a]) (es ++ [e])
  | _, _, .nil => .cons h .nil
  | _, _, .cons q t => .cons q (OpsAt.snoc h t)
theorem OpsAt.len {K : PySem.W.Frag} {C : Addr} {H : Hp} : ∀ {vs : List V} {es : List Ex}, OpsAt K C H vs es → vs.length = es.length
  | _, _, .nil => rfl
  | _, _, .cons _ t => congrArg Nat.succ t.len
theorem OpsAt.get {K : PySem.W.Frag} {C : Addr} {H : Hp} : ∀ {vs : List V} {es : List Ex} {i : Nat} {v : V}, OpsAt K C H vs es → vs[i]? = some v → ∃ a e, v = .ref a ∧ es[i]? = some e ∧ ExAt K C H e a
  | _, _, i, _, .nil, e => by cases e
  | _, _, 0, _, .cons h _, e => by cases e; exact ⟨_, _, rfl, rfl, h⟩
  | _, _, i + 1, _, .cons _ t, e => OpsAt.get (i := i) t e
section
variable {P : Program} {w : World} {K : PySem.W.Frag} {mg : Str → Option Value} {base : Heap} {f C fI fA : Addr} {fd dI dA : FuncData}
def spWh (C : Addr) : Sp := fun vs H Q _ => ∃ v, vs = [v] ∧ ((∃ i : Int, v = .int i ∧ Q (.bl true) H) ∨ ∃ p dx fs, v = .ref p ∧ H p = some (.ins C dx fs) ∧ Q (.bl false) H)
theorem scW : FnScope ["n"] ["n"] (defScope sWhole) := ⟨rfl, rfl, rfl, by decide +kernel, rfl, by decide +kernel, by decide +kernel⟩
theorem tyI {H : Hp} {p dx : Addr} {fs : List (Str × V)} (c : C8.InsC K C) (h : H p = some (.ins C dx fs)) : TyX K H (.ref p) (.ref C) := .base (.ins h c.cl c.ha c.hn c.htk c.hm)
theorem ok_whole (F : Fun K "is_whole" "is_whole" sWhole f fd) (B : Bt mg) (T : Xc K mg C fI) : FnOk P w K mg base CX0 1 f fd ["n"] (spWh C) := by
  refine F.ok scW (fun vs H Q E h => ?_) (fun cdv A outer s H vs Q E hr h => ?_)
  · obtain ⟨v, rfl, _⟩ := h
    rfl
  obtain ⟨v, rfl, h⟩ := h
  refine ⟨_, pss_one (ps_ret (pe_and (pe_callB call_isi (by rfl) B.isi (by decide +kernel) (pa_cons (pv 0) (pa_cons (pe_bltn (v := .ty "int") (by rfl) B.int (by decide +kernel) rfl) pa_nil)))
    (pe_one (pe_not (pe_callB call_isi (by rfl) B.isi (by decide +kernel) (pa_cons (pv 0) (pa_cons (pe_bltn (v := .ty "bool") (by rfl) B.bool (by decide +kernel) rfl) pa_nil))))))), ?_⟩
  rcases h with ⟨i, rfl, q⟩ | ⟨p, dx, fs, rfl, hp, q⟩
  · refine ⟨_, rfl, _, _, .type "int", .type "int", true, rfl, .ty _, .base (.int i), kit_ty (by decide +kernel), _, rfl, ?_⟩
    refine iteT ?_
    exact ⟨_, rfl, _, _, .type "int", .type "bool", false, rfl, .ty _, .base (.int i), kit_ty (by decide +kernel), _, rfl, q⟩
  · refine ⟨_, rfl, _, _, .ref C, .type "int", false, rfl, .ty _, tyI T.ic hp, T.cI, _, rfl, ?_⟩
    exact iteF q
def spAsc (K : PySem.W.Frag) : Sp := fun vs H Q _ => ∃ (L : Addr) (zs : List Str), vs = [.ref L] ∧ SqL K H L (zs.map V.str) ∧ zs.length < 64 ∧ ∀ (t : Addr) (ys : List Str) (H' : Hp), Same H H' → SqT K H' t (ys.map V.str) → LetOk ys zs → Q (.ref t) H'
theorem scAs : FnScope ["names"] ["names"] (defScope sAsc) := ⟨rfl, rfl, rfl, by decide +kernel, rfl, by decide +kernel, by decide +kernel⟩
theorem ok_asc (F : Fun K "ascending" "ascending" sAsc f fd) (B : Bt mg) (B2 : Bx mg) : FnOk P w K mg base CX0 1 f fd ["names"] (spAsc K) := by
  refine F.ok scAs (fun vs H Q E h => ?_) (fun cdv A outer s H vs Q E hr h => ?_)
  · obtain ⟨L, zs, rfl, _⟩ := h
    rfl
  obtain ⟨L, zs, rfl, hL, h64, k⟩ := h
  refine ⟨_, pss_one (ps_ret (pe_callTy call_tuple_of (by rfl) B.tup (by decide +kernel) (pa_cons (pe_callB (TxS.cr_sortT rfl) (by rfl) B2.sorted (by decide +kernel) (pa_cons (pe_callTy (TxS.cr_setT rfl) (by rfl) B2.set (by decide +kernel) (pa_cons (pv 0) pa_nil)) pa_nil)) pa_nil))), ?_⟩
  refine ⟨_, rfl, L, zs, rfl, hL, h64, fun a l ha nd mem le => ?_⟩
  have g1 := same_new ha (TxS.SetT P w a l)
  refine ⟨a, l, rfl, upd_same, Nat.lt_of_le_of_lt le h64, fun ys p srt mm hl hp => ?_⟩
  have g2 := same_new hp (.lst (ys.map V.str))
  refine ⟨p, _, rfl, .inl ⟨SqL.of upd_same, fun t ht => ?_⟩⟩
  have g3 := same_new ht (.tup (ys.map V.str))
  exact k t ys _ ((g1.trans g2).trans g3) (SqT.of upd_same) ⟨srt, fun z => (mm z).trans (mem z), ⟨l, nd, hl, mem⟩⟩
end
end Lw.Ey
namespace Lw.Ey
open PySem L2 OwB
theorem Kp.pt {K : PySem.W.Frag} {p C C' dx : Addr} {H H' : Hp} {v : V} (k : Kp p H H') (hp : H p = some (.ins C dx [])) : ∀ {o : Option Ex}, PtAt K C' H v o → PtAt K C' H' v o
  | none, h => by
    rcases h with h | h | ⟨t, xs, e, h⟩
    · exact .inl h
    · exact .inr (.inl h)
    · exact .inr (.inr ⟨t, xs, e, k.seq hp h⟩)
  | some e, ⟨a, ea, h⟩ => ⟨a, ea, k.ex hp h⟩
theorem Kp.pts {K : PySem.W.Frag} {p C C' dx : Addr} {H H' : Hp} (k : Kp p H H') (hp : H p = some (.ins C dx [])) : ∀ {vs : List V} {os : List (Option Ex)}, PtsAt K C' H vs os → PtsAt K C' H' vs os
  | _, _, .nil => .nil
  | _, _, .cons h t => .cons (k.pt hp h) (Kp.pts k hp t)
abbrev opsOf (os : List (Option Ex)) : List Ex := os.filterMap id
theorem ops_none {os : List (Option Ex)} {i : Nat} (h : os[i]? = some none) : opsOf (os.take (i + 1)) = opsOf (os.take i) := by
  unfold opsOf
  rw [List.take_add_one, h, List.filterMap_append] <;> simp
theorem ops_some {os : List (Option Ex)} {i : Nat} {e : Ex} (h : os[i]? = some (some e)) : opsOf (os.take (i + 1)) = opsOf (os.take i) ++ [e] := by
  unfold opsOf
  rw [List.take_add_one, h, List.filterMap_append] <;> rfl
/-- the accesses of the operands, the nodes -/
def accsOf (es : List Ex) : List (Str × List Str) := (es.map Ex.accs).flatten
def InvOp (K : PySem.W.Frag) (C : Addr) (HA HB : Hp) (D : Addr) (os : List (Option Ex)) (i : Nat) (H : Hp) : Prop := ∃ acc : List V, H D = some (.lst acc) ∧ OpsAt K C HA acc (opsOf (os.take i)) ∧ Same HB H
theorem Kp.ops {K : PySem.W.Frag} {p C C' dx : Addr} {H H' : Hp} (k : Kp p H H') (hp : H p = some (.ins C dx [])) : ∀ {vs : List V} {es : List Ex}, OpsAt K C' H vs es → OpsAt K C' H' vs es
  | _, _, .nil => .nil
  | _, _, .cons h t => .cons (k.ex hp h) (Kp.ops k hp t)
def InvMp {α : Type} (H0 : Hp) (D : Addr) (f : α → V) (l : List α) (i : Nat) (H : Hp) : Prop := H D = some (.lst ((l.take i).map f)) ∧ Same H0 H
theorem InvMp.next {α : Type} {H0 H : Hp} {D : Addr} {f : α → V} {l : List α} {i : Nat} {a : α} (hd0 : H0 D = none) (hH : Same H0 H) (e : l[i]? = some a) : InvMp H0 D f l (i + 1) (upd H D (.lst ((l.take i).map f ++ [f a]))) :=
  ⟨by rw [upd_same, List.take_succ, e, List.map_append] <;> rfl, same_over hH hd0 _⟩
/-- the values at which the accesses of the operands stand -/
inductive AccsAt (K : PySem.W.Frag) (H : Hp) : List Ex → List (List V) → Prop where
  | nil : AccsAt K H [] []
  | cons {e : Ex} {us : List V} {es : List Ex} {uss : List (List V)} (h : PairsAt K H us e.accs) (t : AccsAt K H es uss) : AccsAt K H (e :: es) (us :: uss)
theorem AccsAt.all {K : PySem.W.Frag} {H : Hp} : ∀ {es : List Ex} {uss : List (List V)}, AccsAt K H es uss → PairsAt K H uss.flatten (accsOf es)
  | _, _, .nil => .nil
  | _, _, .cons h t => h.app t.all
/-- where the accesses of each operand stand -/
theorem OpsAt.accs {K : PySem.W.Frag} {C : Addr} {H : Hp} : ∀ {vs : List V} {es : List Ex}, OpsAt K C H vs es → ∃ uss : List (List V), AccsAt K H es uss ∧ vs.length = uss.length ∧
    ∀ (i : Nat) (v : V), vs[i]? = some v → ∃ (a dx tp ta tl : Addr) (k : Str) (m : Int) (us : List V), v = .ref a ∧ H a = some (.ins C dx (fE k tp ta tl m)) ∧ uss[i]? = some us ∧ SqT K H ta us
  | _, _, .nil => ⟨[], .nil, rfl, fun i v e => by cases e⟩
  | _, _, .cons h t => by
    obtain ⟨uss, h1, h2, h3⟩ := OpsAt.accs t
    obtain ⟨_, dx, tp, ta, tl, us, ys, ha, _, hta, hpr, _⟩ := h.hd
    refine ⟨us :: uss, .cons hpr h1, congrArg Nat.succ h2, fun i v e => ?_⟩
    cases i with
    | zero => cases e; exact ⟨_, dx, tp, ta, tl, _, _, us, rfl, ha, rfl, hta⟩
    | succ i => exact h3 i v e
theorem flat_lts : ∀ (as : List (Str × List Str)), flat (fun i => ((as.getD i (Str.empty, [])).2).map V.str) as.length = (lts as).map V.str := by
  intro as
  have key : ∀ (n : Nat), n ≤ as.length → flat (fun i => ((as.getD i (Str.empty, [])).2).map V.str) n = (lts (as.take n)).map V.str := by
    intro n
    induction n with
    | zero => intro _; rfl
    | succ n ih =>
      intro h
      have hn : as[n]? = some as[n] := List.getElem?_eq_getElem (by omega)
      show flat _ n ++ ((as.getD n (Str.empty, [])).2).map V.str = _
      rw [ih (by omega), List.take_add_one, hn, List.getD_eq_getElem?_getD, hn]
      unfold lts
      rw [List.map_append, List.flatten_append, List.map_append]
      simp
  rw [key _ (Nat.le_refl _), List.take_length]
theorem flat_le2 (fs : Nat → List V) (m n i : Nat) (h : (flat fs m).length ≤ n) (hi : i < m) : (flat fs i).length + (fs i).length ≤ n := by
  have step : ∀ d, (flat fs (i + 1)).length ≤ (flat fs (i + 1 + d)).length := by
    intro d
    induction d with
    | zero => exact Nat.le_refl _
    | succ d ih =>
      refine Nat.le_trans ih ?_
      show _ ≤ (flat fs (i + 1 + d) ++ fs (i + 1 + d)).length
      rw [List.length_append]
      exact Nat.le_add_right _ _
  have z := step (m - (i + 1))
  rw [show i + 1 + (m - (i + 1)) = m by omega] at z
  have e : flat fs (i + 1) = flat fs i ++ fs i := rfl
  rw [e, List.length_append] at z
  omega
theorem flat_get : ∀ (uss : List (List V)), flat (fun i => uss.getD i []) uss.length = uss.flatten := by
  intro uss
  have key : ∀ (n : Nat), n ≤ uss.length → flat (fun i => uss.getD i []) n = (uss.take n).flatten := by
    intro n
    induction n with
    | zero => intro _; rfl
    | succ n ih =>
      intro h
      have hn : uss[n]? = some uss[n] := List.getElem?_eq_getElem (by omega)
      show flat (fun i => uss.getD i []) n ++ uss.getD n [] = _
      rw [ih (by omega), List.take_add_one, hn, List.flatten_append, List.getD_eq_getElem?_getD, hn]
      simp
  rw [key _ (Nat.le_refl _), List.take_length]
def spXini (K : PySem.W.Frag) (C : Addr) : Sp := fun vs H Q _ => ∃ (p dx tp : Addr) (k : Str) (xs : List V) (os : List (Option Ex)) (own as : List (Str × List Str)), vs = [.ref p, .str k, .ref tp] ∧ H p = some (.ins C dx []) ∧ SqT K H tp xs ∧ PtsAt K C H xs os ∧ xs.length ≤ 10 ∧
  ((k = "access" ∧ ∃ pr, own = [pr] ∧ PairAt K H (.ref tp) pr) ∨ (k ≠ "access" ∧ own = [])) ∧ as = own ++ accsOf (opsOf os) ∧ as.length ≤ 900 ∧ (lts as).length < 64 ∧
  ∀ H' : Hp, Kp p H H' → HdE K C H' p k xs as (1 + ((opsOf os).map Ex.nodes).sum) → Q .non H'
abbrev namesX : List Str := ["self", "kind", "parts", "operands", "own", "part", "operand", "pair", "letter"]
section
variable {P : Program} {w : World} {K : PySem.W.Frag} {mg : Str → Option Value} {base : Heap} {f C fI fA : Addr} {fd dI dA : FuncData}
theorem scX : FnScope namesX ["self", "kind", "parts"] (defScope sXini) := ⟨rfl, rfl, rfl, by decide +kernel, rfl, by decide +kernel, by decide +kernel⟩
theorem ok_xini (F : Fun K "__init__" "Expression.__init__" sXini fI dI) (T : Xc K mg C fI) (B : Bt mg) (B2 : Bx mg) (GA : FnOk P w K mg base CX0 1 fA dA ["names"] (spAsc K)) (bA : Binds K dA ["names"] []) (kA : PySem.W.keepIn K (.ref fA) = true) (mA : mg "ascending" = some (.ref fA)) :
    FnOk P w K mg base CX0 2 fI dI ["self", "kind", "parts"] (spXini K C) := by
  refine F.ok scX (fun vs H Q E h => ?_) (fun cdv A outer s H vs Q E hr h => ?_)
  · obtain ⟨p, dx, tp, k, xs, os, own, as, rfl, _⟩ := h
    rfl
  obtain ⟨p, dx, tp, k, xs, os, own, as, rfl, hp, htp, hpts, hx10, hown, eas, has, hlt, q⟩ := h
  refine ⟨_, pss_cons (ps_fld (pv 0) (pv 1) rfl)
    (pss_cons (ps_fld (pv 0) (pe_callTy call_tuple_of (by rfl) B.tup (by decide +kernel) (pa_cons (pv 2) pa_nil)) rfl)
    (pss_cons (ps_setLc (i := 3) (own := [("part", 5)]) (g := gName 5) (tt := tB (tCB (rIsi K) (tCons (tVar 5) (tCons (tC (.ref C)) tNil)))) (te := tVar 5) rfl scX.nd rfl rfl (sw_true rfl rfl rfl (by decide +kernel)) (pi_tup (pv 2)) (blkOk_by (N := namesX) (sc := defScope sXini) (by decide +kernel)) (fun _ _ _ _ _ => pg_name (i := 5) scX.nd rfl (Or.inl rfl))
      (fun _ _ _ _ _ => pts_one (pt_val (pe_callB call_isi (by rfl) B.isi (by decide +kernel) (pa_cons (pv 5) (pa_cons (pe_glob (v := .ref C) (by rfl) T.mC rfl) pa_nil))))) (fun _ _ _ _ _ => pv 5))
    (pss_cons (ps_fld (pv 0) (pe_op op_add pe_int (pe_callB (cr_sum rfl) (by rfl) B2.sum (by decide +kernel) (pa_cons (pe_lc (own := [("operand", 6)]) (g := gName 6) (tt := tYes) (te := tFld K (tVar 6) "node_count") rfl scX.nd (pi_list (pv 3)) (blkOk_by (N := namesX) (sc := defScope sXini) (by decide +kernel)) (fun _ _ _ _ _ => pg_name (i := 6) scX.nd rfl (Or.inl rfl)) (fun _ _ _ _ _ => pts_nil) (fun _ _ _ _ _ => pe_fld (pv 6) rfl)) pa_nil))) rfl)
    (C8.pss_cut (ps_set (i := 4) scX.nd rfl (Or.inl rfl) (pe_ifExp (pt_cmpR op_eq (pv 1) pe_str (nomark _)) (pe_lst (pa_cons (pe_fld (pv 0) rfl) pa_nil)) (pe_lst pa_nil)))
    (pss_cons (ps_fld (pv 0) (pe_callTy call_tuple_of (by rfl) B.tup (by decide +kernel) (pa_cons (pe_op op_cat (pv 4) (pe_lc2 (own := [("operand", 6), ("pair", 7)]) (vs1 := [7]) (g := gName 6) (g1 := gName 7) (tt := tYes) (tt1 := tYes) (wi1 := iTup K (tFld K (tVar 6) "accesses")) (te := tVar 7) rfl scX.nd (pi_list (pv 3)) (blkOk_by (N := namesX) (sc := defScope sXini) (by decide +kernel)) (by decide)
        (fun _ _ _ _ _ => pg_name (i := 6) scX.nd rfl (Or.inl rfl)) (fun _ _ _ _ _ => pts_nil) (fun _ _ _ _ _ => pi_tup (pe_fld (pv 6) rfl)) (fun _ _ _ _ _ => pg_name (i := 7) scX.nd rfl (Or.inl rfl)) (fun _ _ _ _ _ => pts_nil) (fun _ _ _ _ _ => pv 7))) pa_nil)) rfl)
    (pss_one (ps_fld (pv 0) (pe_call GA hr rfl mA kA bA .nil pass0 (pa_cons (pe_lc2 (own := [("pair", 7), ("letter", 8)]) (vs1 := [8]) (g := gName 7) (g1 := gName 8) (tt := tYes) (tt1 := tYes) (wi1 := iTup K (tOp (rIxT K) (tVar 7) (tC (.int 1)))) (te := tVar 8) rfl scX.nd (pi_tup (pe_fld (pv 0) rfl)) (blkOk_by (N := namesX) (sc := defScope sXini) (by decide +kernel)) (by decide)
        (fun _ _ _ _ _ => pg_name (i := 7) scX.nd rfl (Or.inl rfl)) (fun _ _ _ _ _ => pts_nil) (fun _ _ _ _ _ => pi_tup (pe_ix ix_tup (pv 7) pe_int (fun _ _ => rfl))) (fun _ _ _ _ _ => pg_name (i := 8) scX.nd rfl (Or.inl rfl)) (fun _ _ _ _ _ => pts_nil) (fun _ _ _ _ _ => pv 8)) pa_nil)) rfl))))))), ?_⟩
  refine ⟨_, rfl, _, rfl, p, C, dx, _, rfl, hp, T.ic.cl, T.nK, by decide, ?_⟩
  have k1 : Kp p H (upd H p (.ins C dx (putF "kind" (.str k) []))) := Kp.upd (fun b o _ e => e) _
  refine ⟨_, rfl, tp, _, rfl, .inr ⟨k1.seq hp htp, ?_⟩⟩
  refine ⟨_, rfl, p, C, dx, _, rfl, upd_same, T.ic.cl, T.nP, (by show 1 < 1000; decide), ?_⟩
  have k2 := k1.upd (.ins C dx (putF "parts" (.ref tp) (putF "kind" (.str k) [])))
  have hp2 : upd (upd H p (.ins C dx (putF "kind" (.str k) []))) p (.ins C dx (putF "parts" (.ref tp) (putF "kind" (.str k) []))) p = some (.ins C dx (putF "parts" (.ref tp) (putF "kind" (.str k) []))) := upd_same
  revert k2 hp2
  generalize upd (upd H p (.ins C dx (putF "kind" (.str k) []))) p (.ins C dx (putF "parts" (.ref tp) (putF "kind" (.str k) []))) = HB
  intro k2 hp2
  have tpB := k2.seq hp htp
  have ptB := k2.pts hp hpts
  -- the operands
  refine ⟨_, rfl, tp, rfl, ⟨_, tpB⟩, fun D1 hD1 => ?_⟩
  refine lc_tup (K := K) (a := tp) (xs := xs) (InvOp K C H HB D1 os) ⟨[], upd_same, .nil, same_new hD1 _⟩ (fun i H' _ ⟨_, _, _, g⟩ => seqT g tpB) (fun i x H' hx ⟨acc, hd, ho, g⟩ => ?_) ?_
  · refine ⟨rfl, ?_⟩
    obtain ⟨o, eo, hpt0⟩ := hpts.get hx
    have hpt := k2.pt hp hpt0
    cases o with
    | none =>
      have fin : InvOp K C H HB D1 os (i + 1) H' := ⟨acc, hd, by rw [ops_none eo]; exact ho, g⟩
      rcases hpt with ⟨j, rfl⟩ | ⟨z, rfl⟩ | ⟨t, ys, rfl, ht⟩
      · exact ⟨_, rfl, _, .ref C, _, .ref C, false, rfl, .own C, .base (.int j), T.sI, _, rfl, iteF fin⟩
      · exact ⟨_, rfl, _, .ref C, _, .ref C, false, rfl, .own C, .base (.str z), T.sS, _, rfl, iteF fin⟩
      · exact ⟨_, rfl, _, .ref C, _, .ref C, false, rfl, .own C, tyT (seqT g ht), T.sT, _, rfl, iteF fin⟩
    | some e =>
      obtain ⟨a, rfl, he⟩ := hpt0
      obtain ⟨_, dx', _, _, _, _, _, ha, _⟩ := (k2.ex hp he).hd
      refine ⟨_, rfl, _, .ref C, _, .ref C, true, rfl, .own C, tyI T.ic (g _ _ ha), T.ic.me, _, rfl, iteT ?_⟩
      have hal : acc.length ≤ os.length := by
        rw [ho.len]
        exact Nat.le_trans (List.length_filterMap_le _ _) (by rw [List.length_take]; exact Nat.min_le_right _ _)
      have hol := ptB.len
      exact ⟨_, rfl, acc, hd, small1000 (by omega), acc ++ [.ref a], upd_same, by rw [ops_some eo]; exact ho.snoc he, same_over g hD1 _⟩
  rintro H1 ⟨acc, hd1, ho1, g1⟩
  rw [List.take_of_length_le (by rw [ptB.len]; exact Nat.le_refl _)] at ho1
  generalize hes : opsOf os = es at ho1 eas q
  have hel : es.length ≤ 10 := by
    rw [← hes]
    exact Nat.le_trans (List.length_filterMap_le _ _) (by rw [← hpts.len]; exact hx10)
  have k3 := k2.same g1
  have hop1 := k3.ops hp ho1
  -- the nodes
  refine ⟨_, rfl, D1, rfl, ⟨_, SqL.of hd1⟩, fun D2 hD2 => ?_⟩
  refine lc_list (K := K) (a := D1) (xs := acc) (InvMp H1 D2 (fun e : Ex => V.int e.nodes) es) ⟨upd_same, same_new hD2 _⟩ (fun i H' _ ⟨_, g⟩ => SqL.of (g _ _ hd1)) (fun i x H' hx hv => ?_) ?_
  · obtain ⟨a, e, rfl, ee, he⟩ := hop1.get hx
    obtain ⟨_, dx', _, _, _, _, _, ha, _⟩ := he.hd
    refine ⟨rfl, kept ?_⟩
    refine ⟨_, rfl, a, C, dx', _, _, rfl, hv.2 _ _ ha, T.ic.cl, T.nN, fE_n, ?_⟩
    exact ⟨_, hv.1, by rw [List.length_map, List.length_take]; exact small1000 (by omega), InvMp.next (f := fun e : Ex => V.int e.nodes) hD2 hv.2 ee⟩
  rintro H2 ⟨hd2, g2⟩
  rw [List.take_of_length_le (by rw [ho1.len]; exact Nat.le_refl _)] at hd2
  have k4 := k3.same g2
  refine ⟨D2, es.map Ex.nodes, rfl, SqL.of (by rw [hd2, List.map_map] <;> rfl), _, _, rfl, rfl, _, rfl, p, C, dx, _, rfl, g2 _ _ (g1 _ _ hp2), T.ic.cl, T.nN, (by show 2 < 1000; decide), ?_⟩
  dsimp only
  generalize hm : (1 : Int) + (es.map Ex.nodes).sum = m at q ⊢
  have n1p : D1 ≠ p := fun e => by
    rw [e, g1 _ _ hp2] at hd1
    cases hd1
  have hdC : upd H2 p (.ins C dx (putF "node_count" (.int m) (putF "parts" (.ref tp) (putF "kind" (.str k) [])))) D1 = some (.lst acc) := by
    rw [upd_ne n1p]
    exact g2 _ _ hd1
  have kC := k4.upd (.ins C dx (putF "node_count" (.int m) (putF "parts" (.ref tp) (putF "kind" (.str k) []))))
  have hpC : upd H2 p (.ins C dx (putF "node_count" (.int m) (putF "parts" (.ref tp) (putF "kind" (.str k) [])))) p = some (.ins C dx (putF "node_count" (.int m) (putF "parts" (.ref tp) (putF "kind" (.str k) [])))) := upd_same
  revert hdC kC hpC
  generalize upd H2 p (.ins C dx (putF "node_count" (.int m) (putF "parts" (.ref tp) (putF "kind" (.str k) [])))) = HC
  intro hdC kC hpC
  have flp : (putF "node_count" (V.int m) (putF "parts" (.ref tp) (putF "kind" (.str k) []))).lookup ("parts" : Str) = some (.ref tp) := by
    rw [lookup_putF, if_neg (nb _ _ (by decide +kernel)), lookup_putF, if_pos rfl]
  clear hd2 g2 k4 k3 g1 hop1 hd1 ptB tpB hp2 k2 hm
  -- its own access
  refine ⟨fun σ' H' => ∃ (Lo : Addr) (ovs : List V), σ' = [some (.ref p), some (.str k), some (.ref tp), some (.ref D1), some (.ref Lo), none, none, none, none] ∧ H' Lo = some (.lst ovs) ∧ PairsAt K H' ovs own ∧ ovs.length ≤ 1 ∧ Same HC H', ?_, ?_⟩
  · refine ⟨_, rfl, rfl, _, rfl, ?_⟩
    refine ite2 (fun c => ?_) (fun c => ?_)
    · have ek : k = "access" := by
        have z := of_decide_eq_true c
        cases z
        rfl
      rcases hown with ⟨_, pr, rfl, hpr⟩ | ⟨n, _⟩
      · refine ⟨_, rfl, p, C, dx, _, _, rfl, hpC, T.ic.cl, T.nP, flp, (by show 1 ≤ sizeLine; decide), fun l hl => ?_⟩
        have g := same_new hl (.lst [.ref tp])
        exact ⟨l, _, rfl, upd_same, .cons ((kC.pair hp hpr).same g) .nil, (by show 1 ≤ 1; decide), g⟩
      · exact absurd ek n
    · have ek : k ≠ "access" := fun e => c (decide_eq_true (congrArg V.str e))
      rcases hown with ⟨e, _⟩ | ⟨_, rfl⟩
      · exact absurd e ek
      · refine ⟨Nat.zero_le _, fun l hl => ?_⟩
        have g := same_new hl (.lst [])
        exact ⟨l, _, rfl, upd_same, .nil, by decide, g⟩
  rintro σ' H3 ⟨Lo, ovs, rfl, hLo, hprs, hovs, g3⟩
  have k5 := kC.same g3
  have hd3 := g3 _ _ hdC
  obtain ⟨uss, hacs, hul, hug⟩ := (k5.ops hp ho1).accs
  have hall := hacs.all
  have eaccs := hall.len
  have hL1 : uss.flatten.length ≤ 900 := by
    rw [eaccs]
    rw [eas, List.length_append] at has
    omega
  refine ⟨_, rfl, _, rfl, D1, rfl, ⟨_, SqL.of hd3⟩, fun D3 hD3 => ?_⟩
  refine lc2_it (K := K) (xs := acc) (i0 := 6) (j0 := 7) (fun i => uss.getD i []) hD3 (outer_list (SqL.of hd3)) (fun i x H' R hx g hR => ?_) (by rw [hul, flat_get]; omega) (fun i hi => flat_le2 _ acc.length 1000 i (by rw [hul, flat_get]; omega) hi) (fun H4 hd4 g4 => ?_) (fun _ => rfl) (fun _ _ => rfl) (fun _ _ => rfl)
  · obtain ⟨a, dx', tp', ta', tl', k', m', us, rfl, ha, eu, hta⟩ := hug i x hx
    refine ⟨_, rfl, a, C, dx', _, _, rfl, g _ _ ha, T.ic.cl, T.nA, fE_a, ta', rfl, ⟨_, seqT g hta⟩, hR ta' ?_⟩
    show SqT K H3 ta' (uss.getD i [])
    rw [List.getD_eq_getElem?_getD, eu]
    exact hta
  rw [hul, flat_get] at hd4
  refine ⟨Lo, D3, _, _, rfl, rfl, g4 _ _ hLo, hd4, Nat.le_of_lt (small1000 (by omega)), fun L5 hL5 => ?_⟩
  have g5 := same_new hL5 (.lst (ovs ++ uss.flatten))
  refine ⟨L5, _, rfl, .inl ⟨SqL.of upd_same, fun ta hta => ?_⟩⟩
  have g6 := same_new hta (.tup (ovs ++ uss.flatten))
  have g36 := (g4.trans g5).trans g6
  have hp6 := g36 _ _ (g3 _ _ hpC)
  refine ⟨_, rfl, p, C, dx, _, rfl, hp6, T.ic.cl, T.nA, (by show 3 < 1000; decide), ?_⟩
  have k6 := ((k5.same g36).upd (.ins C dx (putF "accesses" (.ref ta) (putF "node_count" (.int m) (putF "parts" (.ref tp) (putF "kind" (.str k) []))))))
  have hpD : upd (upd (upd H4 L5 (.lst (ovs ++ uss.flatten))) ta (.tup (ovs ++ uss.flatten))) p (.ins C dx (putF "accesses" (.ref ta) (putF "node_count" (.int m) (putF "parts" (.ref tp) (putF "kind" (.str k) []))))) p = some (.ins C dx (putF "accesses" (.ref ta) (putF "node_count" (.int m) (putF "parts" (.ref tp) (putF "kind" (.str k) []))))) := upd_same
  have taD : SqT K (upd (upd (upd H4 L5 (.lst (ovs ++ uss.flatten))) ta (.tup (ovs ++ uss.flatten))) p (.ins C dx (putF "accesses" (.ref ta) (putF "node_count" (.int m) (putF "parts" (.ref tp) (putF "kind" (.str k) [])))))) ta (ovs ++ uss.flatten) := by
    refine SqT.of ?_
    rw [upd_ne (ne_of upd_same hp6 (by intro z; cases z))]
    exact upd_same
  have kk : Kp p H3 (upd (upd (upd H4 L5 (.lst (ovs ++ uss.flatten))) ta (.tup (ovs ++ uss.flatten))) p (.ins C dx (putF "accesses" (.ref ta) (putF "node_count" (.int m) (putF "parts" (.ref tp) (putF "kind" (.str k) [])))))) := Kp.upd (fun b o _ e => g36 _ _ e) _
  have prD := (kk.pairs (g3 _ _ hpC) hprs).app (kk.pairs (g3 _ _ hpC) hall)
  rw [← eas] at prD
  revert k6 hpD taD prD
  generalize upd (upd (upd H4 L5 (.lst (ovs ++ uss.flatten))) ta (.tup (ovs ++ uss.flatten))) p (.ins C dx (putF "accesses" (.ref ta) (putF "node_count" (.int m) (putF "parts" (.ref tp) (putF "kind" (.str k) []))))) = HD
  intro k6 hpD taD prD
  clear kk hp6 g36 g6 hta g5 hL5 hd4 g4 k5 hd3 hacs hug hall
  -- the letters
  have exl := prD.len
  refine ⟨_, rfl, p, C, dx, _, _, rfl, hpD, T.ic.cl, T.nA, (by rw [lookup_putF, if_pos rfl]), ta, rfl, ⟨_, taD⟩, fun D5 hD5 => ?_⟩
  have hfl : (flat (fun i => ((as.getD i (Str.empty, [])).2).map V.str) (ovs ++ uss.flatten).length).length ≤ 1000 := by
    rw [exl, flat_lts, List.length_map]
    omega
  refine lc2_it (K := K) (xs := ovs ++ uss.flatten) (i0 := 7) (j0 := 8) (fun i => ((as.getD i (Str.empty, [])).2).map V.str) hD5 (outer_tup taD) (fun i x H' R hx g hR => ?_) hfl (fun i hi => flat_le2 _ _ 1000 i hfl hi) (fun H6 hd6 g6 => ?_) (fun _ => rfl) (fun _ _ => rfl) (fun _ _ => rfl)
  · obtain ⟨pr, epr, a, t, rfl, h1, h2⟩ := prD.get hx
    refine ⟨_, rfl, a, _, 1, .ref t, rfl, rfl, seqT g h1, rfl, t, rfl, ⟨_, seqT g h2⟩, hR t ?_⟩
    show SqT K HD t ((as.getD i (Str.empty, [])).2.map V.str)
    rw [List.getD_eq_getElem?_getD, epr]
    exact h2
  rw [exl, flat_lts] at hd6
  refine ⟨D5, lts as, rfl, SqL.of hd6, hlt, fun tl ys H7 g7 htl hlet => ?_⟩
  have hp7 := g7 _ _ (g6 _ _ hpD)
  refine ⟨_, rfl, p, C, dx, _, rfl, hp7, T.ic.cl, T.nL, (by show 4 < 1000; decide), ?_⟩
  have kD : Kp p HD (upd H7 p (.ins C dx (fE k tp ta tl m))) := Kp.upd (fun b o _ e => g7 _ _ (g6 _ _ e)) _
  have k7 : Kp p H (upd H7 p (.ins C dx (fE k tp ta tl m))) := fun b o n e => kD b o n (k6 b o n e)
  have kE : Kp p H7 (upd H7 p (.ins C dx (fE k tp ta tl m))) := Kp.upd (fun b o _ e => e) _
  exact q _ k7 ⟨dx, tp, ta, tl, _, ys, upd_same, k7.seq hp htp, kD.seq hpD taD, kD.pairs hpD prD, kE.seq hp7 htl, hlet⟩
end
end Lw.Ey
namespace Lw.Ey
open PySem L2 OwB
abbrev sAcc : Stmt := topS 20
abbrev sChkL : Stmt := topS 21
abbrev sChkE : Stmt := topS 23
abbrev sOpd : Stmt := topS 24
abbrev sJoin : Stmt := topS 25
theorem sIx_nat (n d i : Nat) : HT.sIx n d (some (i : Int)) = min i n := by
  unfold HT.sIx
  simp only
  split
  · omega
  · omega
theorem sIx_none (n d : Nat) : HT.sIx n d none = d := rfl
theorem cut_take (xs : List V) (i : Nat) (h : i ≤ xs.length) : cutV xs none (some (i : Int)) = xs.take i := by
  unfold cutV
  rw [sIx_nat, sIx_none, List.drop_zero, Nat.sub_zero, Nat.min_eq_left h]
theorem in_strs (z : Str) : ∀ ls : List Str, inV (.str z) (ls.map V.str) = decide (z ∈ ls)
  | [] => by simp [inV]
  | y :: r => by
    have q := in_strs z r
    unfold inV at q ⊢
    rw [List.map_cons, List.any_cons, q]
    show ((y == z) || decide (z ∈ r)) = decide (z ∈ y :: r)
    by_cases h : y = z
    · subst h
      simp
    · have h2 : ¬ z = y := fun e => h e.symm
      simp [h, h2]
theorem flat_strs' (ls : List Str) : (ls.map V.str).all flatV = true := by
  rw [List.all_eq_true]
  intro x hx
  obtain ⟨i, _, rfl⟩ := List.mem_map.mp hx
  rfl
/-- a for over enumerate(tuple) -/
theorem for_enumT {K : PySem.W.Frag} {a : Addr} {xs : List V} {g : TG} {tb : TS} {D : Ends} {σ : St} {H : Hp} (Pv : Nat → St → Hp → Prop) (h0 : Pv 0 σ H) (hl : ∀ i σ H, Pv i σ H → SqT K H a xs)
    (hs : ∀ i σ H x T, xs[i]? = some x → Pv i σ H → H T = none → g (.ref T) σ (upd H T (.tup [.int (i : Nat), x])) fun σ2 H2 => tb { D with nx := Pv (i + 1), ct := Pv (i + 1), bk := D.nx } σ2 H2) (hd : ∀ σ H, Pv xs.length σ H → D.nx σ H) :
    ∃ W : Nat → Nat → St → Hp → Prop, (∃ m, W 0 m σ H) ∧ ∀ i m σ H, W i m σ H →
      ((EnT.IteT K a).stop i H ∧ D.nx σ H) ∨ ((EnT.IteT K a).go i H ∧ ∃ N : St → Hp → Prop, (∀ σ' H', N σ' H' → ∃ m', m' < m ∧ W (i + 1) m' σ' H') ∧ ∀ x H', (EnT.IteT K a).yld i H x H' → g x σ H' fun σ2 H2 => tb { D with nx := N, ct := N, bk := D.nx } σ2 H2) := by
  refine ⟨fun i m σ H => m = xs.length - i ∧ i ≤ xs.length ∧ Pv i σ H, ⟨xs.length, by simp, Nat.zero_le _, h0⟩, ?_⟩
  rintro i m σ H ⟨rfl, hi, p⟩
  have sq := hl i σ H p
  by_cases hlt : i < xs.length
  · refine .inr ⟨⟨xs, xs[i], sq, List.getElem?_eq_getElem hlt⟩, Pv (i + 1), fun σ' H' p' => ⟨xs.length - (i + 1), by omega, rfl, hlt, p'⟩, fun x H' y => ?_⟩
    obtain ⟨T, x', rfl, hT, rfl, hx⟩ := y
    exact hs i σ H x' T (hx xs sq) p hT
  · have e : i = xs.length := by omega
    subst e
    exact .inl ⟨⟨xs, sq, rfl⟩, hd σ H p⟩
theorem same2 {H : Hp} {x dx : Addr} (hx : H x = none) (hd : H dx = none) (o1 o2 : HO) : Same H (upd (upd H dx o1) x o2) := fun b o e => by rw [upd_ne (ne_of_none e hx), upd_ne (ne_of_none e hd)]; exact e
theorem PtsAt.same {K : PySem.W.Frag} {C : Addr} {H H' : Hp} (g : Same H H') : ∀ {vs : List V} {os : List (Option Ex)}, PtsAt K C H vs os → PtsAt K C H' vs os
  | _, _, .nil => .nil
  | _, _, .cons h t => .cons (h.same g) (PtsAt.same g t)
/-- a new expression -/
theorem newEx {K : PySem.W.Frag} {C : Addr} {H1 : Hp} {k : Str} {tp : Addr} {xs : List V} {os : List (Option Ex)} {own as : List (Str × List Str)} (htp : SqT K H1 tp xs) (hpts : PtsAt K C H1 xs os) (h10 : xs.length ≤ 10)
    (hown : (k = "access" ∧ ∃ pr, own = [pr] ∧ PairAt K H1 (.ref tp) pr) ∨ (k ≠ "access" ∧ own = [])) (eas : as = own ++ accsOf (opsOf os)) (has : as.length ≤ 900) (hlt : (lts as).length < 64) {x dx : Addr} (hx : H1 x = none) (hd : H1 dx = none) {Q' : VK}
    (q : ∀ H' : Hp, Same H1 H' → HdE K C H' x k xs as (1 + ((opsOf os).map Ex.nodes).sum) → Q' .non H') : spXini K C [.ref x, .str k, .ref tp] (upd (upd H1 dx (.own x)) x (.ins C dx [])) Q' E0 := by
  have g := same2 hx hd (.own x) (.ins C dx [])
  exact ⟨x, dx, tp, k, xs, os, own, as, rfl, upd_same, seqT g htp, hpts.same g, h10, hown.imp (fun ⟨e, pr, e2, h⟩ => ⟨e, pr, e2, h.same g⟩) id, eas, has, hlt, fun H' kp h => q H' (made_same hx hd kp) h⟩
/-- bounds -/
structure Sm0 (e : Ex) : Prop where
  as : e.accs.length ≤ 400
  ls : (lts e.accs).length ≤ 31
theorem lts_app (a b : List (Str × List Str)) : lts (a ++ b) = lts a ++ lts b := by
  unfold lts
  rw [List.map_append, List.flatten_append]
theorem kne (a b : String) (h : (Str.ofString a == Str.ofString b) = false := by decide +kernel) : Str.ofString a ≠ Str.ofString b := nb a b h
section
variable {P : Program} {w : World} {K : PySem.W.Frag} {mg : Str → Option Value} {base : Heap} {f g g2 g3 C fI : Addr} {fd gd gd2 gd3 dI : FuncData}
abbrev XI (P : Program) (w : World) (K : PySem.W.Frag) (mg : Str → Option Value) (base : Heap) (C fI : Addr) (dI : FuncData) : Prop := FnOk P w K mg base CX0 2 fI dI ["self", "kind", "parts"] (spXini K C)
def spNum (K : PySem.W.Frag) (C : Addr) : Sp := fun vs H Q _ => ∃ n : Int, vs = [.int n] ∧ ∀ (p : Addr) (H' : Hp), Same H H' → ExAt K C H' (.num n) p → Q (.ref p) H'
theorem scN : FnScope ["n"] ["n"] (defScope sNum) := ⟨rfl, rfl, rfl, by decide +kernel, rfl, by decide +kernel, by decide +kernel⟩
theorem ok_num (F : Fun K "number" "number" sNum f fd) (T : Xc K mg C fI) (FI : XI P w K mg base C fI dI) (bI : Binds K dI ["self", "kind", "parts"] []) : FnOk P w K mg base CX0 4 f fd ["n"] (spNum K C) := by
  refine F.ok scN (fun vs H Q E h => ?_) (fun cdv A outer s H vs Q E hr h => ?_)
  · obtain ⟨n, rfl, _⟩ := h
    rfl
  obtain ⟨n, rfl, k⟩ := h
  refine ⟨_, pss_one (ps_ret (pe_make T.mkC FI hr (by rfl) T.mC bI .nil pass0 (pa_cons pe_str (pa_cons (pe_tup (pa_cons (pv 0) pa_nil)) pa_nil)))), ?_⟩
  refine ⟨_, rfl, (by show 1 ≤ sizeLine; decide), fun tp htp => ?_⟩
  have g1 := same_new htp (.tup [.int n])
  intro x dx hx hd _
  exact newEx (os := [none]) (own := []) (as := []) (SqT.of upd_same) (.cons (.inl ⟨n, rfl⟩) .nil) (by show 1 ≤ 10; decide) (.inr ⟨kne "number" "access", rfl⟩) rfl (by decide) (by decide) hx hd (fun H' g h => ⟨rfl, k x H' (g1.trans g) h⟩)
def spChkE (K : PySem.W.Frag) (C : Addr) : Sp := fun vs H Q _ => ∃ (p : Addr) (e : Ex), vs = [.ref p] ∧ ExAt K C H e p ∧ Q .non H
theorem scCE : FnScope ["x"] ["x"] (defScope sChkE) := ⟨rfl, rfl, rfl, by decide +kernel, rfl, by decide +kernel, by decide +kernel⟩
/-- the constants of the text -/
structure Kc (K : PySem.W.Frag) (mg : Str → Option Value) (AK : Addr) : Prop where
  mA : mg "ASSIGNED_KINDS" = some (.ref AK)
  tA : ∀ H : Hp, SqT K H AK [.str "gain", .str "loss"]
theorem ok_chkE {AK : Addr} (F : Fun K "check_expression" "check_expression" sChkE f fd) (T : Xc K mg C fI) (Kx : Kc K mg AK) : FnOk P w K mg base CX0 1 f fd ["x"] (spChkE K C) := by
  refine F.ok scCE (fun vs H Q E h => ?_) (fun cdv A outer s H vs Q E hr h => ?_)
  · obtain ⟨p, e, rfl, _⟩ := h
    rfl
  obtain ⟨p, e, rfl, he, k⟩ := h
  refine ⟨_, pss_one (ps_if (pt_cmpR (r := rIn K false) op_in_seq (pe_fld (pv 0) rfl) (pe_glob (v := .ref AK) (by rfl) Kx.mA rfl) (by rfl)) (pss_one ps_never) pss_nil), ?_⟩
  obtain ⟨_, dx, _, _, _, _, _, hp, _⟩ := he.hd
  obtain ⟨n1, n2⟩ := he.noGain
  refine ⟨_, rfl, p, C, dx, _, _, rfl, hp, T.ic.cl, T.nK, fE_k, AK, _, rfl, .inr (Kx.tA H), rfl, rfl, _, rfl, ?_⟩
  have z : inV (.str e.kind) [.str "gain", .str "loss"] = false := by
    have z2 := in_strs e.kind ["gain", "loss"]
    rw [show inV (.str e.kind) [.str "gain", .str "loss"] = inV (.str e.kind) ((["gain", "loss"] : List Str).map V.str) from rfl, z2]
    simp [n1, n2]
  exact iteN (c := inV (.str e.kind) [.str "gain", .str "loss"]) z k
/-- an operand: an int, or an expression -/
def OpV (K : PySem.W.Frag) (C : Addr) (H : Hp) (v : V) (e : Ex) : Prop := (∃ i : Int, v = .int i ∧ e = .num i) ∨ ∃ p, v = .ref p ∧ ExAt K C H e p
theorem OpV.same {H H' : Hp} {v : V} {e : Ex} (g : Same H H') : OpV K C H v e → OpV K C H' v e
  | .inl h => .inl h
  | .inr ⟨p, ep, h⟩ => .inr ⟨p, ep, h.same g⟩
def spOpd (K : PySem.W.Frag) (C : Addr) : Sp := fun vs H Q _ => ∃ (v : V) (e : Ex), vs = [v] ∧ OpV K C H v e ∧ ∀ (p : Addr) (H' : Hp), Same H H' → ExAt K C H' e p → Q (.ref p) H'
theorem scOp : FnScope ["x"] ["x"] (defScope sOpd) := ⟨rfl, rfl, rfl, by decide +kernel, rfl, by decide +kernel, by decide +kernel⟩
theorem ok_opd (F : Fun K "operand_of" "operand_of" sOpd f fd) (T : Xc K mg C fI) (B : Bt mg) (GW : FnOk P w K mg base CX0 1 g gd ["n"] (spWh C)) (bW : Binds K gd ["n"] []) (kW : PySem.W.keepIn K (.ref g) = true) (mW : mg "is_whole" = some (.ref g))
    (GN : FnOk P w K mg base CX0 4 g2 gd2 ["n"] (spNum K C)) (bN : Binds K gd2 ["n"] []) (kN : PySem.W.keepIn K (.ref g2) = true) (mN : mg "number" = some (.ref g2))
    (GE : FnOk P w K mg base CX0 1 g3 gd3 ["x"] (spChkE K C)) (bE : Binds K gd3 ["x"] []) (kE : PySem.W.keepIn K (.ref g3) = true) (mE : mg "check_expression" = some (.ref g3)) : FnOk P w K mg base CX0 5 f fd ["x"] (spOpd K C) := by
  refine F.ok scOp (fun vs H Q E h => ?_) (fun cdv A outer s H vs Q E hr h => ?_)
  · obtain ⟨v, e, rfl, _⟩ := h
    rfl
  obtain ⟨v, e, rfl, hv, k⟩ := h
  have hr1 := hr.mono (show 1 ≤ 4 by decide)
  refine ⟨_, pss_cons (ps_if (pt_val (pe_call GW hr1 rfl mW kW bW .nil pass0 (pa_cons (pv 0) pa_nil))) (pss_one (ps_ret (pe_call GN hr rfl mN kN bN .nil pass0 (pa_cons (pv 0) pa_nil)))) pss_nil)
    (pss_cons (ps_if (pt_not (pt_val (pe_callB (C8.call_isC T.ic) (by rfl) B.isi (by decide +kernel) (pa_cons (pv 0) (pa_cons (pe_glob (v := .ref C) (by rfl) T.mC rfl) pa_nil))))) (pss_one ps_never) pss_nil)
    (pss_cons (ps_expr (pe_call GE hr1 rfl mE kE bE .nil pass0 (pa_cons (pv 0) pa_nil))) (pss_one (ps_ret (pv 0))))), ?_⟩
  rcases hv with ⟨i, rfl, rfl⟩ | ⟨p, rfl, he⟩
  · refine ⟨_, rfl, _, rfl, .inl ⟨i, rfl, _, rfl, iteT ?_⟩⟩
    exact ⟨_, rfl, i, rfl, fun p H' g h => k p H' g h⟩
  · obtain ⟨_, dx, _, _, _, _, _, hp, _⟩ := he.hd
    refine ⟨_, rfl, _, rfl, .inr ⟨p, dx, _, rfl, hp, _, rfl, iteF ?_⟩⟩
    refine ⟨_, rfl, p, dx, _, rfl, hp, _, rfl, iteF ?_⟩
    exact ⟨_, rfl, p, e, rfl, he, _, rfl, k p H (Same.refl H) he⟩
def spJoin (K : PySem.W.Frag) (C : Addr) : Sp := fun vs H Q _ => ∃ (k : Str) (v u : V) (x y : Ex), vs = [.str k, v, u] ∧ okK k ∧ OpV K C H v x ∧ OpV K C H u y ∧ Sm0 x ∧ Sm0 y ∧ ∀ (p : Addr) (H' : Hp), Same H H' → ExAt K C H' (.bi k x y) p → Q (.ref p) H'
theorem scJ : FnScope ["kind", "x", "y"] ["kind", "x", "y"] (defScope sJoin) := ⟨rfl, rfl, rfl, by decide +kernel, rfl, by decide +kernel, by decide +kernel⟩
theorem ok_join (F : Fun K "joined" "joined" sJoin f fd) (T : Xc K mg C fI) (FI : XI P w K mg base C fI dI) (bI : Binds K dI ["self", "kind", "parts"] [])
    (GO : FnOk P w K mg base CX0 5 g gd ["x"] (spOpd K C)) (bO : Binds K gd ["x"] []) (kO : PySem.W.keepIn K (.ref g) = true) (mO : mg "operand_of" = some (.ref g)) : FnOk P w K mg base CX0 6 f fd ["kind", "x", "y"] (spJoin K C) := by
  refine F.ok scJ (fun vs H Q E h => ?_) (fun cdv A outer s H vs Q E hr h => ?_)
  · obtain ⟨k, v, u, x, y, rfl, _⟩ := h
    rfl
  obtain ⟨k, v, u, x, y, rfl, hk, hv, hu, sx, sy, q⟩ := h
  refine ⟨_, pss_one (ps_ret (pe_make T.mkC FI (hr.mono (by decide)) (by rfl) T.mC bI .nil pass0 (pa_cons (pv 0) (pa_cons (pe_tup (pa_cons (pe_call GO hr rfl mO kO bO .nil pass0 (pa_cons (pv 1) pa_nil)) (pa_cons (pe_call GO hr rfl mO kO bO .nil pass0 (pa_cons (pv 2) pa_nil)) pa_nil))) pa_nil)))), ?_⟩
  refine ⟨_, rfl, _, rfl, v, x, rfl, hv, fun a H1 g1 ha => ?_⟩
  refine ⟨_, rfl, u, y, rfl, hu.same g1, fun b H2 g2 hb => ?_⟩
  refine ⟨(by show 2 ≤ sizeLine; decide), fun tp htp => ?_⟩
  have g3 := same_new htp (.tup [.ref a, .ref b])
  have ha3 := ha.same (g2.trans g3)
  have hb3 := hb.same g3
  intro p dx hp hd _
  refine newEx (os := [some x, some y]) (own := []) (as := x.accs ++ y.accs) (SqT.of upd_same) (.cons ⟨a, rfl, ha3⟩ (.cons ⟨b, rfl, hb3⟩ .nil)) (by show 2 ≤ 10; decide) (.inr ⟨hk.1, rfl⟩) (by show _ = [] ++ (x.accs ++ (y.accs ++ [])); simp) ?_ ?_ hp hd (fun H' g h => ⟨rfl, q p H' (((g1.trans g2).trans g3).trans g) ?_⟩)
  · rw [List.length_append]
    have := sx.as
    have := sy.as
    omega
  · rw [lts_app, List.length_append]
    have := sx.ls
    have := sy.ls
    omega
  · refine ⟨hk, a, b, ?_, ha3.same g, hb3.same g⟩
    have e : (1 : Int) + (([x, y] : List Ex).map Ex.nodes).sum = 1 + (x.nodes + y.nodes) := by simp
    rw [← e]
    exact h
def spChkL (K : PySem.W.Frag) : Sp := fun vs H Q _ => ∃ (t : Addr) (ls : List Str), vs = [.ref t] ∧ SqT K H t (ls.map V.str) ∧ ls.length ≤ 100 ∧ ls.Nodup ∧ ∀ H' : Hp, Same H H' → Q .non H'
theorem scCL : FnScope ["letters", "at", "letter"] ["letters"] (defScope sChkL) := ⟨rfl, rfl, rfl, by decide +kernel, rfl, by decide +kernel, by decide +kernel⟩
theorem ok_chkL (F : Fun K "check_letters" "check_letters" sChkL f fd) (B2 : Bx mg) : FnOk P w K mg base CX0 1 f fd ["letters"] (spChkL K) := by
  refine F.ok scCL (fun vs H Q E h => ?_) (fun cdv A outer s H vs Q E hr h => ?_)
  · obtain ⟨t, ls, rfl, _⟩ := h
    rfl
  obtain ⟨t, ls, rfl, ht, hl, hn, k⟩ := h
  refine ⟨_, pss_one (ps_for PassesOwn.never rfl (EnT.pi_enumT (by rfl) B2.enum (pa_cons (pv 0) pa_nil)) (pg_tup rfl (pgs_cons (pg_name (i := 1) scCL.nd rfl (Or.inl rfl)) (pgs_cons (pg_name (i := 2) scCL.nd rfl (Or.inl rfl)) pgs_nil)))
    (pss_one (ps_if (pt_cmpR (r := rIn K false) op_in_seq (pv 2) (pe_slice sl_tupA (pv 0) po_none (po_some (pv 1))) (by rfl)) (pss_one ps_never) pss_nil))), ?_⟩
  refine ⟨_, rfl, t, _, rfl, ht, for_enumT (K := K) (a := t) (xs := ls.map V.str) (fun i σ' H' => (∃ u v : Option V, σ' = [some (.ref t), u, v]) ∧ Same H H') ⟨⟨_, _, rfl⟩, Same.refl H⟩ (fun i σ' H' ⟨_, g⟩ => seqT g ht) (fun i σ' H' x T hx ⟨⟨u, v, e⟩, g⟩ hT => ?_) (fun σ' H' ⟨_, g⟩ => k H' g)⟩
  subst e
  rw [List.getElem?_map] at hx
  cases ez : ls[i]? with
  | none => rw [ez] at hx; cases hx
  | some z =>
    rw [ez] at hx
    cases hx
    have hi : i < ls.length := (List.getElem?_eq_some_iff.mp ez).1
    have gT := same_new hT (.tup [.int (i : Nat), .str z])
    have htT := seqT (g.trans gT) ht
    have no : decide (z ∈ ls.take i) = false := by
      refine decide_eq_false fun hm => ?_
      obtain ⟨j, hj, ej⟩ := List.getElem_of_mem hm
      rw [List.length_take] at hj
      rw [List.getElem_take] at ej
      obtain ⟨_, e2⟩ := List.getElem?_eq_some_iff.mp ez
      exact absurd ((List.getElem_inj hn).mp (ej.trans e2.symm)) (by omega)
    have ecut : cutV (ls.map V.str) none (some (i : Int)) = (ls.take i).map V.str := by
      rw [cut_take _ _ (by rw [List.length_map]; omega), List.map_take]
    refine ⟨T, _, rfl, SqT.of upd_same, rfl, _, _, rfl, _, _, rfl, rfl, ?_⟩
    refine ⟨_, rfl, _, rfl, _, rfl, _, rfl, t, _, rfl, htT, fun hw => ?_, fun _ p hp => ?_⟩
    · exfalso
      have z2 := hw.2
      rw [sIx_nat, List.length_map] at z2
      omega
    · have gp := same_new hp (.tup (cutV (ls.map V.str) none (some (i : Int))))
      refine ⟨p, _, rfl, .inr (SqT.of upd_same), rfl, by rw [ecut]; exact flat_strs' _, _, rfl, ?_⟩
      have e3 : inV (.str z) (cutV (ls.map V.str) none (some (i : Int))) = false := by
        rw [ecut, in_strs]
        exact no
      exact iteN (c := inV (.str z) (cutV (ls.map V.str) none (some (i : Int)))) e3 ⟨⟨_, _, rfl⟩, (g.trans gT).trans gp⟩
end
end Lw.Ey
namespace Lw.Ey
open PySem L2 OwB
section
variable {X : Cx} {CX : CXT} {k : Nat} {f : Addr} {sp : Sp} {E : XK} {x : Str} {e : Expr} {es : List Expr} {t : TA} {p pos : Pos}
/-- x(e, ..), x a def by its promise alone -/
theorem pe_callR (F : FnR X.prog X.w X.K X.mg X.base CX k f sp) (hr : Room k X.A) (hg : Gl X x) (hm : X.mg x = some (.ref f)) (hk : PySem.W.keepIn X.K (.ref f) = true) (hx : Passes CX X E)
    (ha : PA X (e :: es) t) (hdb : (x == ("__debug__" : Str)) = false := by decide) (he : starEach (e :: es) X.env = (false, eval e X.env) :: starEach es X.env := by rfl) (hpl : (backTo pos (starEach es X.env)).any (·.1) = false := by rfl) :
    PE X (.Call (.Name x p) (e :: es) [] pos) (fun σ H Q => t σ H fun vs H1 => sp vs H1 Q E) := by
  refine ⟨fun pins s σ H Q I h => ?_⟩
  refine wpAny_Call_Name_kw (ld_glob I hg hm ?_ hdb)
  refine PySem.W.callWith_K (h₀ := X.base) I.ok.mod.kin hk (thn (ha.run pos pins s σ H _ I h) fun us s1 ⟨vs, H1, I1, r, q⟩ => ⟨I1.kIn, ?_⟩) he hpl
  exact wpAny_call (run_fnR F hr hx I1 r q)
end
section
variable {P : Program} {w : World} {K : PySem.W.Frag} {mg : Str → Option Value} {base : Heap} {f g g2 g3 C fI : Addr} {fd gd gd2 gd3 dI : FuncData}
/-- access(nm, letters ..) -/
def spAcc (K : PySem.W.Frag) (C : Addr) : Sp := fun vs H Q _ => ∃ (nm : Str) (ls : List Str), vs = .str nm :: ls.map V.str ∧ ls.length ≤ 20 ∧ ls.Nodup ∧ ∀ (p : Addr) (H' : Hp), Same H H' → ExAt K C H' (.acc nm ls) p → Q (.ref p) H'
theorem scAc : FnScope ["name", "letters"] ["name", "letters"] (defScope sAcc) := ⟨rfl, rfl, rfl, by decide +kernel, rfl, by decide +kernel, by decide +kernel⟩
theorem ok_acc (F : Fun K "access" "access" sAcc f fd) (T : Xc K mg C fI) (B : Bt mg) (FI : XI P w K mg base C fI dI) (bI : Binds K dI ["self", "kind", "parts"] [])
    (GL : FnOk P w K mg base CX0 1 g gd ["letters"] (spChkL K)) (bL : Binds K gd ["letters"] []) (kL : PySem.W.keepIn K (.ref g) = true) (mL : mg "check_letters" = some (.ref g)) : FnR P w K mg base CX0 4 f (spAcc K C) := by
  obtain ⟨oc, od, kV, doc, pm, an, cdv, ct, osl, rfl, lk, hcd⟩ := F.ex
  have z := StX.fn_star (P := P) (w := w) (mg := mg) (base := base) (CX := CX0) (k := 3) (ps := ["name"]) (pv := "letters") (N := ["name", "letters"])
    (sp := fun vs H Q _ => ∃ (nm : Str) (ls : List Str) (t : Addr), vs = [.str nm, .ref t] ∧ SqT K H t (ls.map V.str) ∧ ls.length ≤ 20 ∧ ls.Nodup ∧ ∀ (p : Addr) (H' : Hp), Same H H' → ExAt K C H' (.acc nm ls) p → Q (.ref p) H')
    lk hcd scAc StX.cxUp_none (StX.bind_star1 (B := fun us => bindArgs (PySem.W.fnOf "access" "access" (defArgs sAcc) (defBody sAcc) (defScope sAcc) .none kV doc pm an cdv ct) ⟨us, []⟩) (fun a => rfl) (fun a r rs => rfl)) (fun A outer s H vs Q E hr h => ?_)
  · refine z.imp fun vs H Q E h => ?_
    obtain ⟨nm, ls, rfl, hl, hn, k⟩ := h
    refine ⟨[.str nm], ls.map V.str, rfl, rfl, by rw [List.length_map]; exact Nat.le_trans hl (by decide), fun p hp => ⟨nm, ls, p, rfl, SqT.of upd_same, hl, hn, fun q H' g => k q H' ((same_new hp _).trans g)⟩⟩
  obtain ⟨nm, ls, t, rfl, ht, hl, hn, k⟩ := h
  suffices hh : ∃ t', PSs (cxOf CX0 P w K mg base ["name", "letters"] "access" (defScope sAcc) f cdv A outer s H E).nox (defBody sAcc) t' ∧ t' { nx := fun _ H' => Q .non H', rt := Q } (start ["name", "letters"] [.str nm, .ref t]) H by
    obtain ⟨t', h1, h2⟩ := hh
    exact ⟨t', h1.nox, h2⟩
  refine ⟨_, pss_cons (ps_expr (pe_call GL (hr.mono (by decide)) rfl mL kL bL .nil pass0 (pa_cons (pv 1) pa_nil)))
    (pss_one (ps_ret (pe_make T.mkC FI hr (by rfl) T.mC bI .nil pass0 (pa_cons pe_str (pa_cons (pe_tup (pa_cons (pv 0) (pa_cons (pe_callTy call_tuple_of (by rfl) B.tup (by decide +kernel) (pa_cons (pv 1) pa_nil)) pa_nil))) pa_nil))))), ?_⟩
  refine ⟨_, rfl, t, ls, rfl, ht, by omega, hn, fun H1 g1 => ?_⟩
  refine ⟨_, rfl, _, rfl, t, ls.map V.str, rfl, .inr ⟨seqT g1 ht, (by show 2 ≤ sizeLine; decide), fun tp htp => ?_⟩⟩
  have g2 := same_new htp (.tup [.str nm, .ref t])
  have ht2 := seqT (g1.trans g2) ht
  intro x dx hx hd _
  refine newEx (os := [none, none]) (own := [(nm, ls)]) (as := [(nm, ls)]) (SqT.of upd_same) (.cons (.inr (.inl ⟨nm, rfl⟩)) (.cons (.inr (.inr ⟨t, _, rfl, ht2⟩)) .nil)) (by show 2 ≤ 10; decide) (.inl ⟨rfl, _, rfl, tp, t, rfl, SqT.of upd_same, ht2⟩) rfl (by show 1 ≤ 900; decide) ?_ hx hd (fun H' g h => ⟨rfl, k x H' ((g1.trans g2).trans g) ⟨t, h, seqT g ht2⟩⟩)
  show ((ls ++ []) : List Str).length < 64
  rw [List.append_nil]
  omega
end
end Lw.Ey
namespace Lw.Ey
open PySem L2 OwB
abbrev sLacc : Stmt := topS 64
section
variable {P : Program} {w : World} {K : PySem.W.Frag} {mg : Str → Option Value} {base : Heap} {f g C fI : Addr} {fd gd : FuncData}
def spLacc (K : PySem.W.Frag) (C : Addr) : Sp := fun vs H Q _ => ∃ (nm : Str) (ls : List Str) (t : Addr), vs = [.str nm, .ref t] ∧ SqT K H t (ls.map V.str) ∧ ls.length ≤ 3 ∧ ls.Nodup ∧ ∀ (p : Addr) (H' : Hp), Same H H' → ExAt K C H' (.acc nm ls) p → Q (.ref p) H'
theorem scLacc : FnScope ["_law_name_here", "_law_letters_here"] ["_law_name_here", "_law_letters_here"] (defScope sLacc) := ⟨rfl, rfl, rfl, by decide +kernel, rfl, by decide +kernel, by decide +kernel⟩
theorem ok_lacc (F : Fun K "_law_access" "_law_access" sLacc f fd) (B : Bt mg) (G : FnR P w K mg base CX0 4 g (spAcc K C)) (kG : PySem.W.keepIn K (.ref g) = true) (mG : mg "access" = some (.ref g)) : FnOk P w K mg base CX0 5 f fd ["_law_name_here", "_law_letters_here"] (spLacc K C) := by
  refine F.ok scLacc (fun vs H Q E h => ?_) (fun cdv A outer s H vs Q E hr h => ?_)
  · obtain ⟨nm, ls, t, rfl, _⟩ := h
    rfl
  obtain ⟨nm, ls, t, rfl, ht, hl, nd, k⟩ := h
  refine ⟨_, pss_cons (ps_if (pt_cmpR op_eq (pe_callB call_len_seq (by rfl) B.len PySem.boot_len (pa_cons (pv 1) pa_nil)) pe_int (nomark _)) (pss_one (ps_ret (pe_callR G hr rfl mG kG pass0 (pa_cons (pv 0) pa_nil)))) pss_nil)
    (pss_cons (ps_if (pt_cmpR op_eq (pe_callB call_len_seq (by rfl) B.len PySem.boot_len (pa_cons (pv 1) pa_nil)) pe_int (nomark _)) (pss_one (ps_ret (pe_callR G hr rfl mG kG pass0 (pa_cons (pv 0) (pa_cons (pe_ix ix_tup (pv 1) pe_int (fun _ _ => rfl)) pa_nil))))) pss_nil)
    (pss_cons (ps_if (pt_cmpR op_eq (pe_callB call_len_seq (by rfl) B.len PySem.boot_len (pa_cons (pv 1) pa_nil)) pe_int (nomark _)) (pss_one (ps_ret (pe_callR G hr rfl mG kG pass0 (pa_cons (pv 0) (pa_cons (pe_ix ix_tup (pv 1) pe_int (fun _ _ => rfl)) (pa_cons (pe_ix ix_tup (pv 1) pe_int (fun _ _ => rfl)) pa_nil)))))) pss_nil)
    (pss_one (ps_ret (pe_callR G hr rfl mG kG pass0 (pa_cons (pv 0) (pa_cons (pe_ix ix_tup (pv 1) pe_int (fun _ _ => rfl)) (pa_cons (pe_ix ix_tup (pv 1) pe_int (fun _ _ => rfl)) (pa_cons (pe_ix ix_tup (pv 1) pe_int (fun _ _ => rfl)) pa_nil))))))))), ?_⟩
  have len : ∀ (n : Nat) (R : Bool → Hp → Prop), R (decide ((ls.length : Int) = n)) H → tTest (tOp rEq (tCB (fun xs H Q => ∃ p ys, xs = [.ref p] ∧ (SqL K H p ys ∨ SqT K H p ys) ∧ Q (.int ys.length) H) (tCons (tVar 1) tNil)) (tC (.int (n : Int)))) [some (.str nm), some (.ref t)] H R := fun n R h => by
    refine ⟨_, rfl, t, _, rfl, .inr ht, rfl, _, rfl, ?_⟩
    rw [List.length_map, dec_int]
    exact h
  have at_ : ∀ (i : Nat) (z : Str) (R : V → Hp → Prop), ls[i]? = some z → R (.str z) H → tOp (rIxT K) (tVar 1) (tC (.int (i : Int))) [some (.str nm), some (.ref t)] H R := fun i z R e h => by
    refine ⟨_, rfl, t, _, (i : Int), .str z, rfl, rfl, ht, atI_nat (by rw [List.getElem?_map, e] <;> rfl), h⟩
  refine len 0 _ (ite2 (fun c => ?_) (fun c => len 1 _ (ite2 (fun c1 => ?_) (fun c1 => len 2 _ (ite2 (fun c2 => ?_) (fun c2 => ?_))))))
  · have e : ls = [] := List.length_eq_zero_iff.mp (by have := of_decide_eq_true c; omega)
    subst e
    exact ⟨_, rfl, nm, [], rfl, by decide, nd, k⟩
  · have e1 : ls.length = 1 := by have := of_decide_eq_true c1; omega
    obtain ⟨a, rfl⟩ := List.length_eq_one_iff.mp e1
    refine ⟨_, rfl, at_ 0 a _ rfl ⟨nm, [a], rfl, (by show 1 ≤ 20; decide), nd, k⟩⟩
  · have e1 : ls.length = 2 := by have := of_decide_eq_true c2; omega
    match ls, e1, ht, at_, nd, k with
    | [a, b], _, ht, at_, nd, k => exact ⟨_, rfl, at_ 0 a _ rfl (at_ 1 b _ rfl ⟨nm, [a, b], rfl, (by show 2 ≤ 20; decide), nd, k⟩)⟩
  · have e1 : ls.length = 3 := by
      have h0 : ¬ (ls.length : Int) = 0 := fun e => c (decide_eq_true e)
      have h1 : ¬ (ls.length : Int) = 1 := fun e => c1 (decide_eq_true e)
      have h2 : ¬ (ls.length : Int) = 2 := fun e => c2 (decide_eq_true e)
      omega
    match ls, e1, ht, at_, nd, k with
    | [a, b, d], _, ht, at_, nd, k => exact ⟨_, rfl, at_ 0 a _ rfl (at_ 1 b _ rfl (at_ 2 d _ rfl ⟨nm, [a, b, d], rfl, (by show 3 ≤ 20; decide), nd, k⟩))⟩
end
end Lw.Ey
/-! dicts whose keys are nested tuples of texts and whole numbers -/
namespace NdX
open PySem PySem.Spec PyProof.Rows L2 Lw
mutual
/-- the value v is the key k -/
def NkV (K : PySem.W.Frag) (H : Hp) : NestedKey → V → Prop
  | .none, v => v = .non
  | .num i, v => v = .int i
  | .text x, v => v = .str x
  | .tup ks, v => ∃ a xs, v = .ref a ∧ SqT K H a xs ∧ NkAll K H ks xs
def NkAll (K : PySem.W.Frag) (H : Hp) : List NestedKey → List V → Prop
  | [], [] => True
  | k :: ks, x :: xs => NkV K H k x ∧ NkAll K H ks xs
  | _, _ => False
end
mutual
theorem NkV.mono {K : PySem.W.Frag} {H H' : Hp} (g : TK K H H') : ∀ {k : NestedKey} {v : V}, NkV K H k v → NkV K H' k v
  | .none, _, h => by simpa [NkV] using h
  | .num i, _, h => by simpa [NkV] using h
  | .text x, _, h => by simpa [NkV] using h
  | .tup ks, _, h => by
    unfold NkV at h ⊢
    obtain ⟨a, xs, e, h1, h2⟩ := h
    exact ⟨a, xs, e, g _ _ h1, NkAll.mono g h2⟩
theorem NkAll.mono {K : PySem.W.Frag} {H H' : Hp} (g : TK K H H') : ∀ {ks : List NestedKey} {xs : List V}, NkAll K H ks xs → NkAll K H' ks xs
  | [], [], _ => by unfold NkAll; trivial
  | [], _ :: _, h => by unfold NkAll at h; exact h.elim
  | _ :: _, [], h => by unfold NkAll at h; exact h.elim
  | k :: ks, x :: xs, h => by
    unfold NkAll at h ⊢
    exact ⟨NkV.mono g h.1, NkAll.mono g h.2⟩
end
mutual
theorem nk_raw {X : Cx} {pins : List (Addr × Obj)} {σ : L2.St} {H : Hp} {s : Shared} (I : Inv X pins σ H s) : ∀ {k : NestedKey} {v : V} {u : Value}, NkV X.K H k v → RelV v u → NestedIs s.heap k u
  | .none, v, u, h, r => by
    unfold NkV at h
    subst h
    obtain rfl : u = Value.none := r
    exact .none
  | .num i, v, u, h, r => by
    unfold NkV at h
    subst h
    obtain ⟨t, rfl⟩ := r
    exact .int i t
  | .text x, v, u, h, r => by
    unfold NkV at h
    subst h
    obtain ⟨t, rfl⟩ := r
    exact .text x t
  | .tup ks, v, u, h, r => by
    unfold NkV at h
    obtain ⟨a, xs, rfl, h1, h2⟩ := h
    obtain rfl : u = Value.ref a := r
    obtain ⟨its, rv, ⟨o, ho, hc, n, hd⟩, _⟩ := I.tuple h1
    exact .tup ho hc hd (by simpa using nk_raws I h2 rv)
theorem nk_raws {X : Cx} {pins : List (Addr × Obj)} {σ : L2.St} {H : Hp} {s : Shared} (I : Inv X pins σ H s) : ∀ {ks : List NestedKey} {xs : List V} {us : List Value}, NkAll X.K H ks xs → Vals xs us → NestedAll s.heap ks us
  | [], [], _, _, r => by
    cases r
    exact .nil
  | [], _ :: _, _, h, _ => by unfold NkAll at h; exact h.elim
  | _ :: _, [], _, h, _ => by unfold NkAll at h; exact h.elim
  | k :: ks, x :: xs, us, h, r => by
    unfold NkAll at h
    cases r with
    | cons r1 r2 => exact .cons (nk_raw I h.1 r1) (nk_raws I h.2 r2)
end
/-- entries: the key, where its tuple stands, the value -/
abbrev Ents := List (NestedKey × Addr × V)
def REnt : (NestedKey × Addr × V) → (NestedKey × Addr × Value) → Prop := fun p q => p.1 = q.1 ∧ p.2.1 = q.2.1 ∧ RelV p.2.2 q.2.2
def RawN (P : Program) (w : World) (d : Addr) (ys : Ents) (h : Heap) : Prop := ys.length ≤ sizeLine ∧ (d == sysModules) = false ∧ ∃ xs : List (NestedKey × Addr × Value), Paired REnt ys xs ∧ ∃ o es ep, h.get? d = some o ∧ o.ExactDict ∧ o.data = .dict es ep ∧ es.toList = xs.map (entryOfKey (nestedKind P w)) ∧ (xs.map (·.1)).Nodup
def NdO (P : Program) (w : World) (d : Addr) (ys : Ents) : HO := .ext (RawN P w d ys)
def KeysAll (K : PySem.W.Frag) (H : Hp) (ys : Ents) : Prop := ∀ y ∈ ys, NkV K H y.1 (.ref y.2.1) ∧ y.1.depth ≤ 8
/-- the dict at d -/
def NdAt (P : Program) (w : World) (K : PySem.W.Frag) (H : Hp) (d : Addr) (ys : Ents) : Prop := ((H d = some (.dT []) ∧ ys = []) ∨ H d = some (NdO P w d ys)) ∧ KeysAll K H ys
def valN (ys : Ents) (k : NestedKey) : Option V := (ys.find? fun y => decide (y.1 = k)).map (·.2.2)
def putN (ys : Ents) (k : NestedKey) (b : Addr) (v : V) : Ents := if (ys.find? fun y => decide (y.1 = k)).isSome = true then ys.map (fun y => if y.1 = k then (y.1, y.2.1, v) else y) else ys ++ [(k, b, v)]
theorem KeysAll.mono {K : PySem.W.Frag} {H H' : Hp} (g : TK K H H') {ys : Ents} (h : KeysAll K H ys) : KeysAll K H' ys := fun y hy => ⟨(h y hy).1.mono g, (h y hy).2⟩
theorem NdAt.same {P : Program} {w : World} {K : PySem.W.Frag} {H H' : Hp} {d : Addr} {ys : Ents} (g : Same H H') (h : NdAt P w K H d ys) : NdAt P w K H' d ys :=
  ⟨h.1.elim (fun z => .inl ⟨g _ _ z.1, z.2⟩) fun z => .inr (g _ _ z), h.2.mono (.of g)⟩
theorem raw_ok {P : Program} {w : World} {H : Hp} {h : Heap} {d : Addr} {ys : Ents} (r : RawN P w d ys h) : ObjOk P w H h d (NdO P w d ys) := by
  refine ⟨r, ?_, fun h1 h2 r1 k => ?_⟩
  · obtain ⟨_, _, _, _, o, _, _, ho, _⟩ := r
    exact ⟨o, ho⟩
  · obtain ⟨z, y, xs, p, o, es, ep, ho, q⟩ := r1
    exact ⟨z, y, xs, p, o, es, ep, k o ho, q⟩
theorem REnt.find {ys : Ents} {xs : List (NestedKey × Addr × Value)} (p : Paired REnt ys xs) (k : NestedKey) : (ys.find? fun y => decide (y.1 = k)).isSome = (atKey xs k).isSome ∧ RelO (valN ys k) ((atKey xs k).map (·.2)) := by
  induction p with
  | nil => exact ⟨rfl, trivial⟩
  | @cons y x ys xs h t ih =>
    obtain ⟨h1, h2, h3⟩ := h
    unfold valN at ih ⊢
    unfold atKey at ih ⊢
    by_cases e : y.1 = k
    · have e' : x.1 = k := h1.symm.trans e
      rw [List.find?_cons_of_pos (by simpa using e), List.find?_cons_of_pos (by simpa using e')]
      exact ⟨rfl, h3⟩
    · have e' : ¬ x.1 = k := fun z => e (h1.trans z)
      rw [List.find?_cons_of_neg (by simpa using e), List.find?_cons_of_neg (by simpa using e')]
      exact ih
section
variable {X : Cx} {pins : List (Addr × Obj)} {σ : L2.St} {H : Hp} {s : Shared}
theorem nd_raw (I : Inv X pins σ H s) {d : Addr} {ys : Ents} (h : NdAt X.prog X.w X.K H d ys) : ys.length ≤ sizeLine ∧ (d == sysModules) = false ∧ ∃ xs, Paired REnt ys xs ∧ s.heap.DictOfH (nestedKind X.prog X.w) d xs := by
  obtain ⟨h1, h2⟩ := h
  have r : RawN X.prog X.w d ys s.heap := by
    rcases h1 with ⟨h1, rfl⟩ | h1
    · obtain ⟨z, hd, xs0, r0, dd⟩ := dt_of I.hok h1
      cases r0
      obtain ⟨o, es, ep, a1, a2, a3, a4, _, _⟩ := dd
      exact ⟨Nat.zero_le _, hd, [], .nil, o, es, ep, a1, a2, a3, by simpa using a4, List.nodup_nil⟩
    · exact (I.hok d _ h1).1
  obtain ⟨z, y, xs, p, o, es, ep, a1, a2, a3, a4, a5⟩ := r
  refine ⟨z, y, xs, p, o, es, ep, a1, a2, a3, a4, ?_, a5⟩
  have all : ∀ {l : Ents} {m : List (NestedKey × Addr × Value)}, Paired REnt l m → KeysAll X.K H l → ∀ x ∈ m, (nestedKind X.prog X.w).is s.heap x.1 x.2.1 := by
    intro l m q
    induction q with
    | nil => intro _ x hx; cases hx
    | @cons y' x' ps qs hq t ih =>
      intro ka x hx
      rcases List.mem_cons.mp hx with e | hx
      · subst e
        obtain ⟨c1, c2⟩ := ka y' (List.mem_cons_self ..)
        obtain ⟨q1, q2, _⟩ := hq
        rw [← q1, ← q2]
        exact ⟨nk_raw I c1 rfl, c2⟩
      · exact ih (fun y hy => ka y (List.mem_cons_of_mem _ hy)) x hx
  exact all p h2
theorem key_is (I : Inv X pins σ H s) {k : NestedKey} {b : Addr} (h : NkV X.K H k (.ref b)) (hd : k.depth ≤ 8) : (nestedKind X.prog X.w).is s.heap k b := ⟨nk_raw I h rfl, hd⟩
/-- k in d -/
theorem op_in_nd (hu : X.A.units + 9 < cLine) : OpR X (compareOp .In) (fun x y H Q => ∃ (b d : Addr) (k : NestedKey) (ys : Ents), x = .ref b ∧ y = .ref d ∧ NdAt X.prog X.w X.K H d ys ∧ NkV X.K H k (.ref b) ∧ k.depth ≤ 8 ∧ Q (.bl (valN ys k).isSome) H) := by
  intro pins s σ H x y v u Q I rx ry h
  obtain ⟨b, d, k, ys, rfl, rfl, hn, hk, hd8, q⟩ := h
  cases rx
  cases ry
  obtain ⟨z, hd, xs, p, dd⟩ := nd_raw I hn
  refine wpAny_in_heap (show (nestedKind X.prog X.w).room X.A.in1 from by show X.A.in1.units + 8 < cLine; show X.A.units + 1 + 8 < cLine; omega) (key_is I hk hd8) hd dd ?_
  have e : (valN ys k).isSome = (atKey xs k).isSome := by
    rw [← (REnt.find p k).1]
    unfold valN
    rw [Option.isSome_map]
  rw [← e]
  exact ⟨.bl (valN ys k).isSome, H, I.tok _, rfl, q⟩
/-- d[k] -/
def rIxN (P : Program) (w : World) (K : PySem.W.Frag) : R2 := fun x y H Q => ∃ (b d : Addr) (k : NestedKey) (ys : Ents) (v : V), x = .ref d ∧ y = .ref b ∧ NdAt P w K H d ys ∧ NkV K H k (.ref b) ∧ k.depth ≤ 8 ∧ valN ys k = some v ∧ Q v H
end
section
variable {X : Cx}
theorem ix_nd (hu : X.A.units + 9 < cLine) : IxR X (rIxN X.prog X.w X.K) := by
  intro value slice pins s σ H x y v u Q I rx ry h hs
  obtain ⟨b, d, k, ys, r, rfl, rfl, hn, hk, hd8, ev, q⟩ := h
  obtain rfl : v = Value.ref d := rx
  obtain rfl : u = Value.ref b := ry
  obtain ⟨z, hd, xs, p, dd⟩ := nd_raw I hn
  have rel := (REnt.find p k).2
  rw [ev] at rel
  cases em : atKey xs k with
  | none => rw [em] at rel; exact rel.elim
  | some c =>
    rw [em] at rel
    refine tail_any dd.typeIs slot_dict_getitem.lookup (wpAny_getItem_heap (show (nestedKind X.prog X.w).room X.A.in1 from by show X.A.units + 1 + 8 < cLine; omega) (key_is I hk hd8) dd em ?_) hs
    exact ⟨r, H, I.tok _, rel, q⟩
theorem paired_put {ys : Ents} {xs : List (NestedKey × Addr × Value)} (p : Paired REnt ys xs) (k : NestedKey) {b : Addr} {v : V} {u : Value} (r : RelV v u) : Paired REnt (putN ys k b v) (storedH xs k b u) := by
  have e := (REnt.find p k).1
  unfold putN storedH
  rw [e]
  by_cases c : (atKey xs k).isSome = true
  · rw [if_pos c, if_pos c]
    clear e c
    induction p with
    | nil => exact .nil
    | @cons y x ys xs h t ih =>
      rw [List.map_cons, List.map_cons]
      refine .cons ?_ ih
      obtain ⟨h1, h2, h3⟩ := h
      unfold putAt
      by_cases z : y.1 = k
      · rw [if_pos z, if_pos (h1.symm.trans z)]
        exact ⟨h1, h2, r⟩
      · rw [if_neg z, if_neg (fun q => z (h1.trans q))]
        exact ⟨h1, h2, h3⟩
  · rw [if_neg c, if_neg c]
    exact Paired.snoc p ⟨rfl, rfl, r⟩
theorem putN_len (ys : Ents) (k : NestedKey) (b : Addr) (v : V) : (putN ys k b v).length ≤ ys.length + 1 := by
  unfold putN
  split
  · rw [List.length_map]; omega
  · rw [List.length_append]; exact Nat.le_refl _
theorem KeysAll.put {K : PySem.W.Frag} {H : Hp} {ys : Ents} {k : NestedKey} {b : Addr} {v : V} (h : KeysAll K H ys) (hk : NkV K H k (.ref b)) (hd : k.depth ≤ 8) : KeysAll K H (putN ys k b v) := by
  unfold putN
  split
  · intro y hy
    obtain ⟨y0, hy0, rfl⟩ := List.mem_map.mp hy
    split <;> exact h y0 hy0
  · intro y hy
    rcases List.mem_append.mp hy with hy | hy
    · exact h y hy
    · rw [List.mem_singleton.mp hy]
      exact ⟨hk, hd⟩
/-- the heap behind the put -/
def NPut (P : Program) (w : World) (K : PySem.W.Frag) (H : Hp) (D : Addr) (y v : V) (H' : Hp) : Prop := ∃ (b : Addr) (k : NestedKey) (ys : Ents), y = .ref b ∧ NdAt P w K H D ys ∧ NkV K H k (.ref b) ∧ k.depth ≤ 8 ∧ ys.length < sizeLine ∧ H' = upd H D (NdO P w D (putN ys k b v))
theorem put_okN {pins : List (Addr × Obj)} {σ : L2.St} {H H' : Hp} {s : Shared} {E : Value → Shared → Prop} {D : Addr} {y v : V} {u r : Value} {Q : Unit → Shared → Prop} (hu : X.A.units + 8 < cLine) (I : Inv X pins σ H s) (g : NPut X.prog X.w X.K H D y v H')
    (ry : RelV y u) (rv : RelV v r) (h : ∀ s', Inv X pins σ H' s' → Q () s') : wpAny (model X.prog X.w) X.A (dictSet D u r) Q E s := by
  obtain ⟨b, k, ys, rfl, hn, hk, hd8, few, rfl⟩ := g
  cases (show u = Value.ref b from ry)
  obtain ⟨z, hd, xs, p, dd⟩ := nd_raw I hn
  have small : xs.length ≤ sizeLine := by rw [← Paired.length p]; exact z
  refine wpAny_dictSet_heap (hsz := small) (show (nestedKind X.prog X.w).room X.A from hu) (key_is I hk hd8) dd fun h2 dd2 sb => h _ ?_
  obtain ⟨q, es, ep, hq, a2, a3, a4, _, a5⟩ := dd2
  have mu : Mut (H D) := by
    rcases hn.1 with ⟨e, _⟩ | e <;> rw [e] <;> exact True.intro
  refine d_write I mu sb ⟨q, hq⟩ (raw_ok ⟨?_, hd, _, paired_put p k rv, q, es, ep, hq, a2, a3, a4, a5⟩)
  have := putN_len ys k b v
  omega
end
end NdX
/-! sorted(xs) of alike data: tuples in tuples -/
namespace L2
open PySem PySem.Spec PyProof.Rows PySem.W
theorem dataLe_pw {β : Type} (k : β → PyData) (bs : List β) : (bs.mergeSort (dataLe false k)).Pairwise (fun a b => dataLt (k b) (k a) = false) := by
  have h := List.pairwise_mergeSort (le := dataLe false k) (fun a b c h1 h2 => ?_) (fun a b => ?_) bs
  · refine h.imp fun {a b} z => ?_
    have z : (!dataLt (k b) (k a)) = true := z
    simpa using z
  · have h1 : (!dataLt (k b) (k a)) = true := h1
    have h2 : (!dataLt (k c) (k b)) = true := h2
    show (!dataLt (k c) (k a)) = true
    rw [Bool.not_eq_true'] at h1 h2 ⊢
    cases e : dataLt (k c) (k a) with
    | false => rfl
    | true =>
      rcases lex_negTrans (O := itemOrd) _ (keyToks (k b)) _ e with z | z
      · exact absurd (z.symm.trans h2) (by decide)
      · exact absurd (z.symm.trans h1) (by decide)
  · show ((!dataLt (k b) (k a)) || (!dataLt (k a) (k b))) = true
    cases e : dataLt (k b) (k a) with
    | false => rfl
    | true =>
      cases e2 : dataLt (k a) (k b) with
      | false => rfl
      | true =>
        have z := lex_trans (O := itemOrd) _ _ _ e e2
        rw [lex_irrefl] at z
        cases z
def rSortDt (K : PySem.W.Frag) : List V → Hp → VK → Prop := fun vs H Q => ∃ (a : Addr) (β : Type) (bs : List β) (va : β → V) (da : β → PyData), vs = [.ref a] ∧ SqL K H a (bs.map va) ∧ (∀ b ∈ bs, Dp K H (va b) (da b)) ∧ AllAlike (bs.map da) ∧ PySem.W.Sortable (bs.map da) ∧ (∀ b ∈ bs, (da b).depth ≤ 4) ∧
  ∀ (cs : List β) (p : Addr), cs.Perm bs → cs.Pairwise (fun b c => dataLt (da c) (da b) = false) → H p = none → Q (.ref p) (upd H p (.lst (cs.map va)))
theorem each_vals {β : Type} {va : β → V} {bs : List β} {its : List Value} (r : Vals (bs.map va) its) : EachIs (fun v (b : β) => RelV (va b) v) its bs := by
  induction bs generalizing its with
  | nil => cases r; exact .nil
  | cons b bs ih =>
    rw [List.map_cons] at r
    cases r with
    | cons h t => exact .cons h (ih t)
theorem vals_each {β : Type} {va : β → V} {bs : List β} {its : List Value} (e : EachIs (fun v (b : β) => RelV (va b) v) its bs) : Vals (bs.map va) its := by
  induction e with
  | nil => exact .nil
  | cons h _ ih => exact .cons h ih
theorem each_and {α β : Type} {R S : α → β → Prop} {as : List α} {bs : List β} (e : EachIs R as bs) (h : ∀ a b, b ∈ bs → R a b → S a b) : EachIs S as bs := by
  induction e with
  | nil => exact .nil
  | cons h0 _ ih => exact .cons (h _ _ (List.mem_cons_self ..) h0) (ih fun a b hb => h a b (List.mem_cons_of_mem _ hb))
section
variable {X : Cx}
theorem cr_sortedDt (hu : X.A.units + 12 < cLine) : CallR X (.builtin "sorted") (rSortDt X.K) := by
  intro pins s σ H vs us Q I r h
  obtain ⟨a, β, bs, va, da, rfl, hs, hd, hal, hk, hdp, q⟩ := h
  obtain ⟨its, rv, hl, hz⟩ := I.list hs
  rw [Vals.ref1 r]
  have e0 := each_vals rv
  have hL : its.length ≤ sizeLine := by rw [← rv.length]; exact hz
  have old : ∀ b o, s.heap.get? b = some o → (sortingHeap (copyHeap s.heap its) (s.heap.objs.size + 1) its).get? b = some o := fun b o e => sortingHeap_old (Nat.ne_of_lt (Nat.lt_succ_of_lt (Heap.lt_size e))) (copyHeap_old e)
  have J : Inv X pins σ H { s with heap := sortingHeap (copyHeap s.heap its) (s.heap.objs.size + 1) its } := I.kept (t' := s.toks) old
  have er : EachIs (fun v (b : β) => ∃ as, Reads (sortingHeap (copyHeap s.heap its) (s.heap.objs.size + 1) its) v (da b) as) its bs := each_and e0 fun v b hb hr => Dp.reads J (da b) (va b) v (hd b hb) hr
  refine sorted_vals hl.isList (SortsAt.data (each_map (R := fun v d => ∃ as, Reads (sortingHeap (copyHeap s.heap its) (s.heap.objs.size + 1) its) v d as) da er) hal hk (fun d hm => ?_)) hL ?_
  · obtain ⟨b, hb, rfl⟩ := List.mem_map.mp hm
    have := hdp b hb
    show X.A.units + 1 + 1 + (da b).depth < cLine
    omega
  · have es := sortVals_data false e0 er hal
    generalize sortVals (dataKind (sortingHeap (copyHeap s.heap its) (s.heap.objs.size + 1) its) (bs.map da)) false its its = out at es
    have rs := vals_each es
    obtain ⟨ep, he'⟩ := PyProof.Rows.sortedAll_at s.heap its out.toArray
    have pm := List.mergeSort_perm bs (dataLe false da)
    have hlen : ((bs.mergeSort (dataLe false da)).map va).length ≤ sizeLine := by
      rw [List.length_map, pm.length_eq]
      rw [List.length_map] at hz
      exact hz
    exact ⟨.ref _, upd H (s.heap.objs.size + 1) (.lst ((bs.mergeSort (dataLe false da)).map va)), I.laid (t' := s.toks) (fun _ _ => PyProof.Rows.sortedAll_old) (Nat.le_succ _) ⟨hlen, out, ep, rs, he'⟩, rfl, q _ _ pm (dataLe_pw _ _) (I.hok.fresh (Nat.le_succ _))⟩
end
end L2
/-! sets whose members are keys of some kind (tuples in tuples): what stands, a member looked up, a member added -/
namespace NsX
open PySem PySem.Spec PyProof.Rows L2
section
variable {P : Program} {w : World} {κ : Type} [DecidableEq κ]
/-- what a set asks of its members beyond what a dict asks -/
structure SetKind (kd : HeapKind P w κ) : Prop where
  st : kd.Stays
  byVal : ∀ {A : Around} {E : Value → Shared → Prop} {s : Shared} {k : κ} {b : Addr} {Q : Bool → Shared → Prop}, kd.is s.heap k b → (∀ r, Q r s) → wpAny (model P w) A (hashByValue 8 (.ref b)) Q E s
  noCls : ∀ {A : Around} {E : Value → Shared → Prop} {s : Shared} {k : κ} {b : Addr} {Q : Bool → Shared → Prop}, kd.is s.heap k b → Q false s → wpAny (model P w) A (ofAClassStatement 8 (.ref b)) Q E s
abbrev Mem (κ : Type) := Addr × κ
def rws (kd : HeapKind P w κ) (M : List (Mem κ)) : List (Int × Value) := M.map fun m => (kd.hash m.2, Value.ref m.1)
abbrev hsh (kd : HeapKind P w κ) (M : List (Mem κ)) : List Int := M.map fun m => kd.hash m.2
/-- the set at a holds the members M, in its table's order -/
structure NSet (kd : HeapKind P w κ) (h : Heap) (a : Addr) (M : List (Mem κ)) (es : Array (Int × Value)) (ep : Nat) (t : SetTable) : Prop where
  obj : ∃ o, h.get? a = some o ∧ o.ExactSet ∧ o.data = .set es ep t
  row : es.toList = rws kd M
  tab : TabOk t (hsh kd M)
  nod : (M.map (·.2)).Nodup
  mem : ∀ m ∈ M, kd.is h m.2 m.1
  led : w.params.followText "set-order" = true ∨ t.led = true
  rom : M.length * 5 < t.mask * 3
  few : M.length < 64
variable {kd : HeapKind P w κ} {A : Around} {E : Value → Shared → Prop} {s : Shared} {a : Addr} {M : List (Mem κ)} {es : Array (Int × Value)} {ep : Nat} {t : SetTable}
theorem rws_len (kd : HeapKind P w κ) (M : List (Mem κ)) : (rws kd M).length = M.length := List.length_map _
theorem size_rws {es : Array (Int × Value)} {M : List (Mem κ)} (h : es.toList = rws kd M) : es.size = M.length := by
  rw [← rws_len kd M, ← h, Array.length_toList]
theorem NSet.sz (N : NSet kd s.heap a M es ep t) : es.size = M.length := size_rws N.row
theorem NSet.fit (N : NSet kd s.heap a M es ep t) : t.fits es.size = true := by
  have z1 := N.tab.sz
  have z2 := N.sz
  have z3 := N.rom
  rw [List.length_map] at z1
  unfold SetTable.fits SetTable.fill
  rw [N.tab.dm]
  simp only [Bool.and_eq_true, beq_iff_eq, decide_eq_true_eq, Array.size_empty]
  omega
theorem NSet.at (N : NSet kd s.heap a M es ep t) {i : Nat} {m : Mem κ} (e : M[i]? = some m) : es[i]? = some (kd.hash m.2, Value.ref m.1) := by
  rw [← Array.getElem?_toList, N.row]
  show (M.map _)[i]? = _
  rw [List.getElem?_map, e]
  rfl
theorem NSet.way (N : NSet kd s.heap a M es ep t) : t.gaveWay = false := by
  unfold SetTable.gaveWay
  rw [mask_odd N.tab.mok]
  rfl
/-- looking among members shows nothing -/
theorem unseen (S : SetKind kd) {k : κ} {b : Addr} {Q : Bool → Shared → Prop} (hk : kd.is s.heap k b) {ys : List Value} (hys : ∀ y ∈ ys, ∃ k' c, y = Value.ref c ∧ kd.is s.heap k' c) (q : Q false s) :
    wpAny (model P w) A (searchCouldBeSeen (.ref b) ys) Q E s := by
  unfold searchCouldBeSeen
  refine wpAny_bind (wpAny_forIn_list _ (fun left r s1 => r.1 = none ∧ s1 = s ∧ ∀ y ∈ left, ∃ k' c, y = Value.ref c ∧ kd.is s.heap k' c) _ ?_ ?_ _ _ ⟨rfl, rfl, hys⟩)
  · rintro y left r s1 ⟨hr, rfl, all⟩
    obtain ⟨k', c, rfl, hc⟩ := all y (List.mem_cons_self ..)
    have left' : ∀ z ∈ left, ∃ k' c, z = Value.ref c ∧ kd.is s1.heap k' c := fun z hz => all z (List.mem_cons_of_mem _ hz)
    dsimp only
    by_cases g : (b == c || (carriedByValue (.ref b) && carriedByValue (.ref c))) = true
    · exact wp_if_pos g (wpAny_pure ⟨rfl, rfl, left'⟩)
    · refine wp_if_neg g (wpAny_bind (kd.quiet hk ?_))
      simp only [Bool.not_true, Bool.false_eq_true, if_false]
      refine wpAny_bind (kd.quiet hc ?_)
      simp only [Bool.not_true, Bool.false_eq_true, if_false]
      refine wpAny_bind (S.noCls hk ?_)
      simp only [Bool.false_eq_true, if_false]
      refine wpAny_bind (S.noCls hc ?_)
      simp only [Bool.false_eq_true, if_false]
      exact wpAny_pure ⟨rfl, rfl, left'⟩
  · rintro ⟨r1, r2⟩ s1 ⟨hr, rfl, _⟩
    cases hr
    exact wpAny_pure q
/-- the probe after so many steps -/
abbrev stp (t : SetTable) (h : Int) (c : Nat) : SetTable.Probe := nth t.mask (runAt t.mask (SetTable.bits h % (t.mask + 1)) (SetTable.bits h)) c
theorem stp_add (t : SetTable) (h : Int) (c q : Nat) : nth t.mask (stp t h c) q = stp t h (c + q) := (nth_add t.mask c _ q).symm
theorem stp_dummy (t : SetTable) (h : Int) : ∀ c, (stp t h c).dummy = none
  | 0 => rfl
  | c + 1 => by
    have z := stp_dummy t h c
    show (nth t.mask _ (c + 1)).dummy = none
    rw [nth_succ]
    unfold adv
    split <;> exact z
theorem way_stp (t : SetTable) (h : Int) (c : Nat) : (stp t h c).j = way t.mask h c := rfl
/-- the search for a member, c steps on its way; K is the first free slot of the way -/
theorem look (S : SetKind kd) (N : NSet kd s.heap a M es ep t) {x : Addr} {k : κ} (hx : kd.is s.heap k x) (hu : kd.room A) {K : Nat} (hK0 : K < 10 * SetTable.turns t.mask)
    (hK1 : way t.mask (kd.hash k) K ∉ t.place.toList) (hK2 : ∀ c, c < K → way t.mask (kd.hash k) c ∈ t.place.toList) {Q : SetFound → Shared → Prop}
    (yes : k ∈ M.map (·.2) → Q (.there none) s) (no : k ∉ M.map (·.2) → Q (.free (way t.mask (kd.hash k) K) false) s) :
    ∀ (fuel c : Nat) (from_ : Option SetTable.Probe), from_.getD (t.probeStart (kd.hash k)) = stp t (kd.hash k) c → c ≤ K → K - c < fuel →
      (∀ (i : Nat) (m : Mem κ), M[i]? = some m → m.2 = k → ∃ c', c ≤ c' ∧ c' < K ∧ t.place.toList[i]? = some (way t.mask (kd.hash k) c')) →
      wpAny (model P w) A (setSearchFrom a (.ref x) (kd.hash k) true fuel from_) Q E s
  | 0, c, from_, _, _, hf, _ => absurd hf (Nat.not_lt_zero _)
  | fuel + 1, c, from_, hst, hc, hf, ahead => by
    obtain ⟨o, ob, ox, od⟩ := N.obj
    rw [setSearchFrom_succ]
    refine wpAny_bind (wpAny_setState_of ob od N.fit ?_)
    dsimp only
    refine wp_if_neg (by rw [N.way]; decide) ?_
    try refine wpAny_bind (wpAny_pure ?_)
    have hj : ∀ q, (nth t.mask (stp t (kd.hash k) c) q).j = way t.mask (kd.hash k) (c + q) := fun q => by rw [stp_add]
    have hat : ∀ (i : Nat) (m : Mem κ), M[i]? = some m → (fun i => (es[i]?.map (·.1)).getD 0) i = kd.hash m.2 := fun i m e => by
      show (es[i]?.map (·.1)).getD 0 = _
      rw [N.at e]
      rfl
    have spec := go_spec t N.tab.ris N.tab.dm (fun i => (es[i]?.map (·.1)).getD 0) (kd.hash k) (10 * SetTable.turns t.mask) (K - c) (stp t (kd.hash k) c) (stp_dummy _ _ _) (by omega)
      (fun q hq => by rw [hj]; exact hK2 (c + q) (by omega)) (by rw [hj, Nat.add_sub_cancel' hc]; exact hK1)
    rcases spec with ⟨q, i, hq, hi, hh, pass, met⟩ | ⟨pass, met⟩
    · have met' : t.probe (fun i => (es[i]?.map (·.1)).getD 0) (kd.hash k) (from_.getD (t.probeStart (kd.hash k))) = some (.candidate (way t.mask (kd.hash k) (c + q)) i (stp t (kd.hash k) (c + (q + 1)))) := by
        rw [hst, ← hj, ← stp_add]
        exact met
      rw [met']
      dsimp only
      rw [hj] at hi
      have hl : i < M.length := by
        have z := N.tab.sz
        have z2 := (List.getElem?_eq_some_iff.mp hi).1
        rw [List.length_map] at z
        rw [Array.length_toList] at z2
        omega
      have em : M[i]? = some M[i] := List.getElem?_eq_getElem hl
      generalize M[i] = m at em
      have mM := List.mem_of_getElem? em
      have go : wpAny (model P w) A (searchRest a (.ref x) (kd.hash k) true fuel es t (way t.mask (kd.hash k) (c + q)) i (stp t (kd.hash k) (c + (q + 1)))) Q E s := by
        unfold searchRest
        rw [N.at em]
        dsimp only
        refine wpAny_bind (wpAny_holding (kd.eqBool hu (N.mem m mM) hx ?_))
        refine wpAny_bind (wpAny_setState_of ob od N.fit ?_)
        dsimp only
        by_cases same : m.2 = k
        · exact wp_if_pos (by simp [same]) (wpAny_pure (yes (List.mem_map.mpr ⟨m, mM, same⟩)))
        · refine wp_if_neg (by simp [same]) ?_
          try refine wpAny_bind (wpAny_pure ?_)
          rw [sameMem]
          dsimp only
          have live : t.slot (way t.mask (kd.hash k) (c + q)) = .live i := slot_live N.tab.ris hi
          simp only [if_true, live, N.at em]
          refine wpAny_bind (wpAny_isSame_ref_self (wpAny_bind (wpAny_pure ?_)))
          simp only [if_true]
          refine wp_if_neg (by simp [same]) ?_
          refine look S N hx hu hK0 hK1 hK2 yes no fuel (c + (q + 1)) _ rfl (by omega) (by omega) fun i0 m0 e0 k0 => ?_
          obtain ⟨c', y1, y2, y3⟩ := ahead i0 m0 e0 k0
          refine ⟨c', Decidable.byContradiction fun (le : ¬ (c + (q + 1) ≤ c')) => ?_, y2, y3⟩
          by_cases lt : c' < c + q
          · exact pass (c' - c) i0 (by omega) (by rw [hj, Nat.add_sub_cancel' y1]; exact y3) ((hat i0 m0 e0).trans (congrArg kd.hash k0))
          · have ec : c' = c + q := by omega
            rw [ec] at y3
            have l0 := slot_live N.tab.ris y3
            rw [live] at l0
            cases l0
            rw [em] at e0
            cases e0
            exact same k0
      by_cases hl : t.led = true
      · refine wp_if_neg (by simp [hl]) ?_
        try refine wpAny_bind (wpAny_pure ?_)
        exact go
      · refine wp_if_pos (by simp [hl]) (wpAny_bind (unseen S hx (fun y hy => ?_) ?_))
        · obtain ⟨e, he, rfl⟩ := List.mem_map.mp hy
          have he' : e ∈ es.toList := by
            have z : e ∈ es ∧ e.1 = kd.hash k := by simpa using he
            simpa using z.1
          rw [N.row] at he'
          obtain ⟨m2, hm2, rfl⟩ := List.mem_map.mp he'
          exact ⟨m2.2, m2.1, rfl, N.mem m2 hm2⟩
        · refine wp_if_neg (by decide) ?_
          try refine wpAny_bind (wpAny_pure ?_)
          exact go
    · have met' : t.probe (fun i => (es[i]?.map (·.1)).getD 0) (kd.hash k) (from_.getD (t.probeStart (kd.hash k))) = some (.empty (way t.mask (kd.hash k) K) none) := by
        have ew : way t.mask (kd.hash k) K = (nth t.mask (stp t (kd.hash k) c) (K - c)).j := by rw [hj, Nat.add_sub_cancel' hc]
        rw [hst, ew]
        exact met
      rw [met']
      dsimp only
      refine wpAny_pure (no fun hm => ?_)
      obtain ⟨m0, hm0, k0⟩ := List.mem_map.mp hm
      obtain ⟨i0, hi0, e0⟩ := List.getElem_of_mem hm0
      have e1 : M[i0]? = some m0 := by rw [List.getElem?_eq_getElem hi0, e0]
      obtain ⟨c', y1, y2, y3⟩ := ahead i0 m0 e1 k0
      exact pass (c' - c) i0 (by omega) (by rw [hj, Nat.add_sub_cancel' y1]; exact y3) ((hat i0 m0 e1).trans (congrArg kd.hash k0))
theorem look_all (S : SetKind kd) (N : NSet kd s.heap a M es ep t) {x : Addr} {k : κ} (hx : kd.is s.heap k x) (hu : kd.room A) {Q : SetFound → Shared → Prop} (yes : k ∈ M.map (·.2) → Q (.there none) s)
    (no : ∀ K, k ∉ M.map (·.2) → way t.mask (kd.hash k) K ∉ t.place.toList → (∀ c, c < K → way t.mask (kd.hash k) c ∈ t.place.toList) → Q (.free (way t.mask (kd.hash k) K) false) s) :
    wpAny (model P w) A (setSearch a (.ref x) (kd.hash k) true) Q E s := by
  have rom := N.rom
  obtain ⟨K, hK0, hK1, hK2⟩ := N.tab.first (by rw [List.length_map]; omega) (kd.hash k)
  have top : 10 * SetTable.turns t.mask ≤ 1420 := by
    unfold SetTable.turns
    rcases N.tab.mok with e | e | e <;> omega
  unfold setSearch
  refine look S N hx hu hK0 hK1 hK2 yes (fun nm => no K nm hK1 hK2) 100000 0 none rfl (Nat.zero_le _) (by omega) fun i m e ek => ?_
  have hi : (hsh kd M)[i]? = some (kd.hash k) := by
    rw [List.getElem?_map, e, ← ek]
    rfl
  have hp : i < t.place.toList.length := by
    have z1 := (List.getElem?_eq_some_iff.mp e).1
    have z2 := N.tab.sz
    rw [List.length_map] at z2
    rw [Array.length_toList]
    omega
  have ep := List.getElem?_eq_getElem hp
  obtain ⟨c, hc, ec⟩ := N.tab.before hK1 hi ep
  exact ⟨c, Nat.zero_le _, hc, by rw [ep, ec]⟩
/-! adding -/
theorem is_same (S : SetKind kd) {h h' : Heap} {k : κ} {b : Addr} {o : Obj} (hb : kd.is h k b) (ob : h.get? a = some o) (od : o.data = .set es ep t) (sb : Heap.SameBut a h h') : kd.is h' k b :=
  S.st.stays (fun c o' vs n hc hd => (sb.2 c fun e => by
    rw [e, ob] at hc
    cases hc
    rw [od] at hd
    cases hd).trans hc) hb
theorem rws_ins (M : List (Mem κ)) (p : Nat) (m : Mem κ) : rws kd (M.take p ++ m :: M.drop p) = (rws kd M).take p ++ (kd.hash m.2, Value.ref m.1) :: (rws kd M).drop p := by
  show (M.take p ++ m :: M.drop p).map _ = (M.map _).take p ++ _ :: (M.map _).drop p
  rw [List.map_append, List.map_cons, List.map_take, List.map_drop]
theorem ins_perm {α : Type} (M : List α) (p : Nat) (m : α) : (M.take p ++ m :: M.drop p).Perm (m :: M) :=
  (List.perm_middle).trans (by rw [List.take_append_drop])
/-- the rows in another order -/
theorem reorder {es : Array (Int × Value)} {M : List (Mem κ)} (hr : es.toList = rws kd M) : ∀ {js : List Nat}, (∀ j ∈ js, j < M.length) →
    js.filterMap (fun j => es[j]?) = rws kd (js.filterMap fun j => M[j]?) ∧ hsh kd (js.filterMap fun j => M[j]?) = js.map fun j => (es.map (·.1)).getD j 0
  | [], _ => ⟨rfl, rfl⟩
  | j :: js, h => by
    obtain ⟨r1, r2⟩ := reorder hr (js := js) fun i hi => h i (List.mem_cons_of_mem _ hi)
    have hj := h j (List.mem_cons_self ..)
    have em : M[j]? = some M[j] := List.getElem?_eq_getElem hj
    generalize M[j] = m at em
    have ee : es[j]? = some (kd.hash m.2, Value.ref m.1) := by
      rw [← Array.getElem?_toList, hr]
      show (M.map _)[j]? = _
      rw [List.getElem?_map, em]
      rfl
    have eh : (es.map (·.1)).getD j 0 = kd.hash m.2 := by
      rw [Array.getD_eq_getD_getElem?, Array.getElem?_map, ee]
      rfl
    rw [List.filterMap_cons_some ee, List.filterMap_cons_some em, r1, List.map_cons, eh, ← r2]
    exact ⟨rfl, rfl⟩
theorem take_all {α : Type} (M : List α) : ∀ n, n ≤ M.length → (List.range n).filterMap (fun i => M[i]?) = M.take n
  | 0, _ => rfl
  | n + 1, h => by
    have e := List.getElem?_eq_getElem (l := M) (i := n) h
    rw [List.range_succ, List.filterMap_append, take_all M n (Nat.le_of_succ_le h), List.take_succ, List.filterMap_cons_some e, List.filterMap_nil, e]
    rfl
/-- the table laid anew -/
theorem relaid_set (S : SetKind kd) {o : Obj} (ob : s.heap.get? a = some o) (ox : o.ExactSet) (od : o.data = .set es ep t) (hr : es.toList = rws kd M) (hps : t.place.size = es.size) (hdm : t.dummies = #[]) (hle : es.size ≤ t.mask)
    (nod : (M.map (·.2)).Nodup) (mem : ∀ m ∈ M, kd.is s.heap m.2 m.1) (led : w.params.followText "set-order" = true ∨ t.led = true) (few : M.length < 64) {want B : Nat}
    (hw : SetTable.sizeAbove want - 1 = B) (hB : MaskOk B) (hw2 : SetTable.sizeAbove want ≤ 128) (rom : M.length * 5 < B * 3) {Q : Unit → Shared → Prop}
    (q : ∀ h' M' es' ep' t', Heap.SameBut a s.heap h' → NSet kd h' a M' es' ep' t' → M'.Perm M → Q () { s with heap := h' }) : wpAny (model P w) A (setRelay a want) Q E s := by
  have esz := size_rws hr
  have fit : t.fits es.size = true := by
    unfold SetTable.fits SetTable.fill
    rw [hdm]
    simp only [Bool.and_eq_true, beq_iff_eq, decide_eq_true_eq, Array.size_empty]
    omega
  obtain ⟨t', order, e, pr, T, em, el, ep', ed⟩ := relaid_ok t (hs := es.map (·.1)) (wanted := want) hw hB (by rw [Array.size_map, esz]; omega)
  rw [Array.size_map, esz] at pr
  obtain ⟨r1, r2⟩ := reorder hr (js := order.toList) fun j hj => List.mem_range.mp (pr.mem_iff.mp hj)
  have pm : (order.toList.filterMap fun j => M[j]?).Perm M := by
    have z := pr.filterMap fun j => M[j]?
    rwa [take_all M M.length (Nat.le_refl _), List.take_length] at z
  generalize order.toList.filterMap (fun j => M[j]?) = M' at r1 r2 pm
  have r1' : (order.filterMap (es[·]?)).toList = rws kd M' := by rw [Array.toList_filterMap]; exact r1
  rw [← r2] at T
  have s2 : (order.filterMap (es[·]?)).size = es.size := by rw [size_rws r1', pm.length_eq, esz]
  rw [setRelay_eq]
  refine wpAny_bind (wpAny_setState_of ob od fit ?_)
  dsimp only
  refine wp_if_neg (by rw [sizeLine_eq]; omega) ?_
  try refine wpAny_bind (wpAny_pure ?_)
  rw [e]
  dsimp only
  refine wpAny_bind (wp_if_neg (by rw [s2]; simp) ?_)
  try refine wpAny_bind (wpAny_pure ?_)
  refine wpAny_pure ?_
  dsimp only
  refine wpAny_storeSet_of ob od ?_ (by rw [s2, esz, sizeLine_eq]; omega)
  have sb : Heap.SameBut a s.heap (s.heap.update a (Obj.putSet (order.filterMap (es[·]?)) t')) := Heap.SameBut.update ..
  exact q _ M' (order.filterMap (es[·]?)) (ep + 1) t' sb ⟨⟨_, store_at ob od, ⟨ox.1, ox.2.1, ox.2.2⟩, rfl⟩, r1', T, (pm.map (·.2)).nodup_iff.mpr nod, fun m hm => is_same S (mem m (pm.mem_iff.mp hm)) ob od sb, by rw [el]; exact led, by rw [pm.length_eq, em]; exact rom, by rw [pm.length_eq]; exact few⟩ pm
theorem add_mem (S : SetKind kd) (N : NSet kd s.heap a M es ep t) {x : Addr} {k : κ} (hx : kd.is s.heap k x) (hu : kd.room A) (h64 : M.length + 1 < 64) {Q : Bool → Shared → Prop}
    (q : ∀ b h' M' es' ep' t', Heap.SameBut a s.heap h' → NSet kd h' a M' es' ep' t' → (k ∈ M.map (·.2) → M' = M) → (k ∉ M.map (·.2) → M'.Perm ((x, k) :: M)) → Q b { s with heap := h' }) :
    wpAny (model P w) A (setAddHashed a (.ref x) (kd.hash k)) Q E s := by
  obtain ⟨o, ob, ox, od⟩ := N.obj
  have esz := N.sz
  have rom := N.rom
  unfold setAddHashed
  refine wpAny_holding ?_
  rw [show (100000 : Nat) = 99999 + 1 from rfl, setAddHashedIn_succ]
  refine wpAny_bind (wpAny_setState_of ob od N.fit ?_)
  dsimp only
  refine wp_if_neg (by simp [byScan, Value.scannable]) ?_
  try refine wpAny_bind (wpAny_pure ?_)
  refine wpAny_bind (look_all S N hx hu (fun hm => ?_) fun K hm hK hb => ?_)
  · dsimp only
    exact wpAny_pure (q false s.heap M es ep t (Heap.SameBut.refl a s.heap) N (fun _ => rfl) fun z => absurd hm z)
  dsimp only
  refine wpAny_bind (wpAny_setState_of ob od N.fit ?_)
  dsimp only
  obtain ⟨q1, q2, q3, q4, q5, q6, q7, q8, q9⟩ := N.tab.put hK hb
  generalize t.put (way t.mask (kd.hash k) K) = pt at q1 q3 q4 q5 q6 q7 q8 q9 ⊢
  obtain ⟨t1, p⟩ := pt
  dsimp only at q1 q3 q4 q5 q6 q7 q8 q9 ⊢
  subst q1
  have rest : ∀ t2 : SetTable, TabOk t2 ((hsh kd M).take (SetTable.below t.place (way t.mask (kd.hash k) K)) ++ kd.hash k :: (hsh kd M).drop (SetTable.below t.place (way t.mask (kd.hash k) K))) → t2.mask = t.mask → t2.led = t.led → t2.fill = (hsh kd M).length + 1 →
      wpAny (model P w) A (storeSet a (SetTable.insertAt es (SetTable.below t.place (way t.mask (kd.hash k) K)) (kd.hash k, Value.ref x)) t2 >>= fun _ => if (!false && t2.tooFull) = true then (setRelay a (SetTable.grown (es.size + 1)) >>= fun _ => pure true) else pure true) Q E s := fun t2 q3 q4 q5 q9 => by
    have rin : (SetTable.insertAt es (SetTable.below t.place (way t.mask (kd.hash k) K)) (kd.hash k, Value.ref x)).toList = rws kd (M.take (SetTable.below t.place (way t.mask (kd.hash k) K)) ++ (x, k) :: M.drop (SetTable.below t.place (way t.mask (kd.hash k) K))) := by
      rw [SetTable.toList_insertAt, rws_ins, N.row]
    generalize SetTable.below t.place (way t.mask (kd.hash k) K) = p at q2 q3 rin ⊢
    have pm := ins_perm M p (x, k)
    have ml : (M.take p ++ (x, k) :: M.drop p).length = M.length + 1 := pm.length_eq
    have hm2 : hsh kd (M.take p ++ (x, k) :: M.drop p) = (hsh kd M).take p ++ kd.hash k :: (hsh kd M).drop p := by
      show List.map _ _ = List.take p (List.map _ _) ++ _ :: List.drop p (List.map _ _)
      rw [List.map_append, List.map_cons, List.map_take, List.map_drop]
    rw [← hm2] at q3
    have nod1 : ((M.take p ++ (x, k) :: M.drop p).map (·.2)).Nodup := (pm.map (·.2)).nodup_iff.mpr (List.nodup_cons.mpr ⟨hm, N.nod⟩)
    have es1z := size_rws rin
    rw [ml] at es1z
    generalize SetTable.insertAt es p (kd.hash k, Value.ref x) = es1 at rin es1z ⊢
    generalize M.take p ++ (x, k) :: M.drop p = M1 at pm ml q3 nod1 rin
    refine wpAny_bind (wpAny_storeSet_of ob od ?_ (by rw [es1z, sizeLine_eq]; omega))
    have sb : Heap.SameBut a s.heap (s.heap.update a (Obj.putSet es1 t2)) := Heap.SameBut.update ..
    have ob1 := store_at (es' := es1) (t' := t2) ob od
    generalize s.heap.update a (Obj.putSet es1 t2) = h1 at sb ob1 ⊢
    have mem1 : ∀ m ∈ M1, kd.is h1 m.2 m.1 := fun m hm' => by
      rcases List.mem_cons.mp (pm.mem_iff.mp hm') with rfl | hm'
      · exact is_same S hx ob od sb
      · exact is_same S (N.mem m hm') ob od sb
    have led1 : w.params.followText "set-order" = true ∨ t2.led = true := by rw [q5]; exact N.led
    by_cases full : t2.tooFull = true
    · first
        | (refine wpAny_bind ?_; refine wp_if_pos (by simp [full]) ?_)
        | (refine wp_if_pos (by simp [full]) ?_; refine wpAny_bind ?_)
      have hfull : (M.length + 1) * 5 ≥ t2.mask * 3 := by
        have z := full
        unfold SetTable.tooFull at z
        rwa [decide_eq_true_eq, q9, List.length_map] at z
      rw [esz]
      have ps1 : t2.place.size = es1.size := by
        have z := q3.sz
        rw [List.length_map, ml] at z
        rw [z, es1z]
      have two : (t.mask = 7 ∧ M.length = 4) ∨ (t.mask = 31 ∧ M.length = 18) := by
        rw [q4] at hfull
        rcases N.tab.mok with e | e | e <;> rw [e] at hfull rom <;> omega
      have go : ∀ B, SetTable.sizeAbove (SetTable.grown (M.length + 1)) - 1 = B → MaskOk B → SetTable.sizeAbove (SetTable.grown (M.length + 1)) ≤ 128 → (M.length + 1) * 5 < B * 3 →
          wpAny (model P w) A (setRelay a (SetTable.grown (M.length + 1))) (fun _ s' => wpAny (model P w) A (pure true) Q E s') E { s with heap := h1 } := fun B b1 b2 b3 b4 => by
        refine relaid_set S (s := { s with heap := h1 }) ob1 ⟨ox.1, ox.2.1, ox.2.2⟩ rfl rin ps1 q3.dm (by rw [es1z, q4]; rcases two with ⟨e, e2⟩ | ⟨e, e2⟩ <;> omega) nod1 mem1 led1 (by rw [ml]; exact h64) b1 b2 b3 (by rw [ml]; exact b4) ?_
        intro h2 M2 es2 ep2 t2 sb2 N2 pm2
        exact wpAny_pure (q true h2 M2 es2 ep2 t2 (sb.trans sb2) N2 (fun z => absurd z hm) fun _ => pm2.trans pm)
      rcases two with ⟨_, e2⟩ | ⟨_, e2⟩
      · exact go 31 (by rw [e2, size_20]) (.inr (.inl rfl)) (by rw [e2, size_20]; decide) (by omega)
      · exact go 127 (by rw [e2, size_76]) (.inr (.inr rfl)) (by rw [e2, size_76]; decide) (by omega)
    · first
        | refine wp_if_neg (by simp [full]) ?_
        | (refine wpAny_bind ?_; refine wp_if_neg (by simp [full]) ?_; refine wpAny_pure ?_)
      refine wpAny_pure (q true h1 M1 es1 (ep + 1) t2 sb ⟨⟨_, ob1, ⟨ox.1, ox.2.1, ox.2.2⟩, rfl⟩, rin, q3, nod1, mem1, led1, ?_, by rw [ml]; exact h64⟩ (fun z => absurd z hm) fun _ => pm)
      have z := full
      unfold SetTable.tooFull at z
      rw [decide_eq_true_eq, q9, List.length_map] at z
      rw [ml]
      omega
  by_cases pl : t1.plain = true
  · refine wp_if_pos pl (wpAny_bind (S.byVal hx fun r => ?_))
    cases r with
    | true => exact rest t1 q3 q4 q5 q9
    | false => exact rest { t1 with plain := false } ⟨q3.1, q3.2, q3.3, q3.4, q3.5, q3.6⟩ q4 q5 q9
  · exact wp_if_neg pl (wpAny_bind (wpAny_pure (rest t1 q3 q4 q5 q9)))
end
end NsX
/-! set(xs), xs a list of keys -/
namespace NsX
open PySem PySem.Spec PyProof.Rows L2
section
variable {P : Program} {w : World} {κ : Type} [DecidableEq κ] {kd : HeapKind P w κ} {A : Around} {E : Value → Shared → Prop} {s : Shared} {a : Addr}
/-- what the first i of the keys have left -/
structure Had (ms : List (Mem κ)) (i : Nat) (M : List (Mem κ)) : Prop where
  sub : ∀ m ∈ M, m ∈ ms.take i
  all : ∀ m ∈ ms.take i, m.2 ∈ M.map (·.2)
  len : M.length ≤ i
theorem Had.start (ms : List (Mem κ)) : Had ms 0 [] := ⟨fun m h => (by cases h), fun m h => (by rw [List.take_zero] at h; cases h), Nat.le_refl _⟩
theorem take_up {α : Type} {l : List α} {i : Nat} {x : α} (h : l[i]? = some x) : l.take (i + 1) = l.take i ++ [x] := by
  rw [List.take_succ, h] <;> rfl
theorem Had.next {ms M M' : List (Mem κ)} {i : Nat} {m : Mem κ} (g : Had ms i M) (e : ms[i]? = some m) (c1 : m.2 ∈ M.map (·.2) → M' = M) (c2 : m.2 ∉ M.map (·.2) → M'.Perm (m :: M)) : Had ms (i + 1) M' := by
  by_cases c : m.2 ∈ M.map (·.2)
  · rw [c1 c]
    refine ⟨fun x hx => ?_, fun x hx => ?_, Nat.le_succ_of_le g.len⟩
    · rw [take_up e]
      exact List.mem_append_left _ (g.sub x hx)
    · rw [take_up e] at hx
      rcases List.mem_append.mp hx with z | z
      · exact g.all x z
      · rw [List.mem_singleton.mp z]
        exact c
  · have pm := c2 c
    refine ⟨fun x hx => ?_, fun x hx => ?_, ?_⟩
    · rw [take_up e]
      rcases List.mem_cons.mp (pm.mem_iff.mp hx) with rfl | z
      · exact List.mem_append_right _ (List.mem_singleton.mpr rfl)
      · exact List.mem_append_left _ (g.sub x z)
    · rw [(pm.map (·.2)).mem_iff, List.map_cons]
      rw [take_up e] at hx
      rcases List.mem_append.mp hx with z | z
      · exact List.mem_cons_of_mem _ (g.all x z)
      · rw [List.mem_singleton.mp z]
        exact List.mem_cons_self
    · rw [pm.length_eq, List.length_cons]
      exact Nat.succ_le_succ g.len
theorem is_keep (S : SetKind kd) {h h' : Heap} {k : κ} {b : Addr} (x : kd.is h k b) (g : ∀ c o, h.get? c = some o → h'.get? c = some o) : kd.is h' k b := S.st.stays (fun c o vs n e _ => g c o e) x
theorem NSet.keep {h h' : Heap} {M : List (Mem κ)} {es : Array (Int × Value)} {ep : Nat} {t : SetTable} (N : NSet kd h a M es ep t) (g : ∀ o, h.get? a = some o → h'.get? a = some o) (gm : ∀ m ∈ M, kd.is h' m.2 m.1) : NSet kd h' a M es ep t := by
  obtain ⟨o, ob, r⟩ := N.obj
  exact ⟨⟨o, g o ob, r⟩, N.row, N.tab, N.nod, gm, N.led, N.rom, N.few⟩
abbrev setO (w : World) : Obj := { cls := .type "set", dict := none, data := .set #[] 0 (.fresh 0 0 (!w.params.followText "set-order")) }
theorem nset_new {h : Heap} (ob : h.get? a = some (setO w)) : NSet kd h a [] #[] 0 (.fresh 0 0 (!w.params.followText "set-order")) where
  obj := ⟨_, ob, ⟨rfl, rfl, rfl⟩, rfl⟩
  row := rfl
  tab := ⟨List.Pairwise.nil, rfl, rfl, .inl rfl, fun x hx => (by cases hx), fun i h j hi => (by cases hi)⟩
  nod := List.nodup_nil
  mem := fun m h => by cases h
  led := by
    show _ ∨ (!w.params.followText "set-order") = true
    cases w.params.followText "set-order"
    · exact .inr rfl
    · exact .inl rfl
  rom := by
    show 0 * 5 < 7 * 3
    decide
  few := by
    show 0 < 64
    decide
/-- the loop of set(..) -/
theorem upd_keys (S : SetKind kd) {I : Addr} {fp wr : List Addr} {G : Array GenState → Array GenState → Prop} {n : Nat} {Pv : Nat → Value → Prop} {St : Nat → Shared → Prop} {R : Result → Shared → Prop}
    (W : WalksS P w A.in1 I fp wr G n Pv St) (B : Addr) (hBf : B ∉ fp) (ms : List (Mem κ)) (hn : n = ms.length) (h64 : ms.length < 64) (hval : ∀ i v, Pv i v → ∃ m, ms[i]? = some m ∧ v = .ref m.1)
    (h0 : Heap) (is0 : ∀ m ∈ ms, kd.is h0 m.2 m.1) (hB0 : h0.get? B = none) (hw0 : ∀ b ∈ wr, h0.get? b = none) (hu : kd.room A.in1) :
    ∀ (k i : Nat) (s : Shared), n - i = k → i ≤ n → St i s → (∀ b o, h0.get? b = some o → s.heap.get? b = some o) → (∃ M es ep t, NSet kd s.heap B M es ep t ∧ Had ms i M) →
      (∀ s' M es ep t, Moved (B :: wr) G s s' → NSet kd s'.heap B M es ep t → Had ms n M → (∀ b o, h0.get? b = some o → s'.heap.get? b = some o) → R (.ok (.ret .none)) s') →
      codeAny (model P w) A (.builtin "set.update.loop" ⟨[.ref B, .ref I], []⟩) R s := by
  have hBw : B ∉ wr := fun h => hBf (W.sub _ h)
  have sub1 : ∀ b ∈ wr, b ∈ B :: wr := fun b hb => List.mem_cons_of_mem _ hb
  have keepM : ∀ {s s' : Shared}, Moved wr G s s' → (∀ b o, h0.get? b = some o → s.heap.get? b = some o) → ∀ b o, h0.get? b = some o → s'.heap.get? b = some o := fun hm g b o e =>
    hm.heap b o (fun hb => by rw [hw0 b hb] at e; cases e) (g b o e)
  intro k
  induction k with
  | zero =>
    intro i s hk hi hst g ⟨M, es, ep, t, N, hd⟩ hR
    obtain rfl : i = n := by omega
    refine codeAny_builtin F.entry_set_update_loop ?_
    rw [Around.under_plainId F.plain_set_update_loop _]
    show wpAny _ A.in1 (pyNext (.ref I) >>= _) _ _ s
    refine wpAny_bind (W.done s _ _ hst fun s' hm => ?_)
    show wpAny _ A.in1 (ret Value.none) _ _ s'
    have g' := keepM hm g
    exact wpAny_pure (hR s' M es ep t (hm.mono sub1) (N.keep (fun o e => hm.heap B o hBw e) fun m hm' => is_keep S (is0 m (List.mem_of_mem_take (hd.sub m hm'))) g') hd g')
  | succ k ih =>
    intro i s hk hi hst g ⟨M, es, ep, t, N, hd⟩ hR
    have hlt : i < n := by omega
    refine codeAny_builtin F.entry_set_update_loop ?_
    rw [Around.under_plainId F.plain_set_update_loop _]
    show wpAny _ A.in1 (pyNext (.ref I) >>= _) _ _ s
    refine wpAny_bind (W.item i s _ _ hlt hst fun v s' hP hst' hm => ?_)
    obtain ⟨m, em, rfl⟩ := hval i v hP
    have g' := keepM hm g
    have N' : NSet kd s'.heap B M es ep t := N.keep (fun o e => hm.heap B o hBw e) fun m' hm' => is_keep S (is0 m' (List.mem_of_mem_take (hd.sub m' hm'))) g'
    have hx : kd.is s'.heap m.2 m.1 := is_keep S (is0 m (List.mem_of_getElem? em)) g'
    show wpAny _ A.in1 (holding [Value.ref m.1] (setAdd B (.ref m.1)) >>= _) _ _ s'
    refine wpAny_bind (wpAny_holding ?_)
    unfold setAdd
    refine wpAny_holding (wpAny_bind (kd.pyHash hu hx ?_))
    refine add_mem S (s := { s' with toks := s'.toks + kd.draws m.2 }) N' hx hu (by have := hd.len; omega) fun b h' M' es' ep' t' sb N2 c1 c2 => ?_
    have g2 : ∀ b o, h0.get? b = some o → h'.get? b = some o := fun b o e => (sb.2 b fun z => by rw [z, hB0] at e; cases e).trans (g' b o e)
    refine wpAny_pure ⟨plainId_quiet F.plain_set_update_loop _, ih (i + 1) _ (by omega) hlt (W.frame _ s' _ _ hst' (Nat.le_add_right _ _) fun b hb o e => ?_) g2 ⟨M', es', ep', t', N2, hd.next em c1 c2⟩ fun s2 M2 es2 ep2 t2 hm2 N3 hd2 g3 => ?_⟩
    · rw [sb.2 b fun h : b = B => hBf (by rw [← h]; exact hb)]
      exact e
    · refine hR s2 M2 es2 ep2 t2 (Moved.trans W.gtrans ((hm.mono sub1).then_heap (Nat.le_add_right _ _) fun b o hb e => ?_) hm2) N3 hd2 g3
      rw [sb.2 b fun h : b = B => hb (by rw [h]; exact List.mem_cons_self)]
      exact e
set_option maxHeartbeats 3200000 in
theorem call_setN (S : SetKind kd) {L : Addr} {items : Array Value} (ms : List (Mem κ)) {Q : Value → Shared → Prop} (hh : A.handled = none) (hl : s.heap.IsList L items) (hit : items.toList = ms.map fun m => Value.ref m.1)
    (is0 : ∀ m ∈ ms, kd.is s.heap m.2 m.1) (h64 : ms.length < 64) (hu : ∀ A' : Around, A'.units ≤ A.units + 8 → kd.room A')
    (h : ∀ (h' : Heap) (tk : Nat) M es ep t, NSet kd h' s.heap.objs.size M es ep t → Had ms ms.length M → (∀ b o, s.heap.get? b = some o → h'.get? b = some o) → Q (.ref s.heap.objs.size) { s with heap := h', toks := tk }) :
    wpAny (model P w) A (call (.type "set") [.ref L]) Q E s := by
  have isz : items.size = ms.length := by
    have z := congrArg List.length hit
    rwa [Array.length_toList, List.length_map] at z
  obtain ⟨c, tl, hmro⟩ := PySem.F.called_set.mro
  have hmade := PySem.F.called_set.made
  have hsub := PySem.F.called_set.sub
  refine wpAny_call (codeAny_of_tree ?_)
  show wpAny _ _ (callAny (.type "set") _) _ _ _
  refine wpAny_pure ⟨Code.quiet_builtin _ (by decide +kernel), codeAny_builtin PySem.F.entry_type_call ?_⟩
  rw [Around.under_plain (weight_type_call_type "set" [.ref L] []) rfl]
  have h1 := PySem.F.called_set.notType
  have h2 := PySem.F.called_set.canCreate
  have hct := PySem.F.typeCall_set_1 (.ref L)
  repeat (any_goals (first | assumption | wp_step))
  refine codeAny_mono (code_set_led1 (.ref L) (E := E) (Q₁ := fun obj s₁ => obj = .ref s.heap.objs.size ∧ s₁ = { s with heap := s.heap.push (setO w) }) ⟨rfl, rfl⟩) fun r s₁ hr => ?_
  cases r with
  | error e => exact hr
  | ok fl =>
    cases fl with
    | ret obj =>
      obtain ⟨rfl, rfl⟩ := hr
      have hS : (s.heap.push (setO w)).get? s.heap.objs.size = some (setO w) := Heap.get?_push_size _ rfl
      have hT : Shared.TypeIs { s with heap := s.heap.push (setO w) } (.ref s.heap.objs.size) "set" := ⟨_, hS, rfl⟩
      have hli := PySem.F.called_set.init.lookup
      have hbi := PySem.F.called_set.init.bind (.ref s.heap.objs.size)
      repeat (any_goals (first | assumption | wp_step))
      refine codeAny_mono (codeAny_call_builtin (R := wants (fun r s₂ => r = .none ∧ ∃ h' tk M es ep t, s₂ = { s with heap := h', toks := tk } ∧ NSet kd h' s.heap.objs.size M es ep t ∧ Had ms ms.length M ∧
          (∀ b o, s.heap.get? b = some o → h'.get? b = some o)) E) PySem.F.called_set.init.plain PySem.F.entry_set_init (check_set_init_1 hT ?_)) fun r₂ s₂ hr₂ => ?_
      · obtain ⟨⟨ocls, odict, odata, oslots⟩, hol, hcl, nl, hdl⟩ := hl
        simp only at hcl hdl
        subst hcl hdl
        have hol' : (s.heap.push (setO w)).get? L = some { cls := .type "list", dict := odict, data := .seq items nl, slots := oslots } := Heap.get?_push_of_some _ hol
        have hsls := PySem.F.sub_list_set
        have hslf := PySem.F.sub_list_frozenset
        have hne : (Value.type "list" == Value.type "dict") = false := by decide
        have hl1 : (s.heap.push (setO w)).IsList L items := ⟨_, hol', rfl, nl, rfl⟩
        unfold Builtin.«set.__init__» noKeywords Builtin.Frozenset.updateFrom
        generalize hPI : pyIter = PI
        wp_walk
        subst hPI
        refine wpAny_pyIter_list hl1 ?_
        refine wpAny_bind (wpAny_runValue ?_)
        have hlS : L < s.heap.objs.size := Heap.lt_size hol
        have hh3 : A.in1.in1.in1.handled = none := by simp [hh]
        have hneI : L ≠ (s.heap.push (setO w)).objs.size := by
          rw [Heap.size_push]
          exact Nat.ne_of_lt (Nat.lt_succ_of_lt hlS)
        have hSf : s.heap.objs.size ∉ [(s.heap.push (setO w)).objs.size, L] := by
          rw [Heap.size_push]
          simp only [List.mem_cons, List.mem_singleton, List.not_mem_nil, or_false, not_or]
          exact ⟨Nat.ne_of_lt (Nat.lt_succ_self _), Nat.ne_of_gt hlS⟩
        have hval : ∀ (i : Nat) (v : Value), items[i]? = some v → ∃ m, ms[i]? = some m ∧ v = .ref m.1 := fun i v hv => by
          rw [← Array.getElem?_toList, hit, List.getElem?_map] at hv
          cases e : ms[i]? with
          | none => rw [e] at hv; cases hv
          | some m =>
            rw [e] at hv
            exact ⟨m, rfl, (Option.some.inj hv).symm⟩
        have fresh : ∀ b, s.heap.objs.size ≤ b → s.heap.get? b = none := fun b hb => by
          cases e : s.heap.get? b with
          | none => rfl
          | some o => exact absurd (Nat.lt_of_lt_of_le (Heap.lt_size e) hb) (Nat.lt_irrefl _)
        refine upd_keys S ((Walks.list hh3 _ L hneI items).toS) s.heap.objs.size hSf ms isz h64 hval s.heap is0 (fresh _ (Nat.le_refl _)) (fun b hb => fresh b (by
            rw [List.mem_singleton.mp hb, Heap.size_push]
            exact Nat.le_succ _)) (hu _ (by simp [Around.in1])) (items.size - 0) 0 _ (by omega) (Nat.zero_le _) ⟨⟨_, Heap.get?_push_size _ rfl, rfl, rfl⟩, (hl1.push _)⟩ (fun b o e => Heap.get?_push_of_some _ (Heap.get?_push_of_some _ e)) ?hS0 ?hR
        case hS0 => exact ⟨[], #[], 0, _, nset_new (Heap.get?_push_of_some _ hS), Had.start ms⟩
        case hR =>
          intro s' M es ep t hm N hd g
          obtain ⟨h', g', d', tk', os'⟩ := s'
          obtain rfl : g' = s.gens := hm.gens
          obtain rfl : d' = s.drawn := hm.drawn
          obtain rfl : os' = s.os := hm.os
          show wpAny _ _ _ _ _ _
          refine wpAny_pure ?_
          show wpAny _ _ (ret Value.none) _ _ _
          rw [isz] at hd
          exact wpAny_pure ⟨rfl, h', tk', M, es, ep, t, rfl, N, hd, g⟩
      · cases r₂ with
        | error e => exact hr₂
        | ok fl₂ =>
          cases fl₂ with
          | ret r =>
            obtain ⟨rfl, h', tk, M, es, ep, t, rfl, N, hd, g⟩ := hr₂
            repeat (any_goals (first | assumption | wp_step))
            exact h _ _ _ _ _ _ N hd g
          | _ => exact hr₂.elim
    | _ => exact hr.elim
end
end NsX
/-! sorted(a set of keys) -/
namespace NsX
open PySem PySem.Spec PyProof.Rows L2 PySem.W
theorem perm_back {α β : Type} {f : α → β} : ∀ {l1 l2 : List β}, l1.Perm l2 → ∀ M : List α, l2 = M.map f → ∃ M1 : List α, M1.Perm M ∧ l1 = M1.map f := by
  intro l1 l2 h
  induction h with
  | nil => exact fun M e => ⟨M, .refl _, e⟩
  | cons x _ ih =>
    intro M e
    cases M with
    | nil => cases e
    | cons m M =>
      rw [List.map_cons] at e
      injection e with e1 e2
      obtain ⟨M1, p, q⟩ := ih M e2
      exact ⟨m :: M1, p.cons m, by rw [List.map_cons, e1, q]⟩
  | swap x y l =>
    intro M e
    match M, e with
    | m :: n :: M, e =>
      rw [List.map_cons, List.map_cons] at e
      injection e with e1 e2
      injection e2 with e2 e3
      exact ⟨n :: m :: M, .swap m n M, by rw [List.map_cons, List.map_cons, e1, e2, e3]⟩
  | trans _ _ ih1 ih2 =>
    intro M e
    obtain ⟨M2, p2, q2⟩ := ih2 M e
    obtain ⟨M1, p1, q1⟩ := ih1 M2 q2
    exact ⟨M1, p1.trans p2, q1⟩
theorem each_f {α : Type} {f : α → Value} : ∀ bs : List α, EachIs (fun v (b : α) => v = f b) (bs.map f) bs
  | [] => .nil
  | b :: bs => .cons rfl (each_f bs)
theorem f_each {α : Type} {f : α → Value} {vs : List Value} {bs : List α} (e : EachIs (fun v (b : α) => v = f b) vs bs) : vs = bs.map f := by
  induction e with
  | nil => rfl
  | cons h _ ih => rw [List.map_cons, h, ih]
theorem each_g {α : Type} {R : Value → α → Prop} {f : α → Value} : ∀ {bs : List α}, (∀ b ∈ bs, R (f b) b) → EachIs R (bs.map f) bs
  | [], _ => .nil
  | b :: bs, h => .cons (h b (List.mem_cons_self ..)) (each_g fun c hc => h c (List.mem_cons_of_mem _ hc))
theorem mdata_pw {β : Type} (k : β → PyData) (bs : List β) : (bs.mergeSort (dataLe false k)).Pairwise (fun a b => dataLt (k b) (k a) = false) := by
  refine (List.pairwise_mergeSort (le := dataLe false k) (fun a b c h1 h2 => ?_) (fun a b => ?_) bs).imp fun {a b} z => by
    have z : (!dataLt (k b) (k a)) = true := z
    simpa using z
  · have h1 : (!dataLt (k b) (k a)) = true := h1
    have h2 : (!dataLt (k c) (k b)) = true := h2
    show (!dataLt (k c) (k a)) = true
    rw [Bool.not_eq_true'] at h1 h2 ⊢
    cases e : dataLt (k c) (k a) with
    | false => rfl
    | true =>
      rcases lex_negTrans (O := itemOrd) _ (keyToks (k b)) _ e with z | z
      · exact absurd (z.symm.trans h2) (by decide)
      · exact absurd (z.symm.trans h1) (by decide)
  · show ((!dataLt (k b) (k a)) || (!dataLt (k a) (k b))) = true
    cases e : dataLt (k b) (k a) with
    | false => rfl
    | true =>
      cases e2 : dataLt (k a) (k b) with
      | false => rfl
      | true =>
        have z := lex_trans (O := itemOrd) _ _ _ e e2
        rw [lex_irrefl] at z
        cases z
section
variable {P : Program} {w : World} {κ : Type} [DecidableEq κ] {kd : HeapKind P w κ} {A : Around} {E : Value → Shared → Prop} {s : Shared} {a : Addr} {M : List (Mem κ)} {es : Array (Int × Value)} {ep : Nat} {t : SetTable}
theorem call_sortedN {dt : κ → PyData} {Q : Value → Shared → Prop} (N : NSet kd s.heap a M es ep t) (hh : A.handled = none) (rd : ∀ h' : Heap, (∀ b o, s.heap.get? b = some o → h'.get? b = some o) → ∀ m ∈ M, ∃ as, Reads h' (.ref m.1) (dt m.2) as)
    (hal : AllAlike (M.map fun m => dt m.2)) (hk : PySem.W.Sortable (M.map fun m => dt m.2)) (hdp : ∀ m ∈ M, (dt m.2).depth ≤ 4) (hu : A.units + 12 < cLine)
    (q : ∀ s' p (out : Array Value) (c : Nat) (M' : List (Mem κ)), (∀ b o, s.heap.get? b = some o → s'.heap.get? b = some o) → s'.gens = s.gens → s'.os = s.os → s.heap.objs.size ≤ p → s'.heap.get? p = some (seqObj "list" out c) →
      out.toList = M'.map (fun m => Value.ref m.1) → M'.Perm M → M'.Pairwise (fun m n => dataLt (dt n.2) (dt m.2) = false) → Q (.ref p) s') :
    wpAny (model P w) A (call (.builtin "sorted") [.ref a]) Q E s := by
  obtain ⟨o, ob, ox, od⟩ := N.obj
  have esz := N.sz
  have few := N.few
  refine Calls.call_function_entry kind_sorted plain_sorted entry_sorted (args_sorted1 _) ?_
  unfold Builtin.«sorted»
  refine wpAny_bind (m := checkCount "sorted" 1 1 _) (wpAny_pure ?_)
  refine wpAny_bind (collect_set (A := A.in1) hh ⟨o, ob, ox.1, od⟩ N.fit (by unfold scanBound; omega) N.tab.ris N.led fun s1 vs k1 hz g1 o1 pm => ?_)
  have er : es.toList.map (·.2) = M.map fun m => Value.ref m.1 := by
    rw [N.row]
    show (M.map _).map _ = _
    rw [List.map_map] <;> rfl
  rw [er] at pm
  obtain ⟨M1, pM, rfl⟩ := perm_back pm M rfl
  have ml : M1.length < 64 := by rw [pM.length_eq]; exact few
  have vl : (M1.map fun m => Value.ref m.1).length = M1.length := List.length_map _
  refine wpAny_bind (wpAny_newList ?_ (by rw [vl, sizeLine_eq]; omega))
  have hoL : (s1.heap.push (seqObj "list" (M1.map fun m => Value.ref m.1).toArray 0)).get? s1.heap.objs.size = some (seqObj "list" (M1.map fun m => Value.ref m.1).toArray 0) := Heap.get?_push_size _ rfl
  have in1 : ∀ m ∈ M1, m ∈ M := fun m hm => pM.mem_iff.mp hm
  have old : ∀ b u, s.heap.get? b = some u → (sortingHeap (s1.heap.push (seqObj "list" (M1.map fun m => Value.ref m.1).toArray 0)) s1.heap.objs.size (M1.map fun m => Value.ref m.1)).get? b = some u := fun b u e => by
    have z := k1 b u e
    exact sortingHeap_old (Nat.ne_of_lt (Heap.lt_size z)) (Heap.get?_push_of_some _ z)
  have hrd : EachIs (fun v (m : Mem κ) => ∃ as, Reads (sortingHeap (s1.heap.push (seqObj "list" (M1.map fun m => Value.ref m.1).toArray 0)) s1.heap.objs.size (M1.map fun m => Value.ref m.1)) v (dt m.2) as) (M1.map fun m => Value.ref m.1) M1 := each_g fun m hm => rd _ old m (in1 m hm)
  have hal1 : AllAlike (M1.map fun m => dt m.2) := fun d hd d' hd' => by
    obtain ⟨m, hm, rfl⟩ := List.mem_map.mp hd
    obtain ⟨m', hm', rfl⟩ := List.mem_map.mp hd'
    exact hal _ (List.mem_map.mpr ⟨m, in1 m hm, rfl⟩) _ (List.mem_map.mpr ⟨m', in1 m' hm', rfl⟩)
  have hk1 : PySem.W.Sortable (M1.map fun m => dt m.2) := by
    refine hk.imp (fun z d hd => ?_) (fun z d hd => ?_)
    · obtain ⟨m, hm, rfl⟩ := List.mem_map.mp hd
      exact z _ (List.mem_map.mpr ⟨m, in1 m hm, rfl⟩)
    · obtain ⟨m, hm, rfl⟩ := List.mem_map.mp hd
      exact z _ (List.mem_map.mpr ⟨m, in1 m hm, rfl⟩)
  have es2 := sortVals_data false (each_f M1 (f := fun m => Value.ref m.1)) hrd hal1
  refine wpAny_bind (wpAny_holding (wpAny_call_entry slot_list_sort ⟨_, hoL, rfl⟩ entry_list_sort (list_sort_vals (s := { s1 with heap := s1.heap.push (seqObj "list" (M1.map fun m => Value.ref m.1).toArray 0) }) hoL (SortsAt.data (each_map (R := fun v d => ∃ as, Reads (sortingHeap (s1.heap.push (seqObj "list" (M1.map fun m => Value.ref m.1).toArray 0)) s1.heap.objs.size (M1.map fun m => Value.ref m.1)) v d as) (fun m : Mem κ => dt m.2) hrd) hal1 hk1 (fun d hd => ?_)) (by rw [vl, sizeLine_eq]; omega) ⟨_, rfl, ?_⟩) (args_list_sort _)))
  · obtain ⟨m, hm, rfl⟩ := List.mem_map.mp hd
    have := hdp m (in1 m hm)
    show A.units + 1 + 1 + (dt m.2).depth < cLine
    omega
  generalize sortVals (dataKind (sortingHeap (s1.heap.push (seqObj "list" (M1.map fun m => Value.ref m.1).toArray 0)) s1.heap.objs.size (M1.map fun m => Value.ref m.1)) (M1.map fun m => dt m.2)) false (M1.map fun m => Value.ref m.1) (M1.map fun m => Value.ref m.1) = out at es2
  have eo := f_each es2
  obtain ⟨c, hc⟩ := sortedHeap_at (vs := M1.map fun m => Value.ref m.1) (out := out.toArray) hoL
  refine wpAny_pure ⟨_, rfl, q _ s1.heap.objs.size out.toArray c (M1.mergeSort (dataLe false fun m : Mem κ => dt m.2)) (fun b u e => ?_) g1 o1 hz hc (by simpa using eo) ((List.mergeSort_perm M1 _).trans pM) (mdata_pw _ _)⟩
  have z := k1 b u e
  have lt := Heap.lt_size z
  show (sortedHeap (s1.heap.push (seqObj "list" (M1.map fun m => Value.ref m.1).toArray 0)) s1.heap.objs.size (M1.map fun m => Value.ref m.1) _).get? b = some u
  rw [sortedHeap_old (Nat.ne_of_lt lt) (by rw [size_push']; exact Nat.lt_succ_of_lt lt)]
  exact Heap.get?_push_of_some _ z
end
end NsX
/-! sets of tuples of texts, whole numbers and such tuples: set(xs), sorted(s) -/
namespace NsX
open PySem PySem.Spec PyProof.Rows L2 PySem.W NdX
section
variable {P : Program} {w : World}
/-- whether a key's hash is told by its value: the question shows nothing -/
def AskQ (P : Program) (w : World) (n : Nat) (s : Shared) (v : Value) : Prop := ∀ (A : Around) (E : Value → Shared → Prop) (Q : Bool → Shared → Prop), (∀ r, Q r s) → wpAny (model P w) A (hashByValue n v) Q E s
theorem AskQ.tup {n : Nat} {s : Shared} {a : Addr} {o : Obj} {vs : Array Value} {m : Nat} (ho : s.heap.get? a = some o) (hc : o.cls = .type "tuple") (hd : o.data = .seq vs m) (hq : ∀ v ∈ vs.toList, AskQ P w n s v) : AskQ P w (n + 1) s (.ref a) := fun A E Q h => by
  have hT : s.TypeIs (.ref a) "tuple" := ⟨o, ho, hc⟩
  unfold hashByValue
  refine wpAny_bind (wpAny_specialOf hT F.slot_tuple_hash.lookup ?_)
  show wpAny _ _ (seqItems? (.ref a) >>= _) _ _ s
  refine wpAny_bind (wpAny_seqItems ho hd (wpAny_bind ?_))
  show wpAny _ _ (forIn vs _ _) _ _ s
  rw [← Array.forIn_toList]
  refine wpAny_forIn_list _ (fun left r s1 => r.1 = none ∧ s1 = s ∧ ∀ v ∈ left, AskQ P w n s v) _ ?_ ?_ _ _ ⟨rfl, rfl, hq⟩
  · rintro v left r s1 ⟨hr, rfl, all⟩
    refine wpAny_bind (all v (List.mem_cons_self ..) _ _ _ fun b => ?_)
    cases b with
    | true =>
      simp only [Bool.not_true, Bool.false_eq_true, if_false]
      exact wpAny_pure ⟨rfl, rfl, fun u hu => all u (List.mem_cons_of_mem _ hu)⟩
    | false =>
      simp only [Bool.not_false, if_true]
      exact wpAny_pure (wpAny_pure (h _))
  · rintro ⟨r1, r2⟩ s1 ⟨hr, rfl, _⟩
    cases hr
    exact wpAny_pure (h _)
theorem AskQ.flat {n : Nat} {s : Shared} {v : Value} {b : Bool} (e : hashByValue n v = pure b) : AskQ P w n s v := fun A E Q h => by
  rw [e]
  exact wpAny_pure (h b)
mutual
theorem ask_key : ∀ (k : NestedKey) (v : Value) (n : Nat) (s : Shared), NestedIs s.heap k v → AskQ P w n s v
  | .none, _, n, s, x => by cases x; exact .flat (b := true) (by cases n <;> rfl)
  | .num i, _, n, s, x => by cases x <;> exact .flat (b := true) (by cases n <;> rfl)
  | .text y, _, n, s, x => by cases x; exact .flat (b := false) (by cases n <;> rfl)
  | .tup ks, _, n, s, x => by
    cases x with
    | tup hg hc hd hk =>
      cases n with
      | zero => exact .flat (b := false) rfl
      | succ n => exact .tup hg hc hd (ask_keys ks _ n s hk)
theorem ask_keys : ∀ (ks : List NestedKey) (vs : List Value) (n : Nat) (s : Shared), NestedAll s.heap ks vs → ∀ v ∈ vs, AskQ P w n s v
  | [], _, n, s, x, v, hv => by cases x; cases hv
  | k :: ks, _, n, s, x, v, hv => by
    cases x with
    | cons x1 x2 =>
      rcases List.mem_cons.mp hv with e | hv
      · rw [e]; exact ask_key k _ n s x1
      · exact ask_keys ks _ n s x2 v hv
end
def ClsQ (P : Program) (w : World) (n : Nat) (s : Shared) (v : Value) : Prop := ∀ (A : Around) (E : Value → Shared → Prop) (Q : Bool → Shared → Prop), Q false s → wpAny (model P w) A (ofAClassStatement n v) Q E s
theorem ClsQ.tup {n : Nat} {s : Shared} {a : Addr} {o : Obj} {vs : Array Value} {m : Nat} (ho : s.heap.get? a = some o) (hc : o.cls = .type "tuple") (hd : o.data = .seq vs m) (hq : ∀ v ∈ vs.toList, ClsQ P w n s v) : ClsQ P w (n + 1) s (.ref a) := fun A E Q h => by
  have hT : s.TypeIs (.ref a) "tuple" := ⟨o, ho, hc⟩
  unfold ofAClassStatement
  refine wpAny_bind (wpAny_typeOf hT ?_)
  dsimp only
  have e : (("tuple" : String) == "tuple") = true := by decide
  simp only [e, if_true, Bool.not_true, Bool.false_eq_true, if_false]
  try refine wpAny_bind (wpAny_pure ?_)
  try simp only [Bool.not_true, Bool.false_eq_true, if_false]
  show wpAny _ _ (seqItems? (.ref a) >>= _) _ _ s
  refine wpAny_bind (wpAny_seqItems ho hd ?_)
  dsimp only
  refine wpAny_bind ?_
  show wpAny _ _ (forIn vs _ _) _ _ s
  rw [← Array.forIn_toList]
  refine wpAny_forIn_list _ (fun left r s1 => r.1 = none ∧ s1 = s ∧ ∀ v ∈ left, ClsQ P w n s v) _ ?_ ?_ _ _ ⟨rfl, rfl, hq⟩
  · rintro v left r s1 ⟨hr, rfl, all⟩
    refine wpAny_bind (all v (List.mem_cons_self ..) _ _ _ ?_)
    simp only [Bool.false_eq_true, if_false]
    exact wpAny_pure ⟨rfl, rfl, fun u hu => all u (List.mem_cons_of_mem _ hu)⟩
  · rintro ⟨r1, r2⟩ s1 ⟨hr, rfl, _⟩
    cases hr
    exact wpAny_pure h
theorem ClsQ.flat {n : Nat} {s : Shared} {v : Value} (e : ofAClassStatement n v = pure false) : ClsQ P w n s v := fun A E Q h => by
  rw [e]
  exact wpAny_pure h
mutual
theorem cls_key : ∀ (k : NestedKey) (v : Value) (n : Nat) (s : Shared), NestedIs s.heap k v → k.depth ≤ n → ClsQ P w n s v
  | .none, _, n, s, x, _ => by cases x; exact .flat (by cases n <;> rfl)
  | .num i, _, n, s, x, _ => by cases x <;> exact .flat (by cases n <;> rfl)
  | .text y, _, n, s, x, _ => by cases x; exact .flat (by cases n <;> rfl)
  | .tup ks, _, n, s, x, hn => by
    cases x with
    | tup hg hc hd hk =>
      simp only [NestedKey.depth] at hn
      cases n with
      | zero => omega
      | succ n => exact .tup hg hc hd (cls_keys ks _ n s hk (by omega))
theorem cls_keys : ∀ (ks : List NestedKey) (vs : List Value) (n : Nat) (s : Shared), NestedAll s.heap ks vs → NestedKey.depthAll ks ≤ n → ∀ v ∈ vs, ClsQ P w n s v
  | [], _, n, s, x, _, v, hv => by cases x; cases hv
  | k :: ks, _, n, s, x, hn, v, hv => by
    cases x with
    | cons x1 x2 =>
      simp only [NestedKey.depthAll] at hn
      rcases List.mem_cons.mp hv with e | hv
      · rw [e]; exact cls_key k _ n s x1 (by omega)
      · exact cls_keys ks _ n s x2 (by omega) v hv
end
theorem nested_set : SetKind (nestedKind P w) where
  st := nestedKind_stays
  byVal := fun {A E s k b Q} hk h => ask_key k _ 8 s hk.1 A E Q h
  noCls := fun {A E s k b Q} hk h => cls_key k _ 8 s hk.1 hk.2 A E Q h
end
mutual
theorem nk_dp {K : PySem.W.Frag} {H : Hp} : ∀ {k : NestedKey} {v : V}, NkV K H k v → Dp K H v k.data
  | .none, _, h => by
    simp only [NkV] at h
    subst h
    exact .non
  | .num i, _, h => by
    simp only [NkV] at h
    subst h
    exact .int i
  | .text x, _, h => by
    simp only [NkV] at h
    subst h
    exact .str x
  | .tup ks, _, h => by
    simp only [NkV] at h
    obtain ⟨a, xs, rfl, h1, h2⟩ := h
    exact .tup h1 (nk_dps h2)
theorem nk_dps {K : PySem.W.Frag} {H : Hp} : ∀ {ks : List NestedKey} {xs : List V}, NkAll K H ks xs → DpAll K H xs (NestedKey.datas ks)
  | [], [], _ => .nil
  | [], _ :: _, h => by simp [NkAll] at h
  | _ :: _, [], h => by simp [NkAll] at h
  | k :: ks, x :: xs, h => by
    simp only [NkAll] at h
    exact .cons (nk_dp h.1) (nk_dps h.2)
end
abbrev NMem := Mem NestedKey
/-- the set at a, the tuples themselves left out -/
def SetN0 (P : Program) (w : World) (h : Heap) (a : Addr) (M : List NMem) : Prop := ∃ (es : Array (Int × Value)) (ep : Nat) (t : SetTable), (∃ o, h.get? a = some o ∧ o.ExactSet ∧ o.data = .set es ep t) ∧ es.toList = rws (nestedKind P w) M ∧ TabOk t (hsh (nestedKind P w) M) ∧ (M.map (·.2)).Nodup ∧
  (w.params.followText "set-order" = true ∨ t.led = true) ∧ M.length * 5 < t.mask * 3 ∧ M.length < 64
def SetN (P : Program) (w : World) (a : Addr) (M : List NMem) : HO := .ext fun h => SetN0 P w h a M
theorem NSet.n0 {P : Program} {w : World} {h : Heap} {a : Addr} {M : List NMem} {es : Array (Int × Value)} {ep : Nat} {t : SetTable} (N : NSet (nestedKind P w) h a M es ep t) : SetN0 P w h a M := ⟨es, ep, t, N.obj, N.row, N.tab, N.nod, N.led, N.rom, N.few⟩
theorem setN_ok {P : Program} {w : World} {H : Hp} {h : Heap} {a : Addr} {M : List NMem} (N : SetN0 P w h a M) : ObjOk P w H h a (SetN P w a M) := by
  have ⟨es, ep, t, ⟨o, ho, r⟩, q⟩ := N
  refine ⟨N, ⟨o, ho⟩, fun h1 h2 p k => ?_⟩
  have ⟨es', ep', t', ⟨o', ho', r'⟩, q'⟩ := p
  exact ⟨es', ep', t', ⟨o', k o' ho', r'⟩, q'⟩
theorem refs_m {κ : Type} : ∀ {ms : List (Mem κ)} {us : List Value}, Vals (ms.map fun m => V.ref m.1) us → us = ms.map fun m => Value.ref m.1
  | [], _, .nil => rfl
  | m :: ms, _, .cons r t => by
    cases r
    rw [refs_m t] <;> rfl
theorem m_refs {κ : Type} : ∀ (ms : List (Mem κ)), Vals (ms.map fun m => V.ref m.1) (ms.map fun m => Value.ref m.1)
  | [] => .nil
  | m :: ms => .cons rfl (m_refs ms)
section
variable {X : Cx}
def rSetN (K : PySem.W.Frag) (P : Program) (w : World) : List V → Hp → VK → Prop := fun xs H Q => ∃ (l : Addr) (ms : List NMem), xs = [V.ref l] ∧ SqL K H l (ms.map fun m => V.ref m.1) ∧ (∀ m ∈ ms, NkV K H m.2 (.ref m.1) ∧ m.2.depth ≤ 8) ∧ ms.length < 64 ∧
  ∀ (a : Addr) (M : List NMem), H a = none → (∀ m ∈ M, m ∈ ms) → (∀ m ∈ ms, m.2 ∈ M.map (·.2)) → (M.map (·.2)).Nodup → Q (.ref a) (upd H a (SetN P w a M))
theorem cr_setN (hc : X.calm = true) (hu : X.A.units + 64 < cLine) : CallR X (.type "set") (rSetN X.K X.prog X.w) := by
  intro pins s σ H xs us Q I r h
  obtain ⟨l, ms, rfl, hl, hk, h64, q⟩ := h
  rw [Vals.ref1 r]
  obtain ⟨its, rv, pl, hz⟩ := I.list hl
  have hn : H s.heap.objs.size = none := I.hok.fresh (Nat.le_refl _)
  refine call_setN (kd := nestedKind X.prog X.w) nested_set ms (I.ok.hd hc) pl.isList (by simpa using refs_m rv) (fun m hm => ⟨nk_raw I (hk m hm).1 rfl, (hk m hm).2⟩) h64 (fun A' hA => ?_) fun h' tk M es ep t N g k => ?_
  · show A'.units + 8 < cLine
    omega
  · refine ⟨.ref s.heap.objs.size, upd H s.heap.objs.size (SetN X.prog X.w s.heap.objs.size M), I.laid (t' := tk) k (Nat.le_refl _) (setN_ok N.n0), rfl, q _ M hn (fun m hm => List.mem_of_mem_take (g.sub m hm)) (fun m hm => g.all m (by rw [List.take_length]; exact hm)) N.nod⟩
def rSortN (K : PySem.W.Frag) (P : Program) (w : World) : List V → Hp → VK → Prop := fun vs H Q => ∃ (a : Addr) (M : List NMem), vs = [V.ref a] ∧ H a = some (SetN P w a M) ∧ (∀ m ∈ M, NkV K H m.2 (.ref m.1) ∧ m.2.depth ≤ 8 ∧ m.2.data.depth ≤ 4) ∧ AllAlike (M.map fun m => m.2.data) ∧ PySem.W.Sortable (M.map fun m => m.2.data) ∧
  ∀ (M' : List NMem) (p : Addr), M'.Perm M → (M'.map (·.2)).Nodup → M'.length < 64 → M'.Pairwise (fun m n => dataLt n.2.data m.2.data = false) → H p = none → Q (.ref p) (upd H p (.lst (M'.map fun m => V.ref m.1)))
theorem cr_sortedN (hc : X.calm = true) (hu : X.A.units + 12 < cLine) : CallR X (.builtin "sorted") (rSortN X.K X.prog X.w) := by
  intro pins s σ H vs us Q I r h
  obtain ⟨a, M, rfl, ha, hk, hal, hso, q⟩ := h
  obtain ⟨es, ep, t, ob, row, tab, nod, led, rom, few⟩ : SetN0 X.prog X.w s.heap a M := (I.hok a _ ha).1
  have N : NSet (nestedKind X.prog X.w) s.heap a M es ep t := ⟨ob, row, tab, nod, fun m hm => ⟨nk_raw I (hk m hm).1 rfl, (hk m hm).2.1⟩, led, rom, few⟩
  rw [Vals.ref1 r]
  refine call_sortedN (dt := NestedKey.data) N (I.ok.hd hc) (fun h' old m hm => ?_) hal hso (fun m hm => (hk m hm).2.2) hu fun s' p out c M' k g o hp hg hout pm pw => ?_
  · have J : L2.Inv X pins σ H { s with heap := h' } := I.kept (t' := s.toks) old
    exact Dp.reads J _ _ _ (nk_dp (hk m hm).1) rfl
  · have ml : M'.length < 64 := by rw [pm.length_eq]; exact few
    have hlen : (M'.map fun m => V.ref m.1).length ≤ sizeLine := by rw [List.length_map, sizeLine_eq]; omega
    have hn : H p = none := I.hok.fresh hp
    have hv : Vals (M'.map fun m => V.ref m.1) out.toList := by rw [hout]; exact m_refs M'
    have J : Inv X pins σ (upd H p (.lst (M'.map fun m => V.ref m.1))) { s with heap := s'.heap, gens := s'.gens, drawn := s'.drawn, toks := s'.toks } :=
      I.call (ch := []) (Un.laid k hp hn) (I.hok.laid k hp ⟨hlen, out.toList, c, hv, hg⟩) (by rw [g]; exact I.bare) (fun _ z => nomatch z)
    have e : s' = { s with heap := s'.heap, gens := s'.gens, drawn := s'.drawn, toks := s'.toks } := by
      cases s'
      cases s
      cases o
      rfl
    rw [e]
    exact ⟨.ref p, _, J, rfl, q M' p pm ((pm.map (·.2)).nodup_iff.mpr nod) ml pw hn⟩
end
end NsX
/-! the order of keys: one sorted list of unlike ones -/
namespace NsX
open PySem PySem.Spec PyProof.Rows L2 PySem.W NdX
mutual
theorem ktoks_inj : ∀ (k k' : NestedKey) (s s' : List (Int ⊕ List Nat)), alike k.data k'.data = true → keyToks k.data ++ s = keyToks k'.data ++ s' → k = k' ∧ s = s'
  | .none, .none, s, s', _, h => by
    simp only [NestedKey.data, keyToks, List.nil_append] at h
    exact ⟨rfl, h⟩
  | .num i, .num j, s, s', _, h => by
    simp only [NestedKey.data, keyToks, List.cons_append, List.nil_append, List.cons.injEq, Sum.inl.injEq] at h
    exact ⟨by rw [h.1], h.2⟩
  | .text x, .text y, s, s', _, h => by
    simp only [NestedKey.data, keyToks, List.cons_append, List.nil_append, List.cons.injEq, Sum.inr.injEq] at h
    exact ⟨by rw [str_of_cps h.1], h.2⟩
  | .tup ks, .tup ks', s, s', ha, h => by
    simp only [NestedKey.data, alike] at ha
    simp only [NestedKey.data, keyToks] at h
    obtain ⟨a, b⟩ := ktoksAll_inj ks ks' s s' ha h
    exact ⟨by rw [a], b⟩
  | .none, .num _, _, _, ha, _ => by simp [NestedKey.data, alike] at ha
  | .none, .text _, _, _, ha, _ => by simp [NestedKey.data, alike] at ha
  | .none, .tup _, _, _, ha, _ => by simp [NestedKey.data, alike] at ha
  | .num _, .none, _, _, ha, _ => by simp [NestedKey.data, alike] at ha
  | .num _, .text _, _, _, ha, _ => by simp [NestedKey.data, alike] at ha
  | .num _, .tup _, _, _, ha, _ => by simp [NestedKey.data, alike] at ha
  | .text _, .none, _, _, ha, _ => by simp [NestedKey.data, alike] at ha
  | .text _, .num _, _, _, ha, _ => by simp [NestedKey.data, alike] at ha
  | .text _, .tup _, _, _, ha, _ => by simp [NestedKey.data, alike] at ha
  | .tup _, .none, _, _, ha, _ => by simp [NestedKey.data, alike] at ha
  | .tup _, .num _, _, _, ha, _ => by simp [NestedKey.data, alike] at ha
  | .tup _, .text _, _, _, ha, _ => by simp [NestedKey.data, alike] at ha
theorem ktoksAll_inj : ∀ (ks ks' : List NestedKey) (s s' : List (Int ⊕ List Nat)), alikeAll (NestedKey.datas ks) (NestedKey.datas ks') = true → keyToksAll (NestedKey.datas ks) ++ s = keyToksAll (NestedKey.datas ks') ++ s' → ks = ks' ∧ s = s'
  | [], [], s, s', _, h => by
    simp only [NestedKey.datas, keyToksAll, List.cons_append, List.nil_append, List.cons.injEq] at h
    exact ⟨rfl, h.2⟩
  | [], k' :: ks', s, s', _, h => by
    simp only [NestedKey.datas, keyToksAll, List.cons_append, List.nil_append, List.cons.injEq, Sum.inl.injEq] at h
    exact absurd h.1 (by decide)
  | k :: ks, [], s, s', _, h => by
    simp only [NestedKey.datas, keyToksAll, List.cons_append, List.nil_append, List.cons.injEq, Sum.inl.injEq] at h
    exact absurd h.1 (by decide)
  | k :: ks, k' :: ks', s, s', ha, h => by
    simp only [NestedKey.datas] at ha h
    obtain ⟨a1, a2⟩ := alike_all_cons ha
    rw [toks_all_cons, toks_all_cons, List.cons_append, List.cons_append, List.append_assoc, List.append_assoc] at h
    injection h with _ h
    obtain ⟨e1, h2⟩ := ktoks_inj k k' _ _ a1 h
    obtain ⟨e2, h3⟩ := ktoksAll_inj ks ks' s s' a2 h2
    exact ⟨by rw [e1, e2], h3⟩
end
theorem nk_anti {k k' : NestedKey} (ha : alike k.data k'.data = true) (h1 : dataLt k.data k'.data = false) (h2 : dataLt k'.data k.data = false) : k = k' := by
  have e := lex_total (O := itemOrd) _ _ h1 h2
  exact (ktoks_inj k k' [] [] ha (by rw [e])).1
/-- two sorted lists of the same things -/
theorem srt_one {α : Type} {f : α → NestedKey} (inj : ∀ a b, f a = f b → a = b) (al : ∀ a b, alike (f a).data (f b).data = true) {A B : List α} (p : A.Perm B) (hA : A.Pairwise fun a b => dataLt (f b).data (f a).data = false) (hB : B.Pairwise fun a b => dataLt (f b).data (f a).data = false) : A = B :=
  p.eq_of_pairwise (le := fun a b => dataLt (f b).data (f a).data = false) (fun a b _ _ h1 h2 => inj _ _ (nk_anti (al _ _) h2 h1)) hA hB
def srtF {α : Type} (f : α → NestedKey) (l : List α) : List α := l.mergeSort (dataLe false fun a => (f a).data)
theorem srtF_perm {α : Type} (f : α → NestedKey) (l : List α) : (srtF f l).Perm l := List.mergeSort_perm _ _
theorem srtF_pw {α : Type} (f : α → NestedKey) (l : List α) : (srtF f l).Pairwise fun a b => dataLt (f b).data (f a).data = false := mdata_pw _ _
theorem srtF_one {α : Type} {f : α → NestedKey} (inj : ∀ a b, f a = f b → a = b) (al : ∀ a b, alike (f a).data (f b).data = true) {A B : List α} (p : A.Perm B) (hA : A.Pairwise fun a b => dataLt (f b).data (f a).data = false) : A = srtF f B :=
  srt_one inj al (p.trans (srtF_perm f B).symm) hA (srtF_pw f B)
theorem srtF_same {α : Type} {f : α → NestedKey} (inj : ∀ a b, f a = f b → a = b) (al : ∀ a b, alike (f a).data (f b).data = true) {A B : List α} (p : A.Perm B) : srtF f A = srtF f B :=
  srtF_one inj al ((srtF_perm f A).trans p) (srtF_pw f A)
/-! pairs (axis, letter), members (name, pairs) -/
abbrev Pr := Int × Str
abbrev Mb := Str × List Pr
def pk (p : Pr) : NestedKey := .tup [.num p.1, .text p.2]
def mk (m : Mb) : NestedKey := .tup [.text m.1, .tup (m.2.map pk)]
theorem pk_inj (p q : Pr) (h : pk p = pk q) : p = q := by
  unfold pk at h
  injection h with h
  injection h with h1 h2
  injection h2 with h2 _
  injection h1 with h1
  injection h2 with h2
  exact Prod.ext h1 h2
theorem pks_inj {l l' : List Pr} (h : l.map pk = l'.map pk) : l = l' := (List.map_inj_right pk_inj).mp h
theorem mk_inj (m n : Mb) (h : mk m = mk n) : m = n := by
  unfold mk at h
  injection h with h
  injection h with h1 h2
  injection h2 with h2 _
  injection h1 with h1
  injection h2 with h2
  exact Prod.ext h1 (pks_inj h2)
theorem pk_alike (p q : Pr) : alike (pk p).data (pk q).data = true := by simp [pk, NestedKey.data, NestedKey.datas, alike, alikeAll]
theorem pks_alike : ∀ l l' : List Pr, alikeAll (NestedKey.datas (l.map pk)) (NestedKey.datas (l'.map pk)) = true
  | [], _ => by simp [NestedKey.datas, alikeAll]
  | _ :: _, [] => by simp [NestedKey.datas, alikeAll]
  | p :: l, q :: l' => by
    rw [List.map_cons, List.map_cons]
    simp only [NestedKey.datas]
    rw [alikeAll, pk_alike, pks_alike l l', Bool.true_and]
theorem mk_alike (m n : Mb) : alike (mk m).data (mk n).data = true := by
  simp only [mk, NestedKey.data, NestedKey.datas, alike, alikeAll, Bool.true_and, Bool.and_true]
  exact pks_alike _ _
theorem pk_depth (p : Pr) : (pk p).depth = 1 := by simp [pk, NestedKey.depth, NestedKey.depthAll]
theorem pks_depth : ∀ l : List Pr, NestedKey.depthAll (l.map pk) ≤ 1
  | [] => by simp [NestedKey.depthAll]
  | p :: l => by
    have h := pks_depth l
    rw [List.map_cons]
    simp only [NestedKey.depthAll, pk_depth]
    omega
theorem mk_depth (m : Mb) : (mk m).depth ≤ 3 := by
  have h := pks_depth m.2
  simp only [mk, NestedKey.depth, NestedKey.depthAll]
  omega
theorem pk_ddepth (p : Pr) : (pk p).data.depth ≤ 1 := by simp [pk, NestedKey.data, NestedKey.datas, PyData.depth, PyData.depthAll]
theorem pks_ddepth : ∀ l : List Pr, PyData.depthAll (NestedKey.datas (l.map pk)) ≤ 1
  | [] => by simp [NestedKey.datas, PyData.depthAll]
  | p :: l => by
    have h := pks_ddepth l
    have h1 := pk_ddepth p
    rw [List.map_cons]
    simp only [NestedKey.datas, PyData.depthAll]
    omega
theorem mk_ddepth (m : Mb) : (mk m).data.depth ≤ 4 := by
  have h := pks_ddepth m.2
  simp only [mk, NestedKey.data, NestedKey.datas, PyData.depth, PyData.depthAll]
  omega
/-! keys in the heap -/
theorem pr_at {K : PySem.W.Frag} {H : Hp} {a : Addr} {p : Pr} (h : SqT K H a [.int p.1, .str p.2]) : NkV K H (pk p) (.ref a) := by
  unfold pk
  simp only [NkV, NkAll]
  exact ⟨a, _, rfl, h, by simp [NkAll, NkV]⟩
theorem at_pr {K : PySem.W.Frag} {H : Hp} {v : V} {p : Pr} (h : NkV K H (pk p) v) : ∃ a, v = .ref a ∧ SqT K H a [.int p.1, .str p.2] := by
  unfold pk at h
  simp only [NkV] at h
  obtain ⟨a, xs, rfl, h1, h2⟩ := h
  match xs, h2 with
  | [x, y], h2 =>
    simp only [NkAll, NkV] at h2
    obtain ⟨rfl, rfl, _⟩ := h2
    exact ⟨a, rfl, h1⟩
  | [], h2 => simp [NkAll] at h2
  | [x], h2 => simp [NkAll] at h2
  | x :: y :: z :: r, h2 => simp [NkAll] at h2
theorem mb_at {K : PySem.W.Frag} {H : Hp} {a b : Addr} {us : List V} {m : Mb} (h : SqT K H a [.str m.1, .ref b]) (h2 : SqT K H b us) (h3 : NkAll K H (m.2.map pk) us) : NkV K H (mk m) (.ref a) := by
  unfold mk
  simp only [NkV]
  exact ⟨a, _, rfl, h, by simp only [NkAll, NkV]; exact ⟨trivial, ⟨b, us, rfl, h2, h3⟩, trivial⟩⟩
theorem at_mb {K : PySem.W.Frag} {H : Hp} {v : V} {m : Mb} (h : NkV K H (mk m) v) : ∃ a b us, v = .ref a ∧ SqT K H a [.str m.1, .ref b] ∧ SqT K H b us ∧ NkAll K H (m.2.map pk) us := by
  unfold mk at h
  simp only [NkV] at h
  obtain ⟨a, xs, rfl, h1, h2⟩ := h
  match xs, h2 with
  | [x, y], h2 =>
    simp only [NkAll, NkV] at h2
    obtain ⟨rfl, ⟨b, us, rfl, h3, h4⟩, _⟩ := h2
    exact ⟨a, b, us, rfl, h1, h3, h4⟩
  | [], h2 => simp [NkAll] at h2
  | [x], h2 => simp [NkAll] at h2
  | x :: y :: z :: r, h2 => simp [NkAll] at h2
theorem nkAll_len {K : PySem.W.Frag} {H : Hp} : ∀ {ks : List NestedKey} {xs : List V}, NkAll K H ks xs → xs.length = ks.length
  | [], [], _ => rfl
  | [], _ :: _, h => by simp [NkAll] at h
  | _ :: _, [], h => by simp [NkAll] at h
  | k :: ks, x :: xs, h => by
    simp only [NkAll] at h
    rw [List.length_cons, List.length_cons, nkAll_len h.2]
theorem nkAll_get {K : PySem.W.Frag} {H : Hp} : ∀ {ks : List NestedKey} {xs : List V} {i : Nat} {x : V} {k : NestedKey}, NkAll K H ks xs → xs[i]? = some x → ks[i]? = some k → NkV K H k x
  | [], _, i, x, k, _, _, e => by cases e
  | _ :: _, [], i, x, k, _, e, _ => by cases e
  | k :: ks, x :: xs, 0, _, _, h, e1, e2 => by
    simp only [NkAll] at h
    cases e1
    cases e2
    exact h.1
  | k :: ks, x :: xs, i + 1, _, _, h, e1, e2 => by
    simp only [NkAll] at h
    exact nkAll_get (i := i) h.2 e1 e2
theorem nkAll_of {K : PySem.W.Frag} {H : Hp} : ∀ {ks : List NestedKey} {xs : List V}, xs.length = ks.length → (∀ (i : Nat) (x : V) (k : NestedKey), xs[i]? = some x → ks[i]? = some k → NkV K H k x) → NkAll K H ks xs
  | [], [], _, _ => by simp [NkAll]
  | [], _ :: _, h, _ => by cases h
  | _ :: _, [], h, _ => by cases h
  | k :: ks, x :: xs, h, g => by
    simp only [NkAll]
    exact ⟨g 0 x k rfl rfl, nkAll_of (Nat.succ.inj h) fun i y j e1 e2 => g (i + 1) y j e1 e2⟩
end NsX
/-! list comprehensions of three clauses without tests: a clause at a time -/
namespace C3
open PySem PySem.Spec PyProof.Rows L2
section
variable {prog : Program} {w : World} {A : Around} {R : Result → Shared → Prop} {s : Shared} {elt tg : Expr} {gs : List Comprehension} {scope : Scope} {pos p : Pos} {it acc : Value} {env : Env} {i : Nat} {body : Sem Unit}
/-- what a turn of a clause's loop does -/
def turnOf (e tg : Expr) (p : Pos) (i : Nat) (it acc : Value) (env : Env) (body : Sem Unit) (ifs : List Expr) : Sem PySem.Fin := do
  standAt p
  match ← pyNext it with
  | none => pure (.done .next)
  | some v =>
    letOwnedTupleGo tg it v
    assign tg env v
    let mut ok := true
    for c in ifs do
      if ok then ok ← isTrue c env (eval c env)
    if ok then
      body
    again (.compLoop e i it acc env)
theorem loop_lv (ct : compTurn (.ListComp elt gs scope pos) i it acc env = turnOf (.ListComp elt gs scope pos) tg p i it acc env body []) (I : Nat → Shared → Prop)
    (turn : ∀ n s, I n s → wpAny (model prog w) A (pyNext it) (fun r s1 => match r with
      | none => R (.ok .next) s1
      | some v => wpAny (model prog w) A (letOwnedTupleGo tg it v) (fun _ s2 => wpAny (model prog w) A (assign tg env v) (fun _ s3 => wpAny (model prog w) A body (fun _ s4 => ∃ m, m < n ∧ I m s4) (fun _ _ => False) s3) (fun _ _ => False) s2) (fun _ _ => False) s1) (fun _ _ => False) s)
    (n : Nat) (h : I n s) : codeAny (model prog w) A (.compLoop (.ListComp elt gs scope pos) i it acc env) R s := by
  refine codeAny_loop rfl I (fun n s hI => ?_) n h
  show wpAny _ A ((compTurn (.ListComp elt gs scope pos) i it acc env).onRaise (fun x => do noteFrame x env; theTreesLotGoes x)) _ _ s
  refine wpAny_noted ?_
  rw [ct]
  unfold turnOf
  refine wpAny_bind (wpAny_standAt (wpAny_bind (wpAny_mono (turn n s hI) (fun r s1 h1 => ?_) fun _ _ z => z.elim)))
  cases r with
  | none => exact wpAny_pure h1
  | some v =>
    refine wpAny_bind (wpAny_mono h1 (fun _ s2 h2 => ?_) fun _ _ z => z.elim)
    refine wpAny_bind (wpAny_mono h2 (fun _ s3 h3 => ?_) fun _ _ z => z.elim)
    refine wpAny_bind (wpAny_pure ?_)
    exact wpAny_bind (wpAny_mono h3 (fun _ s4 h4 => wpAny_pure ⟨rfl, h4⟩) fun _ _ z => z.elim)
end
section
variable {prog : Program} {w : World} {A : Around} {R : Result → Shared → Prop} {s : Shared} {elt t0 i0 t1 i1 t2 i2 : Expr} {scope : Scope} {pos : Pos} {it acc : Value} {env : Env}
abbrev three (t0 i0 t1 i1 t2 i2 : Expr) : List Comprehension := [⟨t0, i0, [], 0⟩, ⟨t1, i1, [], 0⟩, ⟨t2, i2, [], 0⟩]
theorem start_1 (h0 : codeAny (model prog w) A (.compLoop (.ListComp elt (three t0 i0 t1 i1 t2 i2) scope pos) 1 it acc env) R s)
    (h : wpAny (model prog w) A (pyIter it) (fun it' s' => codeAny (model prog w) A (.compLoop (.ListComp elt (three t0 i0 t1 i1 t2 i2) scope pos) 1 it' acc env) R s') (fun _ _ => False) s) :
    codeAny (model prog w) A (.compStart (.ListComp elt (three t0 i0 t1 i1 t2 i2) scope pos) 1 it acc env) R s := by
  refine codeAny_of_tree ?_
  show wpAny _ _ ((compStart (.ListComp elt (three t0 i0 t1 i1 t2 i2) scope pos) 1 it acc env).onRaise (fun x => do noteFrame x env; standAt theWindowsPlace)) _ _ s
  refine wpAny_notedAt ?_
  unfold compStart
  show wpAny _ _ (ask >>= _) _ _ s
  refine wpAny_bind (wpAny_askSetting (wpAny_ite ?_))
  split
  · first
      | exact wpAny_bind (wpAny_pure (wpAny_pure (And.intro rfl h0)))
      | exact wpAny_pure (And.intro rfl h0)
  · refine wpAny_bind (wpAny_rule ?_)
    show wpAny _ _ (standAt i1.pos >>= _) _ _ s
    exact wpAny_bind (wpAny_standAt (wpAny_bind (thnF h fun it' s' h' => wpAny_pure (And.intro rfl h'))))
theorem start_2 (h0 : codeAny (model prog w) A (.compLoop (.ListComp elt (three t0 i0 t1 i1 t2 i2) scope pos) 2 it acc env) R s)
    (h : wpAny (model prog w) A (pyIter it) (fun it' s' => codeAny (model prog w) A (.compLoop (.ListComp elt (three t0 i0 t1 i1 t2 i2) scope pos) 2 it' acc env) R s') (fun _ _ => False) s) :
    codeAny (model prog w) A (.compStart (.ListComp elt (three t0 i0 t1 i1 t2 i2) scope pos) 2 it acc env) R s := by
  refine codeAny_of_tree ?_
  show wpAny _ _ ((compStart (.ListComp elt (three t0 i0 t1 i1 t2 i2) scope pos) 2 it acc env).onRaise (fun x => do noteFrame x env; standAt theWindowsPlace)) _ _ s
  refine wpAny_notedAt ?_
  unfold compStart
  show wpAny _ _ (ask >>= _) _ _ s
  refine wpAny_bind (wpAny_askSetting (wpAny_ite ?_))
  split
  · first
      | exact wpAny_bind (wpAny_pure (wpAny_pure (And.intro rfl h0)))
      | exact wpAny_pure (And.intro rfl h0)
  · refine wpAny_bind (wpAny_rule ?_)
    show wpAny _ _ (standAt i2.pos >>= _) _ _ s
    exact wpAny_bind (wpAny_standAt (wpAny_bind (thnF h fun it' s' h' => wpAny_pure (And.intro rfl h'))))
def addTo (elt : Expr) (acc : Value) (env : Env) : Sem Unit := do let _ ← call (.builtin "list.append") [acc, ← eval elt env]
def turnIn (e tg iter : Expr) (p : Pos) (i n : Nat) (it acc : Value) (env : Env) (ifs : List Expr) : Sem PySem.Fin := do
  standAt p
  match ← pyNext it with
  | none => pure (.done .next)
  | some v =>
    letOwnedTupleGo tg it v
    assign tg env v
    let mut ok := true
    for c in ifs do
      if ok then ok ← isTrue c env (eval c env)
    if ok then
      let x ← eval iter env
      standAt iter.pos
      let x ← foldedSetIterable iter env x
      let _ ← runOwn (.compStart e n (← holding [x] (pyIter x)) acc env) env
    again (.compLoop e i it acc env)
theorem turn_0 : compTurn (.ListComp elt (three t0 i0 t1 i1 t2 i2) scope pos) 0 it acc env = turnIn (.ListComp elt (three t0 i0 t1 i1 t2 i2) scope pos) t0 i1 i0.pos 0 1 it acc env [] := by rfl
theorem turn_1 : compTurn (.ListComp elt (three t0 i0 t1 i1 t2 i2) scope pos) 1 it acc env = turnIn (.ListComp elt (three t0 i0 t1 i1 t2 i2) scope pos) t1 i2 i1.pos 1 2 it acc env [] := by rfl
theorem turn_2 : compTurn (.ListComp elt (three t0 i0 t1 i1 t2 i2) scope pos) 2 it acc env = turnOf (.ListComp elt (three t0 i0 t1 i1 t2 i2) scope pos) t2 i2.pos 2 it acc env (addTo elt acc env) [] := by rfl
end
section
variable {prog : Program} {w : World} {A : Around} {R : Result → Shared → Prop} {s : Shared} {elt tg iter : Expr} {gs : List Comprehension} {scope : Scope} {pos p : Pos} {it acc : Value} {env : Env} {i n0 : Nat}
theorem loop_in (ct : compTurn (.ListComp elt gs scope pos) i it acc env = turnIn (.ListComp elt gs scope pos) tg iter p i n0 it acc env []) (hs : ∀ x, foldedSetIterable iter env x = pure x) (I : Nat → Shared → Prop)
    (turn : ∀ n s, I n s → wpAny (model prog w) A (pyNext it) (fun r s1 => match r with
      | none => R (.ok .next) s1
      | some v => wpAny (model prog w) A (letOwnedTupleGo tg it v) (fun _ s2 => wpAny (model prog w) A (assign tg env v) (fun _ s3 => wpAny (model prog w) A (eval iter env) (fun x s4 => wpAny (model prog w) A (pyIter x) (fun it1 s5 =>
        codeAny (model prog w) A (.compStart (.ListComp elt gs scope pos) n0 it1 acc env) (fun r s' => match r with
          | .ok _ => ∃ m, m < n ∧ I m s'
          | .error _ => False) s5) (fun _ _ => False) s4) (fun _ _ => False) s3) (fun _ _ => False) s2) (fun _ _ => False) s1) (fun _ _ => False) s)
    (n : Nat) (h : I n s) : codeAny (model prog w) A (.compLoop (.ListComp elt gs scope pos) i it acc env) R s := by
  refine codeAny_loop rfl I (fun n s hI => ?_) n h
  show wpAny _ A ((compTurn (.ListComp elt gs scope pos) i it acc env).onRaise (fun x => do noteFrame x env; theTreesLotGoes x)) _ _ s
  refine wpAny_noted ?_
  rw [ct]
  unfold turnIn
  refine wpAny_bind (wpAny_standAt (wpAny_bind (thnF (turn n s hI) fun r s1 h1 => ?_)))
  cases r with
  | none => exact wpAny_pure h1
  | some v =>
    refine wpAny_bind (thnF h1 fun _ s2 h2 => ?_)
    refine wpAny_bind (thnF h2 fun _ s3 h3 => ?_)
    refine wpAny_bind (wpAny_pure ?_)
    refine wpAny_bind (thnF h3 fun x s4 h4 => ?_)
    refine wpAny_bind (wpAny_standAt (wpAny_bind (wpAny_of_eq (hs x) (wpAny_bind (wpAny_holding (thnF h4 fun it1 s5 h5 => ?_))))))
    refine wpAny_bind (wpAny_runOwn ?_)
    rw [Around.mark_none]
    refine codeAny_mono h5 fun r s' hr => ?_
    cases r with
    | ok f =>
      first
        | exact wpAny_pure ⟨rfl, hr⟩
        | exact wpAny_bind (wpAny_pure (wpAny_pure ⟨rfl, hr⟩))
    | error e => exact hr.elim
end
/-! a body, and what it promises -/
abbrev TBd := L2.St → Hp → (Hp → Prop) → Prop
def Keeps (σ : L2.St) (vs : List Nat) (σ' : L2.St) : Prop := σ'.length = σ.length ∧ ∀ (j : Nat) v, (wipe σ vs)[j]? = some (some v) → σ'[j]? = some (some v)
/-- behind a body -/
abbrev Aft (X : Cx) (pins : List (Addr × Obj)) (σ : L2.St) (vs : List Nat) (Nx : Hp → Prop) (s' : Shared) : Prop := ∃ σ' H', L2.Inv X pins σ' H' s' ∧ Keeps σ vs σ' ∧ Nx H'
structure RunsB (X : Cx) (body : Sem Unit) (Bd : TBd) (vs : List Nat) : Prop where
  run : ∀ (pins : List (Addr × Obj)) (s : Shared) (σ : L2.St) (H : Hp) (Nx : Hp → Prop), L2.Inv X pins σ H s → Bd σ H Nx → wpAny (model X.prog X.w) X.A body (fun _ s' => Aft X pins σ vs Nx s') (fun _ _ => False) s
/-- a clause behind another: its source, its start -/
structure RunsG (X : Cx) (e iter : Expr) (n : Nat) (acc : Value) (Bd : TBd) (vs : List Nat) : Prop where
  run : ∀ (pins : List (Addr × Obj)) (s : Shared) (σ : L2.St) (H : Hp) (Nx : Hp → Prop), L2.Inv X pins σ H s → Bd σ H Nx → wpAny (model X.prog X.w) X.A (eval iter X.env) (fun x s4 => wpAny (model X.prog X.w) X.A (pyIter x) (fun it1 s5 =>
    codeAny (model X.prog X.w) X.A (.compStart e n it1 acc X.env) (fun r s' => match r with
      | .ok _ => Aft X pins σ vs Nx s'
      | .error _ => False) s5) (fun _ _ => False) s4) (fun _ _ => False) s
/-- a clause's own loop: from the source's walk J, Nx reached behind it -/
def Lp (g : TG) (Bd : TBd) (vs : List Nat) (J : It) (σ : L2.St) (H : Hp) (Nx : Hp → Prop) : Prop := ∃ W : Nat → Nat → Hp → Prop, (∃ m, W 0 m H) ∧ ∀ j k H, W j k H →
  (J.stop j H ∧ Nx H) ∨ (J.go j H ∧ ∃ N1 : Hp → Prop, (∀ H', N1 H' → ∃ k', k' < k ∧ W (j + 1) k' H') ∧ ∀ x H', J.yld j H x H' → g x (wipe σ vs) H' fun σ3 H5 => wipe σ3 vs = wipe σ vs ∧ Bd σ3 H5 N1)
def tIn (wi : TI) (g : TG) (Bd : TBd) (vs : List Nat) : TBd := fun σ H Nx => wi σ H fun J H4 => Lp g Bd vs J σ H4 Nx
section
variable {X : Cx} {elt tg iter : Expr} {gs : List Comprehension} {scope : Scope} {pos : Pos} {wi : TI} {g : TG} {Bd : TBd} {body : Sem Unit} {vs vs1 : List Nat} {acc : Value}
theorem runs_add {te : TE} {D : Addr} (hx : X.xe = fun _ _ => False) (pe : PE X elt te) : RunsB X (addTo elt (.ref D) X.env) (fun σ H Nx => te σ H fun y H8 => ∃ acc, H8 D = some (.lst acc) ∧ acc.length < sizeLine ∧ Nx (upd H8 D (.lst (acc ++ [y])))) [] := by
  refine ⟨fun pins s σ H Nx I q => ?_⟩
  have z := pe.run pins s σ H _ I q
  rw [hx] at z
  unfold addTo
  refine wpAny_bind (thnF z fun u s1 ⟨y, H1, I1, r1, acc, hD, hz, nx⟩ => ?_)
  refine wpAny_bind ?_
  exact app_ok (X := X) I1 hD hz r1 fun s2 I2 => wpAny_pure ⟨σ, _, I2, ⟨rfl, fun j v e => e⟩, nx⟩
theorem wipe_wipe {σ : L2.St} {vs vs1 : List Nat} (h : ∀ i ∈ vs, i ∈ vs1) {j : Nat} {v : V} (e : (wipe σ vs1)[j]? = some (some v)) : (wipe σ vs)[j]? = some (some v) := by
  obtain ⟨e1, e2⟩ := wipe_some e
  rw [wipe_out fun z => e2 (h j z)]
  exact e1
/-- what happens to the state behind a turn -/
theorem fin_turn {T : Turn X.prog X.w X.K tg J fp it tn} {pins : List (Addr × Obj)} {σ σ8 : L2.St} {s7 s' : Shared} {j : Nat} {Nx : Hp → Prop} (hv : ∀ i ∈ vs, i ∈ vs1) (hw : wipe σ8 vs1 = wipe σ vs1) (st7 : tn (j + 1) s7.heap) (A : Aft X (pins ++ pinsAt fp s7.heap) σ8 vs Nx s') :
    ∃ H', L2.Inv X pins (wipe σ vs1) H' s' ∧ tn (j + 1) s'.heap ∧ (∀ b ∈ fp, H' b = none) ∧ Nx H' := by
  obtain ⟨σ9, H9, I9, ⟨l9, k9⟩, nx⟩ := A
  have pin' : ∀ b ∈ fp, ∀ o, s7.heap.get? b = some o → s'.heap.get? b = some o ∧ H9 b = none := fun b hb o e =>
    let z := I9.pin (b, o) (List.mem_append_right _ (List.mem_append_right _ (mem_pinsAt hb e)))
    ⟨z.1, z.2.1⟩
  refine ⟨H9, (I9.unpinned (pins := pins)).weak (by rw [l9, ← hw, wipe_length]) (fun j v e => k9 j v (wipe_wipe hv (by rw [hw]; exact e))), T.keep _ _ _ st7 fun b hb o e => (pin' b hb o e).1, fun b hb => ?_, nx⟩
  obtain ⟨o, e, _⟩ := T.obj _ _ st7 b hb
  exact (pin' b hb o e).2
theorem runs_last {n : Nat} {p : Pos} (hc : X.calm = true) (hx : X.xe = fun _ _ => False) (pi : PI X tg iter wi) (pg : PG X tg g) (RB : RunsB X body Bd vs) (hv : ∀ i ∈ vs, i ∈ vs1)
    (ct : ∀ it, compTurn (.ListComp elt gs scope pos) n it acc X.env = turnOf (.ListComp elt gs scope pos) tg p n it acc X.env body [])
    (start : ∀ {it : Value} {R : Result → Shared → Prop} {s : Shared}, codeAny (model X.prog X.w) X.A (.compLoop (.ListComp elt gs scope pos) n it acc X.env) R s → wpAny (model X.prog X.w) X.A (pyIter it) (fun it' s' => codeAny (model X.prog X.w) X.A (.compLoop (.ListComp elt gs scope pos) n it' acc X.env) R s') (fun _ _ => False) s → codeAny (model X.prog X.w) X.A (.compStart (.ListComp elt gs scope pos) n it acc X.env) R s) :
    RunsG X (.ListComp elt gs scope pos) iter n acc (tIn wi g Bd vs1) vs1 := by
  refine ⟨fun pins s9 σ8 H9 Nx I9 q9 => ?_⟩
  have z := pi.run pins s9 σ8 H9 _ I9 q9
  rw [hx] at z
  refine thnF z fun xv s10 h10 => thnF h10 fun itv s11 h11 => ?_
  obtain ⟨it1, fp1, tn1, J1, H11, rfl, I11, T1, st11, f11, W1, ⟨m1, w1⟩, turn1⟩ := h11
  have stat1 : ∀ {H' : Hp}, (∀ b ∈ fp1, H' b = none) → ∀ b ∈ fp1, FpOk X pins H' b := fun hn b hb => ⟨hn b hb, (f11 b hb).2⟩
  have loop : codeAny (model X.prog X.w) X.A (.compLoop (.ListComp elt gs scope pos) n (.ref it1) acc X.env) (fun r s' => match r with
      | .ok _ => Aft X pins σ8 vs1 Nx s'
      | .error _ => False) s11 := by
    refine loop_lv (ct (.ref it1)) (fun k s' => ∃ j H', L2.Inv X pins (wipe σ8 vs1) H' s' ∧ tn1 j s'.heap ∧ (∀ b ∈ fp1, H' b = none) ∧ W1 j k H') ?_ m1 ⟨0, H11, I11.weak (wipe_length _ _) (fun j v e => (wipe_some e).1), st11, fun b hb => (f11 b hb).1, w1⟩
    rintro k s12 ⟨j, H12, I12, st12, n12, w12⟩
    rcases turn1 j k H12 w12 with ⟨stop1, nx1⟩ | ⟨go1, N1, hN1, step1⟩
    · refine thnF (T1.done X rfl rfl rfl hc j pins s12 (wipe σ8 vs1) H12 (fun _ _ => False) I12 (stat1 n12) st12 stop1) fun r s13 ⟨hr, I13⟩ => ?_
      subst hr
      exact ⟨_, H12, I13, ⟨wipe_length _ _, fun j v e => e⟩, nx1⟩
    · refine thnF (T1.item X rfl rfl rfl hc j pins s12 (wipe σ8 vs1) H12 (fun _ _ => False) I12 (stat1 n12) st12 go1) fun r s13 ⟨u1, hr, h13⟩ => ?_
      subst hr
      refine thnF h13 fun _ s14 ⟨x1, H14, I14, r14, y14, st14, n14⟩ => ?_
      have zg := pg.run _ s14 (wipe σ8 vs1) H14 x1 u1 _ (I14.pinned (stat1 n14) (T1.obj _ _ st14)) r14 (step1 x1 H14 y14)
      rw [hx] at zg
      refine thnF zg fun _ s15 ⟨σ15, H15, I15, hw15, q15⟩ => ?_
      refine thnF (RB.run _ s15 σ15 H15 _ I15 q15) fun _ s16 A => ?_
      obtain ⟨H', I', tn', nn, nx⟩ := fin_turn (T := T1) hv hw15 st14 A
      obtain ⟨m', hm, w'⟩ := hN1 H' nx
      exact ⟨m', hm, j + 1, H', I', tn', nn, w'⟩
  exact start loop (T1.self X.A 0 _ _ _ st11 loop)
theorem runs_mid {n n' : Nat} {p : Pos} {iter' : Expr} (hc : X.calm = true) (hx : X.xe = fun _ _ => False) (pi : PI X tg iter wi) (pg : PG X tg g) (RB : RunsG X (.ListComp elt gs scope pos) iter' n' acc Bd vs) (hv : ∀ i ∈ vs, i ∈ vs1) (hs : ∀ x, foldedSetIterable iter' X.env x = pure x)
    (ct : ∀ it, compTurn (.ListComp elt gs scope pos) n it acc X.env = turnIn (.ListComp elt gs scope pos) tg iter' p n n' it acc X.env [])
    (start : ∀ {it : Value} {R : Result → Shared → Prop} {s : Shared}, codeAny (model X.prog X.w) X.A (.compLoop (.ListComp elt gs scope pos) n it acc X.env) R s → wpAny (model X.prog X.w) X.A (pyIter it) (fun it' s' => codeAny (model X.prog X.w) X.A (.compLoop (.ListComp elt gs scope pos) n it' acc X.env) R s') (fun _ _ => False) s → codeAny (model X.prog X.w) X.A (.compStart (.ListComp elt gs scope pos) n it acc X.env) R s) :
    RunsG X (.ListComp elt gs scope pos) iter n acc (tIn wi g Bd vs1) vs1 := by
  refine ⟨fun pins s9 σ8 H9 Nx I9 q9 => ?_⟩
  have z := pi.run pins s9 σ8 H9 _ I9 q9
  rw [hx] at z
  refine thnF z fun xv s10 h10 => thnF h10 fun itv s11 h11 => ?_
  obtain ⟨it1, fp1, tn1, J1, H11, rfl, I11, T1, st11, f11, W1, ⟨m1, w1⟩, turn1⟩ := h11
  have stat1 : ∀ {H' : Hp}, (∀ b ∈ fp1, H' b = none) → ∀ b ∈ fp1, FpOk X pins H' b := fun hn b hb => ⟨hn b hb, (f11 b hb).2⟩
  have loop : codeAny (model X.prog X.w) X.A (.compLoop (.ListComp elt gs scope pos) n (.ref it1) acc X.env) (fun r s' => match r with
      | .ok _ => Aft X pins σ8 vs1 Nx s'
      | .error _ => False) s11 := by
    refine loop_in (ct (.ref it1)) hs (fun k s' => ∃ j H', L2.Inv X pins (wipe σ8 vs1) H' s' ∧ tn1 j s'.heap ∧ (∀ b ∈ fp1, H' b = none) ∧ W1 j k H') ?_ m1 ⟨0, H11, I11.weak (wipe_length _ _) (fun j v e => (wipe_some e).1), st11, fun b hb => (f11 b hb).1, w1⟩
    rintro k s12 ⟨j, H12, I12, st12, n12, w12⟩
    rcases turn1 j k H12 w12 with ⟨stop1, nx1⟩ | ⟨go1, N1, hN1, step1⟩
    · refine thnF (T1.done X rfl rfl rfl hc j pins s12 (wipe σ8 vs1) H12 (fun _ _ => False) I12 (stat1 n12) st12 stop1) fun r s13 ⟨hr, I13⟩ => ?_
      subst hr
      exact ⟨_, H12, I13, ⟨wipe_length _ _, fun j v e => e⟩, nx1⟩
    · refine thnF (T1.item X rfl rfl rfl hc j pins s12 (wipe σ8 vs1) H12 (fun _ _ => False) I12 (stat1 n12) st12 go1) fun r s13 ⟨u1, hr, h13⟩ => ?_
      subst hr
      refine thnF h13 fun _ s14 ⟨x1, H14, I14, r14, y14, st14, n14⟩ => ?_
      have zg := pg.run _ s14 (wipe σ8 vs1) H14 x1 u1 _ (I14.pinned (stat1 n14) (T1.obj _ _ st14)) r14 (step1 x1 H14 y14)
      rw [hx] at zg
      refine thnF zg fun _ s15 ⟨σ15, H15, I15, hw15, q15⟩ => ?_
      refine thnF (RB.run _ s15 σ15 H15 _ I15 q15) fun x4 s16 h16 => thnF h16 fun it5 s17 h17 => ?_
      refine codeAny_mono h17 fun r s18 hr => ?_
      cases r with
      | error e => exact hr.elim
      | ok f =>
        obtain ⟨H', I', tn', nn, nx⟩ := fin_turn (T := T1) hv hw15 st14 hr
        obtain ⟨m', hm, w'⟩ := hN1 H' nx
        exact ⟨m', hm, j + 1, H', I', tn', nn, w'⟩
  exact start loop (T1.self X.A 0 _ _ _ st11 loop)
end
/-- [elt for t0 in i0 for t1 in i1 for t2 in i2] -/
def bdAdd (te : TE) (D : Addr) : TBd := fun σ H Nx => te σ H fun y H8 => ∃ acc, H8 D = some (.lst acc) ∧ acc.length < sizeLine ∧ Nx (upd H8 D (.lst (acc ++ [y])))
def tLc3 (wi : TI) (g : TG) (wi1 : TI) (g1 : TG) (wi2 : TI) (g2 : TG) (te : TE) (vs vs1 vs2 : List Nat) : TE := fun σ H Q => wi σ H fun J H1 => ∀ D, H1 D = none → Lp g (tIn wi1 g1 (tIn wi2 g2 (bdAdd te D) vs2) vs1) vs J σ (upd H1 D (.lst [])) fun H2 => Q (.ref D) H2
theorem pe_lc3 {X : Cx} {elt t0 i0 t1 i1 t2 i2 : Expr} {scope : Scope} {own : List (Str × Nat)} {vs1 vs2 : List Nat} {pos : Pos} {wi wi1 wi2 : TI} {g g1 g2 : TG} {te : TE} (hc : X.calm = true) (hN : X.N.Nodup) (hi : PI X t0 i0 wi) (ok : BlkOk X.N X.env.scope scope own) (hv : ∀ i ∈ vs1, i ∈ own.map (·.2)) (hv2 : ∀ i ∈ vs2, i ∈ vs1)
    (hg : ∀ (s : Shared) (H : Hp) (C : Addr) (cl : List (Str × Addr)) (fp : List Addr), PG (X.blk s H scope (compEnvC scope cl C X.env) fp) t0 g)
    (hi1 : ∀ (s : Shared) (H : Hp) (C : Addr) (cl : List (Str × Addr)) (fp : List Addr), PI (X.blk s H scope (compEnvC scope cl C X.env) fp) t1 i1 wi1)
    (hg1 : ∀ (s : Shared) (H : Hp) (C : Addr) (cl : List (Str × Addr)) (fp : List Addr), PG (X.blk s H scope (compEnvC scope cl C X.env) fp) t1 g1)
    (hi2 : ∀ (s : Shared) (H : Hp) (C : Addr) (cl : List (Str × Addr)) (fp : List Addr), PI (X.blk s H scope (compEnvC scope cl C X.env) fp) t2 i2 wi2)
    (hg2 : ∀ (s : Shared) (H : Hp) (C : Addr) (cl : List (Str × Addr)) (fp : List Addr), PG (X.blk s H scope (compEnvC scope cl C X.env) fp) t2 g2)
    (he : ∀ (s : Shared) (H : Hp) (C : Addr) (cl : List (Str × Addr)) (fp : List Addr), PE (X.blk s H scope (compEnvC scope cl C X.env) fp) elt te) (hs : ∀ x, foldedSetIterable i0 X.env x = pure x := by intro _; rfl)
    (hs1 : ∀ env x, foldedSetIterable i1 env x = pure x := by intro _ _; rfl) (hs2 : ∀ env x, foldedSetIterable i2 env x = pure x := by intro _ _; rfl) :
    PE X (.ListComp elt (three t0 i0 t1 i1 t2 i2) scope pos) (tLc3 wi g wi1 g1 wi2 g2 te (own.map (·.2)) vs1 vs2) := by
  refine ⟨fun pins s σ H Q I h => ?_⟩
  rw [eval_ListComp]
  have hfree : ∀ y ∈ scope.names, y.2 = .free → ∃ c, X.env.cells.lookup y.1 = some c := fun y hy e => by
    rcases ok.free y hy e with k | k
    · exact I.ok.has _ (.inl k)
    · exact I.ok.has _ (.inr k)
  refine wpAny_comprehension_free (use := none) rfl hs (closure_ok hfree) ok.kind (fun y hy e => by rw [ok.uniq y hy, e])
    (thn (hi.run pins s σ H _ I h) fun xv s1 h1 => thn h1 fun itv s2 h2 => ?_)
  obtain ⟨it, fp, tn, J, H2, rfl, I2, T, st2, f2, q⟩ := h2
  refine wpAny_newObj_type (newEnv_comp ?_) (by show 0 ≤ sizeLine; decide)
  generalize hD : s2.heap.objs.size = D
  have hDn : H2 D = none := I2.hok.fresh (Nat.le_of_eq hD)
  obtain ⟨W, ⟨m0, w0⟩, turn⟩ := q D hDn
  generalize hs3 : ({ s2 with heap := s2.heap.push { cls := .type "list", data := .seq ([] : List Value).toArray } } : Shared) = s3
  have I3 : L2.Inv X pins σ (upd H2 D (.lst [])) s3 := by
    rw [← hs3]
    refine I2.laid (t' := s2.toks) (fun b o e => Heap.get?_push_of_some _ e) (Nat.le_of_eq hD) ⟨Nat.zero_le _, [], 0, .nil, ?_⟩
    rw [← hD]
    exact Heap.get?_push_size _ rfl
  have h3 : s3.heap = s2.heap.push { cls := .type "list", data := .seq ([] : List Value).toArray } := by rw [← hs3]
  have f3 : ∀ b ∈ fp, FpOk X pins (upd H2 D (.lst [])) b ∧ b < s3.heap.objs.size := fun b hb => by
    have hlt : b < s2.heap.objs.size := by
      obtain ⟨o, e, _⟩ := T.obj _ _ st2 b hb
      exact Heap.lt_size e
    refine ⟨⟨?_, (f2 b hb).2⟩, by rw [h3, Heap.size_push]; exact Nat.lt_succ_of_lt hlt⟩
    rw [upd_ne (by rw [← hD]; exact Nat.ne_of_lt hlt)]
    exact (f2 b hb).1
  have st3 : tn 0 s3.heap := T.keep _ _ _ st2 fun b _ o e => by rw [h3]; exact Heap.get?_push_of_some _ e
  have I4 := block_start I3 ok hN f3
  have pg := hg s3 (upd H2 D (.lst [])) s3.heap.objs.size (cellsFrom (s3.heap.objs.size + 1) scope.names (cloFrom X.env.cells scope.names [])) fp
  have pi1 := hi1 s3 (upd H2 D (.lst [])) s3.heap.objs.size (cellsFrom (s3.heap.objs.size + 1) scope.names (cloFrom X.env.cells scope.names [])) fp
  have pg1 := hg1 s3 (upd H2 D (.lst [])) s3.heap.objs.size (cellsFrom (s3.heap.objs.size + 1) scope.names (cloFrom X.env.cells scope.names [])) fp
  have pi2 := hi2 s3 (upd H2 D (.lst [])) s3.heap.objs.size (cellsFrom (s3.heap.objs.size + 1) scope.names (cloFrom X.env.cells scope.names [])) fp
  have pg2 := hg2 s3 (upd H2 D (.lst [])) s3.heap.objs.size (cellsFrom (s3.heap.objs.size + 1) scope.names (cloFrom X.env.cells scope.names [])) fp
  have pe := he s3 (upd H2 D (.lst [])) s3.heap.objs.size (cellsFrom (s3.heap.objs.size + 1) scope.names (cloFrom X.env.cells scope.names [])) fp
  show codeAny _ _ (.compStart (.ListComp elt (three t0 i0 t1 i1 t2 i2) scope pos) 0 (.ref it) (.ref D) (compEnvC scope (cellsFrom (s3.heap.objs.size + 1) scope.names (cloFrom X.env.cells scope.names [])) s3.heap.objs.size X.env)) (compPost (model X.prog X.w) X.A X.xe none _ (.ref D) s3.heap.objs.size) { s3 with heap := pushCells (s3.heap.push { cls := .type "dict", data := .dict #[] }) scope.names }
  have nfp : ∀ b ∈ fp, (upd H2 D (.lst [])) b = none := fun b hb => (f3 b hb).1.1
  generalize hce : compEnvC scope (cellsFrom (s3.heap.objs.size + 1) scope.names (cloFrom X.env.cells scope.names [])) s3.heap.objs.size X.env = ce at I4 pg pi1 pg1 pi2 pg2 pe ⊢
  have cL : ce.locals = s3.heap.objs.size := by subst hce; rfl
  generalize hH3 : upd H2 D (.lst []) = H3 at I3 I4 pg pi1 pg1 pi2 pg2 pe w0 nfp f3
  generalize hs4 : ({ s3 with heap := pushCells (s3.heap.push { cls := .type "dict", data := .dict #[] }) scope.names } : Shared) = s4 at I4 ⊢
  have st4 : tn 0 s4.heap := T.keep _ _ _ st3 fun b _ o e => by rw [← hs4]; exact pushCells_keeps _ _ _ _ (Heap.get?_push_of_some _ e)
  have stat : ∀ {σ' : L2.St} {H' : Hp} {s' : Shared}, L2.Inv (X.blk s3 H3 scope ce fp) [] σ' H' s' → (∀ b ∈ fp, H' b = none) → ∀ b ∈ fp, FpOk (X.blk s3 H3 scope ce fp) [] H' b := fun {σ' H' s'} I' hn b hb =>
    ⟨hn b hb, (I'.ok.exf b hb).1, I'.ok.exfs b hb, .inl hb, fun x c e => (I'.ok.exf b hb).2 x c e, fun p hp => absurd (show p ∈ ([] : List (Addr × Obj)) ++ [] from hp) (by simp)⟩
  have R2 := runs_last (X := X.blk s3 H3 scope ce fp) (elt := elt) (gs := three t0 i0 t1 i1 t2 i2) (scope := scope) (pos := pos) (acc := .ref D) (vs1 := vs2) (n := 2) hc rfl pi2 pg2 (runs_add (D := D) rfl pe) (fun i hi => by cases hi) (fun it => turn_2) (fun h0 h => start_2 h0 h)
  have R1 := runs_mid (X := X.blk s3 H3 scope ce fp) (vs1 := vs1) (n := 1) hc rfl pi1 pg1 R2 hv2 (hs2 ce) (fun it => turn_1) (fun h0 h => start_1 h0 h)
  have loop : codeAny (model X.prog X.w) X.A (.compLoop (.ListComp elt (three t0 i0 t1 i1 t2 i2) scope pos) 0 (.ref it) (.ref D) ce) (compPost (model X.prog X.w) X.A X.xe none (fun v s' => ∃ x H', L2.Inv X pins σ H' s' ∧ RelV x v ∧ Q x H') (.ref D) s3.heap.objs.size) s4 := by
    refine loop_in turn_0 (hs1 ce) (fun n s' => ∃ i H', L2.Inv (X.blk s3 H3 scope ce fp) [] (wipe σ (own.map (·.2))) H' s' ∧ tn i s'.heap ∧ (∀ b ∈ fp, H' b = none) ∧ W i n H') ?_ m0 ⟨0, H3, I4, st4, nfp, w0⟩
    rintro n s5 ⟨i, H5, I5, st5, n5, w5⟩
    rcases turn i n H5 w5 with ⟨stop, qq⟩ | ⟨go, Nx, hNx, step⟩
    · refine thnF (T.done (X.blk s3 H3 scope ce fp) rfl rfl rfl hc i [] s5 _ H5 (fun _ _ => False) I5 (stat I5 n5) st5 stop) fun r s6 ⟨hr, I6⟩ => ?_
      subst hr
      have I7 : L2.Inv X pins σ H5 s6 := I3.call' (ch := fp) I6.os I6.base I6.hok I6.bare fun b hb => ⟨(f3 b hb).1.2.2.2.1, (f3 b hb).1.2.1, (f3 b hb).1.2.2.2.2.1, (f3 b hb).1.2.2.2.2.2⟩
      have nC : H5 s3.heap.objs.size = none := by
        have z : H5 ce.locals = none := I6.free
        rwa [cL] at z
      obtain ⟨m, hn, _⟩ := I6.loc
      have hn : s6.heap.Ns ce.locals m := hn
      rw [cL] at hn
      obtain ⟨f0, f1, f2, f3, f4, f5⟩ := I3.fpOk (H' := H5) (Nat.le_refl _) nC
      refine ⟨m, hn, fun h'' sb => ?_⟩
      exact ⟨.ref D, H5, I7.turned (t' := s6.toks) (fun b o hb e => (sb.2 b hb).trans e) f0 f1 f3 f4 f5, rfl, qq⟩
    · refine thnF (T.item (X.blk s3 H3 scope ce fp) rfl rfl rfl hc i [] s5 _ H5 (fun _ _ => False) I5 (stat I5 n5) st5 go) fun r s6 ⟨u, hr, h6⟩ => ?_
      subst hr
      refine thnF h6 fun _ s7 ⟨x, H7, I7, r7, y7, st7, n7⟩ => ?_
      have I7' := I7.pinned (stat I7 n7) (T.obj _ _ st7)
      refine thnF (pg.run _ s7 _ H7 x u _ I7' r7 (step x H7 y7)) fun _ s8 ⟨σ8, H8, I8, hw8, q8⟩ => ?_
      refine thnF (R1.run _ s8 σ8 H8 _ I8 q8) fun x4 s9 h9 => thnF h9 fun it5 s10 h10 => ?_
      refine codeAny_mono h10 fun r s11 hr => ?_
      cases r with
      | error e => exact hr.elim
      | ok f =>
        obtain ⟨H', I', tn', nn, nx⟩ := fin_turn (X := X.blk s3 H3 scope ce fp) (T := T) hv hw8 st7 hr
        obtain ⟨m', hm, w'⟩ := hNx H' nx
        exact ⟨m', hm, i + 1, H', I', tn', nn, w'⟩
  exact codeAny_compStart_list loop (T.self X.A 0 _ _ _ st4 loop)
end C3
namespace Lw
open PySem L2 TzR
/-- a def that is called, by its promise -/
structure Ca (P : Program) (w : World) (K : PySem.W.Frag) (mg : Str → Option Value) (base : Heap) (n : Nat) (x : Str) (ps : List Str) (sp : Sp) : Prop where
  ex : ∃ (g : Addr) (gd : FuncData), FnOk P w K mg base CX0 n g gd ps sp ∧ Binds K gd ps [] ∧ PySem.W.keepIn K (.ref g) = true ∧ mg x = some (.ref g)
section
variable {X : Cx} {k j : Nat} {x : Str} {ps : List Str} {sp : Sp} {p pos : Pos} {e : Expr} {es : List Expr} {t : TA}
theorem pca (c : Ca X.prog X.w X.K X.mg X.base k x ps sp) (hr : Room j X.A) (hk : k ≤ j) (hg : Gl X x) (ha : PA X (e :: es) t)
    (hdb : (x == ("__debug__" : Str)) = false := by decide) (he : starEach (e :: es) X.env = (false, eval e X.env) :: starEach es X.env := by rfl) (hpl : (backTo pos (starEach es X.env)).any (·.1) = false := by rfl) :
    PE X (.Call (.Name x p) (e :: es) [] pos) (tCall sp [] E0 t) := by
  obtain ⟨f, fd, F, b, kp, hm⟩ := c.ex
  exact pe_call F (hr.mono hk) hg hm kp b .nil pass0 ha hdb he hpl
end
theorem nd_len {α : Type} [DecidableEq α] : ∀ (l D : List α), l.Nodup → (∀ x ∈ l, x ∈ D) → l.length ≤ D.length
  | [], _, _, _ => Nat.zero_le _
  | x :: r, D, nd, h => by
    obtain ⟨n1, n2⟩ := List.nodup_cons.mp nd
    have hx := h x (List.mem_cons_self ..)
    have z := nd_len r (D.erase x) n2 fun y hy => (List.mem_erase_of_ne (fun e : y = x => n1 (by rw [← e]; exact hy))).mpr (h y (List.mem_cons_of_mem _ hy))
    rw [List.length_erase_of_mem hx] at z
    have : 0 < D.length := List.length_pos_of_mem hx
    rw [List.length_cons]
    omega
theorem letok_len {ys zs : List Str} (h : Ey.LetOk ys zs) : ys.length ≤ zs.length := by
  obtain ⟨l, nd, e, m⟩ := h.ex
  rw [e]
  exact nd_len l zs nd fun z hz => (m z).mp hz
/-- a use, as data -/
structure UQ where
  nm : Str
  ls : List Str
  l : List (Str × Int)
def UqOk (q : UQ) : Prop := Good q.l q.ls.length ∧ q.ls.length ≤ 3 ∧ q.ls.Nodup
def UsesAt (K : PySem.W.Frag) (U C : Addr) (H : Hp) (us : List V) (qs : List UQ) : Prop := us.length = qs.length ∧ ∀ (i : Nat) (u : V) (q : UQ), us[i]? = some u → qs[i]? = some q → ∃ p f, u = .ref p ∧ UseAt K U C H p q.nm q.ls f (q.l.map (·.1)) (q.l.map (·.2))
theorem UsesAt.same {K : PySem.W.Frag} {U C : Addr} {H H' : Hp} {us : List V} {qs : List UQ} (g : Same H H') (h : UsesAt K U C H us qs) : UsesAt K U C H' us qs := ⟨h.1, fun i u q e1 e2 => (h.2 i u q e1 e2).elim fun p z => z.elim fun f z => ⟨p, f, z.1, z.2.same g⟩⟩
theorem UseAt.kp {K : PySem.W.Frag} {U C S x dx : Addr} {H H' : Hp} {p q : Addr} {nm : Str} {ls ks : List Str} {is : List Int} (k : Kp x H H') (hx : H x = some (.ins S dx [])) : UseAt K U C H p nm ls q ks is → UseAt K U C H' p nm ls q ks is
  | ⟨d, tl, h1, h2, h3⟩ => ⟨d, tl, k _ _ (fun e => by rw [e, hx] at h1; cases h1) h1, tzK k hx h2, h3.kp (fs := []) k hx⟩
theorem UsesAt.kp {K : PySem.W.Frag} {U C S x dx : Addr} {H H' : Hp} {us : List V} {qs : List UQ} (k : Kp x H H') (hx : H x = some (.ins S dx [])) (h : UsesAt K U C H us qs) : UsesAt K U C H' us qs := ⟨h.1, fun i u q e1 e2 => (h.2 i u q e1 e2).elim fun p z => z.elim fun f z => ⟨p, f, z.1, z.2.kp k hx⟩⟩
structure Ui (K : PySem.W.Frag) (U : Addr) : Prop where
  ic : C8.InsC K U
  sL : PySem.W.kitOne K (.ref U) (.type "list") = some false
  sT : PySem.W.kitOne K (.ref U) (.type "tuple") = some false
theorem Ui.any {K : PySem.W.Frag} {U : Addr} (T : Ui K U) : PySem.W.kitAny K (.ref U) [.type "list", .type "tuple"] = some false :=
  kitAny_cons T.sL (fun _ => kitAny_cons T.sT (fun _ => rfl) (fun h => by cases h)) (fun h => by cases h)
section
variable {P : Program} {w : World} {K : PySem.W.Frag} {mg : Str → Option Value} {base : Heap} {f U C BL PG fI : Addr} {fd : FuncData}
def spFrU (U : Addr) : Sp := fun vs H Q _ => ∃ (p dx : Addr) (fs : List (Str × V)), vs = [.ref p] ∧ H p = some (.ins U dx fs) ∧ ∀ H' : Hp, Same H H' → Q (.ref p) H'
theorem ok_frU (F : Fun K "frozen" "frozen" sFrozen f fd) (B : Bt mg) (T : Ui K U) : FnOk P w K mg base CX0 1 f fd ["worth"] (spFrU U) := by
  refine F.ok scF (fun vs H Q E h => ?_) (fun cdv A outer s H vs Q E hr h => ?_)
  · obtain ⟨p, dx, fs, rfl, _⟩ := h
    rfl
  obtain ⟨p, dx, fs, rfl, hp, q⟩ := h
  refine ⟨_, pss_cons (ps_if (pt_val (pe_callB call_isiT (by rfl) B.isi (by decide +kernel) (pa_cons (pv 0) (pa_cons (pe_tup (pa_cons (pe_bltn (v := .ty "list") (by rfl) B.lst (by decide +kernel) rfl) (pa_cons (pe_bltn (v := .ty "tuple") (by rfl) B.tup (by decide +kernel) rfl) pa_nil))) pa_nil)))) (pss_one ps_never) pss_nil)
    (pss_one (ps_ret (pv 0))), ?_⟩
  refine ⟨_, rfl, (by show 2 ≤ sizeLine; decide), fun t ht => ?_⟩
  have g1 := same_new ht (.tup [.ty "list", .ty "tuple"])
  refine ⟨_, t, _, .ref U, [.type "list", .type "tuple"], false, rfl, upd_same, .cons (.ty _) (.cons (.ty _) .nil), Ey.tyI T.ic (g1 _ _ hp), T.any, _, rfl, ?_⟩
  exact iteF ⟨_, rfl, q _ g1⟩
/-- instances of the class U -/
def AllU (U : Addr) (H : Hp) (us : List V) : Prop := ∀ u ∈ us, ∃ p dx fs, u = .ref p ∧ H p = some (.ins U dx fs)
theorem UsesAt.allU {H : Hp} {us : List V} {qs : List UQ} (h : UsesAt K U C H us qs) : AllU U H us := fun u hu => by
  obtain ⟨i, hi, e⟩ := List.mem_iff_getElem.mp hu
  have hi2 : i < qs.length := by rw [← h.1]; exact hi
  obtain ⟨p, f, e1, ⟨dx, tl, h1, _⟩⟩ := h.2 i u _ (by rw [List.getElem?_eq_getElem hi, e]) (List.getElem?_eq_getElem hi2)
  exact ⟨p, dx, _, e1, h1⟩
def spFrzU (K : PySem.W.Frag) (U : Addr) : Sp := fun vs H Q _ => ∃ (a : Addr) (us : List V), vs = [.ref a] ∧ SqL K H a us ∧ AllU U H us ∧ us.length ≤ 900 ∧ ∀ (t : Addr) (H' : Hp), Same H H' → SqT K H' t us → Q (.ref t) H'
theorem ok_frzU (F : Fun K "frozen" "frozen" sFrozen f fd) (bF : Binds K fd ["worth"] []) (mF : mg "frozen" = some (.ref f)) (B : Bt mg) (T : Ui K U) : FnOk P w K mg base CX0 2 f fd ["worth"] (spFrzU K U) := by
  have G : FnOk P w K mg base CX0 1 f fd ["worth"] (spFrU U) := ok_frU F B T
  refine F.ok scF (fun vs H Q E h => ?_) (fun cdv A outer s H vs Q E hr h => ?_)
  · obtain ⟨a, us, rfl, _⟩ := h
    rfl
  obtain ⟨a, us, rfl, hS, hU, hl, q⟩ := h
  refine ⟨_, pss_cons (ps_if (pt_val (pe_callB call_isiT (by rfl) B.isi (by decide +kernel) (pa_cons (pv 0) (pa_cons (pe_tup (pa_cons (pe_bltn (v := .ty "list") (by rfl) B.lst (by decide +kernel) rfl) (pa_cons (pe_bltn (v := .ty "tuple") (by rfl) B.tup (by decide +kernel) rfl) pa_nil))) pa_nil))))
      (pss_one (ps_ret (pe_callTy call_tuple_of (by rfl) B.tup (by decide +kernel) (pa_cons (pe_lc (own := [("part", 1)]) (g := gName 1) (tt := tYes) rfl scF.nd (pi_list (pv 0)) (blkOk_by (N := ["worth", "part"]) (sc := defScope sFrozen) (by decide +kernel))
        (fun _ _ _ _ _ => pg_name (i := 1) scF.nd rfl (Or.inl rfl)) (fun _ _ _ _ _ => pts_nil) (fun _ _ _ _ _ => pe_call G hr rfl mF F.kp bF .nil pass0 (pa_cons (pv 1) pa_nil))) pa_nil)))) pss_nil)
    (pss_one (ps_ret (pv 0))), ?_⟩
  refine ⟨_, rfl, (by show 2 ≤ sizeLine; decide), fun t ht => ?_⟩
  have g1 : Same H (upd H t (.tup [.ty "list", .ty "tuple"])) := same_new ht _
  refine ⟨_, t, _, .type "list", [.type "list", .type "tuple"], true, rfl, upd_same, .cons (.ty _) (.cons (.ty _) .nil), tyL (g1.seq hS), is_seqL, _, rfl, ?_⟩
  refine iteT ?_
  refine ⟨_, rfl, a, rfl, ⟨_, g1.seq hS⟩, fun D hD => ?_⟩
  have hD0 : H D = none := g1.free hD
  refine lc_list (K := K) (a := a) (xs := us) (fun i H' => H' D = some (.lst (us.take i)) ∧ Same H H') ⟨upd_same, same_over g1 hD0 _⟩ (fun i H' _ ⟨_, g⟩ => g.seq hS) (fun i x H' hx ⟨hd, g⟩ => ⟨rfl, kept ?_⟩) ?_
  · obtain ⟨p, dx, fs, rfl, hp⟩ := hU x (List.mem_of_getElem? hx)
    refine ⟨_, rfl, p, dx, fs, rfl, g _ _ hp, fun H2 g2 => ⟨_, g2 _ _ hd, ?_, ?_, same_over (g.trans g2) hD0 _⟩⟩
    · exact small1000 (by rw [List.length_take]; omega)
    · rw [upd_same, List.take_succ, hx] <;> rfl
  rintro H' ⟨hd, g⟩
  rw [List.take_length] at hd
  refine ⟨D, _, rfl, .inl ⟨SqL.of hd, fun l hl0 => ?_⟩⟩
  exact q l _ (g.trans (same_new hl0 _)) (SqT.of upd_same)
/-! Block -/
abbrev s_blk : Stmt := inClass (topS 33) 0
structure Bk (K : PySem.W.Frag) (BL : Addr) : Prop where
  cl : Cls K BL
  nN : PySem.W.findIn K (.ref BL) "nodes" = some none
theorem sc_blk : FnScope ["self", "nodes"] ["self", "nodes"] (defScope s_blk) := ⟨rfl, rfl, rfl, by decide +kernel, rfl, by decide +kernel, by decide +kernel⟩
def spBlk (K : PySem.W.Frag) (BL : Addr) : Sp := fun vs H Q _ => ∃ (p dx e : Addr), vs = [.ref p, .ref e] ∧ H p = some (.ins BL dx []) ∧ SqT K H e [] ∧ ∀ H' : Hp, Kp p H H' → Q .non H'
theorem ok_blk (F : Fun K "__init__" "Block.__init__" s_blk f fd) (T : Bk K BL) (cF : Ca P w K mg base 2 "frozen" ["worth"] (spFrz K)) : FnOk P w K mg base CX0 3 f fd ["self", "nodes"] (spBlk K BL) := by
  refine F.ok sc_blk (fun vs H Q E h => ?_) (fun cdv A outer s H vs Q E hr h => ?_)
  · obtain ⟨p, dx, e, rfl, _⟩ := h
    rfl
  obtain ⟨p, dx, e, rfl, hp, he, q⟩ := h
  refine ⟨_, (pss_one (ps_fld (pv 0) (pca cF hr (by decide) rfl (pa_cons (pv 1) pa_nil)) rfl)), ?_⟩
  refine ⟨_, rfl, e, [], rfl, .inr he, by decide, fun t H1 g1 n1 h1 => ?_⟩
  refine ⟨_, rfl, p, BL, dx, _, rfl, g1 _ _ hp, T.cl, T.nN, (by show 0 < 1000; decide), ?_⟩
  exact q _ fun b o n e => by rw [upd_ne n]; exact g1 _ _ e
/-! is_access -/
abbrev s_is_access : Stmt := topS 22
theorem sc_is_access : FnScope ["x"] ["x"] (defScope s_is_access) := ⟨rfl, rfl, rfl, by decide +kernel, rfl, by decide +kernel, by decide +kernel⟩
def spIsA (K : PySem.W.Frag) (C : Addr) : Sp := fun vs H Q _ => ∃ (p : Addr) (nm : Str) (ls : List Str), vs = [.ref p] ∧ Ey.ExAt K C H (.acc nm ls) p ∧ Q (.bl true) H
theorem ok_is_access (F : Fun K "is_access" "is_access" s_is_access f fd) (T : Ey.Xc K mg C fI) (B : Bt mg) : FnOk P w K mg base CX0 1 f fd ["x"] (spIsA K C) := by
  refine F.ok sc_is_access (fun vs H Q E h => ?_) (fun cdv A outer s H vs Q E hr h => ?_)
  · obtain ⟨p, nm, ls, rfl, _⟩ := h
    rfl
  obtain ⟨p, nm, ls, rfl, ⟨t, ⟨dx, tp, ta, tl, us, ys, hp, h2, h3, h4, h5, h6⟩, ht⟩, q⟩ := h
  refine ⟨_, (pss_one (ps_ret (pe_and (pe_callB (C8.call_isC T.ic) (by rfl) B.isi (by decide +kernel) (pa_cons (pv 0) (pa_cons (pe_glob (v := .ref C) (by rfl) T.mC rfl) pa_nil))) (pe_one (pe_cmpR op_eq (pe_fld (pv 0) rfl) pe_str (nomark _)))))), ?_⟩
  refine ⟨_, rfl, p, dx, _, rfl, hp, _, rfl, iteT ?_⟩
  refine ⟨_, rfl, p, C, dx, _, _, rfl, hp, T.ic.cl, T.nK, Ey.fE_k, rfl, ?_⟩
  rw [decide_eq_true rfl]
  exact q
end
end Lw
namespace Lw
open PySem L2 TzR
theorem snoc2 {α β : Type} {us : List α} {rs : List β} {R : Nat → α → β → Prop} (hl : us.length = rs.length) (h : ∀ (i : Nat) (u : α) (r : β), us[i]? = some u → rs[i]? = some r → R i u r) {a : α} {b : β} (hab : R us.length a b) :
    ∀ (i : Nat) (u : α) (r : β), (us ++ [a])[i]? = some u → (rs ++ [b])[i]? = some r → R i u r := fun i u r e1 e2 => by
  by_cases c : i < us.length
  · rw [List.getElem?_append_left c] at e1
    rw [List.getElem?_append_left (by omega)] at e2
    exact h i u r e1 e2
  · have e : i = us.length := by
      have z := (List.getElem?_eq_some_iff.mp e1).1
      rw [List.length_append, List.length_singleton] at z
      omega
    subst e
    rw [List.getElem?_append_right (Nat.le_refl _), Nat.sub_self] at e1
    rw [hl, List.getElem?_append_right (Nat.le_refl _), Nat.sub_self] at e2
    cases e1
    cases e2
    exact hab
/-! buckets_of -/
abbrev s_prog : Stmt := inClass (topS 34) 0
abbrev n_prog : List Str := ["self", "target", "uses", "node", "use", "letter"]
theorem sc_prog : FnScope n_prog ["self", "target", "uses", "node"] (defScope s_prog) := ⟨rfl, rfl, rfl, by decide +kernel, rfl, by decide +kernel, by decide +kernel⟩
structure Pg (K : PySem.W.Frag) (PG : Addr) : Prop where
  cl : Cls K PG
  nT : PySem.W.findIn K (.ref PG) "target" = some none
  nU : PySem.W.findIn K (.ref PG) "uses" = some none
  nN : PySem.W.findIn K (.ref PG) "node" = some none
  nL : PySem.W.findIn K (.ref PG) "letters" = some none
def pmF (g tu n tl : Addr) : List (Str × V) := [("target", .ref g), ("uses", .ref tu), ("node", .ref n), ("letters", .ref tl)]
theorem _root_.Lw.Ey.LetOk.congr {ys zs zs' : List Str} (h : Ey.LetOk ys zs) (e : ∀ z, z ∈ zs ↔ z ∈ zs') : Ey.LetOk ys zs' := ⟨h.srt, fun z => (h.mem z).trans (e z), h.ex.imp fun l q => ⟨q.1, q.2.1, fun z => (q.2.2 z).trans (e z)⟩⟩
/-- a program: its target, its uses, its letters -/
def ProgAt (K : PySem.W.Frag) (PG U X C : Addr) (H : Hp) (p : Addr) (nm : Str) (ls : List Str) (us : List V) (qs : List UQ) : Prop :=
  ∃ (dx g tu n tl : Addr) (ys : List Str), H p = some (.ins PG dx (pmF g tu n tl)) ∧ Ey.ExAt K X H (.acc nm ls) g ∧ SqT K H tu us ∧ UsesAt K U C H us qs ∧ SqT K H tl (ys.map V.str) ∧ Ey.LetOk ys (ls ++ (qs.map (·.ls)).flatten)
theorem ProgAt.same {K : PySem.W.Frag} {PG U X C : Addr} {H H' : Hp} {p : Addr} {nm : Str} {ls : List Str} {us : List V} {qs : List UQ} (g : Same H H') : ProgAt K PG U X C H p nm ls us qs → ProgAt K PG U X C H' p nm ls us qs
  | ⟨dx, a, tu, n, tl, ys, h1, h2, h3, h4, h5, h6⟩ => ⟨dx, a, tu, n, tl, ys, g _ _ h1, h2.same g, seqT g h3, h4.same g, seqT g h5, h6⟩
def spPini (K : PySem.W.Frag) (PG U X C : Addr) : Sp := fun vs H Q _ => ∃ (p dx g a n : Addr) (nm : Str) (ls : List Str) (us : List V) (qs : List UQ), vs = [.ref p, .ref g, .ref a, .ref n] ∧ H p = some (.ins PG dx []) ∧ Ey.ExAt K X H (.acc nm ls) g ∧ ls.length ≤ 3 ∧ SqL K H a us ∧ UsesAt K U C H us qs ∧ us.length ≤ 4 ∧ (∀ q ∈ qs, q.ls.length ≤ 3) ∧
  ∀ H' : Hp, Kp p H H' → ProgAt K PG U X C H' p nm ls us qs → Q .non H'
theorem kpE {p q : Addr} {H H' : Hp} (k : Kp p H H') : Ey.Kp p H H' := k
theorem kpPut {H : Hp} {p : Addr} {o : HO} : Kp p H (upd H p o) := fun b u n e => by rw [upd_ne n]; exact e
theorem Kp.trans {p : Addr} {H H1 H2 : Hp} (k : Kp p H H1) (k' : Kp p H1 H2) : Kp p H H2 := fun b o n e => k' b o n (k b o n e)
theorem Kp.of {p : Addr} {H H' : Hp} (g : Same H H') : Kp p H H' := fun b o _ e => g b o e
section
variable {P : Program} {w : World} {K : PySem.W.Frag} {mg : Str → Option Value} {base : Heap} {f U C X PG fI : Addr} {fd : FuncData}
theorem uses_lts {K : PySem.W.Frag} (qs : List UQ) : Ey.lts (qs.map fun q => (q.nm, q.ls)) = (qs.map (·.ls)).flatten := by
  unfold Ey.lts
  rw [List.map_map] <;> rfl
theorem lts_len : ∀ {qs : List UQ}, (∀ q ∈ qs, q.ls.length ≤ 3) → ((qs.map (·.ls)).flatten).length ≤ 3 * qs.length
  | [], _ => Nat.le_refl _
  | q :: qs, h => by
    have h1 := h q (List.mem_cons_self ..)
    have h2 := lts_len fun r hr => h r (List.mem_cons_of_mem _ hr)
    rw [List.map_cons, List.flatten_cons, List.length_append, List.length_cons]
    omega
theorem ok_pini (F : Fun K "__init__" "Program.__init__" s_prog f fd) (T : Pg K PG) (Xc : Ey.Xc K mg X fI) (Uc : Us K U C) (B : Bt mg) (cI : Ca P w K mg base 1 "is_access" ["x"] (spIsA K X)) (cF : Ca P w K mg base 2 "frozen" ["worth"] (spFrzU K U)) (cA : Ca P w K mg base 1 "ascending" ["names"] (Ey.spAsc K)) : FnOk P w K mg base CX0 3 f fd ["self", "target", "uses", "node"] (spPini K PG U X C) := by
  refine F.ok sc_prog (fun vs H Q E h => ?_) (fun cdv A outer s H vs Q E hr h => ?_)
  · obtain ⟨p, dx, g, a, n, nm, ls, us, qs, rfl, _⟩ := h
    rfl
  obtain ⟨p, dx, g, a, n, nm, ls, us, qs, rfl, hp, hE, hls, hS, hU, hl4, hq3, q⟩ := h
  refine ⟨_, (pss_cons (ps_if (pt_not (pt_val (pca cI hr (by decide) rfl (pa_cons (pv 1) pa_nil))))
(pss_one ps_never) pss_nil)
(pss_cons (ps_fld (pv 0) (pv 1) rfl)
(pss_cons (ps_fld (pv 0) (pca cF hr (by decide) rfl (pa_cons (pv 2) pa_nil)) rfl)
(pss_cons (ps_fld (pv 0) (pv 3) rfl)
(pss_one (ps_fld (pv 0) (pca cA hr (by decide) rfl (pa_cons (pe_lst (StX.pa_star (pe_fld (pv 1) rfl) (StX.pa_star (pe_lc2 (own := [("use", 4), ("letter", 5)]) (vs1 := [5]) (g := (gName 4)) (g1 := (gName 5)) (tt := tYes) (tt1 := tYes) (wi1 := iTup K (tFld K (tVar 4) "letters")) (te := tVar 5) rfl sc_prog.nd (pi_tup (pe_fld (pv 0) rfl)) (blkOk_by (N := n_prog) (sc := defScope s_prog) (by decide +kernel)) (by decide) (fun _ _ _ _ _ => (pg_name (i := 4) sc_prog.nd rfl (Or.inl rfl))) (fun _ _ _ _ _ => pts_nil) (fun _ _ _ _ _ => (pi_tup (pe_fld (pv 4) rfl))) (fun _ _ _ _ _ => (pg_name (i := 5) sc_prog.nd rfl (Or.inl rfl))) (fun _ _ _ _ _ => pts_nil) (fun _ _ _ _ _ => (pv 5))) pa_nil))) pa_nil)) rfl)))))), ?_⟩
  refine ⟨_, rfl, g, nm, ls, rfl, hE, _, rfl, iteF ?_⟩
  -- target
  refine ⟨_, rfl, _, rfl, p, PG, dx, _, rfl, hp, T.cl, T.nT, (by show 0 < 1000; decide), ?_⟩
  have k1 : Kp p H (upd H p (.ins PG dx (putF "target" (.ref g) []))) := kpPut
  have hp1 : upd H p (.ins PG dx (putF "target" (.ref g) [])) p = some (.ins PG dx [("target", .ref g)]) := upd_same
  generalize upd H p (.ins PG dx (putF "target" (.ref g) [])) = H1 at k1 hp1 ⊢
  -- uses
  refine ⟨_, rfl, a, us, rfl, k1.seqL hp hS, (hU.kp k1 hp).allU, by omega, fun tu H2 g2 htu => ?_⟩
  have hp2 := g2 _ _ hp1
  have k2 := k1.same g2
  refine ⟨_, rfl, p, PG, dx, _, rfl, hp2, T.cl, T.nU, (by show 1 < 1000; decide), ?_⟩
  have k3 : Kp p H2 (upd H2 p (.ins PG dx (putF "uses" (.ref tu) [("target", .ref g)]))) := kpPut
  have htu3 := k3.seq hp2 htu
  have hp3 : upd H2 p (.ins PG dx (putF "uses" (.ref tu) [("target", .ref g)])) p = some (.ins PG dx [("target", .ref g), ("uses", .ref tu)]) := upd_same
  have k3' := k2.trans k3
  generalize upd H2 p (.ins PG dx (putF "uses" (.ref tu) [("target", .ref g)])) = H3 at k3 htu3 hp3 k3' ⊢
  -- node
  refine ⟨_, rfl, _, rfl, p, PG, dx, _, rfl, hp3, T.cl, T.nN, (by show 2 < 1000; decide), ?_⟩
  have k4 : Kp p H3 (upd H3 p (.ins PG dx (putF "node" (.ref n) [("target", .ref g), ("uses", .ref tu)]))) := kpPut
  have htu4 := k4.seq hp3 htu3
  have hp4 : upd H3 p (.ins PG dx (putF "node" (.ref n) [("target", .ref g), ("uses", .ref tu)])) p = some (.ins PG dx [("target", .ref g), ("uses", .ref tu), ("node", .ref n)]) := upd_same
  have k4' := k3'.trans k4
  generalize upd H3 p (.ins PG dx (putF "node" (.ref n) [("target", .ref g), ("uses", .ref tu)])) = H4 at k4 htu4 hp4 k4' ⊢
  have hE4 := Ey.Kp.ex (kpE (q := p) k4') hp hE
  have hU4 := hU.kp k4' hp
  -- letters
  obtain ⟨t, ⟨dg, tp, ta, tl, us2, ys, hg, h2, h3, h4, h5, h6⟩, ht⟩ := id hE4
  refine ⟨_, rfl, g, X, dg, _, _, rfl, hg, Xc.ic.cl, Xc.nL, Ey.fE_l, tl, _, rfl, .inl h5, _, rfl, p, PG, dx, _, _, rfl, hp4, T.cl, T.nU, rfl, tu, rfl, ⟨_, htu4⟩, fun D hD => ?_⟩
  have yl : ys.length ≤ 3 := by
    have z := letok_len h6
    have e : Ey.lts [(nm, ls)] = ls := by
      unfold Ey.lts
      simp
    rw [e] at z
    omega
  have ql : qs.length ≤ 4 := by rw [← hU.1]; exact hl4
  have fl3 := lts_len hq3
  have hfl : (Ey.flat (fun i => (((qs.map fun q => (q.nm, q.ls)).getD i (Str.empty, [])).2).map V.str) us.length).length ≤ 1000 := by
    have z := Ey.flat_lts (qs.map fun q => (q.nm, q.ls))
    rw [List.length_map] at z
    rw [hU.1, z, List.length_map, uses_lts (K := K)]
    omega
  refine Ey.lc2_it (K := K) (xs := us) (i0 := 4) (j0 := 5) (fun i => (((qs.map fun q => (q.nm, q.ls)).getD i (Str.empty, [])).2).map V.str) hD (Ey.outer_tup htu4) (fun i x H' R hx gx hR => ?_) hfl (fun i hi => Ey.flat_le2 _ _ 1000 i hfl hi) (fun H6 hd6 g6 => ?_) (fun _ => rfl) (fun _ _ => rfl) (fun _ _ => rfl)
  · have hi : i < qs.length := by rw [← hU.1]; exact (List.getElem?_eq_some_iff.mp hx).1
    have eq := List.getElem?_eq_getElem hi
    generalize qs[i] = q0 at eq
    obtain ⟨pu, fu, rfl, ⟨du, tlu, hu1, hu2, hu3⟩⟩ := hU4.2 i x q0 hx eq
    refine ⟨_, rfl, pu, U, du, _, _, rfl, gx _ _ hu1, Uc.cl, Uc.nL, rfl, tlu, rfl, ⟨_, seqT gx hu2.seq⟩, hR tlu ?_⟩
    show SqT K H4 tlu (((qs.map fun q => (q.nm, q.ls)).getD i (Str.empty, [])).2.map V.str)
    rw [List.getD_eq_getElem?_getD, List.getElem?_map, eq]
    exact hu2.seq
  have z := Ey.flat_lts (qs.map fun q => (q.nm, q.ls))
  rw [List.length_map] at z
  rw [hU.1, z, uses_lts (K := K)] at hd6
  refine ⟨D, _, rfl, .inr (SqL.of hd6), ?_, fun L hL => ?_⟩
  · rw [List.append_nil, List.length_append, List.length_map, List.length_map]
    exact Nat.le_of_lt (small1000 (by omega))
  have gL := same_new hL (.lst (ys.map V.str ++ (((qs.map (·.ls)).flatten).map V.str ++ [])))
  have hL2 : upd H6 L (.lst (ys.map V.str ++ (((qs.map (·.ls)).flatten).map V.str ++ []))) L = some (.lst ((ys ++ (qs.map (·.ls)).flatten).map V.str)) := by
    rw [upd_same, List.append_nil, List.map_append]
  refine ⟨L, ys ++ (qs.map (·.ls)).flatten, rfl, SqL.of hL2, by rw [List.length_append]; omega, fun t7 ys7 H7 g7 ht7 hlet => ?_⟩
  have g47 := (g6.trans gL).trans g7
  have hp7 := g47 _ _ hp4
  refine ⟨_, rfl, p, PG, dx, _, rfl, hp7, T.cl, T.nL, (by show 3 < 1000; decide), ?_⟩
  have k8 : Kp p H7 (upd H7 p (.ins PG dx (putF "letters" (.ref t7) [("target", .ref g), ("uses", .ref tu), ("node", .ref n)]))) := kpPut
  have hp8 : upd H7 p (.ins PG dx (putF "letters" (.ref t7) [("target", .ref g), ("uses", .ref tu), ("node", .ref n)])) p = some (.ins PG dx (pmF g tu n t7)) := upd_same
  have kA : Kp p H4 (upd H7 p (.ins PG dx (putF "letters" (.ref t7) [("target", .ref g), ("uses", .ref tu), ("node", .ref n)]))) := (Kp.of g47).trans k8
  have kB := k4'.trans kA
  refine q _ kB ⟨dx, g, tu, n, t7, ys7, hp8, Ey.Kp.ex (kpE (q := p) kB) hp hE, kA.seq hp4 htu4, hU.kp kB hp, k8.seq hp7 ht7, ?_⟩
  have eL : Ey.lts [(nm, ls)] = ls := by
    unfold Ey.lts
    simp
  rw [eL] at h6
  exact hlet.congr fun z => by rw [List.mem_append, List.mem_append, h6.mem z]
/-! use_accesses -/
abbrev s_use_accesses : Stmt := topS 35
abbrev n_use_accesses : List Str := ["program", "use"]
theorem sc_use_accesses : FnScope n_use_accesses ["program"] (defScope s_use_accesses) := ⟨rfl, rfl, rfl, by decide +kernel, rfl, by decide +kernel, by decide +kernel⟩
/-- pairs of a name and letters -/
def NlAt (K : PySem.W.Frag) (H : Hp) (us : List V) (ps : List (Str × List Str)) : Prop := us.length = ps.length ∧ ∀ (i : Nat) (u : V) (p : Str × List Str), us[i]? = some u → ps[i]? = some p → Ey.PairAt K H u p
def spUacc (K : PySem.W.Frag) (PG U X C : Addr) : Sp := fun vs H Q _ => ∃ (p : Addr) (nm : Str) (ls : List Str) (us : List V) (qs : List UQ), vs = [.ref p] ∧ ProgAt K PG U X C H p nm ls us qs ∧ qs.length ≤ 900 ∧
  ∀ (r : Addr) (ws : List V) (H' : Hp), Same H H' → SqL K H' r ws → NlAt K H' ws (qs.map fun q => (q.nm, q.ls)) → Q (.ref r) H'
theorem NlAt.same {H H' : Hp} {us : List V} {ps : List (Str × List Str)} (g : Same H H') (h : NlAt K H us ps) : NlAt K H' us ps := ⟨h.1, fun i u p e1 e2 => (h.2 i u p e1 e2).same g⟩
theorem PairAt.out {H : Hp} {D : Addr} {xs ys : List V} {v : V} {p : Str × List Str} (hD : H D = some (.lst xs)) : Ey.PairAt K H v p → Ey.PairAt K (upd H D (.lst ys)) v p
  | ⟨a, t, e, h1, h2⟩ => ⟨a, t, e, TK.lst hD _ _ h1, TK.lst hD _ _ h2⟩
theorem ok_use_accesses (F : Fun K "use_accesses" "use_accesses" s_use_accesses f fd) (T : Pg K PG) (Uc : Us K U C) : FnOk P w K mg base CX0 1 f fd ["program"] (spUacc K PG U X C) := by
  refine F.ok sc_use_accesses (fun vs H Q E h => ?_) (fun cdv A outer s H vs Q E hr h => ?_)
  · obtain ⟨p, nm, ls, us, qs, rfl, _⟩ := h
    rfl
  obtain ⟨p, nm, ls, us, qs, rfl, ⟨dx, g, tu, n, tl, ys, hp, hE, htu, hU, htl, hy⟩, hl, q⟩ := h
  refine ⟨_, (pss_one (ps_ret (pe_lc (own := [("use", 1)]) (g := (gName 1)) (tt := tYes) (te := tTup (tCons (tFld K (tVar 1) "name") (tCons (tFld K (tVar 1) "letters") tNil))) rfl sc_use_accesses.nd (pi_tup (pe_fld (pv 0) rfl)) (blkOk_by (N := n_use_accesses) (sc := defScope s_use_accesses) (by decide +kernel)) (fun _ _ _ _ _ => (pg_name (i := 1) sc_use_accesses.nd rfl (Or.inl rfl))) (fun _ _ _ _ _ => pts_nil) (fun _ _ _ _ _ => (pe_tup (pa_cons (pe_fld (pv 1) rfl) (pa_cons (pe_fld (pv 1) rfl) pa_nil))))))), ?_⟩
  refine ⟨_, rfl, p, PG, dx, _, _, rfl, hp, T.cl, T.nU, rfl, tu, rfl, ⟨_, htu⟩, fun D hD => ?_⟩
  refine lc_tup (K := K) (a := tu) (xs := us) (fun i H' => ∃ ws : List V, H' D = some (.lst ws) ∧ NlAt K H' ws ((qs.map fun q => (q.nm, q.ls)).take i) ∧ Same H H') ⟨[], upd_same, ⟨rfl, fun i u p e _ => by cases e⟩, same_new hD _⟩ (fun i H' _ ⟨_, _, _, g⟩ => seqT g htu) (fun i x H' hx ⟨ws, w1, w2, w3⟩ => ⟨rfl, kept ?_⟩) ?_
  · have hi : i < qs.length := by rw [← hU.1]; exact (List.getElem?_eq_some_iff.mp hx).1
    have eq := List.getElem?_eq_getElem hi
    generalize qs[i] = q0 at eq
    obtain ⟨pu, fu, rfl, ⟨du, tlu, hu1, hu2, hu3⟩⟩ := hU.2 i x q0 hx eq
    refine ⟨_, rfl, pu, U, du, _, _, rfl, w3 _ _ hu1, Uc.cl, Uc.nN, rfl, _, rfl, pu, U, du, _, _, rfl, w3 _ _ hu1, Uc.cl, Uc.nL, rfl, (by show 2 ≤ sizeLine; decide), fun t ht => ?_⟩
    have gt := same_new ht (.tup [.str q0.nm, .ref tlu])
    have w1t := gt _ _ w1
    have wl : ws.length = i := by
      rw [w2.1, List.length_take, List.length_map]
      omega
    refine ⟨ws, w1t, small1000 (by omega), ws ++ [.ref t], upd_same, ?_, same_over (w3.trans gt) hD _⟩
    rw [List.take_succ, List.getElem?_map, eq]
    refine ⟨by rw [List.length_append, List.length_append, w2.1] <;> rfl, ?_⟩
    refine snoc2 (R := fun _ u p => Ey.PairAt K _ u p) w2.1 (fun i u p e1 e2 => PairAt.out w1t ((w2.2 i u p e1 e2).same gt)) (PairAt.out w1t ⟨t, tlu, rfl, SqT.of upd_same, seqT (w3.trans gt) hu2.seq⟩)
  rintro H' ⟨ws, w1, w2, w3⟩
  rw [hU.1, List.take_of_length_le (by rw [List.length_map]; exact Nat.le_refl _)] at w2
  exact q D ws H' w3 (SqL.of w1) w2
end
end Lw
/-! lists of tuples that stand for something: keys -/
namespace NsX
open PySem PySem.Spec PyProof.Rows L2 PySem.W NdX
section
variable {K : PySem.W.Frag} {α : Type} {f : α → NestedKey}
theorem nkAll_cons {H : Hp} {k : NestedKey} {ks : List NestedKey} {x : V} {xs : List V} (h1 : NkV K H k x) (h2 : NkAll K H ks xs) : NkAll K H (k :: ks) (x :: xs) := by
  simp only [NkAll]
  exact ⟨h1, h2⟩
theorem nkAll_app {H : Hp} : ∀ {ks ks' : List NestedKey} {xs xs' : List V}, NkAll K H ks xs → NkAll K H ks' xs' → NkAll K H (ks ++ ks') (xs ++ xs')
  | [], _, [], _, _, h => h
  | [], _, _ :: _, _, h, _ => by simp [NkAll] at h
  | _ :: _, _, [], _, h, _ => by simp [NkAll] at h
  | k :: ks, ks', x :: xs, xs', h1, h2 => by
    simp only [NkAll] at h1
    exact nkAll_cons h1.1 (nkAll_app h1.2 h2)
/-- things with the addresses of their tuples -/
def MsAt (K : PySem.W.Frag) (H : Hp) (f : α → NestedKey) (bs : List (Addr × α)) : Prop := ∀ b ∈ bs, NkV K H (f b.2) (.ref b.1)
def msV (bs : List (Addr × α)) : List V := bs.map fun b => V.ref b.1
theorem MsAt.mono {H H' : Hp} {bs : List (Addr × α)} (g : Lw.TK K H H') (h : MsAt K H f bs) : MsAt K H' f bs := fun b hb => (h b hb).mono g
theorem MsAt.same {H H' : Hp} {bs : List (Addr × α)} (g : Same H H') (h : MsAt K H f bs) : MsAt K H' f bs := h.mono (Lw.TK.of g)
theorem refs_k (hr : ∀ a, ∃ ks, f a = .tup ks) {H : Hp} : ∀ {l : List α} {ws : List V}, NkAll K H (l.map f) ws → ∃ bs : List (Addr × α), ws = msV bs ∧ bs.map (·.2) = l ∧ MsAt K H f bs
  | [], [], _ => ⟨[], rfl, rfl, fun _ h => by cases h⟩
  | [], _ :: _, h => by simp [NkAll] at h
  | _ :: _, [], h => by simp [NkAll] at h
  | a :: l, x :: ws, h => by
    simp only [List.map_cons, NkAll] at h
    obtain ⟨bs, e1, e2, e3⟩ := refs_k hr h.2
    have z := h.1
    obtain ⟨ks, ek⟩ := hr a
    have y : ∃ p, x = .ref p := by
      rw [ek] at z
      simp only [NkV] at z
      obtain ⟨p, _, e, _⟩ := z
      exact ⟨p, e⟩
    obtain ⟨p, rfl⟩ := y
    refine ⟨(p, a) :: bs, by rw [e1] <;> rfl, by rw [← e2] <;> rfl, fun b hb => ?_⟩
    rcases List.mem_cons.mp hb with e | hb
    · rw [e]; exact h.1
    · exact e3 b hb
theorem ms_all {H : Hp} : ∀ {bs : List (Addr × α)}, MsAt K H f bs → NkAll K H ((bs.map (·.2)).map f) (msV bs)
  | [], _ => by simp [NkAll, msV]
  | b :: bs, h => by
    simp only [List.map_cons, msV, NkAll]
    exact ⟨h b (List.mem_cons_self ..), ms_all fun c hc => h c (List.mem_cons_of_mem _ hc)⟩
theorem ms_len {H : Hp} {bs : List (Addr × α)} : (msV bs).length = bs.length := List.length_map ..
theorem MsAt.sub {H : Hp} {bs cs : List (Addr × α)} (h : MsAt K H f bs) (s : ∀ c ∈ cs, c ∈ bs) : MsAt K H f cs := fun c hc => h c (s c hc)
theorem MsAt.snoc {H : Hp} {bs : List (Addr × α)} {b : Addr × α} (h : MsAt K H f bs) (hb : NkV K H (f b.2) (.ref b.1)) : MsAt K H f (bs ++ [b]) := fun c hc => by
  rcases List.mem_append.mp hc with c1 | c1
  · exact h c c1
  · rw [List.mem_singleton.mp c1]; exact hb
/-- sorted things in the order of their keys -/
theorem ms_srt (inj : ∀ a b, f a = f b → a = b) (al : ∀ a b, alike (f a).data (f b).data = true) {bs cs : List (Addr × α)} (p : cs.Perm bs) (h : cs.Pairwise fun b c => dataLt (f c.2).data (f b.2).data = false) : cs.map (·.2) = srtF f (bs.map (·.2)) :=
  srtF_one inj al (p.map _) (List.pairwise_map.mpr h)
end
end NsX
namespace Lw
open PySem L2 TzR NsX NdX
theorem pk_tup (p : Pr) : ∃ ks, pk p = .tup ks := ⟨_, rfl⟩
theorem mk_tup (m : Mb) : ∃ ks, mk m = .tup ks := ⟨_, rfl⟩
abbrev s_pairs_down_to : Stmt := topS 37
abbrev n_pairs_down_to : List Str := ["use", "depth", "axis"]
theorem sc_pairs_down_to : FnScope n_pairs_down_to ["use", "depth"] (defScope s_pairs_down_to) := ⟨rfl, rfl, rfl, by decide +kernel, rfl, by decide +kernel, by decide +kernel⟩
/-- the pair of an axis -/
def prOf (ls : List Str) (i : Int) : Pr := (i, ls.getD i.toNat Str.empty)
/-- the pairs of the first levels, ascending -/
def prsOf (ls : List Str) (is : List Int) (d : Nat) : List Pr := srtF pk ((is.take d).map (prOf ls))
theorem prs_len {ls : List Str} {is : List Int} {d : Nat} : (prsOf ls is d).length ≤ is.length := by
  unfold prsOf
  rw [(srtF_perm _ _).length_eq, List.length_map, List.length_take]
  exact Nat.min_le_right ..
/-- what the slice [:d] of a tuple gives -/
theorem sl_take {K : PySem.W.Frag} {H : Hp} {a : Addr} {xs : List V} {d : Nat} {Q : VK} (h : SqT K H a xs) (hd : d ≤ xs.length) (q : ∀ (p : Addr) (H' : Hp), Same H H' → SqT K H' p (xs.take d) → Q (.ref p) H') : rSlA K (.ref a) none (some (d : Int)) H Q := by
  refine ⟨a, xs, rfl, h, fun c => ?_, fun c p hp => ?_⟩
  · have z : d = xs.length := by
      have z := c.2
      rw [sIx_nat, Nat.min_eq_left hd] at z
      exact z
    refine q a H (Same.refl H) ?_
    rw [z, List.take_length]
    exact h
  · rw [cut_take _ _ hd]
    exact q p _ (same_new hp _) (SqT.of upd_same)
def spPdt (K : PySem.W.Frag) (U C : Addr) : Sp := fun vs H Q _ => ∃ (u : Addr) (nm : Str) (ls : List Str) (q : Addr) (ks : List Str) (is : List Int) (d : Nat), vs = [.ref u, .int (d : Int)] ∧ UseAt K U C H u nm ls q ks is ∧ d ≤ is.length ∧ is.length ≤ 3 ∧ (∀ i ∈ is, 0 ≤ i ∧ i < (ls.length : Int)) ∧
  ∀ (t : Addr) (ws : List V) (H' : Hp), Same H H' → SqT K H' t ws → NkAll K H' ((prsOf ls is d).map pk) ws → Q (.ref t) H'
section
variable {P : Program} {w : World} {K : PySem.W.Frag} {mg : Str → Option Value} {base : Heap} {f U C : Addr} {fd : FuncData}
theorem at_prs {ls : List Str} {i : Int} (h0 : 0 ≤ i) (h1 : i < (ls.length : Int)) : atI (ls.map V.str) i = some (.str (prOf ls i).2) := by
  have lt : i.toNat < ls.length := by omega
  have z := atI_nat (xs := ls.map V.str) (j := i.toNat) (v := .str (prOf ls i).2) (by rw [List.getElem?_map, List.getElem?_eq_getElem lt]; unfold prOf; rw [List.getD_eq_getElem?_getD, List.getElem?_eq_getElem lt] <;> rfl)
  rw [show ((i.toNat : Nat) : Int) = i by omega] at z
  exact z
theorem ok_pairs_down_to (F : Fun K "pairs_down_to" "pairs_down_to" s_pairs_down_to f fd) (T : Us K U C) (nA : PySem.W.findIn K (.ref C) "axes" = some none) (B : Bt mg) (B2 : Bx mg) : FnOk P w K mg base CX0 1 f fd ["use", "depth"] (spPdt K U C) := by
  refine F.ok sc_pairs_down_to (fun vs H Q E h => ?_) (fun cdv A outer s H vs Q E hr h => ?_)
  · obtain ⟨u, nm, ls, q, ks, is, d, rfl, _⟩ := h
    rfl
  obtain ⟨u, nm, ls, q, ks, is, d, rfl, ⟨dx, tl, h1, h2, ⟨dq, tk, ta, h3, h4, h5⟩⟩, hd, hi3, hir, k⟩ := h
  have hu12 : (cxOf CX0 P w K mg base n_pairs_down_to "pairs_down_to" (defScope s_pairs_down_to) f cdv A outer s H E).nox.A.units + 12 < cLine := by
    show (A.deeper _).units + 12 < cLine
    have := hr.un
    omega
  refine ⟨_, (pss_one (ps_ret (pe_callTy call_tuple_of (by rfl) B.tup (by decide +kernel) (pa_cons (pe_callB (cr_sortedDt hu12) (by rfl) B2.sorted (by decide +kernel) (pa_cons (pe_lc (own := [("axis", 2)]) (g := (gName 2)) (tt := tYes) (te := tTup (tCons (tVar 2) (tCons (tOp (rIxT K) (tFld K (tVar 0) "letters") (tVar 2)) tNil))) rfl sc_pairs_down_to.nd (pi_tup (pe_slice sl_tupA (pe_fld (pe_fld (pv 0) rfl) rfl) po_none (po_some (pv 1)))) (blkOk_by (N := n_pairs_down_to) (sc := defScope s_pairs_down_to) (by decide +kernel)) (fun _ _ _ _ _ => (pg_name (i := 2) sc_pairs_down_to.nd rfl (Or.inl rfl))) (fun _ _ _ _ _ => pts_nil) (fun _ _ _ _ _ => (pe_tup (pa_cons (pv 2) (pa_cons (pe_ix ix_tup (pe_fld (pv 0) rfl) (pv 2) (fun _ _ => rfl)) pa_nil))))) pa_nil)) pa_nil)))), ?_⟩
  have hta : is.length = (is.map V.int).length := (List.length_map ..).symm
  refine ⟨_, rfl, u, U, dx, _, _, rfl, h1, T.cl, T.nF, rfl, q, C, dq, _, _, rfl, h3, T.clC, nA, rfl, ?_⟩
  refine ⟨_, rfl, _, rfl, sl_take h5 (by rw [← hta]; exact hd) fun a H1 g1 ha => ?_⟩
  rw [← List.map_take] at ha
  have hl3 : (is.take d).length ≤ 3 := by rw [List.length_take]; omega
  have hir' : ∀ i ∈ is.take d, 0 ≤ i ∧ i < (ls.length : Int) := fun i hi => hir i (List.mem_of_mem_take hi)
  unfold prsOf at k
  generalize is.take d = js at ha hl3 hir' k
  refine ⟨a, rfl, ⟨_, ha⟩, fun D hD => ?_⟩
  have hD0 : H D = none := g1.free hD
  refine lc_tup (K := K) (a := a) (xs := js.map V.int) (fun i H' => ∃ ws : List V, H' D = some (.lst ws) ∧ NkAll K H' (((js.take i).map (prOf ls)).map pk) ws ∧ Same H1 H') ⟨[], upd_same, by simp [NkAll], same_new hD _⟩ (fun i H' _ ⟨_, _, _, g⟩ => seqT g ha) (fun i x H' hx ⟨ws, w1, w2, w3⟩ => ⟨rfl, kept ?_⟩) ?_
  · have hi : i < js.length := by
      have z := (List.getElem?_eq_some_iff.mp hx).1
      rw [List.length_map] at z
      exact z
    have ej := List.getElem?_eq_getElem hi
    rw [List.getElem?_map, ej] at hx
    obtain ⟨p0, p1⟩ := hir' _ (List.getElem_mem hi)
    generalize js[i] = n at ej hx p0 p1
    cases hx
    have g03 := g1.trans w3
    refine ⟨_, rfl, _, rfl, u, U, dx, _, _, rfl, g03 _ _ h1, T.cl, T.nL, rfl, _, rfl, tl, _, _, _, rfl, rfl, seqT g03 h2.seq, at_prs p0 p1, (by show 2 ≤ sizeLine; decide), fun t ht => ?_⟩
    have gt := same_new ht (.tup [.int n, .str (prOf ls n).2])
    have w1t := gt _ _ w1
    have wl := nkAll_len w2
    rw [List.length_map, List.length_map, List.length_take] at wl
    refine ⟨ws, w1t, small1000 (by omega), ws ++ [.ref t], upd_same, ?_, same_over (w3.trans gt) hD _⟩
    rw [List.take_succ, ej, List.map_append, List.map_append]
    refine nkAll_app ?_ (nkAll_cons ?_ (by simp [NkAll]))
    · exact (w2.mono (Lw.TK.of gt)).mono (Lw.TK.lst w1t)
    · exact (pr_at (p := prOf ls n) (SqT.of upd_same)).mono (Lw.TK.lst w1t)
  rintro H' ⟨ws, w1, w2, w3⟩
  rw [List.length_map, List.take_length] at w2
  obtain ⟨bs, rfl, eb, hb⟩ := refs_k pk_tup w2
  refine ⟨D, _, bs, fun b => .ref b.1, fun b => (pk b.2).data, rfl, SqL.of w1, fun b hb' => nk_dp (hb b hb'), ?_, ?_, fun b _ => Nat.le_trans (pk_ddepth _) (by decide), fun cs p hp hc hpn => ?_⟩
  · intro x hx y hy
    obtain ⟨b, _, rfl⟩ := List.mem_map.mp hx
    obtain ⟨c, _, rfl⟩ := List.mem_map.mp hy
    exact pk_alike _ _
  · refine .inl fun x hx => ?_
    obtain ⟨b, _, rfl⟩ := List.mem_map.mp hx
    exact ⟨.int b.2.1, [.str b.2.2], by simp only [pk, NestedKey.data, NestedKey.datas]⟩
  have gp := same_new hpn (.lst (msV cs))
  have hcs := ((hb.sub fun c hc' => hp.subset hc').same gp)
  have es := ms_srt pk_inj pk_alike hp hc
  rw [eb] at es
  refine ⟨p, _, rfl, .inl ⟨SqL.of upd_same, fun l hl => ?_⟩⟩
  have gl := same_new hl (.tup (msV cs))
  refine k l (msV cs) _ (((g1.trans w3).trans gp).trans gl) (SqT.of upd_same) ?_
  rw [← es]
  exact ms_all (hcs.same gl)
end
end Lw
namespace Lw
open PySem L2 TzR NsX NdX
/-- a walk over a tuple with the places -/
def YEn (xs : Nat → Option V) : Nat → Hp → V → Hp → Prop := fun i H v H' => ∃ (T : Addr) (x : V), v = .ref T ∧ H T = none ∧ H' = upd H T (.tup [.int (i : Nat), x]) ∧ xs i = some x
theorem walk_enT {K : PySem.W.Frag} {a : Addr} {xs : List V} : Walk (EnT.IteT K a) xs.length (fun H => SqT K H a xs) (YEn fun i => xs[i]?) where
  goes := fun i _ hi q => ⟨xs, xs[i], q, List.getElem?_eq_getElem hi⟩
  stops := fun _ q => ⟨xs, q, rfl⟩
  yields := fun i H v H' _ q ⟨T, x, h1, h2, h3, h4⟩ => ⟨T, x, h1, h2, h3, h4 xs q⟩
theorem walk_enL {K : PySem.W.Frag} {a : Addr} {xs : List V} : Walk (Ite K a) xs.length (fun H => SqL K H a xs) (YEn fun i => xs[i]?) where
  goes := fun i _ hi q => ⟨xs, xs[i], q, List.getElem?_eq_getElem hi⟩
  stops := fun _ q => ⟨xs, q, Nat.le_refl _⟩
  yields := fun i H v H' _ q ⟨T, x, h1, h2, h3, h4⟩ => ⟨T, x, h1, h2, h3, h4 xs q⟩
theorem iteY {b : Bool} {A B : Prop} (e : b = true) (h : A) : if b = true then A else B := by rw [e, if_pos rfl]; exact h
theorem iteNo {b : Bool} {A B : Prop} (e : b = false) (h : B) : if b = true then A else B := by rw [e, if_neg (by decide)]; exact h
/-- the counts of levels to which members go -/
def isDense (k : Str) : Bool := decide (V.str k = V.str "dense")
def dsF (ks : List Str) (i : Nat) : List Nat := ((List.range i).filter fun j => !isDense (ks.getD j Str.empty)).map (· + 1)
def dsOf (ks : List Str) : List Nat := dsF ks ks.length ++ [ks.length]
theorem dsF_succ {ks : List Str} {i : Nat} {k : Str} (e : ks[i]? = some k) : dsF ks (i + 1) = dsF ks i ++ (if isDense k then [] else [i + 1]) := by
  unfold dsF
  rw [List.range_succ, List.filter_append, List.map_append]
  congr 1
  have : ks.getD i Str.empty = k := by rw [List.getD_eq_getElem?_getD, e] <;> rfl
  rw [List.filter_cons, this]
  cases isDense k <;> rfl
theorem dsF_len {ks : List Str} {i : Nat} : (dsF ks i).length ≤ i := by
  unfold dsF
  rw [List.length_map]
  exact Nat.le_trans (List.length_filter_le ..) (by rw [List.length_range]; exact Nat.le_refl _)
theorem ds_le {ks : List Str} {d : Nat} (h : d ∈ dsOf ks) : d ≤ ks.length := by
  rcases List.mem_append.mp h with h | h
  · obtain ⟨j, hj, rfl⟩ := List.mem_map.mp h
    have := List.mem_range.mp (List.mem_filter.mp hj).1
    omega
  · rw [List.mem_singleton.mp h]
    exact Nat.le_refl _
theorem ds_len {ks : List Str} : (dsOf ks).length ≤ ks.length + 1 := by
  unfold dsOf
  rw [List.length_append]
  have := dsF_len (ks := ks) (i := ks.length)
  exact Nat.succ_le_succ this
/-- the members of a use -/
def memU (nm : Str) (ls ks : List Str) (is : List Int) : List Mb := (dsOf ks).map fun d => (nm, prsOf ls is d)
def natV (d : Nat) : V := .int (d : Int)
abbrev s_use_members : Stmt := topS 38
abbrev n_use_members : List Str := ["use", "kinds", "depths", "level", "kind", "depth"]
theorem sc_use_members : FnScope n_use_members ["use"] (defScope s_use_members) := ⟨rfl, rfl, rfl, by decide +kernel, rfl, by decide +kernel, by decide +kernel⟩
def spUms (K : PySem.W.Frag) (U C : Addr) : Sp := fun vs H Q _ => ∃ (u : Addr) (nm : Str) (ls : List Str) (q : Addr) (ks : List Str) (is : List Int), vs = [.ref u] ∧ UseAt K U C H u nm ls q ks is ∧ ks.length = is.length ∧ is.length ≤ 3 ∧ (∀ i ∈ is, 0 ≤ i ∧ i < (ls.length : Int)) ∧
  ∀ (D : Addr) (ws : List V) (H' : Hp), Same H H' → H D = none → SqL K H' D ws → NkAll K H' ((memU nm ls ks is).map mk) ws → Q (.ref D) H'
section
variable {P : Program} {w : World} {K : PySem.W.Frag} {mg : Str → Option Value} {base : Heap} {f U C : Addr} {fd : FuncData}
theorem ok_use_members (F : Fun K "use_members" "use_members" s_use_members f fd) (T : Us K U C) (B : Bt mg) (B2 : Bx mg) (cP : Ca P w K mg base 1 "pairs_down_to" ["use", "depth"] (spPdt K U C)) : FnOk P w K mg base CX0 2 f fd ["use"] (spUms K U C) := by
  refine F.ok sc_use_members (fun vs H Q E h => ?_) (fun cdv A outer s H vs Q E hr h => ?_)
  · obtain ⟨u, nm, ls, q, ks, is, rfl, _⟩ := h
    rfl
  obtain ⟨u, nm, ls, q, ks, is, rfl, ⟨dx, tl, h1, h2, ⟨dq, tk, ta, h3, h4, h5⟩⟩, hki, hi3, hir, k⟩ := h
  refine ⟨_, (pss_cons (ps_set (i := 1) sc_use_members.nd rfl (Or.inl rfl) (pe_fld (pe_fld (pv 0) rfl) rfl))
(pss_cons (ps_setLc (i := 2) (own := [("level", 3), ("kind", 4)]) (g := (gTup K 2 (gCons (gName 3) (gCons (gName 4) gNil)))) (tt := tTest (tOp rNe (tVar 4) (tC (.str "dense")))) (te := tOp (rI0 fun i j => .int (i + j)) (tVar 3) (tC (.int 1))) rfl sc_use_members.nd rfl rfl (sw_true rfl rfl rfl (by decide +kernel)) (EnT.pi_enumT (by rfl) B2.enum (pa_cons (pv 1) pa_nil)) (blkOk_by (N := n_use_members) (sc := defScope s_use_members) (by decide +kernel)) (fun _ _ _ _ _ => (pg_tup rfl (pgs_cons (pg_name (i := 3) sc_use_members.nd rfl (Or.inl rfl)) (pgs_cons (pg_name (i := 4) sc_use_members.nd rfl (Or.inl rfl)) pgs_nil)))) (fun _ _ _ _ _ => (pts_one (pt_cmpR op_ne (pv 4) pe_str (nomark _)))) (fun _ _ _ _ _ => (pe_op op_add (pv 3) pe_int)))
(pss_one (ps_ret (pe_lc (own := [("depth", 5)]) (g := (gName 5)) (tt := tYes) (te := tTup (tCons (tFld K (tVar 0) "name") (tCons (tCall (spPdt K U C) [] E0 (tCons (tVar 0) (tCons (tVar 5) tNil))) tNil))) rfl sc_use_members.nd (pi_list (pe_lst (StX.pa_star (pv 2) (pa_cons (pe_callB call_len_seq (by rfl) B.len PySem.boot_len (pa_cons (pv 1) pa_nil)) pa_nil)))) (blkOk_by (N := n_use_members) (sc := defScope s_use_members) (by decide +kernel)) (fun _ _ _ _ _ => (pg_name (i := 5) sc_use_members.nd rfl (Or.inl rfl))) (fun _ _ _ _ _ => pts_nil) (fun _ _ _ _ _ => (pe_tup (pa_cons (pe_fld (pv 0) rfl) (pa_cons (pca cP hr (by decide) rfl (pa_cons (pv 0) (pa_cons (pv 5) pa_nil))) pa_nil))))))))), ?_⟩
  refine ⟨_, rfl, u, U, dx, _, _, rfl, h1, T.cl, T.nF, rfl, q, C, dq, _, _, rfl, h3, T.clC, T.nK, rfl, ?_⟩
  refine ⟨_, rfl, tk, _, rfl, h4, fun D hD => ?_⟩
  have gD := same_new hD (.lst [])
  have hks : (ks.map V.str).length = ks.length := List.length_map ..
  refine lc_it (walk_enT (K := K) (a := tk) (xs := ks.map V.str)) (fun i H' => H' D = some (.lst ((dsF ks i).map natV)) ∧ Same H H') ⟨upd_same, gD⟩ (fun i H' _ ⟨_, g⟩ => seqT g h4) (fun i x H1 H2 hi ⟨v1, v2⟩ hy => ?_) ?_
  · obtain ⟨t, x', rfl, ht, rfl, hx⟩ := hy
    obtain ⟨kd, ek, rfl⟩ := at_map hx
    have gt := same_new ht (.tup [.int (i : Nat), .str kd])
    refine ⟨t, _, rfl, SqT.of upd_same, rfl, _, _, rfl, _, _, rfl, rfl, rfl, ?_⟩
    refine ⟨_, rfl, rfl, _, rfl, ?_⟩
    have e1 := dsF_succ ek
    cases c : isDense kd with
    | true =>
      refine iteNo (by show (!decide (V.str kd = V.str "dense")) = false; rw [show decide (V.str kd = V.str "dense") = true from c] <;> rfl) ⟨?_, v2.trans gt⟩
      rw [e1, c, if_pos rfl, List.append_nil]
      exact gt _ _ v1
    | false =>
      refine iteY (by show (!decide (V.str kd = V.str "dense")) = true; rw [show decide (V.str kd = V.str "dense") = false from c] <;> rfl) ?_
      refine ⟨_, rfl, _, _, rfl, rfl, _, gt _ _ v1, ?_, ?_, same_over (v2.trans gt) hD _⟩
      · rw [List.length_map]
        have := dsF_len (ks := ks) (i := i)
        rw [hks] at hi
        exact small1000 (by omega)
      · rw [upd_same, e1, c, if_neg (by decide), List.map_append] <;> rfl
  rintro H' ⟨v1, v2⟩
  rw [hks] at v1
  refine ⟨_, rfl, D, _, rfl, .inr (SqL.of v1), _, rfl, tk, _, rfl, .inr (seqT v2 h4), ?_⟩
  have hds := ds_len (ks := ks)
  have e2 : (dsF ks ks.length).map natV ++ [V.int ((ks.map V.str).length : Int)] = (dsOf ks).map natV := by
    unfold dsOf
    rw [List.map_append, hks] <;> rfl
  refine ⟨?_, fun M hM => ⟨M, rfl, ⟨_, SqL.of upd_same⟩, fun N hN => ?_⟩⟩
  · rw [e2, List.length_map]
    exact Nat.le_trans (Nat.le_trans hds (by omega : ks.length + 1 ≤ 4)) (by decide)
  rw [e2] at hN ⊢
  have gM := v2.trans (same_new hM (.lst ((dsOf ks).map natV)))
  have hN0 : H N = none := gM.free hN
  have hMl : upd H' M (.lst ((dsOf ks).map natV)) M = some (.lst ((dsOf ks).map natV)) := upd_same
  generalize upd H' M (.lst ((dsOf ks).map natV)) = H2 at gM hN hMl ⊢
  refine lc_list (K := K) (a := M) (xs := (dsOf ks).map natV) (fun i H' => ∃ ws : List V, H' N = some (.lst ws) ∧ NkAll K H' ((((dsOf ks).take i).map fun d => (nm, prsOf ls is d)).map mk) ws ∧ Same H2 H') ⟨[], upd_same, by simp [NkAll], same_new hN _⟩ (fun i H' _ ⟨_, _, _, g⟩ => g.seq (SqL.of hMl)) (fun i x H' hx ⟨ws, w1, w2, w3⟩ => ⟨rfl, kept ?_⟩) ?_
  · obtain ⟨d, ed, rfl⟩ := at_map hx
    have hi := (List.getElem?_eq_some_iff.mp ed).1
    have hd := ds_le (List.mem_of_getElem? ed)
    have g03 := gM.trans w3
    refine ⟨_, rfl, u, U, dx, _, _, rfl, g03 _ _ h1, T.cl, T.nN, rfl, _, rfl, _, rfl, u, nm, ls, q, ks, is, d, rfl, ⟨dx, tl, g03 _ _ h1, tzS g03 h2, ⟨dq, tk, ta, g03 _ _ h3, seqT g03 h4, seqT g03 h5⟩⟩, by omega, hi3, hir, fun t vs H4 g4 ht hv => ?_⟩
    refine ⟨(by show 2 ≤ sizeLine; decide), fun b hb => ?_⟩
    have gb := same_new hb (.tup [.str nm, .ref t])
    have w1t := gb _ _ (g4 _ _ w1)
    have wl := nkAll_len w2
    rw [List.length_map, List.length_map, List.length_take] at wl
    refine ⟨ws, w1t, small1000 (by omega), ws ++ [.ref b], upd_same, ?_, same_over ((w3.trans g4).trans gb) hN _⟩
    rw [List.take_succ, ed, List.map_append, List.map_append]
    refine nkAll_app ?_ (nkAll_cons ?_ (by simp [NkAll]))
    · exact (w2.mono (TK.of (g4.trans gb))).mono (TK.lst w1t)
    · exact (mb_at (m := (nm, prsOf ls is d)) (SqT.of upd_same) (seqT gb ht) (hv.mono (TK.of gb))).mono (TK.lst w1t)
  rintro H3 ⟨ws, w1, w2, w3⟩
  rw [List.length_map, List.take_length] at w2
  exact k N ws H3 (gM.trans w3) hN0 (SqL.of w1) w2
end
end Lw
namespace Lw
open PySem L2 TzR NsX NdX
open PySem.W (dataLt)
/-- ys: the members of zs, each once, ascending -/
def AscOk (zs ys : List Mb) : Prop := ys.Nodup ∧ (∀ y, y ∈ ys ↔ y ∈ zs) ∧ ys.Pairwise fun a b => dataLt (mk b).data (mk a).data = false
theorem AscOk.one {zs ys zs' ys' : List Mb} (h : AscOk zs ys) (h' : AscOk zs' ys') (e : ∀ y, y ∈ zs ↔ y ∈ zs') : ys = ys' :=
  srt_one mk_inj mk_alike ((List.perm_ext_iff_of_nodup h.1 h'.1).mpr fun y => ((h.2.1 y).trans (e y)).trans (h'.2.1 y).symm) h.2.2 h'.2.2
theorem back_of {α β : Type} {g : α → β} {bs : List α} : ∀ {l : List β}, (∀ m ∈ l, ∃ b ∈ bs, g b = m) → ∃ ns : List α, l = ns.map g ∧ ∀ n ∈ ns, n ∈ bs
  | [], _ => ⟨[], rfl, fun _ h => by cases h⟩
  | m :: l, h => by
    obtain ⟨b, hb, e⟩ := h m (List.mem_cons_self ..)
    obtain ⟨ns, e2, h2⟩ := back_of fun n hn => h n (List.mem_cons_of_mem _ hn)
    refine ⟨b :: ns, by rw [List.map_cons, e, e2], fun n hn => ?_⟩
    rcases List.mem_cons.mp hn with z | z
    · rw [z]; exact hb
    · exact h2 n z
def spAscN (K : PySem.W.Frag) : Sp := fun vs H Q _ => ∃ (l : Addr) (bs : List (Addr × Mb)), vs = [.ref l] ∧ SqL K H l (msV bs) ∧ MsAt K H mk bs ∧ bs.length < 64 ∧
  ∀ (t : Addr) (ns : List (Addr × Mb)) (H' : Hp), Same H H' → SqT K H' t (msV ns) → MsAt K H' mk ns → AscOk (bs.map (·.2)) (ns.map (·.2)) → Q (.ref t) H'
def mkM (b : Addr × Mb) : NMem := (b.1, mk b.2)
theorem mkM_fst (bs : List (Addr × Mb)) : ((bs.map mkM).map fun m => V.ref m.1) = msV bs := by
  rw [List.map_map] <;> rfl
section
variable {P : Program} {w : World} {K : PySem.W.Frag} {mg : Str → Option Value} {base : Heap} {f : Addr} {fd : FuncData}
theorem ok_ascN (F : Fun K "ascending" "ascending" Ey.sAsc f fd) (B : Bt mg) (B2 : Bx mg) (hset : mg "set" = none) : FnOk P w K mg base CX0 1 f fd ["names"] (spAscN K) := by
  refine F.ok Ey.scAs (fun vs H Q E h => ?_) (fun cdv A outer s H vs Q E hr h => ?_)
  · obtain ⟨l, bs, rfl, _⟩ := h
    rfl
  obtain ⟨l, bs, rfl, hl, hb, h64, k⟩ := h
  have hu64 : (cxOf CX0 P w K mg base ["names"] "ascending" (defScope Ey.sAsc) f cdv A outer s H E).nox.A.units + 64 < cLine := by
    have := hr.un
    show (A.deeper _).units + 64 < cLine
    omega
  refine ⟨_, (pss_one (ps_ret (pe_callTy call_tuple_of (by rfl) B.tup (by decide +kernel) (pa_cons (pe_callB (cr_sortedN rfl (by omega)) (by rfl) B2.sorted (by decide +kernel) (pa_cons (pe_callTy (cr_setN rfl hu64) (by rfl) hset (by decide +kernel) (pa_cons (pv 0) pa_nil)) pa_nil)) pa_nil)))), ?_⟩
  refine ⟨_, rfl, l, bs.map mkM, rfl, by rw [mkM_fst]; exact hl, fun m hm => ?_, by rw [List.length_map]; exact h64, fun a M ha h1 h2 h3 => ?_⟩
  · obtain ⟨b, hb', rfl⟩ := List.mem_map.mp hm
    exact ⟨hb b hb', Nat.le_trans (mk_depth _) (by decide)⟩
  have ga := same_new ha (SetN P w a M)
  have hM : ∀ m ∈ M, ∃ b ∈ bs, mkM b = m := fun m hm => List.mem_map.mp (h1 m hm)
  refine ⟨a, M, rfl, upd_same, fun m hm => ?_, ?_, ?_, fun M' p hp hn hl64 hs hpn => ?_⟩
  · obtain ⟨b, hb', rfl⟩ := hM m hm
    exact ⟨(hb.same ga) b hb', Nat.le_trans (mk_depth _) (by decide), mk_ddepth _⟩
  · intro x hx y hy
    obtain ⟨m, hm, rfl⟩ := List.mem_map.mp hx
    obtain ⟨n, hn, rfl⟩ := List.mem_map.mp hy
    obtain ⟨b, _, rfl⟩ := hM m hm
    obtain ⟨c, _, rfl⟩ := hM n hn
    exact mk_alike _ _
  · refine .inl fun x hx => ?_
    obtain ⟨m, hm, rfl⟩ := List.mem_map.mp hx
    obtain ⟨b, _, rfl⟩ := hM m hm
    exact ⟨.str b.2.1, [.tuple (NestedKey.datas (b.2.2.map pk))], by simp only [mkM, mk, NestedKey.data, NestedKey.datas]⟩
  obtain ⟨ns, rfl, hns⟩ := back_of (g := mkM) (bs := bs) fun m hm => hM m (hp.mem_iff.mp hm)
  rw [mkM_fst]
  have gp := ga.trans (same_new hpn (.lst (msV ns)))
  refine ⟨p, _, rfl, .inl ⟨SqL.of upd_same, fun t ht => ?_⟩⟩
  have gt := gp.trans (same_new ht (.tup (msV ns)))
  refine k t ns _ gt (SqT.of upd_same) ((hb.sub hns).same gt) ⟨?_, fun y => ⟨fun hy => ?_, fun hy => ?_⟩, ?_⟩
  · have e : ((ns.map mkM).map (·.2)) = (ns.map (·.2)).map mk := by rw [List.map_map, List.map_map] <;> rfl
    rw [e] at hn
    exact (List.pairwise_map.mp hn).imp fun h e => h (by rw [e])
  · obtain ⟨b, hb', rfl⟩ := List.mem_map.mp hy
    exact List.mem_map.mpr ⟨b, hns b hb', rfl⟩
  · obtain ⟨b, hb', rfl⟩ := List.mem_map.mp hy
    obtain ⟨m, hm, e⟩ := List.mem_map.mp (h2 (mkM b) (List.mem_map.mpr ⟨b, hb', rfl⟩))
    obtain ⟨c, hc, rfl⟩ := List.mem_map.mp (hp.mem_iff.mpr hm)
    have e : c.2 = b.2 := mk_inj _ _ e
    exact List.mem_map.mpr ⟨c, hc, e⟩
  · exact List.pairwise_map.mpr (List.pairwise_map.mp hs)
end
end Lw
/-! except clauses, each with a name or without -/
namespace Lw
open PySem PySem.Spec PyProof.Rows L2
/-- a clause: what it catches, the slot of its name, what its suite reads as -/
structure Clause where
  c : Value
  i : Option Nat
  ts : Addr → Value → Option Addr → TS
/-- behind the suite the name is gone -/
def goneD (i : Nat) (D : Ends) : Ends := { nx := fun σ H => D.nx (σ.set i none) H, rt := D.rt, bk := fun σ H => D.bk (σ.set i none) H, ct := fun σ H => D.ct (σ.set i none) H }
def suiteW (k : Clause) (a : Addr) (cls : Value) (d : Option Addr) (D : Ends) (σ : L2.St) (H : Hp) : Prop := match k.i with
  | none => k.ts a cls d D σ H
  | some i => k.ts a cls d (goneD i D) (σ.set i (some (.ref a))) H
/-- what the clauses wish of an exception, one after the other -/
def wishC (K : PySem.W.Frag) (Wout : WX) (D : Ends) : List Clause → WX
  | [] => Wout
  | k :: r => fun cls d σ H => ∃ b, PySem.W.exmOne K cls k.c = some b ∧ (b = true → ∀ a, H a = none → suiteW k a cls d D σ H) ∧ (b = false → wishC K Wout D r cls d σ H)
/-- the clauses of the text, read so -/
inductive ClauseOk (X : Cx) : List ExceptHandler → List Clause → Prop
  | nil : ClauseOk X [] []
  | bare {x : Str} {c : Value} {ts : Addr → Value → Option Addr → TS} {b₀ : Stmt} {suite : List Stmt} {np p : Pos} {hs : List ExceptHandler} {l : List Clause} (hc : Names X x c)
      (hsu : ∀ (a : Addr) (oe : Obj) (cls : Value) (d : Option Addr) (pn : List (Addr × Obj)), Zc cls d oe → (∃ vs, oe.data = .fields vs) → PSs (X.suite a ((a, oe) :: pn)) (b₀ :: suite) (ts a cls d)) (r : ClauseOk X hs l) :
      ClauseOk X (.ExceptHandler (some (.Name x np)) none (b₀ :: suite) p :: hs) (⟨c, none, ts⟩ :: l)
  | named {x n : Str} {c : Value} {i : Nat} {ts : Addr → Value → Option Addr → TS} {b₀ : Stmt} {suite : List Stmt} {np p : Pos} {hs : List ExceptHandler} {l : List Clause} (hN : X.N.Nodup) (hi : X.N[i]? = some n) (hl : X.env.kindOf n = some .local) (hc : Names X x c)
      (hsu : ∀ (a : Addr) (oe : Obj) (cls : Value) (d : Option Addr) (pn : List (Addr × Obj)), Zc cls d oe → (∃ vs, oe.data = .fields vs) → PSs (X.suite a ((a, oe) :: pn)) (b₀ :: suite) (ts a cls d)) (r : ClauseOk X hs l) :
      ClauseOk X (.ExceptHandler (some (.Name x np)) (some n) (b₀ :: suite) p :: hs) (⟨c, some i, ts⟩ :: l)
section
variable {X : Cx} {body : List Stmt} {h₀ : ExceptHandler} {hs : List ExceptHandler} {l : List Clause} {pos : Pos} {tb : WX → TS} {Wout : WX}
theorem ps_clauses (hst : X.stack = X.env :: X.outer) (hf : X.env.frame = some X.env.locals) (tk : Takes X Wout)
    (hb : ∀ (W : WX) (pn : List (Addr × Obj)) (xe : Value → Shared → Prop), Takes (X.tr pn xe) W → PassesOwn (model X.prog X.w) X.A X.env xe → PSs (X.tr pn xe) body (tb W))
    (hh : ClauseOk X (h₀ :: hs) l) : PS X (.Try body (h₀ :: hs) [] [] pos) (fun D σ H => tb (wishC X.K Wout D l) D σ H) := by
  refine ⟨fun pins s σ H D I h => ?_⟩
  have ok := I.ok
  have hfr : X.A.frames = some (X.env :: X.outer) := by rw [ok.frames, hst]
  -- an exception e of the body: noted here, then the clauses
  let catch_ : Value → Shared → Prop := fun e s₁ => wpAny (model X.prog X.w) X.A (noteFrame e X.env) (fun _ s₂ => wpAny (model X.prog X.w) X.A (setFlight e none) (fun _ s₃ =>
    wpAny (model X.prog X.w) X.A (handleBy e X.env (h₀ :: hs)) (SP X pins D) X.xe s₃) X.xe s₂) X.xe s₁
  have caught : Takes (X.tr (X.pn ++ pins) catch_) (wishC X.K Wout D l) := by
    rintro u s' ⟨a, B, sI, pins', σ', H', cls, d, rfl, J', nb, up, sky, na, os, ag, w⟩
    have J : Inv X pins σ' H' sI := J'.ofTry ok
    have sky' : Sky B (X.env :: X.outer) a (Zc cls d) X.env.locals s'.heap := by rw [← hst]; exact sky
    show wpAny (model X.prog X.w) X.A (noteFrame (.ref a) X.env) _ _ _
    refine Sky.land Zc.steady hfr hf sky' fun h3 fl3 up3 => ?_
    obtain ⟨oe3, vs3, he3, hz3, hd3⟩ := fl3.there
    -- the exception is none of the frames
    have off : a ∉ frs (X.env :: X.outer) := fun hm => by
      obtain ⟨_, o', e', hnf⟩ := fl3.2.2.1.mem hm
      rw [he3] at e'
      cases e'
      exact hnf _ hd3
    have nL : a ≠ X.env.locals := fun z => off (List.mem_filterMap.mpr ⟨X.env, List.mem_cons_self, by rw [hf, z]⟩)
    have nF : a ∉ X.fs := fun hm => by
      obtain ⟨e, he, q⟩ := List.mem_filterMap.mp hm
      exact off (List.mem_filterMap.mpr ⟨e, List.mem_cons_of_mem _ he, q⟩)
    have J3 : Inv X pins σ' H' { s' with heap := h3 } := J.landed nb fl3.1 (up.trans up3) os ag
    have S3 := J3.suite he3 hd3 na nL nF
    have LT : PySem.W.Looks (model X.prog X.w) h3 (typeOf (.ref a)) cls := fun A Q E s k q => wpAny_typeOf_ref (k _ _ he3) (by rw [hz3.1]; exact q)
    have asks : ∀ {x : Str} {c : Value} {np : Pos} {Q E : Value → Shared → Prop}, Names X x c → Q c { s' with heap := h3 } → wpAny (model X.prog X.w) (X.A.mark (some (.ref a))) (eval (.Name x np) X.env) Q E { s' with heap := h3 } := fun {x c np Q E} hc q => by
      obtain ⟨hg, hdbg, hm | ⟨hm, hv, hnn⟩⟩ := hc
      · exact ld_glob (X := X.suite a ((a, oe3) :: (X.pn ++ pins))) S3 hg hm q hdbg
      · exact ld_blt (X := X.suite a ((a, oe3) :: (X.pn ++ pins))) S3 hg hm hv q hnn hdbg
    -- back in the air, where no clause fits
    have on : Wout cls d σ' H' → wpAny (model X.prog X.w) X.A (handleBy (.ref a) X.env []) (SP X pins D) X.xe { s' with heap := h3 } := fun w => by
      refine wpAny_handleBy_nil ?_
      obtain ⟨_, _, _, oe, vs, Tb, oT, ts', he, hz, hd, h1, hr⟩ := id fl3
      unfold PySem.passOn
      refine wpAny_bind (wpAny_field he hd h1 ?_)
      rw [if_neg (show ¬ ((Value.ref Tb == Value.none) = true) from by simp)]
      have fin : wpAny (model X.prog X.w) X.A (setFlight (.ref a) X.env.frame) (fun _ s4 => wpAny (model X.prog X.w) X.A (throw (.ref a) : Sem Flow) (SP X pins D) X.xe s4) X.xe { s' with heap := h3 } := by
        rw [hf]
        refine HandSPX.setFlight_upZ fl3 fun h4 hh4 up4 => wpAny_throw (tk _ _ ?_)
        exact ⟨a, B, sI, pins, σ', H', cls, d, rfl, J, nb, (up.trans up3).trans up4, .inr (.inr (by rw [hst]; exact hh4)), na, os, ag, w⟩
      first
        | exact wpAny_bind (wpAny_pure (wpAny_bind fin))
        | exact wpAny_bind fin
    have go : ∀ {ks : List ExceptHandler} {l' : List Clause}, ClauseOk X ks l' → wishC X.K Wout D l' cls d σ' H' → wpAny (model X.prog X.w) X.A (handleBy (.ref a) X.env ks) (SP X pins D) X.xe { s' with heap := h3 } := fun hk => by
      induction hk with
      | nil => exact on
      | bare hc hsu r ih =>
        rintro ⟨b, hb1, hyes, hno⟩
        refine wpAny_handleBy_cons (codeAny_handlers_test (asks hc ((PySem.W.exm_one (M := model X.prog X.w) J3.kIn LT hb1).here ?_))) (by intro q; cases q)
        cases b with
        | false => exact ih (hno rfl)
        | true =>
          refine codeAny_handlers_suite (HandSPX.lands_againZ fl3 fun h4 fl4 up4 => ?_)
          obtain ⟨oe4, vs4, he4, hz4, hd4⟩ := fl4.there
          have J4 : Inv X pins σ' H' { s' with heap := h4 } := J.landed nb fl4.1 ((up.trans up3).trans up4) os ag
          have S4 := J4.suite he4 hd4 na nL nF
          refine wpAny_mono ((hsu a oe4 cls d (X.pn ++ pins) hz4 ⟨_, hd4⟩).run [] _ _ H' _ S4 (hyes rfl a na)) (fun f s6 z => ?_) (fun _ _ z => False.elim z)
          cases f with
          | next => obtain ⟨σ6, H6, S6, q6⟩ := z; exact ⟨_, _, S6.unsuite ok, q6⟩
          | brk => obtain ⟨σ6, H6, S6, q6⟩ := z; exact ⟨_, _, S6.unsuite ok, q6⟩
          | cont => obtain ⟨σ6, H6, S6, q6⟩ := z; exact ⟨_, _, S6.unsuite ok, q6⟩
          | ret u => obtain ⟨v6, σ6, H6, S6, r6, q6⟩ := z; exact ⟨_, _, _, S6.unsuite ok, r6, q6⟩
      | @named x n c i ts b₀ suite np p hs' l' hN hi hl hc hsu r ih =>
        rintro ⟨b, hb1, hyes, hno⟩
        refine wpAny_handleBy_cons (codeAny_handlers_test (asks hc ((PySem.W.exm_one (M := model X.prog X.w) J3.kIn LT hb1).here ?_))) (by intro q; cases q)
        cases b with
        | false => exact ih (hno rfl)
        | true =>
          refine codeAny_handlers_suite_as (HandSPX.lands_againZ fl3 fun h4 fl4 up4 => ?_)
          obtain ⟨oe4, vs4, he4, hz4, hd4⟩ := fl4.there
          have J4 : Inv X pins σ' H' { s' with heap := h4 } := J.landed nb fl4.1 ((up.trans up3).trans up4) os ag
          have S4 := J4.suite he4 hd4 na nL nF
          refine store_ok (X := X.suite a ((a, oe4) :: (X.pn ++ pins))) (v := .ref a) S4 hN hi (.inl hl) rfl (fun s5 S5 => ?_) (.inr hl)
          refine wpAny_mono ((hsu a oe4 cls d (X.pn ++ pins) hz4 ⟨_, hd4⟩).run [] s5 _ H' _ S5 (hyes rfl a na)) (fun f s6 z => ?_) (fun _ _ z => False.elim z)
          have gone : ∀ {σ6 : L2.St} {H6 : Hp} {Q : Shared → Prop}, Inv (X.suite a ((a, oe4) :: (X.pn ++ pins))) [] σ6 H6 s6 → (∀ s7, Inv X pins (σ6.set i none) H6 s7 → Q s7) →
              wpAny (model X.prog X.w) X.A (do bindName X.env n .none; unbindBehindTheSuite X.env n p) (fun _ s7 => Q s7) X.xe s6 := fun S6 hq => gone_ok (S6.unsuite ok) hN hi hl hq
          cases f with
          | next => obtain ⟨σ6, H6, S6, q6⟩ := z; exact gone S6 fun s7 J7 => ⟨_, _, J7, q6⟩
          | brk => obtain ⟨σ6, H6, S6, q6⟩ := z; exact gone S6 fun s7 J7 => ⟨_, _, J7, q6⟩
          | cont => obtain ⟨σ6, H6, S6, q6⟩ := z; exact gone S6 fun s7 J7 => ⟨_, _, J7, q6⟩
          | ret u => obtain ⟨v6, σ6, H6, S6, r6, q6⟩ := z; exact gone S6 fun s7 J7 => ⟨_, _, _, J7, r6, q6⟩
    exact go hh w
  refine wpAny_Try_except (wpAny_mono ((hb _ _ catch_ caught PassesOwn.looking).run [] s σ H D (I.toTry _) h) (fun f s1 z => ?_) fun e s1 he => he)
  cases f with
  | next => obtain ⟨σ', H', J', q⟩ := z; exact wpAny_execs_nil ⟨σ', H', J'.ofTry ok, q⟩
  | brk => obtain ⟨σ', H', J', q⟩ := z; exact ⟨σ', H', J'.ofTry ok, q⟩
  | cont => obtain ⟨σ', H', J', q⟩ := z; exact ⟨σ', H', J'.ofTry ok, q⟩
  | ret u => obtain ⟨v, σ', H', J', r, q⟩ := z; exact ⟨v, σ', H', J'.ofTry ok, r, q⟩
end
end Lw
namespace Lw
open PySem L2
/-! errors that hold something -/
abbrev s_rc_init : Stmt := inClass (topS 12) 0
def plainV (v : V) : Prop := (∃ i : Int, v = .int i) ∨ ∃ z : Str, v = .str z
/-- an own error class with one field, which its __init__ sets -/
structure Er (K : PySem.W.Frag) (mg : Str → Option Value) (C fI : Addr) (x fl : Str) : Prop where
  ox : OexC K C
  ini : PySem.W.findIn K (.ref C) "__init__" = some (some (.ref fI))
  ty : PySem.W.typeIn K (.ref fI) = some (.type "function")
  no : PySem.W.findIn K (.ref C) fl = some none
  m : mg x = some (.ref C)
section
variable {P : Program} {w : World} {K : PySem.W.Frag} {mg : Str → Option Value} {base : Heap} {f g C fI : Addr} {fd gd dI : FuncData}
def spFrV : Sp := fun vs H Q _ => ∃ v : V, vs = [v] ∧ plainV v ∧ ∀ H' : Hp, Same H H' → Q v H'
theorem ok_frV (F : Fun K "frozen" "frozen" sFrozen f fd) (B : Bt mg) : FnOk P w K mg base CX0 1 f fd ["worth"] spFrV := by
  refine F.ok scF (fun vs H Q E h => ?_) (fun cdv A outer s H vs Q E hr h => ?_)
  · obtain ⟨i, rfl, _⟩ := h
    rfl
  obtain ⟨v, rfl, hv, q⟩ := h
  refine ⟨_, pss_cons (ps_if (pt_val (pe_callB call_isiT (by rfl) B.isi (by decide +kernel) (pa_cons (pv 0) (pa_cons (pe_tup (pa_cons (pe_bltn (v := .ty "list") (by rfl) B.lst (by decide +kernel) rfl) (pa_cons (pe_bltn (v := .ty "tuple") (by rfl) B.tup (by decide +kernel) rfl) pa_nil))) pa_nil)))) (pss_one ps_never) pss_nil)
    (pss_one (ps_ret (pv 0))), ?_⟩
  refine ⟨_, rfl, (by show 2 ≤ sizeLine; decide), fun t ht => ?_⟩
  rcases hv with ⟨i, rfl⟩ | ⟨z, rfl⟩
  · refine ⟨_, t, _, .type "int", [.type "list", .type "tuple"], false, rfl, upd_same, .cons (.ty _) (.cons (.ty _) .nil), .base (.int i), is_seq (by decide +kernel) (by decide +kernel), _, rfl, ?_⟩
    exact iteF ⟨_, rfl, q _ (same_new ht _)⟩
  · refine ⟨_, t, _, .type "str", [.type "list", .type "tuple"], false, rfl, upd_same, .cons (.ty _) (.cons (.ty _) .nil), .base (.str z), is_seq (by decide +kernel) (by decide +kernel), _, rfl, ?_⟩
    exact iteF ⟨_, rfl, q _ (same_new ht _)⟩
/-- the __init__ of such a class -/
def spErI (C : Addr) (fl : Str) : Sp := fun vs H Q _ => ∃ (a : Addr) (v : V), vs = [.ref a, v] ∧ plainV v ∧ H a = some (exo a C none) ∧ ∀ (dx : Addr) (H' : Hp), H dx = none → dx ≠ a → H' a = some (exo a C (some dx)) → H' dx = some (exd dx [(fl, v)]) → (∀ b o, b ≠ a → H b = some o → H' b = some o) → Q .non H'
theorem er_end {Q : VK} {H : Hp} {a : Addr} {v : V} {fl : Str} (ha : H a = some (exo a C none)) (k : ∀ (dx : Addr) (H' : Hp), H dx = none → dx ≠ a → H' a = some (exo a C (some dx)) → H' dx = some (exd dx [(fl, v)]) → (∀ b o, b ≠ a → H b = some o → H' b = some o) → Q .non H') {H1 : Hp} (g1 : Same H H1) (dx : Addr) (hd : H1 dx = none) (ne : dx ≠ a) : Q .non (upd (upd H1 dx (exd dx [(fl, v)])) a (exo a C (some dx))) :=
  k dx _ (g1.free hd) ne upd_same (by rw [upd_ne ne, upd_same]) fun b o nb e => by
    have n2 : b ≠ dx := ne_of_none (g1 _ _ e) hd
    rw [upd_ne nb, upd_ne n2]
    exact g1 _ _ e
theorem sc_rc : FnScope ["self", "name"] ["self", "name"] (defScope s_rc_init) := ⟨rfl, rfl, rfl, by decide +kernel, rfl, by decide +kernel, by decide +kernel⟩
theorem ok_rc (F : Fun K "__init__" "RankClash.__init__" s_rc_init f fd) (T : Er K mg C f "RankClash" "name") (G : FnOk P w K mg base CX0 1 g gd ["worth"] spFrV) (bG : Binds K gd ["worth"] []) (kG : PySem.W.keepIn K (.ref g) = true) (mG : mg "frozen" = some (.ref g)) : FnOk P w K mg base CX0 2 f fd ["self", "name"] (spErI C "name") := by
  refine F.ok sc_rc (fun vs H Q E h => ?_) (fun cdv A outer s H vs Q E hr h => ?_)
  · obtain ⟨a, v, rfl, _⟩ := h
    rfl
  obtain ⟨a, v, rfl, hv, ha, k⟩ := h
  refine ⟨_, (pss_one (ps_ost (pv 0) (pe_call G hr rfl mG kG bG .nil pass0 (pa_cons (pv 1) pa_nil)))), ?_⟩
  refine ⟨_, rfl, v, rfl, hv, fun H1 g1 => ⟨_, rfl, a, C, rfl, T.ox, T.no, .inl ⟨g1 _ _ ha, fun dx hd ne => er_end ha k g1 dx hd ne⟩⟩⟩
/-- what a raised one leaves: its class, its dict with the field -/
def Raised (C : Addr) (fl : Str) (v : V) (H : Hp) (E : XK) : Prop := ∀ (d : Addr) (H' : Hp), Same H H' → H' d = some (.xd [(fl, v)]) → E (.ref C) (some d) H'
theorem made_er {C : Addr} {fl : Str} {v : V} {H : Hp} {E : XK} (k : Raised C fl v H E) (hv : plainV v) (a : Addr) (ha : H a = none) : spErI C fl [.ref a, v] (upd H a (exo a C none))
    (fun u H2 => u = .non ∧ ∃ (d : Addr) (fs : List (Str × V)), H2 a = some (exo a C (some d)) ∧ H2 d = some (exd d fs) ∧ H d = none ∧ E (.ref C) (some d) (upd (del H2 a) d (.xd fs))) (fun _ _ _ => False) := by
  refine ⟨a, v, rfl, hv, upd_same, fun dx H' hd ne h1 h2 hk => ⟨rfl, dx, _, h1, h2, by rw [upd_ne ne] at hd; exact hd, ?_⟩⟩
  refine k dx _ (fun b o e => ?_) upd_same
  have n1 : b ≠ a := ne_of_none e ha
  have hd' : H dx = none := by rw [upd_ne ne] at hd; exact hd
  have n2 : b ≠ dx := ne_of_none e hd'
  rw [upd_ne n2, del_ne n1]
  exact hk b o n1 (by rw [upd_ne n1]; exact e)
end
end Lw
namespace Lw
open PySem L2 TzR NsX NdX
abbrev DK := List (Key × V)
theorem putK_le {c : DK} {k : Key} {x : V} : (putK c k x).length ≤ c.length + 1 := by
  unfold putK
  split
  · rw [List.length_map]; exact Nat.le_succ _
  · rw [List.length_append]; exact Nat.le_refl _
theorem same_ne (v : V) : (!decide (v = v)) = false := by rw [decide_eq_true rfl] <;> rfl
/-- ranks of names, told or at odds -/
def rkStep (o : Option DK) (a : Str × List Str) : Option DK := o.bind fun d => match valV d (Sum.inr a.1 : Key) with
  | none => some (putK d (Sum.inr a.1 : Key) (.int (a.2.length : Nat)))
  | some v => if v = .int (a.2.length : Nat) then some d else none
def rkF (l : List (Str × List Str)) : Option DK := l.foldl rkStep (some [])
theorem rk_none : ∀ l : List (Str × List Str), l.foldl rkStep none = none
  | [] => rfl
  | _ :: l => rk_none l
theorem rk_pre {l m : List (Str × List Str)} {d : DK} (h : rkF (l ++ m) = some d) : ∃ e, rkF l = some e := by
  unfold rkF at h ⊢
  rw [List.foldl_append] at h
  cases e : l.foldl rkStep (some []) with
  | none => rw [e, rk_none] at h; cases h
  | some x => exact ⟨x, rfl⟩
theorem rk_snoc {l : List (Str × List Str)} {a : Str × List Str} : rkF (l ++ [a]) = rkStep (rkF l) a := by
  unfold rkF
  rw [List.foldl_append] <;> rfl
theorem rk_len' : ∀ (l : List (Str × List Str)) (d0 d : DK), l.foldl rkStep (some d0) = some d → d.length ≤ d0.length + l.length
  | [], d0, d, h => by cases h; exact Nat.le_refl _
  | a :: l, d0, d, h => by
    rw [List.foldl_cons] at h
    cases e : rkStep (some d0) a with
    | none => rw [e, rk_none] at h; cases h
    | some d1 =>
      rw [e] at h
      have z := rk_len' l d1 d h
      have y : d1.length ≤ d0.length + 1 := by
        unfold rkStep at e
        rw [Option.bind_some] at e
        split at e
        · cases e
          exact putK_le
        · split at e
          · cases e
            exact Nat.le_succ _
          · cases e
      rw [List.length_cons]
      omega
theorem rk_len {l : List (Str × List Str)} {d : DK} (h : rkF l = some d) : d.length ≤ l.length := by
  have z := rk_len' l [] d h
  rw [List.length_nil] at z
  omega
/-- a program, as data -/
structure PQ where
  nm : Str
  ls : List Str
  qs : List UQ
def pairsP (g : PQ) : List (Str × List Str) := (g.nm, g.ls) :: g.qs.map fun q => (q.nm, q.ls)
def allP (gs : List PQ) : List (Str × List Str) := gs.flatMap pairsP
theorem allP_succ {gs : List PQ} {i : Nat} {g : PQ} (e : gs[i]? = some g) : allP (gs.take (i + 1)) = allP (gs.take i) ++ pairsP g := by
  unfold allP
  rw [List.take_succ, e, List.flatMap_append] <;> simp
theorem allP_pre {gs : List PQ} {i : Nat} : ∃ r, allP gs = allP (gs.take i) ++ r := ⟨allP (gs.drop i), by
  unfold allP
  rw [← List.flatMap_append, List.take_append_drop]⟩
/-- programs in a tuple -/
def ProgsAt (K : PySem.W.Frag) (PG U X C : Addr) (H : Hp) (vs : List V) (gs : List PQ) : Prop := vs.length = gs.length ∧ ∀ (i : Nat) (v : V) (g : PQ), vs[i]? = some v → gs[i]? = some g → ∃ p us, v = .ref p ∧ ProgAt K PG U X C H p g.nm g.ls us g.qs
theorem ProgsAt.same {K : PySem.W.Frag} {PG U X C : Addr} {H H' : Hp} {vs : List V} {gs : List PQ} (s : Same H H') (h : ProgsAt K PG U X C H vs gs) : ProgsAt K PG U X C H' vs gs := ⟨h.1, fun i v g e1 e2 => (h.2 i v g e1 e2).elim fun p z => z.elim fun us z => ⟨p, us, z.1, z.2.same s⟩⟩
theorem kpK {K : PySem.W.Frag} {H H' : Hp} {d : Addr} {kvs : DK} (k : Kp d H H') (hd : H d = some (.dK kvs)) : TK K H H' := fun a xs h => by
  rcases h with (h | ⟨o, h⟩) | h
  · exact .inl (.inl (k _ _ (fun e => by rw [e, hd] at h; cases h) h))
  · exact .inl (.inr ⟨o, k _ _ (fun e => by rw [e, hd] at h; cases h) h⟩)
  · exact .inr h
theorem PairAt.tk {K : PySem.W.Frag} {H H' : Hp} {v : V} {p : Str × List Str} (g : TK K H H') : Ey.PairAt K H v p → Ey.PairAt K H' v p
  | ⟨a, t, e, h1, h2⟩ => ⟨a, t, e, g _ _ h1, g _ _ h2⟩
/-- the first name at odds -/
def rkBad (l : List (Str × List Str)) (n : Str) : Prop := ∃ (i : Nat) (a : Str × List Str), l[i]? = some a ∧ a.1 = n ∧ (∃ d, rkF (l.take i) = some d) ∧ rkF (l.take (i + 1)) = none
theorem rk_past {l : List (Str × List Str)} {i j : Nat} (h : rkF (l.take i) = none) (hj : i ≤ j) : rkF (l.take j) = none := by
  cases e : rkF (l.take j) with
  | none => rfl
  | some d =>
    have z : l.take j = l.take i ++ (l.take j).drop i := by
      have q := (List.take_append_drop i (l.take j)).symm
      rw [List.take_take, Nat.min_eq_left hj] at q
      exact q
    rw [z] at e
    obtain ⟨x, hx⟩ := rk_pre e
    rw [h] at hx
    cases hx
theorem rkBad_one {l : List (Str × List Str)} {n m : Str} (h : rkBad l n) (h' : rkBad l m) : n = m := by
  obtain ⟨i, a, e1, e2, ⟨d, e3⟩, e4⟩ := h
  obtain ⟨j, b, f1, f2, ⟨c, f3⟩, f4⟩ := h'
  have : i = j := by
    rcases Nat.lt_trichotomy i j with c1 | c1 | c1
    · rw [rk_past e4 c1] at f3
      cases f3
    · exact c1
    · rw [rk_past f4 c1] at e3
      cases e3
  subst this
  rw [e1] at f1
  cases f1
  rw [← e2, ← f2]
theorem bad_not {l : List (Str × List Str)} {n : Str} {d : DK} (h : rkBad l n) : ¬ rkF l = some d := fun e => by
  obtain ⟨i, a, e1, e2, _, e4⟩ := h
  have z := List.take_append_drop (i + 1) l
  rw [← z] at e
  obtain ⟨x, hx⟩ := rk_pre e
  rw [e4] at hx
  cases hx
/-- the values of a ranks dict are numbers, and each key stands once -/
def RkD (d : DK) : Prop := ∀ kv ∈ d, valV d kv.1 = some kv.2 ∧ ∃ n : Nat, kv.2 = .int (n : Int)
theorem rkd_at {d : DK} (h : RkD d) {k : Key} {v : V} (e : valV d k = some v) : ∃ n : Nat, v = .int (n : Int) := by
  unfold valV at e
  cases f : d.find? fun kv => decide (kv.1 = k) with
  | none => rw [f] at e; cases e
  | some kv =>
    rw [f] at e
    cases e
    exact (h kv (List.mem_of_find?_eq_some f)).2
theorem rk_d' : ∀ (l : List (Str × List Str)) (d0 d : DK), RkD d0 → l.foldl rkStep (some d0) = some d → RkD d
  | [], d0, d, h0, h => by cases h; exact h0
  | a :: l, d0, d, h0, h => by
    rw [List.foldl_cons] at h
    cases e : rkStep (some d0) a with
    | none => rw [e, rk_none] at h; cases h
    | some d1 =>
      rw [e] at h
      refine rk_d' l d1 d ?_ h
      unfold rkStep at e
      rw [Option.bind_some] at e
      split at e
      · rename_i hn
        cases e
        intro kv hkv
        rw [valV_put]
        rw [putK_new _ hn] at hkv
        rcases List.mem_append.mp hkv with hk | hk
        · have z := h0 kv hk
          have ne : ¬ kv.1 = (Sum.inr a.1 : Key) := fun q => by rw [q, hn] at z; cases z.1
          rw [if_neg ne]
          exact z
        · rw [List.mem_singleton.mp hk, if_pos rfl]
          exact ⟨rfl, _, rfl⟩
      · split at e
        · cases e
          exact h0
        · cases e
theorem rk_d {l : List (Str × List Str)} {d : DK} (h : rkF l = some d) : RkD d := rk_d' l [] d (fun _ h => by cases h) h
theorem Raised.from {C : Addr} {fl : Str} {v : V} {H H1 : Hp} {E : XK} (r : Raised C fl v H E) (g : Same H H1) : Raised C fl v H1 E := fun d H' g' h => r d H' (g.trans g') h
theorem ne_t {v w : V} (h : ¬ v = w) : (!decide (v = w)) = true := by rw [decide_eq_false h] <;> rfl
abbrev s_ranks_of : Stmt := topS 39
abbrev n_ranks_of : List Str := ["programs", "ranks", "program", "name", "letters"]
theorem sc_ranks_of : FnScope n_ranks_of ["programs"] (defScope s_ranks_of) := ⟨rfl, rfl, rfl, by decide +kernel, rfl, by decide +kernel, by decide +kernel⟩
def spRkX (K : PySem.W.Frag) (PG U X C RC : Addr) : Sp := fun vs H Q E => ∃ (a : Addr) (ps : List V) (gs : List PQ), vs = [.ref a] ∧ SqT K H a ps ∧ ProgsAt K PG U X C H ps gs ∧ (allP gs).length ≤ 900 ∧
  (∀ d, rkF (allP gs) = some d → ∀ (r : Addr) (H' : Hp), Same H H' → H r = none → H' r = some (.dK d) → Q (.ref r) H') ∧ (∀ n, rkBad (allP gs) n → Raised RC "name" (.str n) H E)
section
variable {P : Program} {w : World} {K : PySem.W.Frag} {mg : Str → Option Value} {base : Heap} {f U C X PG fI RC iR : Addr} {fd dR : FuncData}
theorem ok_ranks_ofX (F : Fun K "ranks_of" "ranks_of" s_ranks_of f fd) (T : Pg K PG) (Xc : Ey.Xc K mg X fI) (B : Bt mg) (cU : Ca P w K mg base 1 "use_accesses" ["program"] (spUacc K PG U X C)) (TR : Er K mg RC iR "RankClash" "name") (FR : FnOk P w K mg base CX0 2 iR dR ["self", "name"] (spErI RC "name")) (bR : Binds K dR ["self", "name"] []) : FnOk P w K mg base (L2.CX P w) 4 f fd ["programs"] (spRkX K PG U X C RC) := by
  refine F.okX sc_ranks_of (fun vs H Q E h => ?_) (fun cdv A outer s H vs Q E hr h => ?_)
  · obtain ⟨a, ps, gs, rfl, _⟩ := h
    rfl
  obtain ⟨a, ps, gs, rfl, ha, hp, h900, k, kE⟩ := h
  refine ⟨_, (pss_cons (ps_set (i := 1) sc_ranks_of.nd rfl (Or.inl rfl) pe_dnewK)
(pss_cons (ps_for (passes_of rfl) rfl (pi_tup (pv 0)) (pg_name (i := 2) sc_ranks_of.nd rfl (Or.inl rfl))
(pss_one (ps_for (passes_of rfl) rfl (pi_list (pe_lst (pa_cons (pe_fld (pe_fld (pv 2) rfl) rfl) (StX.pa_star (pca cU hr (by decide) rfl (pa_cons (pv 2) pa_nil)) pa_nil)))) (pg_tup rfl (pgs_cons (pg_name (i := 3) sc_ranks_of.nd rfl (Or.inl rfl)) (pgs_cons (pg_name (i := 4) sc_ranks_of.nd rfl (Or.inl rfl)) pgs_nil)))
(pss_one (ps_if (pt_cmpR op_ne (pe_dsetd (pv 1) (pv 3) (pe_callB call_len_seq (by rfl) B.len PySem.boot_len (pa_cons (pv 4) pa_nil)) ⟨by rfl, by rfl, by rfl, by rfl⟩) (pe_callB call_len_seq (by rfl) B.len PySem.boot_len (pa_cons (pv 4) pa_nil)) (nomark _))
(pss_one (ps_raise rfl (takes_of rfl rfl rfl rfl) (pmk_oex TR.ox TR.ini TR.ty FR (hr.mono (by decide)) bR .nil pass0 rfl TR.m (pa_cons (pv 3) pa_nil)))) pss_nil)))))
(pss_one (ps_ret (pv 1))))), ?_⟩
  refine fun r hr0 => ?_
  refine ⟨_, rfl, a, rfl, ⟨_, seqT (same_new hr0 _) ha⟩, for_it (walk_tup (K := K) (a := a) (xs := ps)) (fun i σ' H' => (∃ u v w : Option V, σ' = [some (.ref a), some (.ref r), u, v, w]) ∧ Same H H' ∧ ∃ e, rkF (allP (gs.take i)) = some e ∧ H' r = some (.dK e)) ⟨⟨_, _, _, rfl⟩, same_new hr0 _, [], rfl, upd_same⟩ (fun i σ' H' _ z => seqT z.2.1 ha) (fun i x σ' H1 H1' hi z y => ?_) (fun σ' H' z => ?_)⟩
  · obtain ⟨rfl, hx⟩ := y
    obtain ⟨⟨u3, v3, w3, rfl⟩, g1, e, he, hd⟩ := z
    have hi2 : i < gs.length := by rw [← hp.1]; exact hi
    have eg := List.getElem?_eq_getElem hi2
    generalize gs[i] = g0 at eg
    obtain ⟨p, us, rfl, hpA⟩ := hp.2 i x g0 hx eg
    have hpA1 := hpA.same g1
    obtain ⟨dx, g, tu, n, tl, ys, h1, hE, h3, h4, h5, h6⟩ := id hpA1
    obtain ⟨t, ⟨dg, tp, ta, tl2, us2, ys2, hg, j2, j3, j4, j5, j6⟩, ht⟩ := id hE
    have eS := allP_succ eg
    obtain ⟨rest, er⟩ := allP_pre (gs := gs) (i := i + 1)
    rw [eS] at er
    have l900 : (pairsP g0).length ≤ 900 := by
      rw [er, List.length_append, List.length_append] at h900
      omega
    have q900 : g0.qs.length ≤ 900 := by
      unfold pairsP at l900
      rw [List.length_cons, List.length_map] at l900
      omega
    refine ⟨_, rfl, p, PG, dx, _, _, rfl, h1, T.cl, T.nT, rfl, g, X, dg, _, _, rfl, hg, Xc.ic.cl, Xc.nP, Ey.fE_p, _, rfl, p, g0.nm, g0.ls, us, g0.qs, rfl, hpA1, q900, fun ru ws H2 g2 hws hnl => ?_⟩
    refine ⟨ru, ws, rfl, .inr hws, ?_, fun M hM => ⟨M, rfl, ⟨_, SqL.of upd_same⟩, ?_⟩⟩
    · have z := hnl.1
      rw [List.length_map] at z
      rw [List.append_nil, List.length_cons, z]
      exact Nat.le_of_lt (small1000 (by omega))
    have gM := g2.trans (same_new hM (.lst (.ref tp :: (ws ++ []))))
    have hMl : upd H2 M (.lst (.ref tp :: (ws ++ []))) M = some (.lst (.ref tp :: ws)) := by rw [upd_same, List.append_nil]
    have hnl3 : NlAt K (upd H2 M (.lst (.ref tp :: (ws ++ [])))) (.ref tp :: ws) (pairsP g0) := by
      refine ⟨by rw [List.length_cons, hnl.1] <;> rfl, fun j v b e1 e2 => ?_⟩
      cases j with
      | zero =>
        cases e1
        cases e2
        exact ⟨tp, t, rfl, seqT gM j2, seqT gM ht⟩
      | succ j => exact (hnl.2 j v b e1 e2).same (same_new hM _)
    have hd3 := gM _ _ hd
    generalize upd H2 M (.lst (.ref tp :: (ws ++ []))) = H3 at gM hMl hnl3 hd3 ⊢
    have xl : (.ref tp :: ws : List V).length = (pairsP g0).length := hnl3.1
    refine for_it (walk_list (K := K) (a := M) (xs := .ref tp :: ws)) (fun j σ' H' => (∃ v w : Option V, σ' = [some (.ref a), some (.ref r), some (.ref p), v, w]) ∧ Same H H' ∧ Kp r H3 H' ∧ ∃ e', rkF (allP (gs.take i) ++ (pairsP g0).take j) = some e' ∧ H' r = some (.dK e')) ⟨⟨_, _, rfl⟩, g1.trans gM, Kp.of (Same.refl _), e, by rw [List.take_zero, List.append_nil]; exact he, hd3⟩ (fun j σ' H' _ z => ?_) (fun j x σ' H4 H4' hj z y => ?_) (fun σ' H' z => ?_)
    · exact SqL.of (z.2.2.1 M _ (fun q => by rw [q, hd3] at hMl; cases hMl) hMl)
    · obtain ⟨rfl, hx⟩ := y
      obtain ⟨⟨v4, w4, rfl⟩, g4, k4, e', he', hd4⟩ := z
      rw [xl] at hj
      have eb := List.getElem?_eq_getElem hj
      generalize (pairsP g0)[j] = b at eb
      obtain ⟨pb, tb, rfl, b1, b2⟩ := PairAt.tk (kpK k4 hd3) (hnl3.2 j x b hx eb)
      have ej : allP (gs.take i) ++ (pairsP g0).take (j + 1) = (allP (gs.take i) ++ (pairsP g0).take j) ++ [b] := by
        rw [List.take_succ, eb, List.append_assoc] <;> rfl
      have eP : (pairsP g0).take (j + 1) ++ (pairsP g0).drop (j + 1) = pairsP g0 := List.take_append_drop ..
      have hs : rkF (allP (gs.take i) ++ (pairsP g0).take (j + 1)) = rkStep (some e') b := by rw [ej, rk_snoc, he']
      have bad : rkStep (some e') b = none → rkBad (allP gs) b.1 := fun hz => by
        have tl : (allP (gs.take i) ++ (pairsP g0).take j).length = (allP (gs.take i)).length + j := by rw [List.length_append, List.length_take]; omega
        have eq2 : allP gs = (allP (gs.take i) ++ (pairsP g0).take (j + 1)) ++ ((pairsP g0).drop (j + 1) ++ rest) := by rw [er, List.append_assoc, List.append_assoc, ← List.append_assoc (List.take _ _), eP]
        have tl1 : (allP (gs.take i) ++ (pairsP g0).take (j + 1)).length = (allP (gs.take i)).length + j + 1 := by rw [ej, List.length_append, tl] <;> rfl
        refine ⟨(allP (gs.take i)).length + j, b, ?_, rfl, ⟨e', ?_⟩, ?_⟩
        · rw [eq2, List.getElem?_append_left (by omega), ej, List.getElem?_append_right (by omega), tl, Nat.sub_self] <;> rfl
        · rw [eq2, List.take_append_of_le_length (by omega), ej, List.take_append_of_le_length (by omega), ← tl, List.take_length]
          exact he'
        · rw [eq2, ← tl1, List.take_append_of_le_length (Nat.le_refl _), List.take_length, hs, hz]
      have el : e'.length ≤ 900 := by
        refine Nat.le_trans (rk_len he') ?_
        rw [er, List.length_append, List.length_append] at h900
        rw [List.length_append, List.length_take]
        omega
      have hbl : ((b.2.map V.str).length : Int) = ((b.2.length : Nat) : Int) := by rw [List.length_map]
      refine ⟨pb, _, rfl, b1, rfl, _, _, rfl, _, _, rfl, rfl, ?_⟩
      refine ⟨_, rfl, r, rfl, .inl ⟨_, .of hd4⟩, _, rfl, _, rfl, tb, _, rfl, .inr b2, e', Sum.inr b.1, hd4, rfl, small1000 (by omega), fun v hv => ?_, fun hn => ?_⟩
      · obtain ⟨n, rfl⟩ := rkd_at (rk_d he') hv
        refine ⟨_, rfl, tb, _, rfl, .inr b2, ?_⟩
        rw [hbl]
        by_cases c : (V.int (n : Int)) = .int (b.2.length : Nat)
        · have hs2 : rkStep (some e') b = some e' := by
            unfold rkStep
            rw [Option.bind_some, hv]
            exact if_pos c
          rw [c]
          exact ⟨rfl, _, rfl, iteNo (same_ne _) ⟨⟨_, _, rfl⟩, g4, k4, e', by rw [hs, hs2], hd4⟩⟩
        · have hs2 : rkStep (some e') b = none := by
            unfold rkStep
            rw [Option.bind_some, hv]
            exact if_neg c
          refine ⟨rfl, _, rfl, iteY (ne_t c) ?_⟩
          exact ⟨_, rfl, (by show 1 ≤ 1000; decide), fun a ha => made_er ((kE b.1 (bad hs2)).from g4) (.inr ⟨_, rfl⟩) a ha⟩
      · have hs2 : rkStep (some e') b = some (putK e' (Sum.inr b.1 : Key) (.int (b.2.length : Nat))) := by
          unfold rkStep
          rw [Option.bind_some, hn]
        rw [hbl]
        have k5 : Kp r H4' (upd H4' r (.dK (putK e' (Sum.inr b.1 : Key) (.int (b.2.length : Nat))))) := kpPut
        refine ⟨_, rfl, tb, _, rfl, .inr (kpK k5 hd4 _ _ b2), ?_⟩
        rw [hbl]
        exact ⟨rfl, _, rfl, iteNo (same_ne _) ⟨⟨_, _, rfl⟩, same_over g4 hr0 _, k4.trans k5, _, by rw [hs, hs2], upd_same⟩⟩
    · obtain ⟨⟨v4, w4, rfl⟩, g4, k4, e', he', hd4⟩ := z
      rw [xl, List.take_length] at he'
      exact ⟨⟨_, _, _, rfl⟩, g4, e', by rw [eS]; exact he', hd4⟩
  · obtain ⟨⟨u3, v3, w3, rfl⟩, g1, e, he, hd⟩ := z
    rw [hp.1, List.take_length] at he
    exact ⟨_, rfl, k e he r H' g1 hr0 hd⟩
end
end Lw
namespace L2
open PySem PySem.Spec PyProof.Rows
section
variable {X : Cx} {CX : CXT} {k : Nat} {f C : Addr} {x : Str} {sp : Sp} {E : XK} {e : Expr} {es : List Expr} {t : TA} {p pos : Pos}
/-- C(e, ..), its __init__ by its promise alone -/
theorem pe_makeR (M : Mk X.K C f) (F : FnR X.prog X.w X.K X.mg X.base CX k f sp) (hr : Room (k + 1) X.A) (hg : Gl X x) (hm : X.mg x = some (.ref C)) (hx : Passes CX X E)
    (ha : PA X (e :: es) t) (hdb : (x == ("__debug__" : Str)) = false := by decide) (he : starEach (e :: es) X.env = (false, eval e X.env) :: starEach es X.env := by rfl) (hpl : (backTo pos (starEach es X.env)).any (·.1) = false := by rfl) :
    PE X (.Call (.Name x p) (e :: es) [] pos) (tMake C sp [] E t) := by
  refine ⟨fun pins s σ H Q I h => ?_⟩
  refine wpAny_Call_Name_kw (ld_glob I hg hm ?_ hdb)
  refine PySem.W.callWith_K (h₀ := X.base) I.ok.mod.kin M.kp (thn (ha.run pos pins s σ H _ I h) fun us s1 ⟨vs, H1, I1, r, q⟩ => ⟨I1.kIn, ?_⟩) he hpl
  have hq := q (s1.heap.objs.size + 1) s1.heap.objs.size (I1.hok.fresh (Nat.le_succ _)) (I1.hok.fresh (Nat.le_refl _)) (Nat.ne_of_lt (Nat.lt_succ_self _))
  have I2 := Inv.made (C := C) I1
  rw [List.append_nil] at hq
  refine wpAny_call (make_map (f := f) I1.kIn M.makes M.init (beq_iff_eq.mp M.fn) (codeAny_mono (F _ X.stack _ _ (Value.ref (s1.heap.objs.size + 1) :: us) (V.ref (s1.heap.objs.size + 1) :: vs) _ E (hr.make C us []) (I2.env0.make C us []) (.cons rfl r) hq) fun r s' hq' => ?_))
  cases r with
  | error e => exact hx pins σ _ _ e s' I2 hq'
  | ok fl =>
    cases fl with
    | ret u =>
      obtain ⟨v, H', I3, rv, ev, q3⟩ := I2.after hq'
      subst ev
      exact ⟨rv, ⟨V.ref (s1.heap.objs.size + 1), H', I3, rfl, q3⟩⟩
    | next => exact False.elim hq'
    | brk => exact False.elim hq'
    | cont => exact False.elim hq'
end
end L2
namespace C3
open PySem PySem.Spec PyProof.Rows L2
/-- a clause's loop over what walks -/
theorem lp_it {J : It} {n : Nat} {G : Hp → Prop} {Y : Nat → Hp → V → Hp → Prop} (w : Walk J n G Y) {g : TG} {Bd : TBd} {vs : List Nat} {σ : L2.St} {H : Hp} {Nx : Hp → Prop} (Pv : Nat → Hp → Prop) (h0 : Pv 0 H) (hG : ∀ i H, i ≤ n → Pv i H → G H)
    (hs : ∀ i x H H', i < n → Pv i H → Y i H x H' → g x (wipe σ vs) H' fun σ3 H5 => wipe σ3 vs = wipe σ vs ∧ Bd σ3 H5 (Pv (i + 1))) (hd : ∀ H, Pv n H → Nx H) : Lp g Bd vs J σ H Nx := by
  refine ⟨fun i m H => m = n - i ∧ i ≤ n ∧ Pv i H, ⟨n, by simp, Nat.zero_le _, h0⟩, ?_⟩
  rintro i m H ⟨rfl, hi, p⟩
  have q := hG i H hi p
  by_cases hlt : i < n
  · exact .inr ⟨w.goes i H hlt q, Pv (i + 1), fun H' p' => ⟨n - (i + 1), by omega, rfl, hlt, p'⟩, fun x H' y => hs i x H H' hlt p (w.yields i H x H' hlt q y)⟩
  · have e : i = n := by omega
    subst e
    exact .inl ⟨w.stops H q, hd H p⟩
end C3
namespace Lw
open PySem L2 TzR NsX NdX
theorem len_flat {α β : Type} {f : α → List β} : ∀ (l : List α), (∀ a ∈ l, 1 ≤ (f a).length) → l.length ≤ (l.flatMap f).length
  | [], _ => Nat.le_refl _
  | a :: l, h => by
    have h1 := h a (List.mem_cons_self ..)
    have h2 := len_flat l fun b hb => h b (List.mem_cons_of_mem _ hb)
    rw [List.flatMap_cons, List.length_append, List.length_cons]
    omega
theorem choose_list {α : Type} {R : Nat → α → Prop} : ∀ (n : Nat), (∀ i, i < n → ∃ a, R i a) → ∃ l : List α, l.length = n ∧ ∀ i a, l[i]? = some a → R i a
  | 0, _ => ⟨[], rfl, fun i a e => by cases e⟩
  | n + 1, h => by
    obtain ⟨l, hl, hr⟩ := choose_list n fun i hi => h i (Nat.lt_succ_of_lt hi)
    obtain ⟨a, ha⟩ := h n (Nat.lt_succ_self _)
    refine ⟨l ++ [a], by rw [List.length_append, hl] <;> rfl, fun i b e => ?_⟩
    by_cases c : i < l.length
    · rw [List.getElem?_append_left c] at e
      exact hr i b e
    · have ei : i = n := by
        have z := (List.getElem?_eq_some_iff.mp e).1
        rw [List.length_append, List.length_singleton] at z
        omega
      subst ei
      rw [List.getElem?_append_right (by omega), hl, Nat.sub_self] at e
      cases e
      exact ha
/-- a use as the family asks it -/
def UqF (q : UQ) : Prop := (q.l.map (·.1)).length = (q.l.map (·.2)).length ∧ (q.l.map (·.2)).length ≤ 3 ∧ (∀ i ∈ q.l.map (·.2), 0 ≤ i ∧ i < (q.ls.length : Int)) ∧ q.ls.length ≤ 3
def memQ (q : UQ) : List Mb := memU q.nm q.ls (q.l.map (·.1)) (q.l.map (·.2))
theorem memQ_len {q : UQ} (h : UqF q) : (memQ q).length ≤ 4 := by
  unfold memQ memU
  rw [List.length_map]
  have := ds_len (ks := q.l.map (·.1))
  have := h.1
  have := h.2.1
  omega
def memP (g : PQ) : List Mb := g.qs.flatMap memQ
def memsF (gs : List PQ) : List Mb := gs.flatMap memP
def letsP (g : PQ) : List Str := g.ls ++ (g.qs.map (·.ls)).flatten
def letsF (gs : List PQ) : List Str := gs.flatMap letsP
theorem lets_all : ∀ {yss : List (List Str)} {gs : List PQ}, yss.length = gs.length → (∀ (i : Nat) (y : List Str) (g : PQ), yss[i]? = some y → gs[i]? = some g → Ey.LetOk y (letsP g)) → yss.flatten.length ≤ (letsF gs).length ∧ ∀ z, z ∈ yss.flatten ↔ z ∈ letsF gs
  | [], [], _, _ => ⟨Nat.le_refl _, fun z => Iff.rfl⟩
  | [], _ :: _, h, _ => by cases h
  | _ :: _, [], h, _ => by cases h
  | y :: yss, g :: gs, h, q => by
    have q0 := q 0 y g rfl rfl
    obtain ⟨a, b⟩ := lets_all (Nat.succ.inj h) fun i y' g' e1 e2 => q (i + 1) y' g' e1 e2
    have l0 := letok_len q0
    unfold letsF at a b ⊢
    rw [List.flatten_cons, List.flatMap_cons, List.length_append, List.length_append]
    refine ⟨by omega, fun z => ?_⟩
    rw [List.mem_append, List.mem_append, q0.mem z, b z]
structure Fy (K : PySem.W.Frag) (FA : Addr) : Prop where
  cl : Cls K FA
  nR : PySem.W.findIn K (.ref FA) "ranks" = some none
  nA : PySem.W.findIn K (.ref FA) "axis_counts" = some none
  nL : PySem.W.findIn K (.ref FA) "letters" = some none
  nM : PySem.W.findIn K (.ref FA) "members" = some none
def fyF (r c tl tm : Addr) : List (Str × V) := [("ranks", .ref r), ("axis_counts", .ref c), ("letters", .ref tl), ("members", .ref tm)]
/-- a family: ranks, letters, members -/
def FamAt (K : PySem.W.Frag) (FA : Addr) (H : Hp) (p : Addr) (d : DK) (ls : List Str) (ms : List Mb) : Prop :=
  ∃ (dx r c tl tm : Addr) (ys : List Str) (ns : List (Addr × Mb)), H p = some (.ins FA dx (fyF r c tl tm)) ∧ H r = some (.dK d) ∧ H c = some (.dK d) ∧ SqT K H tl (ys.map V.str) ∧ Ey.LetOk ys ls ∧ SqT K H tm (msV ns) ∧ MsAt K H mk ns ∧ AscOk ms (ns.map (·.2))
theorem FamAt.same {K : PySem.W.Frag} {FA : Addr} {H H' : Hp} {p : Addr} {d : DK} {ls : List Str} {ms : List Mb} (g : Same H H') : FamAt K FA H p d ls ms → FamAt K FA H' p d ls ms
  | ⟨dx, r, c, tl, tm, ys, ns, h1, h0, h2, h3, h4, h5, h6, h7⟩ => ⟨dx, r, c, tl, tm, ys, ns, g _ _ h1, g _ _ h0, g _ _ h2, seqT g h3, h4, seqT g h5, h6.same g, h7⟩
theorem kpL {K : PySem.W.Frag} {H H' : Hp} {M : Addr} {xs : List V} (k : Kp M H H') (h : H M = some (.lst xs)) : TK K H H' := fun a ys h2 => by
  rcases h2 with (h2 | ⟨o, h2⟩) | h2
  · exact .inl (.inl (k _ _ (fun e => by rw [e, h] at h2; cases h2) h2))
  · exact .inl (.inr ⟨o, k _ _ (fun e => by rw [e, h] at h2; cases h2) h2⟩)
  · exact .inr h2
theorem kpSqL {K : PySem.W.Frag} {H H' : Hp} {L M : Addr} {ys : List V} (k : Kp M H H') (n : L ≠ M) (h : SqL K H L ys) : SqL K H' L ys := by
  rcases h with (h | ⟨o, h⟩) | h
  · exact .inl (.inl (k _ _ n h))
  · exact .inl (.inr ⟨o, k _ _ n h⟩)
  · exact .inr h
theorem kpI {K : PySem.W.Frag} {H H' : Hp} {p C dx : Addr} {fs : List (Str × V)} (k : Kp p H H') (hp : H p = some (.ins C dx fs)) : TK K H H' := fun a xs h => k.seq hp h
abbrev s_fini : Stmt := inClass (topS 40) 0
abbrev n_fini : List Str := ["self", "programs", "program", "letter", "use", "member"]
theorem sc_fini : FnScope n_fini ["self", "programs"] (defScope s_fini) := ⟨rfl, rfl, rfl, by decide +kernel, rfl, by decide +kernel, by decide +kernel⟩
def spFini (K : PySem.W.Frag) (FA PG U X C RC : Addr) : Sp := fun vs H Q E => ∃ (p dx : Addr) (ps : List V) (gs : List PQ), vs = .ref p :: ps ∧ H p = some (.ins FA dx []) ∧ ProgsAt K PG U X C H ps gs ∧ (allP gs).length ≤ 900 ∧ (letsF gs).length < 64 ∧ (memsF gs).length < 64 ∧ (∀ g ∈ gs, ∀ q ∈ g.qs, UqF q) ∧
  (∀ d, rkF (allP gs) = some d → ∀ H' : Hp, Kp p H H' → FamAt K FA H' p d (letsF gs) (memsF gs) → Q .non H') ∧ (∀ n, rkBad (allP gs) n → Raised RC "name" (.str n) H E)
theorem ProgAt.kp {K : PySem.W.Frag} {PG U X C FA dx : Addr} {H H' : Hp} {p x : Addr} {nm : Str} {ls : List Str} {us : List V} {qs : List UQ} {fs : List (Str × V)} (k : Kp x H H') (hx : H x = some (.ins FA dx [])) : ProgAt K PG U X C H p nm ls us qs → ProgAt K PG U X C H' p nm ls us qs
  | ⟨dp, a, tu, n, tl, ys, h1, h2, h3, h4, h5, h6⟩ => ⟨dp, a, tu, n, tl, ys, k _ _ (fun e => by
      rw [e, hx] at h1
      injection h1 with z
      injection z with _ _ z3
      cases z3) h1, Ey.Kp.ex (kpE (q := x) k) hx h2, k.seq hx h3, h4.kp k hx, k.seq hx h5, h6⟩
theorem ProgsAt.kp {K : PySem.W.Frag} {PG U X C FA dx x : Addr} {H H' : Hp} {vs : List V} {gs : List PQ} (k : Kp x H H') (hx : H x = some (.ins FA dx [])) (h : ProgsAt K PG U X C H vs gs) : ProgsAt K PG U X C H' vs gs := ⟨h.1, fun i v g e1 e2 => (h.2 i v g e1 e2).elim fun p z => z.elim fun us z => ⟨p, us, z.1, z.2.kp (fs := []) k hx⟩⟩
section
variable {P : Program} {w : World} {K : PySem.W.Frag} {mg : Str → Option Value} {base : Heap} {f U C X PG FA fI RC gR : Addr} {fd dRk : FuncData}
theorem ok_fini (F : Fun K "__init__" "Family.__init__" s_fini f fd) (T : Fy K FA) (Pc : Pg K PG) (Uc : Us K U C) (B : Bt mg) (GR : FnOk P w K mg base (L2.CX P w) 4 gR dRk ["programs"] (spRkX K PG U X C RC)) (bR : Binds K dRk ["programs"] []) (kR : PySem.W.keepIn K (.ref gR) = true) (mR : mg "ranks_of" = some (.ref gR)) (cA : Ca P w K mg base 1 "ascending" ["names"] (Ey.spAsc K)) (cN : Ca P w K mg base 1 "ascending" ["names"] (spAscN K)) (cM : Ca P w K mg base 2 "use_members" ["use"] (spUms K U C)) : FnR P w K mg base (L2.CX P w) 6 f (spFini K FA PG U X C RC) := by
  obtain ⟨oc, od, kV, doc, pm, an, cdv, ct, osl, rfl, lk, hcd⟩ := F.ex
  have z := StX.fn_star (P := P) (w := w) (mg := mg) (base := base) (CX := L2.CX P w) (k := 5) (ps := ["self"]) (pv := "programs") (N := n_fini)
    (sp := fun vs H Q E => ∃ (p dx t : Addr) (ps : List V) (gs : List PQ), vs = [.ref p, .ref t] ∧ H p = some (.ins FA dx []) ∧ SqT K H t ps ∧ ProgsAt K PG U X C H ps gs ∧ (allP gs).length ≤ 900 ∧ (letsF gs).length < 64 ∧ (memsF gs).length < 64 ∧ (∀ g ∈ gs, ∀ q ∈ g.qs, UqF q) ∧
  (∀ d, rkF (allP gs) = some d → ∀ H' : Hp, Kp p H H' → FamAt K FA H' p d (letsF gs) (memsF gs) → Q .non H') ∧ (∀ n, rkBad (allP gs) n → Raised RC "name" (.str n) H E))
    lk hcd sc_fini StX.cxUp (StX.bind_star1 (B := fun us => bindArgs (PySem.W.fnOf "__init__" "Family.__init__" (defArgs s_fini) (defBody s_fini) (defScope s_fini) .none kV doc pm an cdv ct) ⟨us, []⟩) (fun a => rfl) (fun a r rs => rfl)) (fun A outer s H vs Q E hr h => ?_)
  · refine z.imp fun vs H Q E h => ?_
    obtain ⟨p, dx, ps, gs, rfl, hp, hP, h9, hl64, hm64, hq, k, ke⟩ := h
    refine ⟨[.ref p], ps, rfl, rfl, ?_, fun t ht => ⟨p, dx, t, ps, gs, rfl, (same_new ht _) _ _ hp, SqT.of upd_same, hP.same (same_new ht _), h9, hl64, hm64, hq, fun d hrk H' kp => k d hrk H' ((Kp.of (same_new ht _)).trans kp), fun n hb => (ke n hb).from (same_new ht _)⟩⟩
    have : gs.length ≤ (allP gs).length := by
      unfold allP
      exact len_flat gs fun g _ => by unfold pairsP; rw [List.length_cons]; exact Nat.succ_le_succ (Nat.zero_le _)
    rw [hP.1]
    exact Nat.le_of_lt (small1000 (by omega))
  obtain ⟨p, dx, t, ps, gs, rfl, hp, ht, hP, h9, hl64, hm64, hq, k, ke⟩ := h
  refine ⟨_, (pss_cons (ps_fld (pv 0) (pe_call (E := E) GR (hr.mono (by decide)) rfl mR kR bR .nil (passes_call (takes_of rfl rfl rfl rfl) (fun _ _ _ _ h => h)) (pa_cons (pv 1) pa_nil)) rfl) (PSs.nox
(pss_cons (ps_fld (pv 0) (pe_callTy call_dictD (by rfl) B.dict (by decide +kernel) (pa_cons (pe_fld (pv 0) rfl) pa_nil)) rfl)
(pss_cons (ps_fld (pv 0) (pca cA hr (by decide) rfl (pa_cons (pe_lc2 (own := [("program", 2), ("letter", 3)]) (vs1 := [3]) (g := (gName 2)) (g1 := (gName 3)) (tt := tYes) (tt1 := tYes) (wi1 := iTup K (tFld K (tVar 2) "letters")) (te := tVar 3) rfl sc_fini.nd (pi_tup (pv 1)) (blkOk_by (N := n_fini) (sc := defScope s_fini) (by decide +kernel)) (by decide) (fun _ _ _ _ _ => (pg_name (i := 2) sc_fini.nd rfl (Or.inl rfl))) (fun _ _ _ _ _ => pts_nil) (fun _ _ _ _ _ => (pi_tup (pe_fld (pv 2) rfl))) (fun _ _ _ _ _ => (pg_name (i := 3) sc_fini.nd rfl (Or.inl rfl))) (fun _ _ _ _ _ => pts_nil) (fun _ _ _ _ _ => (pv 3))) pa_nil)) rfl)
(pss_one (ps_fld (pv 0) (pca cN hr (by decide) rfl (pa_cons (C3.pe_lc3 (own := [("program", 2), ("use", 4), ("member", 5)]) (vs1 := [4, 5]) (vs2 := [5]) (g := (gName 2)) (g1 := (gName 4)) (g2 := (gName 5)) (wi1 := iTup K (tFld K (tVar 2) "uses")) (wi2 := iList K (tCall (spUms K U C) [] E0 (tCons (tVar 4) tNil))) (te := tVar 5) rfl sc_fini.nd (pi_tup (pv 1)) (blkOk_by (N := n_fini) (sc := defScope s_fini) (by decide +kernel)) (by decide) (by decide) (fun _ _ _ _ _ => (pg_name (i := 2) sc_fini.nd rfl (Or.inl rfl))) (fun _ _ _ _ _ => (pi_tup (pe_fld (pv 2) rfl))) (fun _ _ _ _ _ => (pg_name (i := 4) sc_fini.nd rfl (Or.inl rfl))) (fun _ _ _ _ _ => (pi_list (pca cM hr (by decide) rfl (pa_cons (pv 4) pa_nil)))) (fun _ _ _ _ _ => (pg_name (i := 5) sc_fini.nd rfl (Or.inl rfl))) (fun _ _ _ _ _ => (pv 5))) pa_nil)) rfl)))))), ?_⟩
  -- ranks
  refine ⟨_, rfl, t, ps, gs, rfl, ht, hP, h9, fun d hrk r H1 g1 hr0 hr1 => ?_, fun n hb => ke n hb⟩
  have hp1 := g1 _ _ hp
  refine ⟨_, rfl, p, FA, dx, _, rfl, hp1, T.cl, T.nR, (by show 0 < 1000; decide), ?_⟩
  have k2 : Kp p H1 (upd H1 p (.ins FA dx (putF "ranks" (.ref r) []))) := kpPut
  have hrp : r ≠ p := fun e => by rw [e, hp] at hr0; cases hr0
  have hr2 := k2 _ _ hrp hr1
  have hp2 : upd H1 p (.ins FA dx (putF "ranks" (.ref r) [])) p = some (.ins FA dx [("ranks", .ref r)]) := upd_same
  have k2' := (Kp.of g1).trans k2
  generalize upd H1 p (.ins FA dx (putF "ranks" (.ref r) [])) = H2 at k2 hr2 hp2 k2' ⊢
  -- axis_counts
  refine ⟨_, rfl, p, FA, dx, _, _, rfl, hp2, T.cl, T.nR, rfl, r, d, rfl, .of hr2, fun c hc => ?_⟩
  have g3 := same_new hc (.dK d)
  have hc3 : upd H2 c (.dK d) c = some (.dK d) := upd_same
  have hcp : c ≠ p := fun e => by rw [e, hp2] at hc; cases hc
  have hp3 := g3 _ _ hp2
  have hr3 := g3 _ _ hr2
  have k3' := k2'.trans (Kp.of g3)
  generalize upd H2 c (.dK d) = H3 at g3 hc3 hp3 hr3 k3' ⊢
  refine ⟨_, rfl, p, FA, dx, _, rfl, hp3, T.cl, T.nA, (by show 1 < 1000; decide), ?_⟩
  have k4 : Kp p H3 (upd H3 p (.ins FA dx (putF "axis_counts" (.ref c) [("ranks", .ref r)]))) := kpPut
  have hp4 : upd H3 p (.ins FA dx (putF "axis_counts" (.ref c) [("ranks", .ref r)])) p = some (.ins FA dx [("ranks", .ref r), ("axis_counts", .ref c)]) := upd_same
  have hc4 := k4 _ _ hcp hc3
  have hr4 := k4 _ _ hrp hr3
  have k4' := k3'.trans k4
  generalize upd H3 p (.ins FA dx (putF "axis_counts" (.ref c) [("ranks", .ref r)])) = H4 at k4 hp4 hc4 hr4 k4' ⊢
  -- letters
  have hP4 := hP.kp k4' hp
  have ht4 := k4'.seq hp ht
  refine ⟨_, rfl, t, rfl, ⟨_, ht4⟩, fun D hD => ?_⟩
  obtain ⟨yss, yl, yr⟩ := choose_list (R := fun i ys => ∃ (pu dp g tu n tl : Addr) (q0 : PQ), ps[i]? = some (.ref pu) ∧ gs[i]? = some q0 ∧ H4 pu = some (.ins PG dp (pmF g tu n tl)) ∧ SqT K H4 tl (ys.map V.str) ∧ Ey.LetOk ys (letsP q0)) ps.length fun i hi => by
    have hi2 : i < gs.length := by rw [← hP4.1]; exact hi
    obtain ⟨pu, us, eu, ⟨dp, g, tu, n, tl, ys, h1, h2, h3, h4, h5, h6⟩⟩ := hP4.2 i _ _ (List.getElem?_eq_getElem hi) (List.getElem?_eq_getElem hi2)
    exact ⟨ys, pu, dp, g, tu, n, tl, gs[i], by rw [List.getElem?_eq_getElem hi, eu], List.getElem?_eq_getElem hi2, h1, h5, h6⟩
  obtain ⟨yll, ymem⟩ := lets_all (yl.trans hP4.1) fun i y g e1 e2 => by
    obtain ⟨pu, dp, g', tu, n, tl, q0, z1, z2, _, _, z5⟩ := yr i y e1
    rw [e2] at z2
    cases z2
    exact z5
  have asl : (yss.map fun y => (Str.empty, y)).length = ps.length := by rw [List.length_map, yl]
  have hfl := Ey.flat_lts (yss.map fun y => (Str.empty, y))
  have elt : Ey.lts (yss.map fun y => (Str.empty, y)) = yss.flatten := by
    unfold Ey.lts
    rw [List.map_map]
    show (yss.map id).flatten = _
    rw [List.map_id]
  rw [elt, asl] at hfl
  have hfn : (Ey.flat (fun i => (((yss.map fun y => (Str.empty, y)).getD i (Str.empty, [])).2).map V.str) ps.length).length ≤ 1000 := by
    rw [hfl, List.length_map]
    omega
  refine Ey.lc2_it (K := K) (xs := ps) (i0 := 2) (j0 := 3) (fun i => (((yss.map fun y => (Str.empty, y)).getD i (Str.empty, [])).2).map V.str) hD (Ey.outer_tup ht4) (fun i x H' R hx gx hR => ?_) hfn (fun i hi => Ey.flat_le2 _ _ 1000 i hfn hi) (fun H6 hd6 g6 => ?_) (fun _ => rfl) (fun _ _ => rfl) (fun _ _ => rfl)
  · have hi : i < yss.length := by rw [yl]; exact (List.getElem?_eq_some_iff.mp hx).1
    have ey := List.getElem?_eq_getElem hi
    generalize yss[i] = y0 at ey
    obtain ⟨pu, dp, g, tu, n, tl, q0, z1, _, z3, z4, _⟩ := yr i y0 ey
    rw [hx] at z1
    cases z1
    refine ⟨_, rfl, pu, PG, dp, _, _, rfl, gx _ _ z3, Pc.cl, Pc.nL, rfl, tl, rfl, ⟨_, seqT gx z4⟩, hR tl ?_⟩
    rw [List.getD_eq_getElem?_getD, List.getElem?_map, ey]
    exact z4
  rw [hfl] at hd6
  refine ⟨D, yss.flatten, rfl, SqL.of hd6, by omega, fun tl ys H7 g7 htl hlet => ?_⟩
  have hlet2 := hlet.congr ymem
  have g47 := g6.trans g7
  have hp7 := g47 _ _ hp4
  have hc7 := g47 _ _ hc4
  have hr7 := g47 _ _ hr4
  refine ⟨_, rfl, p, FA, dx, _, rfl, hp7, T.cl, T.nL, (by show 2 < 1000; decide), ?_⟩
  have k8 : Kp p H7 (upd H7 p (.ins FA dx (putF "letters" (.ref tl) [("ranks", .ref r), ("axis_counts", .ref c)]))) := kpPut
  have hp8 : upd H7 p (.ins FA dx (putF "letters" (.ref tl) [("ranks", .ref r), ("axis_counts", .ref c)])) p = some (.ins FA dx [("ranks", .ref r), ("axis_counts", .ref c), ("letters", .ref tl)]) := upd_same
  have hc8 := k8 _ _ hcp hc7
  have hr8 := k8 _ _ hrp hr7
  have htl8 := k8.seq hp7 htl
  have k8' := (k4'.trans (Kp.of g47)).trans k8
  generalize upd H7 p (.ins FA dx (putF "letters" (.ref tl) [("ranks", .ref r), ("axis_counts", .ref c)])) = H8 at k8 hp8 hc8 hr8 htl8 k8' ⊢
  -- members
  have hP8 := hP.kp k8' hp
  have ht8 := k8'.seq hp ht
  refine ⟨_, rfl, t, rfl, ⟨_, ht8⟩, fun M hM => ?_⟩
  refine C3.lp_it (walk_tup (K := K) (a := t) (xs := ps)) (fun i H' => ∃ bs : List (Addr × Mb), H' M = some (.lst (msV bs)) ∧ MsAt K H' mk bs ∧ bs.map (·.2) = memsF (gs.take i) ∧ Same H8 H') ⟨[], upd_same, (fun _ h => by cases h), rfl, same_new hM _⟩ (fun i H' _ ⟨_, _, _, _, g⟩ => seqT g ht8) (fun i x H' H'' hi z y => ?_) (fun H' z => ?_)
  · obtain ⟨rfl, hx⟩ := y
    obtain ⟨bs, b1, b2, b3, g⟩ := z
    have hi2 : i < gs.length := by rw [← hP8.1]; exact hi
    have eg := List.getElem?_eq_getElem hi2
    have hqi := hq gs[i] (List.getElem_mem hi2)
    generalize gs[i] = g0 at eg hqi
    obtain ⟨pu, us, rfl, ⟨dp, gt, tu, nn, tl', ys', h1, h2, h3, h4, h5, h6⟩⟩ := hP8.2 i x g0 hx eg
    have e1 : memsF (gs.take (i + 1)) = memsF (gs.take i) ++ memP g0 := by
      unfold memsF
      rw [List.take_succ, eg, List.flatMap_append] <;> simp
    have e2 : memsF gs = memsF (gs.take i) ++ (memP g0 ++ memsF (gs.drop (i + 1))) := by
      rw [← List.append_assoc, ← e1]
      unfold memsF
      rw [← List.flatMap_append, List.take_append_drop]
    refine ⟨rfl, _, rfl, pu, PG, dp, _, _, rfl, g _ _ h1, Pc.cl, Pc.nU, rfl, tu, rfl, ⟨_, seqT g h3⟩, ?_⟩
    refine C3.lp_it (walk_tup (K := K) (a := tu) (xs := us)) (fun j H' => ∃ bs : List (Addr × Mb), H' M = some (.lst (msV bs)) ∧ MsAt K H' mk bs ∧ bs.map (·.2) = memsF (gs.take i) ++ (g0.qs.take j).flatMap memQ ∧ Same H8 H') ⟨bs, b1, b2, by rw [b3, List.take_zero, List.flatMap_nil, List.append_nil], g⟩ (fun i H' _ ⟨_, _, _, _, g⟩ => seqT g h3) (fun j x H' H'' hj z y => ?_) (fun H' z => ?_)
    · obtain ⟨rfl, hx2⟩ := y
      obtain ⟨bs, b1, b2, b3, g⟩ := z
      have hj2 : j < g0.qs.length := by rw [← h4.1]; exact hj
      have eq := List.getElem?_eq_getElem hj2
      have hqj := hqi g0.qs[j] (List.getElem_mem hj2)
      generalize g0.qs[j] = q0 at eq hqj
      obtain ⟨qu, qf, rfl, hU⟩ := h4.2 j x q0 hx2 eq
      have e3 : (g0.qs.take (j + 1)).flatMap memQ = (g0.qs.take j).flatMap memQ ++ memQ q0 := by
        rw [List.take_succ, eq, List.flatMap_append] <;> simp
      have e4 : memP g0 = (g0.qs.take j).flatMap memQ ++ (memQ q0 ++ (g0.qs.drop (j + 1)).flatMap memQ) := by
        rw [← List.append_assoc, ← e3]
        unfold memP
        rw [← List.flatMap_append, List.take_append_drop]
      obtain ⟨f1, f2, f3, f4⟩ := hqj
      refine ⟨rfl, _, rfl, qu, q0.nm, q0.ls, qf, _, _, rfl, hU.same g, f1, f2, f3, fun L ws H9 g9 hL hws hall => ?_⟩
      refine ⟨L, rfl, ⟨_, hws⟩, ?_⟩
      obtain ⟨ms, rfl, em, hms⟩ := refs_k mk_tup hall
      have em : ms.map (·.2) = memQ q0 := em
      have mll : ms.length = (memQ q0).length := by rw [← em, List.length_map]
      have hMg := g9 _ _ b1
      have hLM : L ≠ M := fun e => by rw [e, b1] at hL; cases hL
      have gL := g.trans g9
      refine C3.lp_it (walk_list (K := K) (a := L) (xs := msV ms)) (fun m H' => ∃ bs : List (Addr × Mb), H' M = some (.lst (msV bs)) ∧ MsAt K H' mk bs ∧ bs.map (·.2) = (memsF (gs.take i) ++ (g0.qs.take j).flatMap memQ) ++ (memQ q0).take m ∧ Same H8 H' ∧ Kp M H9 H') ⟨bs, hMg, b2.same g9, by rw [b3, List.take_zero, List.append_nil], gL, Kp.of (Same.refl _)⟩ (fun m H' _ ⟨_, _, _, _, _, kk⟩ => ?_) (fun m x H' H'' hm z y => ?_) (fun H' z => ?_)
      · exact kpSqL kk hLM hws
      · obtain ⟨rfl, hx3⟩ := y
        obtain ⟨bs, b1, b2, b3, g, kk⟩ := z
        obtain ⟨b, eb, rfl⟩ := at_map hx3
        have hb := hms b (List.mem_of_getElem? eb)
        have tkk : TK K H9 H'' := kpL kk hMg
        have bl : bs.length ≤ 900 := by
          have z := congrArg List.length b3
          rw [List.length_map, List.length_append, List.length_append, List.length_take] at z
          have y := congrArg List.length e2
          rw [e4, List.length_append, List.length_append, List.length_append, List.length_append] at y
          omega
        refine ⟨rfl, _, rfl, msV bs, b1, by rw [ms_len (H := H'')]; exact small1000 (by omega), bs ++ [b], by rw [upd_same]; unfold msV; rw [List.map_append] <;> rfl, ?_, ?_, same_over g hM _, kk.trans kpPut⟩
        · exact (b2.snoc (hb.mono tkk)).mono (TK.lst b1)
        · have em2 : (memQ q0)[m]? = some b.2 := by rw [← em, List.getElem?_map, eb] <;> rfl
          rw [List.map_append, b3, List.take_succ, em2, List.append_assoc] <;> rfl
      · obtain ⟨bs, b1, b2, b3, g, _⟩ := z
        rw [ms_len (H := H'), mll, List.take_length] at b3
        exact ⟨bs, b1, b2, by rw [b3, e3, List.append_assoc], g⟩
    · obtain ⟨bs, b1, b2, b3, g⟩ := z
      refine ⟨bs, b1, b2, ?_, g⟩
      rw [h4.1, List.take_length] at b3
      rw [b3, e1] <;> rfl
  · obtain ⟨bs, b1, b2, b3, g⟩ := z
    rw [hP8.1, List.take_length] at b3
    refine ⟨M, bs, rfl, SqL.of b1, b2, by rw [← List.length_map (f := (·.2)), b3]; exact hm64, fun tm ns H9 g9 htm hns hasc => ?_⟩
    rw [b3] at hasc
    have g89 := g.trans g9
    have hp9 := g89 _ _ hp8
    have hc9 := g89 _ _ hc8
    have hr9 := g89 _ _ hr8
    refine ⟨_, rfl, p, FA, dx, _, rfl, hp9, T.cl, T.nM, (by show 3 < 1000; decide), ?_⟩
    have k10 : Kp p H9 (upd H9 p (.ins FA dx (putF "members" (.ref tm) [("ranks", .ref r), ("axis_counts", .ref c), ("letters", .ref tl)]))) := kpPut
    refine k d hrk _ ((k8'.trans (Kp.of g89)).trans k10) ⟨dx, r, c, tl, tm, ys, ns, upd_same, k10 _ _ hrp hr9, k10 _ _ hcp hc9, k10.seq hp9 (seqT g89 htl8), hlet2, k10.seq hp9 htm, fun b hb => (hns b hb).mono (kpI k10 hp9), hasc⟩
end
end Lw
namespace L2
open PySem PySem.Spec PyProof.Rows
section
variable {X : Cx}
/-- d in a tuple of data -/
def rInT (K : PySem.W.Frag) : R2 := fun x y H Q => ∃ d ds, Dp K H x d ∧ Dp K H y (.tuple ds) ∧ SeqAt.shaped d = true ∧ SeqAt.shaped (.tuple ds) = true ∧ Q (.bl (ds.any fun z => PyData.eqv z d)) H
theorem op_inT (hu : X.A.units + 65 < cLine) : OpR X (compareOp .In) (rInT X.K) := by
  intro pins s σ H x y v u Q I rx ry h
  obtain ⟨d, ds, hd, he, sd, se, q⟩ := h
  obtain ⟨as, r1⟩ := Dp.reads I d x v hd rx
  obtain ⟨bs, r2⟩ := Dp.reads I (.tuple ds) y u he ry
  exact SeqAt.in_tuple_reads r2 r1 (SeqAt.canLay_of_shaped se) (SeqAt.canLay_of_shaped sd) (room_in_shaped sd hu) ⟨.bl _, H, I, rfl, q⟩
end
end L2
namespace NsX
open PySem PySem.Spec PyProof.Rows L2 PySem.W NdX
mutual
theorem nk_eqv : ∀ k k' : NestedKey, PyData.eqv k.data k'.data = true ↔ k = k'
  | .none, .none => by simp [NestedKey.data, PyData.eqv]
  | .none, .num _ => by simp [NestedKey.data, PyData.eqv]
  | .none, .text _ => by simp [NestedKey.data, PyData.eqv]
  | .none, .tup _ => by simp [NestedKey.data, PyData.eqv]
  | .num _, .none => by simp [NestedKey.data, PyData.eqv]
  | .num i, .num j => by simp [NestedKey.data, PyData.eqv]
  | .num _, .text _ => by simp [NestedKey.data, PyData.eqv]
  | .num _, .tup _ => by simp [NestedKey.data, PyData.eqv]
  | .text _, .none => by simp [NestedKey.data, PyData.eqv]
  | .text _, .num _ => by simp [NestedKey.data, PyData.eqv]
  | .text x, .text y => by simp [NestedKey.data, PyData.eqv]
  | .text _, .tup _ => by simp [NestedKey.data, PyData.eqv]
  | .tup _, .none => by simp [NestedKey.data, PyData.eqv]
  | .tup _, .num _ => by simp [NestedKey.data, PyData.eqv]
  | .tup _, .text _ => by simp [NestedKey.data, PyData.eqv]
  | .tup ks, .tup ks' => by
    have h := nk_eqvs ks ks'
    simp only [NestedKey.data, PyData.eqv, NestedKey.tup.injEq]
    exact h
theorem nk_eqvs : ∀ ks ks' : List NestedKey, PyData.eqvAll (NestedKey.datas ks) (NestedKey.datas ks') = true ↔ ks = ks'
  | [], [] => by simp [NestedKey.datas, PyData.eqvAll]
  | [], _ :: _ => by simp [NestedKey.datas, PyData.eqvAll]
  | _ :: _, [] => by simp [NestedKey.datas, PyData.eqvAll]
  | k :: ks, k' :: ks' => by
    have h1 := nk_eqv k k'
    have h2 := nk_eqvs ks ks'
    simp only [NestedKey.datas, PyData.eqvAll, Bool.and_eq_true, List.cons.injEq, h1, h2]
end
theorem any_nk {α : Type} [DecidableEq α] {f : α → NestedKey} (inj : ∀ a b, f a = f b → a = b) (a : α) : ∀ l : List α, ((NestedKey.datas (l.map f)).any fun z => PyData.eqv z (f a).data) = decide (a ∈ l)
  | [] => by simp [NestedKey.datas]
  | b :: l => by
    have h := any_nk inj a l
    rw [List.map_cons]
    simp only [NestedKey.datas, List.any_cons]
    rw [h]
    by_cases e : a = b
    · subst e
      have z : PyData.eqv (f a).data (f a).data = true := (nk_eqv _ _).mpr rfl
      simp [z]
    · have z : PyData.eqv (f b).data (f a).data = false := by
        cases c : PyData.eqv (f b).data (f a).data with
        | false => rfl
        | true => exact absurd (inj _ _ ((nk_eqv _ _).mp c)).symm e
      simp [z, e]
end NsX
namespace Lw
open PySem L2 TzR NsX NdX
theorem lay_pk {p : Pr} (h : PyData.strOk p.2 = true) : (pk p).data.canLay0 = true := by
  simp [pk, NestedKey.data, NestedKey.datas, PyData.canLay0, PyData.canLayAll0, h]
theorem lay_pks : ∀ {l : List Pr}, (∀ p ∈ l, PyData.strOk p.2 = true) → PyData.canLayAll0 (NestedKey.datas (l.map pk)) = true
  | [], _ => by simp [NestedKey.datas, PyData.canLayAll0]
  | p :: l, h => by
    rw [List.map_cons]
    simp only [NestedKey.datas, PyData.canLayAll0]
    rw [lay_pk (h p (List.mem_cons_self ..)), lay_pks fun q hq => h q (List.mem_cons_of_mem _ hq)] <;> rfl
def OkMb (m : Mb) : Prop := PyData.strOk m.1 = true ∧ ∀ p ∈ m.2, PyData.strOk p.2 = true
theorem lay_mk {m : Mb} (h : OkMb m) : (mk m).data.canLay0 = true := by
  have z := lay_pks h.2
  simp [mk, NestedKey.data, NestedKey.datas, PyData.canLay0, PyData.canLayAll0, h.1, z]
theorem shaped_pk {p : Pr} (h : PyData.strOk p.2 = true) : SeqAt.shaped (pk p).data = true := by
  unfold SeqAt.shaped
  rw [lay_pk h, decide_eq_true (Nat.le_trans (pk_ddepth p) (by decide))] <;> rfl
theorem shaped_pks {l : List Pr} (h : ∀ p ∈ l, PyData.strOk p.2 = true) : SeqAt.shaped (.tuple (NestedKey.datas (l.map pk))) = true := by
  unfold SeqAt.shaped
  have z : (PyData.tuple (NestedKey.datas (l.map pk))).depth ≤ 64 := by
    have := pks_ddepth l
    simp only [PyData.depth]
    omega
  have y : (PyData.tuple (NestedKey.datas (l.map pk))).canLay0 = true := by simp only [PyData.canLay0]; exact lay_pks h
  rw [y, decide_eq_true z] <;> rfl
theorem shaped_mk {m : Mb} (h : OkMb m) : SeqAt.shaped (mk m).data = true := by
  unfold SeqAt.shaped
  rw [lay_mk h, decide_eq_true (Nat.le_trans (mk_ddepth m) (by decide))] <;> rfl
/-- whether a member exists wherever another one does -/
def isPart (m n : Mb) : Bool := decide (m.1 = n.1) && m.2.all fun p => decide (p ∈ n.2)

end Lw
namespace Lw
open PySem L2 TzR NsX NdX TL
abbrev s_l_pairs : Stmt := topS 52
abbrev n_l_pairs : List Str := ["_law_use", "_law_count", "_law_letters_here", "_law_level"]
theorem sc_l_pairs : FnScope n_l_pairs ["_law_use", "_law_count"] (defScope s_l_pairs) := ⟨rfl, rfl, rfl, by decide +kernel, rfl, by decide +kernel, by decide +kernel⟩
def spLPr (K : PySem.W.Frag) : Sp := fun vs H Q _ => ∃ (u : Addr) (nm : Str) (ls : List Str) (l : List (Str × Int)) (d : Nat), vs = [.ref u, .int (d : Int)] ∧ LuAt K H u nm ls l ∧ l.length ≤ 3 ∧ (∀ p ∈ l, 0 ≤ p.2 ∧ p.2 < (ls.length : Int)) ∧ d ≤ l.length ∧
  ∀ (t : Addr) (ws : List V) (H' : Hp), Same H H' → SqT K H' t ws → NkAll K H' ((prsOf ls (l.map (·.2)) d).map pk) ws → Q (.ref t) H'
section
variable {P : Program} {w : World} {K : PySem.W.Frag} {mg : Str → Option Value} {base : Heap} {f : Addr} {fd : FuncData}
theorem ok_l_pairs (F : Fun K "_law_pairs" "_law_pairs" s_l_pairs f fd) (B : Bt mg) (B2 : Bx mg) (cL : Ca P w K mg base 1 "_law_level_letters" ["_law_use"] (spLvl K)) : FnOk P w K mg base CX0 2 f fd ["_law_use", "_law_count"] (spLPr K) := by
  refine F.ok sc_l_pairs (fun vs H Q E h => ?_) (fun cdv A outer s H vs Q E hr h => ?_)
  · obtain ⟨u, nm, ls, l, d, rfl, _⟩ := h
    rfl
  obtain ⟨u, nm, ls, l, d, rfl, hU, hl3, hir, hd, k⟩ := h
  have hu12 : (cxOf CX0 P w K mg base n_l_pairs "_law_pairs" (defScope s_l_pairs) f cdv A outer s H E).nox.A.units + 12 < cLine := by
    have := hr.un
    show (A.deeper _).units + 12 < cLine
    omega
  refine ⟨_, (pss_cons (ps_set (i := 2) sc_l_pairs.nd rfl (Or.inr rfl) (pca cL hr (by decide) rfl (pa_cons (pv 0) pa_nil)))
(pss_one (ps_ret (pe_callTy call_tuple_of (by rfl) B.tup (by decide +kernel) (pa_cons (pe_callB (cr_sortedDt hu12) (by rfl) B2.sorted (by decide +kernel) (pa_cons (pe_lc (own := [("_law_level", 3)]) (g := (gName 3)) (tt := tYes) (te := tTup (tCons (tOp (rIxT K) (tOp (rIxT K) (tOp (rIxT K) (tVar 0) (tC (.int 2))) (tVar 3)) (tC (.int 1))) (tCons (tOp (rIxL K) (tVar 2) (tVar 3)) tNil))) rfl sc_l_pairs.nd (pi_range1 (by rfl) B.range (pa_cons (pv 1) pa_nil)) (blkOk_by (N := n_l_pairs) (sc := defScope s_l_pairs) (by decide +kernel)) (fun _ _ _ _ _ => (pg_name (i := 3) sc_l_pairs.nd rfl (Or.inl rfl))) (fun _ _ _ _ _ => pts_nil) (fun _ _ _ _ _ => (pe_tup (pa_cons (pe_ix ix_tup (pe_ix ix_tup (pe_ix ix_tup (pv 0) pe_int (fun _ _ => rfl)) (pv 3) (fun _ _ => rfl)) pe_int (fun _ _ => rfl)) (pa_cons (pe_ix ix_list (pv 2) (pv 3) (fun _ _ => rfl)) pa_nil))))) pa_nil)) pa_nil))))), ?_⟩
  refine ⟨_, rfl, u, nm, ls, l, rfl, hU, hl3, hir, fun D1 H1 g1 hD1n hD1 => ?_⟩
  obtain ⟨tl, tf, us, h1, h2, h3, h4⟩ := hU
  have ul : us.length = l.length := h4.1
  refine ⟨_, rfl, _, rfl, by omega, by omega, fun D hD => ?_⟩
  have ej : ((d : Nat) : Int).toNat = d := by omega
  rw [ej]
  have hD0 : H D = none := g1.free hD
  refine lc_it (walk_range (lo := 0) (n := d)) (fun i H' => ∃ ws : List V, H' D = some (.lst ws) ∧ NkAll K H' (((l.take i).map fun p => prOf ls p.2).map pk) ws ∧ Same H1 H') ⟨[], upd_same, by simp [NkAll], same_new hD _⟩ (fun _ _ _ _ => trivial) (fun i x H2 H3 hi hv hy => ?_) ?_
  · obtain ⟨rfl, hy⟩ := hy
    have hy : x = .int (0 + (i : Int)) := hy
    rw [Int.zero_add] at hy
    subst hy
    obtain ⟨ws, w1, w2, w3⟩ := hv
    have hil : i < l.length := by omega
    have ep := List.getElem?_eq_getElem hil
    generalize l[i] = p at ep
    have hiu : i < us.length := by omega
    obtain ⟨y, ey, zy⟩ := h4.2 i us[i] p (List.getElem?_eq_getElem hiu) ep
    have eu : us[i]? = some (.ref y) := by rw [List.getElem?_eq_getElem hiu, ey]
    have g03 := g1.trans w3
    refine ⟨rfl, kept ?_⟩
    refine ⟨_, rfl, u, _, (2 : Int), .ref tf, rfl, rfl, seqT g03 h1, atI_nat (j := 2) rfl, _, rfl, tf, _, (i : Int), .ref y, rfl, rfl, seqT g03 h3, atI_nat eu, y, _, (1 : Int), .int p.2, rfl, rfl, seqT g03 zy, atI_nat (j := 1) rfl, ?_⟩
    refine ⟨_, rfl, _, rfl, D1, _, (i : Int), .str (prOf ls p.2).2, rfl, rfl, SqL.of (w3 _ _ hD1), atI_nat (by rw [List.getElem?_map, List.getElem?_map, ep] <;> rfl), (by show 2 ≤ sizeLine; decide), fun t ht => ?_⟩
    have gt := same_new ht (.tup [.int p.2, .str (prOf ls p.2).2])
    have w1t := gt _ _ w1
    have wl := nkAll_len w2
    rw [List.length_map, List.length_map, List.length_take] at wl
    refine ⟨ws, w1t, small1000 (by omega), ws ++ [.ref t], upd_same, ?_, same_over (w3.trans gt) hD _⟩
    rw [List.take_succ, ep, List.map_append, List.map_append]
    refine nkAll_app ?_ (nkAll_cons ?_ (by simp [NkAll]))
    · exact (w2.mono (TK.of gt)).mono (TK.lst w1t)
    · exact (pr_at (p := prOf ls p.2) (SqT.of upd_same)).mono (TK.lst w1t)
  rintro H' ⟨ws, w1, w2, w3⟩
  obtain ⟨bs, rfl, eb, hb⟩ := refs_k pk_tup w2
  refine ⟨D, _, bs, fun b => .ref b.1, fun b => (pk b.2).data, rfl, SqL.of w1, fun b hb' => nk_dp (hb b hb'), ?_, ?_, fun b _ => Nat.le_trans (pk_ddepth _) (by decide), fun cs p hp hc hpn => ?_⟩
  · intro x hx y hy
    obtain ⟨b, _, rfl⟩ := List.mem_map.mp hx
    obtain ⟨c, _, rfl⟩ := List.mem_map.mp hy
    exact pk_alike _ _
  · refine .inl fun x hx => ?_
    obtain ⟨b, _, rfl⟩ := List.mem_map.mp hx
    exact ⟨.int b.2.1, [.str b.2.2], by simp only [pk, NestedKey.data, NestedKey.datas]⟩
  have gp := same_new hpn (.lst (msV cs))
  have hcs := ((hb.sub fun c hc' => hp.subset hc').same gp)
  have es := ms_srt pk_inj pk_alike hp hc
  have e0 : prsOf ls (l.map (·.2)) d = srtF pk ((l.take d).map fun p => prOf ls p.2) := by
    unfold prsOf
    rw [← List.map_take, List.map_map] <;> rfl
  rw [eb, ← e0] at es
  refine ⟨p, _, rfl, .inl ⟨SqL.of upd_same, fun q hl => ?_⟩⟩
  have gl := same_new hl (.tup (msV cs))
  refine k q (msV cs) _ (((g1.trans w3).trans gp).trans gl) (SqT.of upd_same) ?_
  rw [← es]
  exact ms_all (hcs.same gl)
end
end Lw
namespace Lw
open PySem L2 TzR NsX NdX TL
/-- the law's own uses, programs -/
def LusAt (K : PySem.W.Frag) (H : Hp) (vs : List V) (qs : List UQ) : Prop := vs.length = qs.length ∧ ∀ (i : Nat) (v : V) (q : UQ), vs[i]? = some v → qs[i]? = some q → ∃ u, v = .ref u ∧ LuAt K H u q.nm q.ls q.l
def LpAt (K : PySem.W.Frag) (H : Hp) (v : V) (qs : List UQ) : Prop := ∃ (d U : Addr) (kvs : DK) (vs : List V), v = .ref d ∧ H d = some (.dK kvs) ∧ valV kvs (Sum.inr "uses" : Key) = some (.ref U) ∧ SqL K H U vs ∧ LusAt K H vs qs
def LpsAt (K : PySem.W.Frag) (H : Hp) (vs : List V) (qss : List (List UQ)) : Prop := vs.length = qss.length ∧ ∀ (i : Nat) (v : V) (qs : List UQ), vs[i]? = some v → qss[i]? = some qs → LpAt K H v qs
theorem LusAt.mono {K : PySem.W.Frag} {H H' : Hp} {vs : List V} {qs : List UQ} (g : TK K H H') (h : LusAt K H vs qs) : LusAt K H' vs qs := ⟨h.1, fun i v q e1 e2 => (h.2 i v q e1 e2).imp fun u z => ⟨z.1, z.2.mono g⟩⟩
theorem LpAt.same {K : PySem.W.Frag} {H H' : Hp} {v : V} {qs : List UQ} (g : Same H H') : LpAt K H v qs → LpAt K H' v qs
  | ⟨d, U, kvs, vs, h1, h2, h3, h4, h5⟩ => ⟨d, U, kvs, vs, h1, g _ _ h2, h3, g.seq h4, h5.mono (TK.of g)⟩
theorem LpsAt.same {K : PySem.W.Frag} {H H' : Hp} {vs : List V} {qss : List (List UQ)} (g : Same H H') (h : LpsAt K H vs qss) : LpsAt K H' vs qss := ⟨h.1, fun i v qs e1 e2 => (h.2 i v qs e1 e2).same g⟩
def memL (qs : List UQ) : List Mb := qs.flatMap memQ
def memsL (qss : List (List UQ)) : List Mb := qss.flatMap memL
abbrev s_l_members : Stmt := topS 53
abbrev n_l_members : List Str := ["_law_programs", "_law_found", "_law_p", "_law_use", "_law_counts", "_law_level", "_law_kind", "_law_axis", "_law_count", "_law_k", "_law_one"]
theorem sc_l_members : FnScope n_l_members ["_law_programs"] (defScope s_l_members) := ⟨rfl, rfl, rfl, by decide +kernel, rfl, by decide +kernel, by decide +kernel⟩
def spLMs (K : PySem.W.Frag) : Sp := fun vs H Q _ => ∃ (a : Addr) (ps : List V) (qss : List (List UQ)), vs = [.ref a] ∧ SqL K H a ps ∧ LpsAt K H ps qss ∧ (memsL qss).length < 64 ∧ (∀ qs ∈ qss, ∀ q ∈ qs, UqF q) ∧ (∀ m ∈ memsL qss, OkMb m) ∧
  ∀ (D : Addr) (ns : List (Addr × Mb)) (H' : Hp), Same H H' → H D = none → H' D = some (.lst (msV ns)) → MsAt K H' mk ns → AscOk (memsL qss) (ns.map (·.2)) → Q (.ref D) H'
theorem lay_mks : ∀ {l : List Mb}, (∀ m ∈ l, OkMb m) → PyData.canLayAll0 (NestedKey.datas (l.map mk)) = true ∧ PyData.depthAll (NestedKey.datas (l.map mk)) ≤ 4
  | [], _ => ⟨by simp [NestedKey.datas, PyData.canLayAll0], by simp [NestedKey.datas, PyData.depthAll]⟩
  | m :: l, h => by
    obtain ⟨a, b⟩ := lay_mks fun q hq => h q (List.mem_cons_of_mem _ hq)
    have c := mk_ddepth m
    rw [List.map_cons]
    simp only [NestedKey.datas, PyData.canLayAll0, PyData.depthAll]
    rw [lay_mk (h m (List.mem_cons_self ..)), a]
    exact ⟨rfl, by omega⟩
theorem shaped_mks {l : List Mb} (h : ∀ m ∈ l, OkMb m) : SeqAt.shaped (.list (NestedKey.datas (l.map mk))) = true := by
  obtain ⟨a, b⟩ := lay_mks h
  unfold SeqAt.shaped
  have y : (PyData.list (NestedKey.datas (l.map mk))).canLay0 = true := by simp only [PyData.canLay0]; exact a
  have z : (PyData.list (NestedKey.datas (l.map mk))).depth ≤ 64 := by simp only [PyData.depth]; omega
  rw [y, decide_eq_true z] <;> rfl
section
variable {P : Program} {w : World} {K : PySem.W.Frag} {mg : Str → Option Value} {base : Heap} {f : Addr} {fd : FuncData}
theorem ok_l_members (F : Fun K "_law_members" "_law_members" s_l_members f fd) (B : Bt mg) (B2 : Bx mg) (cP : Ca P w K mg base 2 "_law_pairs" ["_law_use", "_law_count"] (spLPr K)) : FnOk P w K mg base CX0 3 f fd ["_law_programs"] (spLMs K) := by
  refine F.ok sc_l_members (fun vs H Q E h => ?_) (fun cdv A outer s H vs Q E hr h => ?_)
  · obtain ⟨a, ps, qss, rfl, _⟩ := h
    rfl
  obtain ⟨a, ps, qss, rfl, ha, hP, h64, hq, hok, k⟩ := h
  have hu12 : (cxOf CX0 P w K mg base n_l_members "_law_members" (defScope s_l_members) f cdv A outer s H E).nox.A.units + 12 < cLine := by
    have := hr.un
    show (A.deeper _).units + 12 < cLine
    omega
  have hu1 : (cxOf CX0 P w K mg base n_l_members "_law_members" (defScope s_l_members) f cdv A outer s H E).nox.A.units + 1 < cLine := by omega
  have hu65 : (cxOf CX0 P w K mg base n_l_members "_law_members" (defScope s_l_members) f cdv A outer s H E).nox.A.units + 65 < cLine := by
    have := hr.un
    show (A.deeper _).units + 65 < cLine
    omega
  refine ⟨_, (pss_cons (ps_set (i := 1) sc_l_members.nd rfl (Or.inr rfl) (pe_lst pa_nil))
(pss_cons (ps_for PassesOwn.never rfl (pi_list (pv 0)) (pg_name (i := 2) sc_l_members.nd rfl (Or.inl rfl))
(pss_one (ps_for PassesOwn.never rfl (pi_list (pe_dget hu1 (pv 2) pe_str (fun _ _ => rfl))) (pg_name (i := 3) sc_l_members.nd rfl (Or.inr rfl))
(pss_cons (ps_setLc (i := 4) (own := [("_law_level", 5), ("_law_kind", 6), ("_law_axis", 7)]) (g := (gTup K 2 (gCons (gName 5) (gCons (gTup K 2 (gCons (gName 6) (gCons (gName 7) gNil))) gNil)))) (tt := tTest (tOp rNe (tVar 6) (tC (.str "dense")))) (te := tOp (rI0 fun i j => .int (i + j)) (tVar 5) (tC (.int 1))) rfl sc_l_members.nd rfl rfl (sw_true rfl rfl rfl (by decide +kernel)) (EnT.pi_enumT (by rfl) B2.enum (pa_cons (pe_ix ix_tup (pv 3) pe_int (fun _ _ => rfl)) pa_nil)) (blkOk_by (N := n_l_members) (sc := defScope s_l_members) (by decide +kernel)) (fun _ _ _ _ _ => (pg_tup rfl (pgs_cons (pg_name (i := 5) sc_l_members.nd rfl (Or.inl rfl)) (pgs_cons (pg_tup rfl (pgs_cons (pg_name (i := 6) sc_l_members.nd rfl (Or.inl rfl)) (pgs_cons (pg_name (i := 7) sc_l_members.nd rfl (Or.inl rfl)) pgs_nil))) pgs_nil)))) (fun _ _ _ _ _ => (pts_one (pt_cmpR op_ne (pv 6) pe_str (nomark _)))) (fun _ _ _ _ _ => (pe_op op_add (pv 5) pe_int)))
(pss_one (ps_expr (pe_bm PySem.F.plainAttrs_list PySem.F.slot_list_extend PySem.F.type_list_extend mt_extend (pv 1) (pa_cons (pe_lc (own := [("_law_count", 8)]) (g := (gName 8)) (tt := tYes) (te := tTup (tCons (tOp (rIxT K) (tVar 3) (tC (.int 0))) (tCons (tCall (spLPr K) [] E0 (tCons (tVar 3) (tCons (tVar 8) tNil))) tNil))) rfl sc_l_members.nd (pi_list (pe_op op_cat (pv 4) (pe_lst (pa_cons (pe_callB call_len_seq (by rfl) B.len PySem.boot_len (pa_cons (pe_ix ix_tup (pv 3) pe_int (fun _ _ => rfl)) pa_nil)) pa_nil)))) (blkOk_by (N := n_l_members) (sc := defScope s_l_members) (by decide +kernel)) (fun _ _ _ _ _ => (pg_name (i := 8) sc_l_members.nd rfl (Or.inl rfl))) (fun _ _ _ _ _ => pts_nil) (fun _ _ _ _ _ => (pe_tup (pa_cons (pe_ix ix_tup (pv 3) pe_int (fun _ _ => rfl)) (pa_cons (pca cP hr (by decide) rfl (pa_cons (pv 3) (pa_cons (pv 8) pa_nil))) pa_nil))))) pa_nil))))))))
(pss_one (ps_ret (pe_callB (cr_sortedDt hu12) (by rfl) B2.sorted (by decide +kernel) (pa_cons (pe_lc (own := [("_law_k", 9), ("_law_one", 10)]) (g := (gTup K 2 (gCons (gName 9) (gCons (gName 10) gNil)))) (tt := tTest (tOp (rNotInD K) (tVar 10) (tSl (rSlL K) (tVar 1) tNoPart (tPart (tVar 9))))) (te := tVar 10) rfl sc_l_members.nd (pi_enum (by rfl) B2.enum (pa_cons (pv 1) pa_nil)) (blkOk_by (N := n_l_members) (sc := defScope s_l_members) (by decide +kernel)) (fun _ _ _ _ _ => (pg_tup rfl (pgs_cons (pg_name (i := 9) sc_l_members.nd rfl (Or.inl rfl)) (pgs_cons (pg_name (i := 10) sc_l_members.nd rfl (Or.inl rfl)) pgs_nil)))) (fun _ _ _ _ _ => (pts_one (pt_cmpR (op_notInD hu65) (pv 10) (pe_slice sl_list (pv 1) po_none (po_some (pv 9))) (by rfl)))) (fun _ _ _ _ _ => (pv 10))) pa_nil)))))), ?_⟩
  refine ⟨(by show 0 ≤ sizeLine; decide), fun F0 hF0 => ?_⟩
  have gF := same_new hF0 (.lst [])
  refine ⟨_, rfl, a, rfl, ⟨_, gF.seq ha⟩, for_it (walk_list (K := K) (a := a) (xs := ps)) (fun i σ' H' => (∃ x2 x3 x4 x5 x6 x7 x8 x9 x10 : Option V, σ' = [some (.ref a), some (.ref F0), x2, x3, x4, x5, x6, x7, x8, x9, x10]) ∧ Same H H' ∧ ∃ bs : List (Addr × Mb), H' F0 = some (.lst (msV bs)) ∧ MsAt K H' mk bs ∧ bs.map (·.2) = memsL (qss.take i)) ⟨⟨_, _, _, _, _, _, _, _, _, rfl⟩, gF, [], upd_same, (fun _ h => by cases h), rfl⟩ (fun i σ' H' _ z => z.2.1.seq ha) (fun i x σ' H1 H1' hi z y => ?_) (fun σ' H' z => ?_)⟩
  · obtain ⟨rfl, hx⟩ := y
    obtain ⟨⟨x2, x3, x4, x5, x6, x7, x8, x9, x10, rfl⟩, g, bs, b1, b2, b3⟩ := z
    have hi2 : i < qss.length := by rw [← hP.1]; exact hi
    have eg := List.getElem?_eq_getElem hi2
    have hqi := hq qss[i] (List.getElem_mem hi2)
    generalize qss[i] = qs at eg hqi
    obtain ⟨d, U, kvs, us, rfl, c1, c2, c3, c4⟩ := hP.2 i x qs hx eg
    have e1 : memsL (qss.take (i + 1)) = memsL (qss.take i) ++ memL qs := by
      unfold memsL
      rw [List.take_succ, eg, List.flatMap_append] <;> simp
    have e2 : memsL qss = memsL (qss.take i) ++ (memL qs ++ memsL (qss.drop (i + 1))) := by
      rw [← List.append_assoc, ← e1]
      unfold memsL
      rw [← List.flatMap_append, List.take_append_drop]
    have hdg : DGet H1' d (.str "uses") (some (.ref U)) := by
      have z := DGet.k (k := (Sum.inr "uses" : Key)) (g _ _ c1)
      rw [c2] at z
      exact z
    refine ⟨_, rfl, d, .ref U, rfl, hdg, U, rfl, ⟨_, g.seq c3⟩, ?_⟩
    refine for_it (walk_list (K := K) (a := U) (xs := us)) (fun j σ' H' => (∃ x3 x4 x5 x6 x7 x8 x9 x10 : Option V, σ' = [some (.ref a), some (.ref F0), some (.ref d), x3, x4, x5, x6, x7, x8, x9, x10]) ∧ Same H H' ∧ ∃ bs : List (Addr × Mb), H' F0 = some (.lst (msV bs)) ∧ MsAt K H' mk bs ∧ bs.map (·.2) = memsL (qss.take i) ++ (qs.take j).flatMap memQ) ⟨⟨_, _, _, _, _, _, _, _, rfl⟩, g, bs, b1, b2, by rw [b3, List.take_zero, List.flatMap_nil, List.append_nil]⟩ (fun i σ' H' _ z => z.2.1.seq c3) (fun j x σ' H2 H2' hj z y => ?_) (fun σ' H' z => ?_)
    · obtain ⟨rfl, hx2⟩ := y
      obtain ⟨⟨x3, x4, x5, x6, x7, x8, x9, x10, rfl⟩, g, bs, b1, b2, b3⟩ := z
      have hj2 : j < qs.length := by rw [← c4.1]; exact hj
      have eq := List.getElem?_eq_getElem hj2
      have hqj := hqi qs[j] (List.getElem_mem hj2)
      generalize qs[j] = q at eq hqj
      obtain ⟨u, rfl, tl, tf, uv, h1, h2, h3, h4⟩ := c4.2 j x q hx2 eq
      obtain ⟨f1, f2, f3, f4⟩ := hqj
      have hLu : LuAt K H u q.nm q.ls q.l := ⟨tl, tf, uv, h1, h2, h3, h4⟩
      have ql3 : q.l.length ≤ 3 := by rw [List.length_map] at f2; exact f2
      have uvl : uv.length = q.l.length := h4.1
      have e3 : (qs.take (j + 1)).flatMap memQ = (qs.take j).flatMap memQ ++ memQ q := by
        rw [List.take_succ, eq, List.flatMap_append] <;> simp
      have e4 : memL qs = (qs.take j).flatMap memQ ++ (memQ q ++ (qs.drop (j + 1)).flatMap memQ) := by
        rw [← List.append_assoc, ← e3]
        unfold memL
        rw [← List.flatMap_append, List.take_append_drop]
      have bl : bs.length + (memQ q).length < 64 := by
        have z := congrArg List.length b3
        rw [List.length_map, List.length_append] at z
        have y := congrArg List.length e2
        rw [e4, List.length_append, List.length_append, List.length_append, List.length_append] at y
        omega
      have hkl : (q.l.map (·.1)).length = q.l.length := List.length_map ..
      refine ⟨_, rfl, u, _, (2 : Int), .ref tf, rfl, rfl, seqT g h1, atI_nat (j := 2) rfl, tf, _, rfl, seqT g h3, fun Dc hDc => ?_⟩
      have gc := same_new hDc (.lst [])
      refine lc_it (walk_enT (K := K) (a := tf) (xs := uv)) (fun i H' => H' Dc = some (.lst ((dsF (q.l.map (·.1)) i).map natV)) ∧ Same H2' H') ⟨upd_same, gc⟩ (fun i H' _ ⟨_, g'⟩ => seqT (g.trans g') h3) (fun i x H3 H4 hi ⟨v1, v2⟩ hy => ?_) ?_
      · obtain ⟨t, x', rfl, ht, rfl, hx⟩ := hy
        have hil : i < q.l.length := by omega
        have ep := List.getElem?_eq_getElem hil
        generalize q.l[i] = p at ep
        obtain ⟨y, rfl, zy⟩ := h4.2 i x' p hx ep
        have ek : (q.l.map (·.1))[i]? = some p.1 := by rw [List.getElem?_map, ep] <;> rfl
        have gt := same_new ht (.tup [.int (i : Nat), .ref y])
        refine ⟨t, _, rfl, SqT.of upd_same, rfl, _, _, rfl, _, _, rfl, ⟨y, _, rfl, seqT ((g.trans v2).trans gt) zy, rfl, _, _, rfl, _, _, rfl, rfl, rfl, rfl, ?_⟩⟩
        refine ⟨_, rfl, rfl, _, rfl, ?_⟩
        have e1 := dsF_succ ek
        cases c : isDense p.1 with
        | true =>
          refine iteNo (by show (!decide (V.str p.1 = V.str "dense")) = false; rw [show decide (V.str p.1 = V.str "dense") = true from c] <;> rfl) ⟨?_, v2.trans gt⟩
          rw [e1, c, if_pos rfl, List.append_nil]
          exact gt _ _ v1
        | false =>
          refine iteY (by show (!decide (V.str p.1 = V.str "dense")) = true; rw [show decide (V.str p.1 = V.str "dense") = false from c] <;> rfl) ?_
          refine ⟨_, rfl, _, _, rfl, rfl, _, gt _ _ v1, ?_, ?_, same_over (v2.trans gt) hDc _⟩
          · rw [List.length_map]
            have := dsF_len (ks := q.l.map (·.1)) (i := i)
            exact small1000 (by omega)
          · rw [upd_same, e1, c, if_neg (by decide), List.map_append] <;> rfl
      rintro H3 ⟨v1, v2⟩
      rw [uvl, ← hkl] at v1
      have g3 := g.trans v2
      have hF3 := v2 _ _ b1
      have hDcF : Dc ≠ F0 := fun e => by rw [e, b1] at hDc; cases hDc
      refine ⟨_, rfl, .inl ⟨rfl, _, SqL.of hF3⟩, ?_⟩
      refine ⟨_, rfl, _, rfl, u, _, (2 : Int), .ref tf, rfl, rfl, seqT g3 h1, atI_nat (j := 2) rfl, tf, _, rfl, .inr (seqT g3 h3), (by show 1 ≤ sizeLine; decide), fun M hM => ?_⟩
      have gM := same_new hM (.lst [.int (uv.length : Int)])
      have eds : (dsF (q.l.map (·.1)) (q.l.map (·.1)).length).map natV ++ [V.int (uv.length : Int)] = (dsOf (q.l.map (·.1))).map natV := by
        unfold dsOf
        rw [List.map_append, uvl, ← hkl] <;> rfl
      have dsl := ds_len (ks := q.l.map (·.1))
      refine ⟨Dc, M, _, _, rfl, rfl, gM _ _ v1, upd_same, ?_, fun N hN => ?_⟩
      · rw [← List.length_append, eds, List.length_map]
        exact Nat.le_trans (Nat.le_trans dsl (by omega : (q.l.map (·.1)).length + 1 ≤ 4)) (by decide)
      rw [eds]
      have gN := gM.trans (same_new hN (.lst ((dsOf (q.l.map (·.1))).map natV)))
      have hNl : upd (upd H3 M (.lst [.int (uv.length : Int)])) N (.lst ((dsOf (q.l.map (·.1))).map natV)) N = some (.lst ((dsOf (q.l.map (·.1))).map natV)) := upd_same
      generalize upd (upd H3 M (.lst [.int (uv.length : Int)])) N (.lst ((dsOf (q.l.map (·.1))).map natV)) = H5 at gN hNl ⊢
      refine ⟨N, rfl, ⟨_, SqL.of hNl⟩, fun R hR => ?_⟩
      have g5 := g3.trans gN
      refine lc_list (K := K) (a := N) (xs := (dsOf (q.l.map (·.1))).map natV) (fun i H' => ∃ ws : List V, H' R = some (.lst ws) ∧ NkAll K H' ((((dsOf (q.l.map (·.1))).take i).map fun d => (q.nm, prsOf q.ls (q.l.map (·.2)) d)).map mk) ws ∧ Same H5 H') ⟨[], upd_same, by simp [NkAll], same_new hR _⟩ (fun i H' _ ⟨_, _, _, g⟩ => g.seq (SqL.of hNl)) (fun i x H' hx ⟨ws, w1, w2, w3⟩ => ⟨rfl, kept ?_⟩) ?_
      · obtain ⟨d', ed, rfl⟩ := at_map hx
        have hi := (List.getElem?_eq_some_iff.mp ed).1
        have hd := ds_le (List.mem_of_getElem? ed)
        have g03 := g5.trans w3
        refine ⟨_, rfl, u, _, (0 : Int), .str q.nm, rfl, rfl, seqT g03 h1, atI_nat (j := 0) rfl, ?_⟩
        refine ⟨_, rfl, _, rfl, u, q.nm, q.ls, q.l, d', rfl, hLu.mono (TK.of g03), ql3, fun p hp => f3 _ (List.mem_map.mpr ⟨p, hp, rfl⟩), by omega, fun t vs H4 g4 ht hv => ?_⟩
        refine ⟨(by show 2 ≤ sizeLine; decide), fun b hb => ?_⟩
        have gb := same_new hb (.tup [.str q.nm, .ref t])
        have w1t := gb _ _ (g4 _ _ w1)
        have wl := nkAll_len w2
        rw [List.length_map, List.length_map, List.length_take] at wl
        refine ⟨ws, w1t, small1000 (by omega), ws ++ [.ref b], upd_same, ?_, same_over ((w3.trans g4).trans gb) hR _⟩
        rw [List.take_succ, ed, List.map_append, List.map_append]
        refine nkAll_app ?_ (nkAll_cons ?_ (by simp [NkAll]))
        · exact (w2.mono (TK.of (g4.trans gb))).mono (TK.lst w1t)
        · exact (mb_at (m := (q.nm, prsOf q.ls (q.l.map (·.2)) d')) (SqT.of upd_same) (seqT gb ht) (hv.mono (TK.of gb))).mono (TK.lst w1t)
      rintro H6 ⟨ws, w1, w2, w3⟩
      rw [List.length_map, List.take_length] at w2
      obtain ⟨ms, rfl, em, hms⟩ := refs_k mk_tup w2
      have em : ms.map (·.2) = memQ q := em
      have hF6 := w3 _ _ (gN _ _ hF3)
      have mll : ms.length = (memQ q).length := by rw [← em, List.length_map]
      refine ⟨F0, R, _, _, rfl, rfl, hF6, w1, ?_, ?_⟩
      · rw [ms_len (H := H), ms_len (H := H)]
        exact Nat.le_of_lt (small1000 (by omega))
      have tkF : TK K H6 (upd H6 F0 (.lst (msV bs ++ msV ms))) := TK.lst hF6
      refine ⟨⟨_, _, _, _, _, _, _, _, rfl⟩, same_over (g5.trans w3) hF0 _, bs ++ ms, by rw [upd_same]; unfold msV; rw [List.map_append], ?_, ?_⟩
      · intro b hb
        rcases List.mem_append.mp hb with hb | hb
        · exact (b2 b hb).mono ((TK.of ((v2.trans gN).trans w3)).trans tkF)
        · exact (hms b hb).mono tkF
      · rw [List.map_append, b3, em, e3, List.append_assoc]
    · obtain ⟨⟨x3, x4, x5, x6, x7, x8, x9, x10, rfl⟩, g, bs, b1, b2, b3⟩ := z
      refine ⟨⟨_, _, _, _, _, _, _, _, _, rfl⟩, g, bs, b1, b2, ?_⟩
      rw [c4.1, List.take_length] at b3
      rw [b3, e1] <;> rfl
  · obtain ⟨⟨x2, x3, x4, x5, x6, x7, x8, x9, x10, rfl⟩, g, bs, b1, b2, b3⟩ := z
    rw [hP.1, List.take_length] at b3
    have bl : bs.length < 64 := by rw [← List.length_map (f := (·.2)), b3]; exact h64
    have hbok : ∀ b ∈ bs, OkMb b.2 := fun b hb => hok b.2 (by rw [← b3]; exact List.mem_map.mpr ⟨b, hb, rfl⟩)
    refine ⟨_, rfl, F0, _, rfl, SqL.of b1, fun D hD => ?_⟩
    have gD := same_new hD (.lst [])
    have hD0 : H D = none := g.free hD
    refine lc_it (walk_enL (K := K) (a := F0) (xs := msV bs)) (fun i H1 => ∃ cs : List (Addr × Mb), H1 D = some (.lst (msV cs)) ∧ (∀ c ∈ cs, c ∈ bs) ∧ (cs.map (·.2)).Nodup ∧ (∀ m, m ∈ cs.map (·.2) ↔ m ∈ (bs.take i).map (·.2)) ∧ Same H' H1) ⟨[], upd_same, (fun _ h => by cases h), List.Pairwise.nil, (fun m => Iff.rfl), gD⟩ (fun i H1 _ ⟨_, _, _, _, _, g1⟩ => g1.seq (SqL.of b1)) (fun i x H1 H2 hi hv hy => ?_) ?_
    · obtain ⟨T, x', rfl, hT, rfl, hx⟩ := hy
      obtain ⟨b, eb, rfl⟩ := at_map hx
      obtain ⟨cs, u1, u2, u3, u4, u5⟩ := hv
      have gT := same_new hT (.tup [.int (i : Nat), .ref b.1])
      have g5 := u5.trans gT
      have hbm := List.mem_of_getElem? eb
      have hil : i ≤ (msV bs).length := Nat.le_of_lt hi
      have csl : cs.length ≤ 64 := by
        have z := nd_len _ (bs.map (·.2)) u3 fun m hm => (List.mem_map.mp hm).elim fun c hc => List.mem_map.mpr ⟨c, u2 c hc.1, hc.2⟩
        rw [List.length_map, List.length_map] at z
        omega
      refine ⟨T, _, rfl, SqT.of upd_same, rfl, _, _, rfl, _, _, rfl, rfl, rfl, ?_⟩
      refine ⟨_, rfl, _, rfl, _, rfl, _, rfl, F0, _, rfl, SqL.of (g5 _ _ b1), fun p hp => ?_⟩
      have ecut : cutV (msV bs) none (some (i : Int)) = msV (bs.take i) := by
        rw [cut_take _ _ hil]
        unfold msV
        rw [List.map_take]
      rw [ecut]
      have gp := same_new hp (.lst (msV (bs.take i)))
      have g6 := g5.trans gp
      have htk : MsAt K (upd (upd H1 T (.tup [.int (i : Nat), .ref b.1])) p (.lst (msV (bs.take i)))) mk (bs.take i) := (b2.sub fun c hc => List.mem_of_mem_take hc).same g6
      refine ⟨(mk b.2).data, NestedKey.datas (((bs.take i).map (·.2)).map mk), nk_dp ((b2.same g6) b hbm), .lst (SqL.of upd_same) (nk_dps (ms_all htk)), shaped_mk (hbok b hbm), shaped_mks (fun m hm => (List.mem_map.mp hm).elim fun c hc => by rw [← hc.2]; exact hbok c (List.mem_of_mem_take hc.1)), _, rfl, ?_⟩
      have ean : ((NestedKey.datas (((bs.take i).map (·.2)).map mk)).any fun z => PyData.eqv z (mk b.2).data) = decide (b.2 ∈ (bs.take i).map (·.2)) := (any_nk mk_inj b.2 _).trans (decide_eq_decide.mpr Iff.rfl)
      rw [ean]
      have et : (bs.take (i + 1)).map (·.2) = (bs.take i).map (·.2) ++ [b.2] := by
        rw [List.take_succ, eb, List.map_append] <;> rfl
      have u1' := gp _ _ (gT _ _ u1)
      by_cases hm : b.2 ∈ (bs.take i).map (·.2)
      · refine iteNo (by rw [decide_eq_true hm] <;> rfl) ⟨cs, u1', u2, u3, fun m => ?_, g6⟩
        rw [et, List.mem_append, u4 m]
        refine ⟨Or.inl, fun h => h.elim id fun h => ?_⟩
        rw [List.mem_singleton.mp h]
        exact hm
      · refine iteY (by rw [decide_eq_false hm] <;> rfl) ?_
        refine ⟨_, rfl, _, u1', ?_, cs ++ [b], ?_, ?_, ?_, fun m => ?_, same_over g6 hD _⟩
        · rw [ms_len (H := H)]
          exact small1000 (by omega)
        · rw [upd_same]
          unfold msV
          rw [List.map_append] <;> rfl
        · intro c hc
          rcases List.mem_append.mp hc with hc | hc
          · exact u2 c hc
          · rw [List.mem_singleton.mp hc]; exact hbm
        · rw [List.map_append]
          refine List.pairwise_append.mpr ⟨u3, List.pairwise_singleton _ _, fun m hm1 n hn1 e => ?_⟩
          have hn1 : n = b.2 := List.mem_singleton.mp hn1
          rw [hn1] at e
          exact hm ((u4 b.2).mp (by rw [← e]; exact hm1))
        · rw [et, List.map_append, List.mem_append, List.mem_append, u4 m]
          exact Iff.rfl
    rintro H1 ⟨cs, u1, u2, u3, u4, u5⟩
    rw [show (msV bs).length = bs.length from ms_len (H := H), List.take_length] at u4
    have hcs : MsAt K H1 mk cs := (b2.sub u2).same u5
    refine ⟨D, _, cs, fun b => .ref b.1, fun b => (mk b.2).data, rfl, SqL.of u1, fun b hb' => nk_dp (hcs b hb'), ?_, ?_, fun b _ => mk_ddepth _, fun ns p hp hc hpn => ?_⟩
    · intro x hx y hy
      obtain ⟨b, _, rfl⟩ := List.mem_map.mp hx
      obtain ⟨c, _, rfl⟩ := List.mem_map.mp hy
      exact mk_alike _ _
    · refine .inl fun x hx => ?_
      obtain ⟨b, _, rfl⟩ := List.mem_map.mp hx
      exact ⟨.str b.2.1, [.tuple (NestedKey.datas (b.2.2.map pk))], by simp only [mk, NestedKey.data, NestedKey.datas]⟩
    have gp := same_new hpn (.lst (msV ns))
    refine k p ns _ ((g.trans u5).trans gp) ((g.trans u5).free hpn) upd_same ((hcs.sub fun c hc' => hp.subset hc').same gp) ⟨(hp.map (·.2)).nodup_iff.mpr u3, fun m => ?_, List.pairwise_map.mpr hc⟩
    rw [(hp.map (·.2)).mem_iff, u4 m, b3]
end
end Lw
namespace Lw.Ey
open PySem L2 TzR NsX NdX TL
/-! sorted texts, each once: one order only -/
def leS (a b : Str) : Prop := TL.tl a ≤ TL.tl b
theorem ris_pw : ∀ {l : List Str} {p : Str}, PyProof.Rows.risingS p l = true → (p :: l).Pairwise leS
  | [], p, _ => List.pairwise_singleton _ _
  | x :: r, p, h => by
    have h : (!PySem.Spec.ltCps x.cps.toList p.cps.toList && PyProof.Rows.risingS x r) = true := h
    rw [Bool.and_eq_true, PyProof.Rows.ltCps_eq] at h
    obtain ⟨h1, h2⟩ := h
    have hpx : leS p x := fun hlt => by
      have : decide (x.cps.toList < p.cps.toList) = true := decide_eq_true hlt
      rw [this] at h1
      cases h1
    have hr := ris_pw h2
    refine List.pairwise_cons.mpr ⟨fun y hy => ?_, hr⟩
    rcases List.mem_cons.mp hy with rfl | hy
    · exact hpx
    · exact List.le_trans hpx ((List.pairwise_cons.mp hr).1 y hy)
theorem srt_pw : ∀ {l : List Str}, PyProof.Rows.sortedS l = true → l.Pairwise leS
  | [], _ => List.Pairwise.nil
  | x :: r, h => ris_pw h
theorem srt_eq {xs ys : List Str} (p : xs.Perm ys) (hx : PyProof.Rows.sortedS xs = true) (hy : PyProof.Rows.sortedS ys = true) : xs = ys :=
  List.Perm.eq_of_pairwise (le := leS) (fun a b _ _ h1 h2 => ext_tl (List.le_antisymm h1 h2)) (srt_pw hx) (srt_pw hy) p
theorem nd_perm : ∀ {l ys : List Str}, l.Nodup → (∀ z ∈ l, z ∈ ys) → ys.length ≤ l.length → l.Perm ys
  | [], ys, _, _, h => by
    have : ys = [] := List.length_eq_zero_iff.mp (by simpa using h)
    rw [this]
  | a :: r, ys, nd, hm, hl => by
    have ha := hm a (List.mem_cons_self ..)
    obtain ⟨n1, n2⟩ := List.nodup_cons.mp nd
    have h1 : r.Perm (ys.erase a) := nd_perm n2 (fun z hz => (List.mem_erase_of_ne (fun e => n1 (by rw [← e]; exact hz))).mpr (hm z (List.mem_cons_of_mem _ hz))) (by
      rw [List.length_erase_of_mem ha]
      rw [List.length_cons] at hl
      omega)
    exact (h1.cons a).trans (List.perm_cons_erase ha).symm
/-- the letters in order: one list only -/
theorem LetOk.uniq {ys zs : List Str} (h : LetOk ys zs) {l us : List Str} (nd : l.Nodup) (hm : ∀ z, z ∈ l ↔ z ∈ zs) (p : us.Perm l) (hs : PyProof.Rows.sortedS us = true) : ys = us := by
  obtain ⟨l2, nd2, hl2, hm2⟩ := h.ex
  have p1 : l2.Perm ys := nd_perm nd2 (fun z hz => (h.mem z).mpr ((hm2 z).mp hz)) (by rw [hl2]; exact Nat.le_refl _)
  have ndy : ys.Nodup := p1.nodup_iff.mp nd2
  have l1 : ys.length ≤ l.length := by
    have q : ys.length ≤ l.length := (List.Nodup.length_le_of_subset ndy (fun z hz => (hm z).mpr ((h.mem z).mp hz)))
    exact q
  have l3 : l.length ≤ ys.length := List.Nodup.length_le_of_subset nd (fun z hz => (h.mem z).mpr ((hm z).mp hz))
  have p2 : l.Perm ys := nd_perm nd (fun z hz => (h.mem z).mpr ((hm z).mp hz)) l1
  exact srt_eq (p.trans p2).symm h.srt hs
end Lw.Ey
namespace Lw
open PySem L2 TzR NsX NdX TL
section
variable {P : Program} {w : World} {K : PySem.W.Frag} {mg : Str → Option Value} {base : Heap} {f : Addr} {fd : FuncData}
/-! the letters of several, ascending -/
def spMg (K : PySem.W.Frag) : Sp := fun vs H Q _ => ∃ (A : Addr) (ws : List V) (lss : List (List Str)), vs = [.ref A] ∧ SqL K H A ws ∧ ws.length = lss.length ∧ (∀ (i : Nat) (v : V), ws[i]? = some v → ∃ (t : Addr) (ls : List Str), v = .ref t ∧ lss[i]? = some ls ∧ SqT K H t (ls.map V.str) ∧ ls.Nodup) ∧ lss.flatten.length < 64 ∧
  ∀ (r : Addr) (us l : List Str) (H' : Hp), Same H H' → H r = none → H' r = some (.lst (us.map V.str)) → l.Nodup → (∀ z, z ∈ l ↔ z ∈ lss.flatten) → us.Perm l → PyProof.Rows.sortedS us = true → Q (.ref r) H'
def spMgL (K : PySem.W.Frag) : Sp := fun vs H Q _ => ∃ (A : Addr) (ws : List V) (lss : List (List Str)), vs = [.ref A] ∧ SqL K H A ws ∧ ws.length = lss.length ∧ (∀ (i : Nat) (v : V), ws[i]? = some v → ∃ (t : Addr) (ls : List Str), v = .ref t ∧ lss[i]? = some ls ∧ SqL K H t (ls.map V.str) ∧ ls.Nodup) ∧ lss.flatten.length < 64 ∧
  ∀ (r : Addr) (us l : List Str) (H' : Hp), Same H H' → H r = none → H' r = some (.lst (us.map V.str)) → l.Nodup → (∀ z, z ∈ l ↔ z ∈ lss.flatten) → us.Perm l → PyProof.Rows.sortedS us = true → Q (.ref r) H'
abbrev s_l_merged : Stmt := topS 48
abbrev n_l_merged : List Str := ["_law_lists", "_law_found", "_law_letters_here", "_law_letter"]
theorem sc_l_merged : FnScope n_l_merged ["_law_lists"] (defScope s_l_merged) := ⟨rfl, rfl, rfl, by decide +kernel, rfl, by decide +kernel, by decide +kernel⟩
def InvMg (H0 : Hp) (D : Addr) (l ls : List Str) (i : Nat) (H : Hp) : Prop := H D = some (.lst (((ls.take i).filter fun z => decide (z ∉ l)).map V.str)) ∧ Same H0 H
theorem flat_take {lss : List (List Str)} (i : Nat) : ((lss.take i).flatten).length ≤ lss.flatten.length := by
  have e : lss = lss.take i ++ lss.drop i := (List.take_append_drop i lss).symm
  have e2 : lss.flatten = (lss.take i).flatten ++ (lss.drop i).flatten := by rw [← List.flatten_append, ← e]
  rw [e2, List.length_append]
  omega
theorem ok_l_merged (F : Fun K "_law_merged" "_law_merged" s_l_merged f fd) (B : Bt mg) (B2 : Bx mg) : FnOk P w K mg base CX0 1 f fd ["_law_lists"] (spMg K) := by
  refine F.ok sc_l_merged (fun vs H Q E h => ?_) (fun cdv A outer s H vs Q E hr h => ?_)
  · obtain ⟨A, ws, lss, rfl, _⟩ := h
    rfl
  obtain ⟨A, ws, lss, rfl, hA, hlen, hw, h64, q⟩ := h
  refine ⟨_, (pss_cons (ps_set (i := 1) sc_l_merged.nd rfl (Or.inr rfl) (pe_lst pa_nil))
(pss_cons (ps_for PassesOwn.never rfl (pi_list (pv 0)) (pg_name (i := 2) sc_l_merged.nd rfl (Or.inl rfl))
(pss_one (ps_expr (pe_bm PySem.F.plainAttrs_list PySem.F.slot_list_extend PySem.F.type_list_extend mt_extend (pv 1) (pa_cons (pe_lc (own := [("_law_letter", 3)]) (g := (gName 3)) (tt := tTest (tOp (rIn K true) (tVar 3) (tVar 1))) (te := tVar 3) rfl sc_l_merged.nd (pi_tup (pv 2)) (blkOk_by (N := n_l_merged) (sc := defScope s_l_merged) (by decide +kernel)) (fun _ _ _ _ _ => (pg_name (i := 3) sc_l_merged.nd rfl (Or.inl rfl))) (fun _ _ _ _ _ => (pts_one (pt_cmpR op_notIn_seq (pv 3) (pv 1) (by rfl)))) (fun _ _ _ _ _ => (pv 3))) pa_nil)))))
(pss_one (ps_ret (pe_callB cr_sortedS (by rfl) B2.sorted (by decide +kernel) (pa_cons (pv 1) pa_nil)))))), ?_⟩
  refine ⟨(by show 0 ≤ sizeLine; exact Nat.zero_le _), fun L hL => ?_⟩
  have gL := same_new hL (.lst [])
  refine ⟨_, rfl, A, rfl, ⟨_, Same.seq gL hA⟩, for_list (K := K) (a := A) (xs := ws) (fun i σ' H' => (∃ u, σ' = [some (.ref A), some (.ref L), u, none]) ∧ ∃ l : List Str, H' L = some (.lst (l.map V.str)) ∧ l.Nodup ∧ (∀ z, z ∈ l ↔ z ∈ (lss.take i).flatten) ∧ l.length ≤ ((lss.take i).flatten).length ∧ Same H H')
    ⟨⟨_, rfl⟩, [], upd_same, List.nodup_nil, fun z => by simp, Nat.zero_le _, gL⟩ (fun i σ H' _ ⟨_, _, _, _, _, _, g⟩ => Same.seq g hA) ?_ ?_⟩
  · rintro i x σ' H1 hx ⟨⟨u, rfl⟩, l, hl1, nd, hm, hle, g1⟩
    obtain ⟨t, ls, rfl, el, ht, ndl⟩ := hw i x hx
    have tk : lss.take (i + 1) = lss.take i ++ [ls] := by rw [List.take_add_one, el] <;> rfl
    have fl : (lss.take (i + 1)).flatten = (lss.take i).flatten ++ ls := by rw [tk, List.flatten_append] <;> simp
    have hle2 := flat_take (lss := lss) (i + 1)
    rw [fl, List.length_append] at hle2
    refine ⟨_, rfl, .inl ⟨rfl, _, SqL.of hl1⟩, ?_⟩
    refine ⟨_, rfl, t, rfl, ⟨_, seqT g1 ht⟩, fun D hD => ?_⟩
    refine lc_tup (K := K) (a := t) (xs := ls.map V.str) (InvMg H1 D l ls) ⟨upd_same, same_new hD _⟩ (fun j H' _ ⟨_, g⟩ => seqT (g1.trans g) ht) (fun j y H' hy ⟨hdd, g⟩ => ?_) ?_
    · rw [List.getElem?_map] at hy
      cases ez : ls[j]? with
      | none => rw [ez] at hy; cases hy
      | some z =>
        rw [ez] at hy
        cases hy
        have hl' := g _ _ hl1
        have tk2 : ls.take (j + 1) = ls.take j ++ [z] := by rw [List.take_add_one, ez] <;> rfl
        refine ⟨rfl, ?_⟩
        refine ⟨_, rfl, _, rfl, L, _, rfl, .inl (SqL.of hl'), rfl, flat_strs' l, _, rfl, ?_⟩
        have ein := in_strs z l
        by_cases hz : z ∈ l
        · refine iteN (c := (if true = true then !(inV (.str z) (l.map V.str)) else inV (.str z) (l.map V.str))) (by rw [if_pos rfl, ein, decide_eq_true hz] <;> rfl) ⟨?_, g⟩
          rw [tk2, List.filter_append]
          have : ([z] : List Str).filter (fun z => decide (z ∉ l)) = [] := by simp [hz]
          rw [this, List.append_nil]
          exact hdd
        · refine iteC (c := (if true = true then !(inV (.str z) (l.map V.str)) else inV (.str z) (l.map V.str))) (by rw [if_pos rfl, ein, decide_eq_false hz] <;> rfl) ?_
          refine ⟨_, rfl, _, hdd, ?_, ?_, same_over g hD _⟩
          · have l1 := List.length_filter_le (fun z => decide (z ∉ l)) (ls.take j)
            have l2 : (ls.take j).length ≤ ls.length := List.length_take_le' _ _
            rw [List.length_map]
            exact small1000 (by omega)
          · rw [upd_same, tk2, List.filter_append]
            have : ([z] : List Str).filter (fun z => decide (z ∉ l)) = [z] := by simp [hz]
            rw [this, List.map_append] <;> rfl
    rintro H2 ⟨hdd, g2⟩
    rw [List.length_map, List.take_length] at hdd
    have hl2 := g2 _ _ hl1
    have lf := List.length_filter_le (fun z => decide (z ∉ l)) ls
    refine ⟨L, D, _, _, rfl, rfl, hl2, hdd, ?_, ⟨_, rfl⟩, l ++ ls.filter (fun z => decide (z ∉ l)), ?_, ?_, ?_, ?_, same_over (g1.trans g2) hL _⟩
    · rw [List.length_map, List.length_map]
      exact Nat.le_trans (show _ ≤ 1000 by omega) (by decide)
    · rw [upd_same, List.map_append]
    · refine List.nodup_append.mpr ⟨nd, ndl.filter _, fun a ha b hb e => ?_⟩
      subst e
      have := (List.mem_filter.mp hb).2
      exact (of_decide_eq_true this) ha
    · intro z
      rw [fl, List.mem_append, List.mem_append, ← hm z, List.mem_filter]
      constructor
      · rintro (h | ⟨h, _⟩)
        · exact .inl h
        · exact .inr h
      · rintro (h | h)
        · exact .inl h
        · by_cases hz : z ∈ l
          · exact .inl hz
          · exact .inr ⟨h, decide_eq_true hz⟩
    · rw [fl, List.length_append, List.length_append]
      omega
  · rintro σ' H1 ⟨⟨u, rfl⟩, l, hl1, nd, hm, hle, g1⟩
    rw [hlen, List.take_length] at hm hle
    refine ⟨_, rfl, L, l, rfl, SqL.of hl1, by omega, fun us p pm srt hp => ?_⟩
    exact q p us l _ (g1.trans (same_new hp _)) (g1.free hp) upd_same nd hm pm srt
theorem ok_l_mergedL (F : Fun K "_law_merged" "_law_merged" s_l_merged f fd) (B : Bt mg) (B2 : Bx mg) : FnOk P w K mg base CX0 1 f fd ["_law_lists"] (spMgL K) := by
  refine F.ok sc_l_merged (fun vs H Q E h => ?_) (fun cdv A outer s H vs Q E hr h => ?_)
  · obtain ⟨A, ws, lss, rfl, _⟩ := h
    rfl
  obtain ⟨A, ws, lss, rfl, hA, hlen, hw, h64, q⟩ := h
  refine ⟨_, (pss_cons (ps_set (i := 1) sc_l_merged.nd rfl (Or.inr rfl) (pe_lst pa_nil))
(pss_cons (ps_for PassesOwn.never rfl (pi_list (pv 0)) (pg_name (i := 2) sc_l_merged.nd rfl (Or.inl rfl))
(pss_one (ps_expr (pe_bm PySem.F.plainAttrs_list PySem.F.slot_list_extend PySem.F.type_list_extend mt_extend (pv 1) (pa_cons (pe_lc (own := [("_law_letter", 3)]) (g := (gName 3)) (tt := tTest (tOp (rIn K true) (tVar 3) (tVar 1))) (te := tVar 3) rfl sc_l_merged.nd (pi_list (pv 2)) (blkOk_by (N := n_l_merged) (sc := defScope s_l_merged) (by decide +kernel)) (fun _ _ _ _ _ => (pg_name (i := 3) sc_l_merged.nd rfl (Or.inl rfl))) (fun _ _ _ _ _ => (pts_one (pt_cmpR op_notIn_seq (pv 3) (pv 1) (by rfl)))) (fun _ _ _ _ _ => (pv 3))) pa_nil)))))
(pss_one (ps_ret (pe_callB cr_sortedS (by rfl) B2.sorted (by decide +kernel) (pa_cons (pv 1) pa_nil)))))), ?_⟩
  refine ⟨(by show 0 ≤ sizeLine; exact Nat.zero_le _), fun L hL => ?_⟩
  have gL := same_new hL (.lst [])
  refine ⟨_, rfl, A, rfl, ⟨_, Same.seq gL hA⟩, for_list (K := K) (a := A) (xs := ws) (fun i σ' H' => (∃ u, σ' = [some (.ref A), some (.ref L), u, none]) ∧ ∃ l : List Str, H' L = some (.lst (l.map V.str)) ∧ l.Nodup ∧ (∀ z, z ∈ l ↔ z ∈ (lss.take i).flatten) ∧ l.length ≤ ((lss.take i).flatten).length ∧ Same H H')
    ⟨⟨_, rfl⟩, [], upd_same, List.nodup_nil, fun z => by simp, Nat.zero_le _, gL⟩ (fun i σ H' _ ⟨_, _, _, _, _, _, g⟩ => Same.seq g hA) ?_ ?_⟩
  · rintro i x σ' H1 hx ⟨⟨u, rfl⟩, l, hl1, nd, hm, hle, g1⟩
    obtain ⟨t, ls, rfl, el, ht, ndl⟩ := hw i x hx
    have tk : lss.take (i + 1) = lss.take i ++ [ls] := by rw [List.take_add_one, el] <;> rfl
    have fl : (lss.take (i + 1)).flatten = (lss.take i).flatten ++ ls := by rw [tk, List.flatten_append] <;> simp
    have hle2 := flat_take (lss := lss) (i + 1)
    rw [fl, List.length_append] at hle2
    refine ⟨_, rfl, .inl ⟨rfl, _, SqL.of hl1⟩, ?_⟩
    refine ⟨_, rfl, t, rfl, ⟨_, g1.seq ht⟩, fun D hD => ?_⟩
    refine lc_list (K := K) (a := t) (xs := ls.map V.str) (InvMg H1 D l ls) ⟨upd_same, same_new hD _⟩ (fun j H' _ ⟨_, g⟩ => (g1.trans g).seq ht) (fun j y H' hy ⟨hdd, g⟩ => ?_) ?_
    · rw [List.getElem?_map] at hy
      cases ez : ls[j]? with
      | none => rw [ez] at hy; cases hy
      | some z =>
        rw [ez] at hy
        cases hy
        have hl' := g _ _ hl1
        have tk2 : ls.take (j + 1) = ls.take j ++ [z] := by rw [List.take_add_one, ez] <;> rfl
        refine ⟨rfl, ?_⟩
        refine ⟨_, rfl, _, rfl, L, _, rfl, .inl (SqL.of hl'), rfl, flat_strs' l, _, rfl, ?_⟩
        have ein := in_strs z l
        by_cases hz : z ∈ l
        · refine iteN (c := (if true = true then !(inV (.str z) (l.map V.str)) else inV (.str z) (l.map V.str))) (by rw [if_pos rfl, ein, decide_eq_true hz] <;> rfl) ⟨?_, g⟩
          rw [tk2, List.filter_append]
          have : ([z] : List Str).filter (fun z => decide (z ∉ l)) = [] := by simp [hz]
          rw [this, List.append_nil]
          exact hdd
        · refine iteC (c := (if true = true then !(inV (.str z) (l.map V.str)) else inV (.str z) (l.map V.str))) (by rw [if_pos rfl, ein, decide_eq_false hz] <;> rfl) ?_
          refine ⟨_, rfl, _, hdd, ?_, ?_, same_over g hD _⟩
          · have l1 := List.length_filter_le (fun z => decide (z ∉ l)) (ls.take j)
            have l2 : (ls.take j).length ≤ ls.length := List.length_take_le' _ _
            rw [List.length_map]
            exact small1000 (by omega)
          · rw [upd_same, tk2, List.filter_append]
            have : ([z] : List Str).filter (fun z => decide (z ∉ l)) = [z] := by simp [hz]
            rw [this, List.map_append] <;> rfl
    rintro H2 ⟨hdd, g2⟩
    rw [List.length_map, List.take_length] at hdd
    have hl2 := g2 _ _ hl1
    have lf := List.length_filter_le (fun z => decide (z ∉ l)) ls
    refine ⟨L, D, _, _, rfl, rfl, hl2, hdd, ?_, ⟨_, rfl⟩, l ++ ls.filter (fun z => decide (z ∉ l)), ?_, ?_, ?_, ?_, same_over (g1.trans g2) hL _⟩
    · rw [List.length_map, List.length_map]
      exact Nat.le_trans (show _ ≤ 1000 by omega) (by decide)
    · rw [upd_same, List.map_append]
    · refine List.nodup_append.mpr ⟨nd, ndl.filter _, fun a ha b hb e => ?_⟩
      subst e
      have := (List.mem_filter.mp hb).2
      exact (of_decide_eq_true this) ha
    · intro z
      rw [fl, List.mem_append, List.mem_append, ← hm z, List.mem_filter]
      constructor
      · rintro (h | ⟨h, _⟩)
        · exact .inl h
        · exact .inr h
      · rintro (h | h)
        · exact .inl h
        · by_cases hz : z ∈ l
          · exact .inl hz
          · exact .inr ⟨h, decide_eq_true hz⟩
    · rw [fl, List.length_append, List.length_append]
      omega
  · rintro σ' H1 ⟨⟨u, rfl⟩, l, hl1, nd, hm, hle, g1⟩
    rw [hlen, List.take_length] at hm hle
    refine ⟨_, rfl, L, l, rfl, SqL.of hl1, by omega, fun us p pm srt hp => ?_⟩
    exact q p us l _ (g1.trans (same_new hp _)) (g1.free hp) upd_same nd hm pm srt
/-! the law's own programs -/
def LprAt (K : PySem.W.Frag) (H : Hp) (v : V) (g : PQ) : Prop := ∃ (d T tl Ul : Addr) (kvs : DK) (vs : List V), v = .ref d ∧ H d = some (.dK kvs) ∧ valV kvs (Sum.inr "target" : Key) = some (.ref T) ∧ valV kvs (Sum.inr "uses" : Key) = some (.ref Ul) ∧ SqT K H T [.str g.nm, .ref tl] ∧ SqT K H tl (g.ls.map V.str) ∧ SqL K H Ul vs ∧ LusAt K H vs g.qs
def LprsAt (K : PySem.W.Frag) (H : Hp) (vs : List V) (gs : List PQ) : Prop := vs.length = gs.length ∧ ∀ (i : Nat) (v : V) (g : PQ), vs[i]? = some v → gs[i]? = some g → LprAt K H v g
theorem LprAt.same {H H' : Hp} {v : V} {p : PQ} (g : Same H H') : LprAt K H v p → LprAt K H' v p
  | ⟨d, T, tl, Ul, kvs, vs, h1, h2, h3, h4, h5, h6, h7, h8⟩ => ⟨d, T, tl, Ul, kvs, vs, h1, g _ _ h2, h3, h4, seqT g h5, seqT g h6, g.seq h7, h8.mono (TK.of g)⟩
theorem LprsAt.same {H H' : Hp} {vs : List V} {gs : List PQ} (g : Same H H') (h : LprsAt K H vs gs) : LprsAt K H' vs gs := ⟨h.1, fun i v p e1 e2 => (h.2 i v p e1 e2).same g⟩
theorem LprAt.lp {H : Hp} {v : V} {p : PQ} : LprAt K H v p → LpAt K H v p.qs
  | ⟨d, T, tl, Ul, kvs, vs, h1, h2, h3, h4, h5, h6, h7, h8⟩ => ⟨d, Ul, kvs, vs, h1, h2, h4, h7, h8⟩
theorem LprsAt.lps {H : Hp} {vs : List V} {gs : List PQ} (h : LprsAt K H vs gs) : LpsAt K H vs (gs.map (·.qs)) := ⟨by rw [h.1, List.length_map], fun i v qs e1 e2 => by
  rw [List.getElem?_map] at e2
  cases eg : gs[i]? with
  | none => rw [eg] at e2; cases e2
  | some g =>
    rw [eg] at e2
    cases e2
    exact (h.2 i v g e1 eg).lp⟩
theorem memsL_gs (gs : List PQ) : memsL (gs.map (·.qs)) = memsF gs := by
  unfold memsL memsF
  rw [List.flatMap_map] <;> rfl
/-! the letters of a program -/
abbrev s_l_program_letters : Stmt := topS 49
abbrev n_l_program_letters : List Str := ["_law_p", "_law_use"]
theorem sc_l_program_letters : FnScope n_l_program_letters ["_law_p"] (defScope s_l_program_letters) := ⟨rfl, rfl, rfl, by decide +kernel, rfl, by decide +kernel, by decide +kernel⟩
def spPl (K : PySem.W.Frag) : Sp := fun vs H Q _ => ∃ (v : V) (g : PQ), vs = [v] ∧ LprAt K H v g ∧ g.ls.Nodup ∧ (∀ q ∈ g.qs, q.ls.Nodup) ∧ (letsP g).length < 64 ∧ g.qs.length ≤ 900 ∧
  ∀ (r : Addr) (us : List Str) (H' : Hp), Same H H' → H r = none → H' r = some (.lst (us.map V.str)) → us.Nodup → (∀ z, z ∈ us ↔ z ∈ letsP g) → Q (.ref r) H'
theorem ok_l_program_letters (F : Fun K "_law_program_letters" "_law_program_letters" s_l_program_letters f fd) (cG : Ca P w K mg base 1 "_law_merged" ["_law_lists"] (spMg K)) : FnOk P w K mg base CX0 2 f fd ["_law_p"] (spPl K) := by
  refine F.ok sc_l_program_letters (fun vs H Q E h => ?_) (fun cdv A outer s H vs Q E hr h => ?_)
  · obtain ⟨v, g, rfl, _⟩ := h
    rfl
  obtain ⟨v, g, rfl, ⟨d, T, tl, Ul, kvs, vs, rfl, c1, c2, c3, c4, c5, c6, c7⟩, nd, ndq, h64, h900, k⟩ := h
  have hu1 : (cxOf CX0 P w K mg base n_l_program_letters "_law_program_letters" (defScope s_l_program_letters) f cdv A outer s H E).nox.A.units + 1 < cLine := by
    have := hr.un
    show (A.deeper _).units + 1 < cLine
    omega
  refine ⟨_, (pss_one (ps_ret (pca cG hr (by decide) rfl (pa_cons (pe_op op_cat (pe_lst (pa_cons (pe_ix ix_tup (pe_dget hu1 (pv 0) pe_str (fun _ _ => rfl)) pe_int (fun _ _ => rfl)) pa_nil)) (pe_lc (own := [("_law_use", 1)]) (g := (gName 1)) (tt := tYes) (te := tOp (rIxT K) (tVar 1) (tC (.int 1))) rfl sc_l_program_letters.nd (pi_list (pe_dget hu1 (pv 0) pe_str (fun _ _ => rfl))) (blkOk_by (N := n_l_program_letters) (sc := defScope s_l_program_letters) (by decide +kernel)) (fun _ _ _ _ _ => (pg_name (i := 1) sc_l_program_letters.nd rfl (Or.inl rfl))) (fun _ _ _ _ _ => pts_nil) (fun _ _ _ _ _ => (pe_ix ix_tup (pv 1) pe_int (fun _ _ => rfl))))) pa_nil)))), ?_⟩
  have dgT : ∀ {H' : Hp}, Same H H' → DGet H' d (.str "target") (some (.ref T)) := fun g => by
    have z := DGet.k (k := (Sum.inr "target" : Key)) (g _ _ c1)
    rw [c2] at z
    exact z
  have dgU : ∀ {H' : Hp}, Same H H' → DGet H' d (.str "uses") (some (.ref Ul)) := fun g => by
    have z := DGet.k (k := (Sum.inr "uses" : Key)) (g _ _ c1)
    rw [c3] at z
    exact z
  obtain ⟨ts, tsl, tsr⟩ := choose_list (R := fun i (t : Addr) => ∃ (u tf : Addr) (q0 : UQ), vs[i]? = some (.ref u) ∧ g.qs[i]? = some q0 ∧ SqT K H u [.str q0.nm, .ref t, .ref tf] ∧ SqT K H t (q0.ls.map V.str)) vs.length fun i hi => by
    have hi2 : i < g.qs.length := by rw [← c7.1]; exact hi
    obtain ⟨u, eu, ⟨t, tf, us, z1, z2, z3, z4⟩⟩ := c7.2 i _ _ (List.getElem?_eq_getElem hi) (List.getElem?_eq_getElem hi2)
    exact ⟨t, u, tf, g.qs[i], by rw [List.getElem?_eq_getElem hi, eu], List.getElem?_eq_getElem hi2, z1, z2⟩
  refine ⟨_, rfl, d, .ref T, rfl, dgT (Same.refl _), T, _, (1 : Int), .ref tl, rfl, rfl, c4, atI_nat (j := 1) rfl, (by show 1 ≤ sizeLine; decide), fun M hM => ?_⟩
  have gM := same_new hM (.lst [.ref tl])
  refine ⟨_, rfl, d, .ref Ul, rfl, dgU gM, Ul, rfl, ⟨_, gM.seq c6⟩, fun D hD => ?_⟩
  refine lc_list (K := K) (a := Ul) (xs := vs) (fun i H' => H' D = some (.lst ((ts.take i).map V.ref)) ∧ Same (upd H M (.lst [.ref tl])) H') ⟨upd_same, same_new hD _⟩ (fun i H' _ ⟨_, g'⟩ => (gM.trans g').seq c6) (fun i x H' hx ⟨w1, w2⟩ => ⟨rfl, kept ?_⟩) ?_
  · have hi := (List.getElem?_eq_some_iff.mp hx).1
    have et := List.getElem?_eq_getElem (l := ts) (by rw [tsl]; exact hi)
    generalize ts[i]'(by rw [tsl]; exact hi) = t0 at et
    obtain ⟨u, tf, q0, z1, z2, z3, z4⟩ := tsr i t0 et
    rw [hx] at z1
    cases z1
    refine ⟨_, rfl, u, _, (1 : Int), .ref t0, rfl, rfl, seqT (gM.trans w2) z3, atI_nat (j := 1) rfl, _, w1, ?_, ?_, same_over w2 hD _⟩
    · have := c7.1
      rw [List.length_map, List.length_take]
      exact small1000 (by omega)
    · rw [upd_same, List.take_succ, et, List.map_append] <;> rfl
  rintro H2 ⟨w1, w2⟩
  rw [← tsl, List.take_length] at w1
  refine ⟨M, D, _, _, rfl, rfl, w2 _ _ upd_same, w1, ?_, fun N hN => ?_⟩
  · have := c7.1
    rw [List.length_map]
    show 1 + _ ≤ _
    exact Nat.le_of_lt (small1000 (by omega))
  have g2 := (gM.trans w2).trans (same_new hN (.lst ([.ref tl] ++ ts.map V.ref)))
  refine ⟨N, [.ref tl] ++ ts.map V.ref, g.ls :: g.qs.map (·.ls), rfl, SqL.of upd_same, ?_, ?_, ?_, fun r us l H' g' hr0 hr1 nl hm pm srt => ?_⟩
  · have := c7.1
    simp only [List.length_append, List.length_map, List.length_cons, List.length_nil]
    omega
  · intro i v e
    cases i with
    | zero =>
      cases e
      exact ⟨tl, g.ls, rfl, rfl, seqT g2 c5, nd⟩
    | succ i =>
      have e : (ts.map V.ref)[i]? = some v := e
      obtain ⟨t0, et, rfl⟩ := at_map e
      obtain ⟨u, tf, q0, z1, z2, z3, z4⟩ := tsr i t0 et
      refine ⟨t0, q0.ls, rfl, ?_, seqT g2 z4, ndq q0 (List.mem_of_getElem? z2)⟩
      rw [List.getElem?_cons_succ, List.getElem?_map, z2] <;> rfl
  · rw [List.flatten_cons]
    exact h64
  · refine k r us H' (g2.trans g') (g2.free hr0) hr1 (pm.nodup_iff.mpr nl) fun z => ?_
    rw [pm.mem_iff, hm z, List.flatten_cons] <;> exact Iff.rfl
/-! the accesses of a program -/
abbrev s_l_pairs_of : Stmt := topS 51
abbrev n_l_pairs_of : List Str := ["_law_p", "_law_use"]
theorem sc_l_pairs_of : FnScope n_l_pairs_of ["_law_p"] (defScope s_l_pairs_of) := ⟨rfl, rfl, rfl, by decide +kernel, rfl, by decide +kernel, by decide +kernel⟩
theorem NlAt.mono {H H' : Hp} {us : List V} {ps : List (Str × List Str)} (g : TK K H H') (h : NlAt K H us ps) : NlAt K H' us ps := ⟨h.1, fun i u p e1 e2 => PairAt.tk g (h.2 i u p e1 e2)⟩
theorem NlAt.snoc {H : Hp} {us : List V} {ps : List (Str × List Str)} {v : V} {p : Str × List Str} (h : NlAt K H us ps) (hv : Ey.PairAt K H v p) : NlAt K H (us ++ [v]) (ps ++ [p]) :=
  ⟨by rw [List.length_append, List.length_append, h.1] <;> rfl, snoc2 (R := fun _ v p => Ey.PairAt K H v p) h.1 h.2 hv⟩
def spPo (K : PySem.W.Frag) : Sp := fun vs H Q _ => ∃ (v : V) (g : PQ), vs = [v] ∧ LprAt K H v g ∧ g.qs.length ≤ 900 ∧
  ∀ (r : Addr) (ws : List V) (H' : Hp), Same H H' → H r = none → H' r = some (.lst ws) → NlAt K H' ws (pairsP g) → Q (.ref r) H'
theorem ok_l_pairs_of (F : Fun K "_law_pairs_of" "_law_pairs_of" s_l_pairs_of f fd) : FnOk P w K mg base CX0 1 f fd ["_law_p"] (spPo K) := by
  refine F.ok sc_l_pairs_of (fun vs H Q E h => ?_) (fun cdv A outer s H vs Q E hr h => ?_)
  · obtain ⟨v, g, rfl, _⟩ := h
    rfl
  obtain ⟨v, g, rfl, ⟨d, T, tl, Ul, kvs, vs, rfl, c1, c2, c3, c4, c5, c6, c7⟩, h900, k⟩ := h
  have hu1 : (cxOf CX0 P w K mg base n_l_pairs_of "_law_pairs_of" (defScope s_l_pairs_of) f cdv A outer s H E).nox.A.units + 1 < cLine := by
    have := hr.un
    show (A.deeper _).units + 1 < cLine
    omega
  refine ⟨_, (pss_one (ps_ret (pe_op op_cat (pe_lst (pa_cons (pe_dget hu1 (pv 0) pe_str (fun _ _ => rfl)) pa_nil)) (pe_lc (own := [("_law_use", 1)]) (g := (gName 1)) (tt := tYes) (te := tTup (tCons (tOp (rIxT K) (tVar 1) (tC (.int 0))) (tCons (tOp (rIxT K) (tVar 1) (tC (.int 1))) tNil))) rfl sc_l_pairs_of.nd (pi_list (pe_dget hu1 (pv 0) pe_str (fun _ _ => rfl))) (blkOk_by (N := n_l_pairs_of) (sc := defScope s_l_pairs_of) (by decide +kernel)) (fun _ _ _ _ _ => (pg_name (i := 1) sc_l_pairs_of.nd rfl (Or.inl rfl))) (fun _ _ _ _ _ => pts_nil) (fun _ _ _ _ _ => (pe_tup (pa_cons (pe_ix ix_tup (pv 1) pe_int (fun _ _ => rfl)) (pa_cons (pe_ix ix_tup (pv 1) pe_int (fun _ _ => rfl)) pa_nil)))))))), ?_⟩
  have dgT : ∀ {H' : Hp}, Same H H' → DGet H' d (.str "target") (some (.ref T)) := fun g => by
    have z := DGet.k (k := (Sum.inr "target" : Key)) (g _ _ c1)
    rw [c2] at z
    exact z
  have dgU : ∀ {H' : Hp}, Same H H' → DGet H' d (.str "uses") (some (.ref Ul)) := fun g => by
    have z := DGet.k (k := (Sum.inr "uses" : Key)) (g _ _ c1)
    rw [c3] at z
    exact z
  refine ⟨_, rfl, d, .ref T, rfl, dgT (Same.refl _), (by show 1 ≤ sizeLine; decide), fun M hM => ?_⟩
  have gM := same_new hM (.lst [.ref T])
  refine ⟨_, rfl, d, .ref Ul, rfl, dgU gM, Ul, rfl, ⟨_, gM.seq c6⟩, fun D hD => ?_⟩
  refine lc_list (K := K) (a := Ul) (xs := vs) (fun i H' => ∃ ws : List V, H' D = some (.lst ws) ∧ NlAt K H' ws ((g.qs.take i).map fun q => (q.nm, q.ls)) ∧ Same (upd H M (.lst [.ref T])) H') ⟨[], upd_same, ⟨rfl, fun _ _ _ e => by cases e⟩, same_new hD _⟩ (fun i H' _ ⟨_, _, _, g'⟩ => (gM.trans g').seq c6) (fun i x H' hx ⟨ws, w1, w2, w3⟩ => ⟨rfl, kept ?_⟩) ?_
  · have hi2 : i < g.qs.length := by rw [← c7.1]; exact (List.getElem?_eq_some_iff.mp hx).1
    have eq := List.getElem?_eq_getElem hi2
    generalize g.qs[i] = q0 at eq
    obtain ⟨u, rfl, ⟨t, tf, us, z1, z2, z3, z4⟩⟩ := c7.2 i x q0 hx eq
    have gw := gM.trans w3
    refine ⟨_, rfl, u, _, (0 : Int), .str q0.nm, rfl, rfl, seqT gw z1, atI_nat (j := 0) rfl, _, rfl, u, _, (1 : Int), .ref t, rfl, rfl, seqT gw z1, atI_nat (j := 1) rfl, (by show 2 ≤ sizeLine; decide), fun b hb => ?_⟩
    have gb := same_new hb (.tup [.str q0.nm, .ref t])
    have w1t := gb _ _ w1
    have wl := w2.1
    rw [List.length_map, List.length_take] at wl
    refine ⟨ws, w1t, small1000 (by omega), ws ++ [.ref b], upd_same, ?_, same_over (w3.trans gb) hD _⟩
    rw [List.take_succ, eq, List.map_append]
    exact ((w2.same gb).mono (TK.lst w1t)).snoc ⟨b, t, rfl, TK.lst w1t _ _ (SqT.of upd_same), TK.lst w1t _ _ (seqT (gw.trans gb) z2)⟩
  rintro H2 ⟨ws, w1, w2, w3⟩
  rw [c7.1, List.take_length] at w2
  have wl := w2.1
  rw [List.length_map] at wl
  refine ⟨M, D, _, _, rfl, rfl, w3 _ _ upd_same, w1, ?_, fun N hN => ?_⟩
  · show 1 + ws.length ≤ _
    exact Nat.le_of_lt (small1000 (by omega))
  have gN := same_new hN (.lst ([.ref T] ++ ws))
  have g2 := (gM.trans w3).trans gN
  refine k N ([.ref T] ++ ws) _ g2 ((gM.trans w3).free hN) upd_same ⟨?_, fun i v p e1 e2 => ?_⟩
  · unfold pairsP
    simp only [List.length_append, List.length_map, List.length_cons, List.length_nil]
    omega
  · cases i with
    | zero =>
      cases e1
      cases e2
      exact ⟨T, tl, rfl, seqT g2 c4, seqT g2 c5⟩
    | succ i => exact (w2.same gN).2 i v p e1 e2
end
end Lw
namespace Lw.Ey
open PySem L2 TzR NsX NdX TL
def KI (H H' : Hp) : Prop := ∀ (b : Addr) (o : HO), (∀ xs, o ≠ .lst xs) → H b = some o → H' b = some o
theorem KI.of {H H' : Hp} (g : Same H H') : KI H H' := fun b o _ e => g b o e
theorem KI.lst {H : Hp} {D : Addr} {xs ys : List V} (h : H D = some (.lst xs)) : KI H (upd H D (.lst ys)) := fun b o no q => by
  rw [upd_ne (fun e => by rw [e, h] at q; exact no _ (Option.some.inj q).symm)]
  exact q
theorem KI.tk {K : PySem.W.Frag} {H H' : Hp} (g : KI H H') : TK K H H' := .but g
theorem PairAt.tk {K : PySem.W.Frag} {H H' : Hp} {v : V} {p : Str × List Str} (g : TK K H H') : PairAt K H v p → PairAt K H' v p
  | ⟨a, t, e, h1, h2⟩ => ⟨a, t, e, g _ _ h1, g _ _ h2⟩
theorem PairsAt.tk {K : PySem.W.Frag} {H H' : Hp} (g : TK K H H') : ∀ {vs : List V} {ps : List (Str × List Str)}, PairsAt K H vs ps → PairsAt K H' vs ps
  | _, _, .nil => .nil
  | _, _, .cons h t => .cons (h.tk g) (PairsAt.tk g t)
theorem HdE.ki {K : PySem.W.Frag} {C p : Addr} {H H' : Hp} {k : Str} {vs : List V} {as : List (Str × List Str)} {m : Int} (g : KI H H') : HdE K C H p k vs as m → HdE K C H' p k vs as m
  | ⟨dx, tp, ta, tl, us, ys, h1, h2, h3, h4, h5, h6⟩ => ⟨dx, tp, ta, tl, us, ys, g _ _ (fun xs e => by cases e) h1, g.tk _ _ h2, g.tk _ _ h3, h4.tk g.tk, g.tk _ _ h5, h6⟩
theorem acc_ki {K : PySem.W.Frag} {C : Addr} {H H' : Hp} (g : KI H H') {nm : Str} {ls : List Str} {p : Addr} : ExAt K C H (.acc nm ls) p → ExAt K C H' (.acc nm ls) p
  | ⟨t, h1, h2⟩ => ⟨t, h1.ki g, g.tk _ _ h2⟩
end Lw.Ey
namespace Lw
open PySem L2 TzR NsX NdX TL
theorem UseAt.ki {K : PySem.W.Frag} {U C : Addr} {H H' : Hp} {p q : Addr} {nm : Str} {ls ks : List Str} {is : List Int} (g : Ey.KI H H') : UseAt K U C H p nm ls q ks is → UseAt K U C H' p nm ls q ks is
  | ⟨dx, tl, h1, ⟨o, h2, z⟩, ⟨dq, tk, ta, h3, h4, h5⟩⟩ => ⟨dx, tl, g _ _ (fun _ e => by cases e) h1, ⟨o, g _ _ (fun _ e => by cases e) h2, z⟩, ⟨dq, tk, ta, g _ _ (fun _ e => by cases e) h3, g.tk _ _ h4, g.tk _ _ h5⟩⟩
theorem UsesAt.ki {K : PySem.W.Frag} {U C : Addr} {H H' : Hp} {us : List V} {qs : List UQ} (g : Ey.KI H H') (h : UsesAt K U C H us qs) : UsesAt K U C H' us qs := ⟨h.1, fun i u q e1 e2 => (h.2 i u q e1 e2).elim fun p z => z.elim fun f z => ⟨p, f, z.1, z.2.ki g⟩⟩
theorem UsesAt.snoc {K : PySem.W.Frag} {U C : Addr} {H : Hp} {us : List V} {qs : List UQ} {p f : Addr} {q : UQ} (h : UsesAt K U C H us qs) (hp : UseAt K U C H p q.nm q.ls f (q.l.map (·.1)) (q.l.map (·.2))) : UsesAt K U C H (us ++ [.ref p]) (qs ++ [q]) :=
  ⟨by rw [List.length_append, List.length_append, h.1] <;> rfl, snoc2 (R := fun _ u q => ∃ p f, u = .ref p ∧ UseAt K U C H p q.nm q.ls f (q.l.map (·.1)) (q.l.map (·.2))) h.1 h.2 ⟨p, f, rfl, hp⟩⟩
theorem ProgAt.ki {K : PySem.W.Frag} {PG U X C : Addr} {H H' : Hp} {p : Addr} {nm : Str} {ls : List Str} {us : List V} {qs : List UQ} (g : Ey.KI H H') : ProgAt K PG U X C H p nm ls us qs → ProgAt K PG U X C H' p nm ls us qs
  | ⟨dx, a, tu, n, tl, ys, h1, h2, h3, h4, h5, h6⟩ => ⟨dx, a, tu, n, tl, ys, g _ _ (fun _ e => by cases e) h1, Ey.acc_ki g h2, g.tk _ _ h3, h4.ki g, g.tk _ _ h5, h6⟩
theorem ProgsAt.ki {K : PySem.W.Frag} {PG U X C : Addr} {H H' : Hp} {vs : List V} {gs : List PQ} (s : Ey.KI H H') (h : ProgsAt K PG U X C H vs gs) : ProgsAt K PG U X C H' vs gs := ⟨h.1, fun i v g e1 e2 => (h.2 i v g e1 e2).elim fun p z => z.elim fun us z => ⟨p, us, z.1, z.2.ki s⟩⟩
theorem ProgsAt.snoc {K : PySem.W.Frag} {PG U X C : Addr} {H : Hp} {vs us : List V} {gs : List PQ} {p : Addr} {g : PQ} (h : ProgsAt K PG U X C H vs gs) (hp : ProgAt K PG U X C H p g.nm g.ls us g.qs) : ProgsAt K PG U X C H (vs ++ [.ref p]) (gs ++ [g]) :=
  ⟨by rw [List.length_append, List.length_append, h.1] <;> rfl, snoc2 (R := fun _ v g => ∃ p us, v = .ref p ∧ ProgAt K PG U X C H p g.nm g.ls us g.qs) h.1 h.2 ⟨p, us, rfl, hp⟩⟩
/-- made as an instance, all else stands -/
theorem made_same {C x dx : Addr} {H H' : Hp} (n : H x = none) (nd : H dx = none) (k : Kp x (upd (upd H dx (.own x)) x (.ins C dx [])) H') : Same H H' := fun b o e => k b o (ne_of_none e n) (by rw [upd_ne (ne_of_none e n), upd_ne (ne_of_none e nd)]; exact e)
theorem new_same {C x dx : Addr} {H : Hp} (n : H x = none) (nd : H dx = none) : Same H (upd (upd H dx (.own x)) x (.ins C dx [])) := fun b o e => by rw [upd_ne (ne_of_none e n), upd_ne (ne_of_none e nd)]; exact e
/-- a use, a program as the family asks it -/
structure UOk (q : UQ) : Prop where
  good : Good q.l q.ls.length
  l3 : q.ls.length ≤ 3
  nd : q.ls.Nodup
structure GOk (g : PQ) : Prop where
  l3 : g.ls.length ≤ 3
  nd : g.ls.Nodup
  q3 : g.qs.length ≤ 3
  us : ∀ q ∈ g.qs, UOk q
theorem UOk.rng {q : UQ} (h : UOk q) : ∀ i ∈ q.l.map (·.2), 0 ≤ i ∧ i < (q.ls.length : Int) := fun i hi => by
  have z : i ∈ iota q.ls.length := h.good.2.2.mem_iff.mp hi
  unfold iota at z
  obtain ⟨j, hj, e⟩ := List.mem_map.mp z
  have hj := List.mem_range.mp hj
  omega
theorem UOk.uqf {q : UQ} (h : UOk q) : UqF q := by
  have h1 := h.good.1
  have h2 := h.l3
  exact ⟨by rw [List.length_map, List.length_map], by rw [List.length_map]; omega, h.rng, h2⟩
theorem fm_le {α β : Type} {f : α → List β} {k : Nat} : ∀ (l : List α), (∀ a ∈ l, (f a).length ≤ k) → (l.flatMap f).length ≤ k * l.length
  | [], _ => Nat.le_refl _
  | a :: l, h => by
    have h1 := h a (List.mem_cons_self ..)
    have h2 := fm_le l fun b hb => h b (List.mem_cons_of_mem _ hb)
    rw [List.flatMap_cons, List.length_append, List.length_cons, Nat.mul_succ]
    omega
theorem GOk.mem {g : PQ} (h : GOk g) : (memP g).length ≤ 12 := by
  have z := fm_le (f := memQ) (k := 4) g.qs fun q hq => memQ_len (h.us q hq).uqf
  have := h.q3
  show (g.qs.flatMap memQ).length ≤ 12
  omega
theorem GOk.let {g : PQ} (h : GOk g) : (letsP g).length ≤ 12 := by
  unfold letsP
  have z := fm_le (f := fun q : UQ => q.ls) (k := 3) g.qs fun q hq => (h.us q hq).l3
  have := h.q3
  have := h.l3
  rw [List.length_append, ← List.flatMap_def]
  omega
theorem GOk.prs {g : PQ} (h : GOk g) : (pairsP g).length ≤ 4 := by
  have := h.q3
  unfold pairsP
  rw [List.length_cons, List.length_map]
  omega
theorem gs_mem {gs : List PQ} (h : ∀ g ∈ gs, GOk g) : (memsF gs).length ≤ 12 * gs.length := fm_le gs fun g hg => (h g hg).mem
theorem gs_let {gs : List PQ} (h : ∀ g ∈ gs, GOk g) : (letsF gs).length ≤ 12 * gs.length := fm_le gs fun g hg => (h g hg).let
theorem gs_prs {gs : List PQ} (h : ∀ g ∈ gs, GOk g) : (allP gs).length ≤ 4 * gs.length := fm_le gs fun g hg => (h g hg).prs
theorem gs_uqf {gs : List PQ} (h : ∀ g ∈ gs, GOk g) : ∀ g ∈ gs, ∀ q ∈ g.qs, UqF q := fun g hg q hq => ((h g hg).us q hq).uqf
abbrev s_l_made : Stmt := topS 66
abbrev n_l_made : List Str := ["_law_programs", "_law_built", "_law_p", "_law_uses", "_law_use"]
theorem sc_l_made : FnScope n_l_made ["_law_programs"] (defScope s_l_made) := ⟨rfl, rfl, rfl, by decide +kernel, rfl, by decide +kernel, by decide +kernel⟩
def spMade (K : PySem.W.Frag) (FA RC : Addr) : Sp := fun vs H Q E => ∃ (a : Addr) (ps : List V) (gs : List PQ), vs = [.ref a] ∧ SqL K H a ps ∧ LprsAt K H ps gs ∧ 1 ≤ gs.length ∧ gs.length ≤ 4 ∧ (∀ g ∈ gs, GOk g) ∧
  (∀ d, rkF (allP gs) = some d → ∀ (p : Addr) (H' : Hp), Same H H' → FamAt K FA H' p d (letsF gs) (memsF gs) → Q (.ref p) H') ∧ (∀ n, rkBad (allP gs) n → Raised RC "name" (.str n) H E)
section
variable {P : Program} {w : World} {K : PySem.W.Frag} {mg : Str → Option Value} {base : Heap} {f U C X PG FA BL fP fB fF RC : Addr} {fd dP dB : FuncData}
theorem ok_l_made (F : Fun K "_law_made" "_law_made" s_l_made f fd) (B : Bt mg) (cLa : Ca P w K mg base 5 "_law_access" ["_law_name_here", "_law_letters_here"] (Ey.spLacc K X)) (cB : Ca P w K mg base 6 "_law_use_built" ["_law_use"] (spUb K U C))
    (MP : Mk K PG fP) (GP : FnOk P w K mg base CX0 3 fP dP ["self", "target", "uses", "node"] (spPini K PG U X C)) (bP : Binds K dP ["self", "target", "uses", "node"] []) (mP : mg "Program" = some (.ref PG))
    (MB : Mk K BL fB) (GB : FnOk P w K mg base CX0 3 fB dB ["self", "nodes"] (spBlk K BL)) (bB : Binds K dB ["self", "nodes"] []) (mB : mg "Block" = some (.ref BL))
    (MF : Mk K FA fF) (GF : FnR P w K mg base (L2.CX P w) 6 fF (spFini K FA PG U X C RC)) (mF : mg "Family" = some (.ref FA)) :
    FnOk P w K mg base (L2.CX P w) 8 f fd ["_law_programs"] (spMade K FA RC) := by
  refine F.okX sc_l_made (fun vs H Q E h => ?_) (fun cdv A outer s H vs Q E hr h => ?_)
  · obtain ⟨a, ps, gs, rfl, _⟩ := h
    rfl
  obtain ⟨a, ps, gs, rfl, ha, hP, h1, h4, hok, k, ke⟩ := h
  have pX : Passes (L2.CX P w) (cxOf (L2.CX P w) P w K mg base n_l_made "_law_made" (defScope s_l_made) f cdv A outer s H E) E := passes_call (takes_of rfl rfl rfl rfl) (fun _ _ _ _ h => h)
  have hu1 : (cxOf (L2.CX P w) P w K mg base n_l_made "_law_made" (defScope s_l_made) f cdv A outer s H E).nox.A.units + 1 < cLine := by
    have := hr.un
    show (A.deeper _).units + 1 < cLine
    omega
  refine ⟨_, (pss_cons (ps_set (i := 1) sc_l_made.nd rfl (Or.inl rfl) (pe_lst pa_nil))
(pss_cons (ps_for (passes_of rfl) rfl (pi_list (pv 0)) (pg_name (i := 2) sc_l_made.nd rfl (Or.inl rfl))
(PSs.nox (pss_cons (ps_setLc (i := 3) (own := [("_law_use", 4)]) (g := (gName 4)) (tt := tYes) (te := tCall (spUb K U C) [] E0 (tCons (tVar 4) tNil)) rfl sc_l_made.nd rfl rfl (sw_true rfl rfl rfl (by decide +kernel)) (pi_list (pe_dget hu1 (pv 2) pe_str (fun _ _ => rfl))) (blkOk_by (N := n_l_made) (sc := defScope s_l_made) (by decide +kernel)) (fun _ _ _ _ _ => (pg_name (i := 4) sc_l_made.nd rfl (Or.inl rfl))) (fun _ _ _ _ _ => pts_nil) (fun _ _ _ _ _ => (pca cB hr (by decide) rfl (pa_cons (pv 4) pa_nil))))
(pss_one (ps_expr (pe_bm PySem.F.plainAttrs_list PySem.F.slot_list_append PySem.F.type_list_append mt_append (pv 1) (pa_cons (pe_make MP GP (hr.mono (by decide)) (by rfl) mP bP .nil pass0 (pa_cons (pca cLa hr (by decide) rfl (pa_cons (pe_ix ix_tup (pe_dget hu1 (pv 2) pe_str (fun _ _ => rfl)) pe_int (fun _ _ => rfl)) (pa_cons (pe_ix ix_tup (pe_dget hu1 (pv 2) pe_str (fun _ _ => rfl)) pe_int (fun _ _ => rfl)) pa_nil))) (pa_cons (pv 3) (pa_cons (pe_make MB GB (hr.mono (by decide)) (by rfl) mB bB .nil pass0 (pa_cons (pe_tup pa_nil) pa_nil)) pa_nil)))) pa_nil)))))))
(pss_cons (ps_if (pt_cmpR op_lt (pe_callB call_len_seq (by rfl) B.len PySem.boot_len (pa_cons (pv 1) pa_nil)) pe_int (nomark _))
(pss_one (ps_ret (pe_ifExp (pt_cmpR op_eq (pe_callB call_len_seq (by rfl) B.len PySem.boot_len (pa_cons (pv 1) pa_nil)) pe_int (nomark _)) (pe_makeR MF GF (hr.mono (by decide)) (by rfl) mF pX (pa_cons (pe_ix ix_list (pv 1) pe_int (fun _ _ => rfl)) pa_nil)) (pe_makeR MF GF (hr.mono (by decide)) (by rfl) mF pX (pa_cons (pe_ix ix_list (pv 1) pe_int (fun _ _ => rfl)) (pa_cons (pe_ix ix_list (pv 1) pe_int (fun _ _ => rfl)) pa_nil)))))) pss_nil)
(pss_cons (ps_if (pt_cmpR op_eq (pe_callB call_len_seq (by rfl) B.len PySem.boot_len (pa_cons (pv 1) pa_nil)) pe_int (nomark _))
(pss_one (ps_ret (pe_makeR MF GF (hr.mono (by decide)) (by rfl) mF pX (pa_cons (pe_ix ix_list (pv 1) pe_int (fun _ _ => rfl)) (pa_cons (pe_ix ix_list (pv 1) pe_int (fun _ _ => rfl)) (pa_cons (pe_ix ix_list (pv 1) pe_int (fun _ _ => rfl)) pa_nil)))))) pss_nil)
(pss_one (ps_ret (pe_makeR MF GF (hr.mono (by decide)) (by rfl) mF pX (pa_cons (pe_ix ix_list (pv 1) pe_int (fun _ _ => rfl)) (pa_cons (pe_ix ix_list (pv 1) pe_int (fun _ _ => rfl)) (pa_cons (pe_ix ix_list (pv 1) pe_int (fun _ _ => rfl)) (pa_cons (pe_ix ix_list (pv 1) pe_int (fun _ _ => rfl)) pa_nil))))))))))), ?_⟩
  refine ⟨(by show 0 ≤ sizeLine; decide), fun Bl hBl => ?_⟩
  have gB := same_new hBl (.lst [])
  refine ⟨_, rfl, a, rfl, ⟨_, gB.seq ha⟩, for_it (walk_list (K := K) (a := a) (xs := ps)) (fun i σ' H' => (∃ x2 x3 : Option V, σ' = [some (.ref a), some (.ref Bl), x2, x3, none]) ∧ Same H H' ∧ ∃ bs : List V, H' Bl = some (.lst bs) ∧ ProgsAt K PG U X C H' bs (gs.take i)) ⟨⟨_, _, rfl⟩, gB, [], upd_same, ⟨rfl, fun _ _ _ e => by cases e⟩⟩ (fun i σ' H' _ z => z.2.1.seq ha) (fun i x σ' H1 H1' hi z y => ?_) (fun σ' H' z => ?_)⟩
  · obtain ⟨rfl, hx⟩ := y
    obtain ⟨⟨x2, x3, rfl⟩, g1, bs, b1, b2⟩ := z
    have hi2 : i < gs.length := by rw [← hP.1]; exact hi
    have eg := List.getElem?_eq_getElem hi2
    have hgo := hok gs[i] (List.getElem_mem hi2)
    generalize gs[i] = g0 at eg hgo
    obtain ⟨d, T, tl, Ul, kvs, vs, rfl, c1, c2, c3, c4, c5, c6, c7⟩ := (hP.2 i x g0 hx eg).same g1
    have dgT : ∀ {H' : Hp}, Same H1' H' → DGet H' d (.str "target") (some (.ref T)) := fun g => by
      have z := DGet.k (k := (Sum.inr "target" : Key)) (g _ _ c1)
      rw [c2] at z
      exact z
    have dgU : ∀ {H' : Hp}, Same H1' H' → DGet H' d (.str "uses") (some (.ref Ul)) := fun g => by
      have z := DGet.k (k := (Sum.inr "uses" : Key)) (g _ _ c1)
      rw [c3] at z
      exact z
    have q3 := hgo.q3
    refine ⟨_, rfl, d, .ref Ul, rfl, dgU (Same.refl _), Ul, rfl, ⟨_, c6⟩, fun D hD => ?_⟩
    refine lc_list (K := K) (a := Ul) (xs := vs) (fun j H' => ∃ us : List V, H' D = some (.lst us) ∧ UsesAt K U C H' us (g0.qs.take j) ∧ Same H1' H') ⟨[], upd_same, ⟨rfl, fun _ _ _ e => by cases e⟩, same_new hD _⟩ (fun j H' _ ⟨_, _, _, g⟩ => g.seq c6) (fun j x H' hx2 ⟨us, w1, w2, w3⟩ => ⟨rfl, kept ?_⟩) ?_
    · have hj : j < g0.qs.length := by rw [← c7.1]; exact (List.getElem?_eq_some_iff.mp hx2).1
      have eq := List.getElem?_eq_getElem hj
      have hqj := hgo.us g0.qs[j] (List.getElem_mem hj)
      generalize g0.qs[j] = q0 at eq hqj
      obtain ⟨u, rfl, hu⟩ := c7.2 j x q0 hx2 eq
      refine ⟨_, rfl, u, q0.nm, q0.ls, q0.l, rfl, hu.mono (TK.of w3), hqj.good, hqj.l3, hqj.nd, fun p qf H2 g2 hp => ?_⟩
      have ul : us.length ≤ 4 := by rw [w2.1, List.length_take]; omega
      have w1' := g2 _ _ w1
      refine ⟨us, w1', small1000 (by omega), us ++ [.ref p], upd_same, ?_, same_over (w3.trans g2) hD _⟩
      rw [List.take_succ, eq]
      exact ((w2.same g2).ki (.lst w1')).snoc (q := q0) (hp.ki (.lst w1'))
    rintro H2 ⟨us, w1, w2, w3⟩
    rw [c7.1, List.take_length] at w2
    have us4 : us.length ≤ 4 := by rw [w2.1]; omega
    have b1' := w3 _ _ b1
    refine ⟨_, rfl, .inl ⟨rfl, _, SqL.of b1'⟩, ?_⟩
    refine ⟨_, rfl, d, .ref T, rfl, dgT w3, T, _, (0 : Int), .str g0.nm, rfl, rfl, seqT w3 c4, atI_nat (j := 0) rfl, _, rfl, d, .ref T, rfl, dgT w3, T, _, (1 : Int), .ref tl, rfl, rfl, seqT w3 c4, atI_nat (j := 1) rfl, ?_⟩
    refine ⟨g0.nm, g0.ls, tl, rfl, seqT w3 c5, hgo.l3, hgo.nd, fun pg H3 g3 hE => ?_⟩
    refine ⟨_, rfl, Nat.zero_le _, fun t0 ht0 => ?_⟩
    have gt0 := same_new ht0 (.tup [])
    intro xb dxb nb ndb neb
    have gnb := new_same (C := BL) nb ndb
    refine ⟨xb, dxb, t0, rfl, upd_same, seqT gnb (SqT.of upd_same), fun H4 k4 => ⟨rfl, ?_⟩⟩
    have g34 := gt0.trans (made_same nb ndb k4)
    intro xp dxp np ndp nep
    have gnp := new_same (C := PG) np ndp
    have g24 := g3.trans g34
    refine ⟨xp, dxp, pg, D, xb, g0.nm, g0.ls, us, g0.qs, rfl, upd_same, hE.same (g34.trans gnp), hgo.l3, SqL.of (gnp _ _ (g24 _ _ w1)), w2.same (g24.trans gnp), us4, (fun q hq => (hgo.us q hq).l3), fun H5 k5 hProg => ⟨rfl, ?_⟩⟩
    have g25 := g24.trans (made_same np ndp k5)
    have b15 := g25 _ _ b1'
    have bl : bs.length ≤ 4 := by rw [b2.1, List.length_take]; omega
    refine ⟨Bl, bs, _, rfl, rfl, b15, small1000 (by omega), ⟨_, _, rfl⟩, same_over ((g1.trans w3).trans g25) hBl _, bs ++ [.ref xp], upd_same, ?_⟩
    rw [List.take_succ, eg]
    exact (((b2.same w3).same g25).ki (.lst b15)).snoc (g := g0) (hProg.ki (.lst b15))
  · obtain ⟨⟨x2, x3, rfl⟩, g1, bs, b1, b2⟩ := z
    rw [hP.1, List.take_length] at b2
    have hg900 := gs_prs hok
    have hgl := gs_let hok
    have hgm := gs_mem hok
    -- the family of what was built
    have fam : ∀ (x dx : Addr), H' x = none → H' dx = none → dx ≠ x → spFini K FA PG U X C RC (.ref x :: bs) (upd (upd H' dx (.own x)) x (.ins FA dx [])) (fun u H2 => u = .non ∧ Q (.ref x) H2) E := fun x dx nx ndx ne => by
      have gn := new_same (C := FA) nx ndx
      refine ⟨x, dx, bs, gs, rfl, upd_same, b2.same gn, by omega, by omega, by omega, gs_uqf hok, fun d hd H2 k2 hF => ⟨rfl, ?_⟩, fun n hb => (ke n hb).from (g1.trans gn)⟩
      exact k d hd x H2 (g1.trans (made_same nx ndx k2)) hF
    have bl : bs.length = gs.length := b2.1
    have hB := SqL.of (K := K) b1
    refine ⟨_, rfl, Bl, _, rfl, .inl hB, _, _, rfl, rfl, _, rfl, ?_⟩
    by_cases c3 : (bs.length : Int) < 3
    · refine iteY (decide_eq_true c3) ?_
      refine ⟨_, rfl, Bl, _, rfl, .inl hB, rfl, _, rfl, ?_⟩
      by_cases c1 : bs.length = 1
      · obtain ⟨v0, rfl⟩ := List.length_eq_one_iff.mp c1
        refine iteY (by show decide (V.int 1 = V.int 1) = true; decide) ?_
        exact ⟨_, rfl, Bl, _, (0 : Int), v0, rfl, rfl, hB, atI_nat (j := 0) rfl, fam⟩
      · have c2 : bs.length = 2 := by omega
        obtain ⟨v0, v1, rfl⟩ : ∃ v0 v1, bs = [v0, v1] := by
          match bs, c2 with
          | [x, y], _ => exact ⟨x, y, rfl⟩
        refine iteNo (by show decide (V.int 2 = V.int 1) = false; decide) ?_
        exact ⟨_, rfl, Bl, _, (0 : Int), v0, rfl, rfl, hB, atI_nat (j := 0) rfl, _, rfl, Bl, _, (1 : Int), v1, rfl, rfl, hB, atI_nat (j := 1) rfl, fam⟩
    · refine iteNo (decide_eq_false c3) ?_
      refine ⟨_, rfl, Bl, _, rfl, .inl hB, rfl, _, rfl, ?_⟩
      by_cases c4 : bs.length = 3
      · obtain ⟨v0, v1, v2, rfl⟩ : ∃ v0 v1 v2, bs = [v0, v1, v2] := by
          match bs, c4 with
          | [x, y, z], _ => exact ⟨x, y, z, rfl⟩
        refine iteY (by show decide (V.int 3 = V.int 3) = true; decide) ?_
        exact ⟨_, rfl, Bl, _, (0 : Int), v0, rfl, rfl, hB, atI_nat (j := 0) rfl, _, rfl, Bl, _, (1 : Int), v1, rfl, rfl, hB, atI_nat (j := 1) rfl, _, rfl, Bl, _, (2 : Int), v2, rfl, rfl, hB, atI_nat (j := 2) rfl, fam⟩
      · have c5 : bs.length = 4 := by omega
        obtain ⟨v0, v1, v2, v3, rfl⟩ : ∃ v0 v1 v2 v3, bs = [v0, v1, v2, v3] := by
          match bs, c5 with
          | [x, y, z, u], _ => exact ⟨x, y, z, u, rfl⟩
        refine iteNo (by show decide (V.int 4 = V.int 3) = false; decide) ?_
        exact ⟨_, rfl, Bl, _, (0 : Int), v0, rfl, rfl, hB, atI_nat (j := 0) rfl, _, rfl, Bl, _, (1 : Int), v1, rfl, rfl, hB, atI_nat (j := 1) rfl, _, rfl, Bl, _, (2 : Int), v2, rfl, rfl, hB, atI_nat (j := 2) rfl, _, rfl, Bl, _, (3 : Int), v3, rfl, rfl, hB, atI_nat (j := 3) rfl, fam⟩
end
end Lw
namespace Lw
open PySem L2 TzR NsX NdX TL LamX
/-! _law_end -/
abbrev s_l_end : Stmt := topS 65
abbrev n_l_end : List Str := ["_law_deed", "_law_found", "_law_made_here", "e"]
theorem sc_l_end : FnScope n_l_end ["_law_deed"] (defScope s_l_end) := ⟨rfl, rfl, rfl, by decide +kernel, rfl, by decide +kernel, by decide +kernel⟩
structure EnE (K : PySem.W.Frag) (mg : Str → Option Value) (E1 WE : Addr) : Prop where
  m_1 : mg "RankClash" = some (.ref E1)
  m_w : mg "WalkError" = some (.ref WE)
  x1 : XfC K E1
  n1 : PySem.W.findIn K (.ref E1) "name" = some none
  m1 : PySem.W.exmOne K (.ref E1) (.ref E1) = some true
/-- what _law_end makes of its deed's reading -/
def EtE (E1 : Addr) (Q : VK) : XK := fun cls d H' => cls = .ref E1 ∧ ∃ (dd : Addr) (v : V), d = some dd ∧ H' dd = some (.xd [("name", v)]) ∧ ∀ t, H' t = none → Q (.ref t) (upd H' t (.tup [.str "RankClash", v]))
def tTold (K : PySem.W.Frag) : TE := tTup (tCons (tC (.str "told")) (tCons (tFld K (tVar 2) "members") (tCons (tFld K (tVar 2) "letters") (tCons (tFld K (tVar 2) "ranks") tNil))))
def QtE (K : PySem.W.Frag) (Q : VK) : VK := fun u H' => tTold K [none, none, some u, none] H' Q
theorem qt_told {K : PySem.W.Frag} {FA p dx r c tl tm : Addr} {Q : VK} {H : Hp} (T : Fy K FA) (hp : H p = some (.ins FA dx (fyF r c tl tm))) (h : ∀ t, H t = none → Q (.ref t) (upd H t (.tup [.str "told", .ref tm, .ref tl, .ref r]))) : QtE K Q (.ref p) H :=
  ⟨_, rfl, p, FA, dx, _, _, rfl, hp, T.cl, T.nM, rfl, _, rfl, p, FA, dx, _, _, rfl, hp, T.cl, T.nL, rfl, _, rfl, p, FA, dx, _, _, rfl, hp, T.cl, T.nR, rfl, (by show 4 ≤ sizeLine; decide), h⟩
def TTe (K : PySem.W.Frag) (E1 : Addr) : (XK → Hp → VK → Prop) → Hp → VK → Prop := fun tl H Q => ∀ H1, Same H H1 → tl (EtE E1 Q) H1 (QtE K Q)
section
variable {X : Cx} {E1 WE FA g : Addr} {cdg : Value} {q : Str}
theorem takes_len' {X : Cx} {W : WX} (t : Takes X W) : Takes X (fun cls d σ H => σ.length = X.N.length → W cls d σ H) := fun u s' ⟨a, B, sI, pins, σ, H, cls, d, e, I, nb, up, sky, na, os, ag, w⟩ =>
  t u s' ⟨a, B, sI, pins, σ, H, cls, d, e, I, nb, up, sky, na, os, ag, w I.len⟩
theorem end_gives (R : EnE X.K X.mg E1 WE) : GivesTo X n_l_end "_law_end" (defScope s_l_end) g cdg (defBody s_l_end) "_law_deed" q (TTe X.K E1) := by
  intro f c' s H Q tl act hc h
  refine ⟨_, pss_cons (ps_set (i := 1) sc_l_end.nd rfl (Or.inl rfl) (pe_tup (pa_cons pe_str pa_nil))) (pss_cons (ps_clauses (X := (cxOf C8.CX0 X.prog X.w X.K X.mg X.base n_l_end "_law_end" (defScope s_l_end) g cdg X.A X.stack s H C8.E0).nox)
      (l := [⟨.ref E1, some 3, fun a cls d D σ H => cls = .ref E1 ∧ σ[3]? = some (some (.ref a)) ∧ ∃ (dd : Addr) (v : V), d = some dd ∧ H dd = some (.xd [("name", v)]) ∧ ∀ t, H t = none → D.nx (σ.set 1 (some (.ref t))) (upd H t (.tup [.str "RankClash", v]))⟩,
        ⟨.ref WE, none, fun _ _ _ _ _ _ => False⟩])
      (tb := fun W D σ H => ∃ Ech : XK, (∀ cls d σ' H', σ'.length = 4 → Ech cls d H' → W cls d σ' H') ∧ σ.length = 4 ∧ σ[0]? = some (some (.ref f)) ∧ H c' = some (CodeO c' q) ∧ tl Ech H (fun u H' => tTold X.K (σ.set 2 (some u)) H' fun v H2 => D.nx ((σ.set 2 (some u)).set 1 (some v)) H2))
      rfl rfl L2.takes0 (fun W pn xe tk _ => ?_) ?_) (pss_one (ps_ret (pv 1)))), ?_⟩
  · refine ⟨fun pins s' σ H' D I h' => ?_⟩
    obtain ⟨Ech, hW, hlen, h1, h2, h3⟩ := h'
    refine (pss_cons (ps_set (i := 2) sc_l_end.nd rfl (Or.inl rfl) (act (fun cls d σ' H' => σ'.length = 4 → W cls d σ' H') pn xe Ech _ _ (takes_len' tk) (fun cls d σ' H' e l => hW cls d σ' H' l e)))
      (pss_one (ps_set (i := 1) sc_l_end.nd rfl (Or.inl rfl) (pe_tup (pa_cons pe_str (pa_cons (pe_fld (pv 2) rfl) (pa_cons (pe_fld (pv 2) rfl) (pa_cons (pe_fld (pv 2) rfl) pa_nil)))))))).run pins s' σ H' D I ?_
    exact ⟨h1, h2, h3⟩
  · refine .named sc_l_end.nd rfl rfl ⟨rfl, by decide, .inl R.m_1⟩ (fun a oe cls d pn hz hf => ?_) (.bare ⟨rfl, by decide, .inl R.m_w⟩ (fun a oe cls d pn hz hf => pss_never) .nil)
    refine ⟨fun pins s' σ H' D I h' => ?_⟩
    obtain ⟨rfl, h2, dd, v, rfl, h4, h5⟩ := h'
    refine (pss_one (ps_set (i := 1) (X := ((cxOf C8.CX0 X.prog X.w X.K X.mg X.base n_l_end "_law_end" (defScope s_l_end) g cdg X.A X.stack s H C8.E0).nox).suite a ((a, oe) :: pn)) sc_l_end.nd rfl (Or.inl rfl) (pe_tup (pa_cons pe_str (pa_cons (pe_xf R.x1 R.n1 hz hf (pv 3)) pa_nil))))).run pins s' σ H' D I ?_
    exact ⟨_, h2, rfl, rfl, dd, _, v, rfl, h4, rfl, (by show 2 ≤ sizeLine; decide), fun t ht => h5 t ht⟩
  · refine ⟨(by show 1 ≤ sizeLine; decide), fun t0 ht0 => ?_⟩
    have g0 := same_new ht0 (.tup [.str "other"])
    refine ⟨EtE E1 Q, fun cls d σ' H' hl hE => ?_, rfl, rfl, g0 _ _ hc, ?_⟩
    · match σ', hl with
      | [x0, x1, x2, x3], _ =>
        obtain ⟨rfl, dd, v, rfl, h4, h5⟩ := hE
        exact ⟨true, R.m1, fun _ a _ => ⟨rfl, rfl, dd, v, rfl, h4, fun t ht => ⟨_, rfl, h5 t ht⟩⟩, fun z => by cases z⟩
    · have h' : tl (EtE E1 Q) _ (QtE X.K Q) := h _ g0
      have eQ : ∀ u : V, (fun v H2 => ∃ w, ([some (V.ref f), some v, some u, none] : L2.St)[1]? = some (some w) ∧ Q w H2) = Q := fun u => funext fun v => funext fun H2 => propext ⟨fun ⟨_, e, h⟩ => by cases e; exact h, fun h => ⟨_, rfl, h⟩⟩
      refine Eq.mp (congrArg (tl (EtE E1 Q) _) (funext fun u => funext fun H' => ?_)) h'
      show tTold X.K [none, none, some u, none] H' Q = tTold X.K [none, none, some u, none] H' (fun v H2 => ∃ w, ([some (V.ref f), some v, some u, none] : L2.St)[1]? = some (some w) ∧ Q w H2)
      rw [eQ]
end
end Lw
namespace Lw
open PySem L2 TzR NsX NdX TL
/-- lists of letters, one per program, in a list -/
def LtsAt (H : Hp) (L r : Addr) (gs : List PQ) (ts : List (Addr × List Str)) : Prop := ∀ (j : Nat) (t : Addr × List Str), ts[j]? = some t → ∃ g, gs[j]? = some g ∧ H t.1 = some (.lst (t.2.map V.str)) ∧ t.1 ≠ L ∧ t.1 ≠ r ∧ t.2.Nodup ∧ ∀ z, z ∈ t.2 ↔ z ∈ letsP g
def ltsV (ts : List (Addr × List Str)) : List V := ts.map fun t => V.ref t.1
theorem LtsAt.same {H H' : Hp} {L r : Addr} {gs : List PQ} {ts : List (Addr × List Str)} (g : Same H H') (h : LtsAt H L r gs ts) : LtsAt H' L r gs ts := fun j t e => (h j t e).imp fun p z => ⟨z.1, g _ _ z.2.1, z.2.2⟩
theorem LtsAt.kp {H H' : Hp} {L r : Addr} {gs : List PQ} {ts : List (Addr × List Str)} (g : Kp r H H') (h : LtsAt H L r gs ts) : LtsAt H' L r gs ts := fun j t e => (h j t e).imp fun p z => ⟨z.1, g _ _ z.2.2.2.1 z.2.1, z.2.2⟩
theorem LtsAt.updL {H : Hp} {L r : Addr} {gs : List PQ} {ts : List (Addr × List Str)} {o : HO} (h : LtsAt H L r gs ts) : LtsAt (upd H L o) L r gs ts := fun j t e => (h j t e).imp fun p z => ⟨z.1, by rw [upd_ne z.2.2.1]; exact z.2.1, z.2.2⟩
theorem lts_iff : ∀ {ts : List (Addr × List Str)} {gs : List PQ}, ts.length = gs.length → (∀ g ∈ gs, GOk g) → (∀ (j : Nat) (t : Addr × List Str), ts[j]? = some t → ∃ g, gs[j]? = some g ∧ t.2.Nodup ∧ ∀ z, z ∈ t.2 ↔ z ∈ letsP g) → (ts.map (·.2)).flatten.length ≤ 12 * gs.length ∧ ∀ z, z ∈ (ts.map (·.2)).flatten ↔ z ∈ letsF gs
  | [], [], _, _, _ => ⟨Nat.le_refl _, fun z => Iff.rfl⟩
  | [], _ :: _, h, _, _ => by cases h
  | _ :: _, [], h, _, _ => by cases h
  | t :: ts, g :: gs, h, hg, q => by
    obtain ⟨g', e, nd, hm⟩ := q 0 t rfl
    cases e
    obtain ⟨a, b⟩ := lts_iff (Nat.succ.inj h) (fun x hx => hg x (List.mem_cons_of_mem _ hx)) fun j t' e => q (j + 1) t' e
    have l0 : t.2.length ≤ (letsP g).length := nd_len t.2 (letsP g) nd fun z hz => (hm z).mp hz
    have l1 := (hg g (List.mem_cons_self ..)).let
    unfold letsF at b ⊢
    rw [List.map_cons, List.flatten_cons, List.flatMap_cons, List.length_append, List.length_cons]
    refine ⟨by omega, fun z => ?_⟩
    rw [List.mem_append, List.mem_append, hm z, b z]
abbrev s_l_due : Stmt := topS 67
abbrev n_l_due : List Str := ["_law_programs", "_law_ranks", "_law_letters_here", "_law_p", "_law_name_here", "_law_own"]
theorem sc_l_due : FnScope n_l_due ["_law_programs"] (defScope s_l_due) := ⟨rfl, rfl, rfl, by decide +kernel, rfl, by decide +kernel, by decide +kernel⟩
def spDue (K : PySem.W.Frag) : Sp := fun vs H Q _ => ∃ (a : Addr) (ps : List V) (gs : List PQ), vs = [.ref a] ∧ SqL K H a ps ∧ LprsAt K H ps gs ∧ (∀ g ∈ gs, GOk g) ∧ gs.length ≤ 4 ∧ (∀ m ∈ memsF gs, OkMb m) ∧
  (∀ d, rkF (allP gs) = some d → ∀ (t tm tl r : Addr) (ns : List (Addr × Mb)) (us l : List Str) (H' : Hp), Same H H' → SqT K H' t [.str "told", .ref tm, .ref tl, .ref r] → SqT K H' tm (msV ns) → MsAt K H' mk ns → AscOk (memsF gs) (ns.map (·.2)) → SqT K H' tl (us.map V.str) → l.Nodup → (∀ z, z ∈ l ↔ z ∈ letsF gs) → us.Perm l → PyProof.Rows.sortedS us = true → H r = none → H' r = some (.dK d) → Q (.ref t) H') ∧
  (∀ n, rkBad (allP gs) n → ∀ (t : Addr) (H' : Hp), Same H H' → SqT K H' t [.str "RankClash", .str n] → Q (.ref t) H')
section
variable {P : Program} {w : World} {K : PySem.W.Frag} {mg : Str → Option Value} {base : Heap} {f : Addr} {fd : FuncData}
theorem ok_l_due (F : Fun K "_law_due" "_law_due" s_l_due f fd) (B : Bt mg) (cPo : Ca P w K mg base 1 "_law_pairs_of" ["_law_p"] (spPo K)) (cPl : Ca P w K mg base 2 "_law_program_letters" ["_law_p"] (spPl K)) (cMb : Ca P w K mg base 3 "_law_members" ["_law_programs"] (spLMs K)) (cG : Ca P w K mg base 1 "_law_merged" ["_law_lists"] (spMgL K)) : FnOk P w K mg base CX0 4 f fd ["_law_programs"] (spDue K) := by
  refine F.ok sc_l_due (fun vs H Q E h => ?_) (fun cdv A outer s H vs Q E hr h => ?_)
  · obtain ⟨a, ps, gs, rfl, _⟩ := h
    rfl
  obtain ⟨a, ps, gs, rfl, ha, hP, hok, h4, hmo, k, ke⟩ := h
  refine ⟨_, (pss_cons (ps_par (i := 1) (j := 2) rfl sc_l_due.nd rfl rfl (by decide) rfl rfl (pa_cons pe_dnewK (pa_cons (pe_lst pa_nil) pa_nil)) (by rfl))
(pss_cons (ps_for PassesOwn.never rfl (pi_list (pv 0)) (pg_name (i := 3) sc_l_due.nd rfl (Or.inl rfl))
(pss_cons (ps_for PassesOwn.never rfl (pi_list (pca cPo hr (by decide) rfl (pa_cons (pv 3) pa_nil))) (pg_tup rfl (pgs_cons (pg_name (i := 4) sc_l_due.nd rfl (Or.inl rfl)) (pgs_cons (pg_name (i := 5) sc_l_due.nd rfl (Or.inl rfl)) pgs_nil)))
(pss_one (ps_if (pt_cmpR op_ne (pe_dsetd (pv 1) (pv 4) (pe_callB call_len_seq (by rfl) B.len PySem.boot_len (pa_cons (pv 5) pa_nil)) ⟨by rfl, by rfl, by rfl, by rfl⟩) (pe_callB call_len_seq (by rfl) B.len PySem.boot_len (pa_cons (pv 5) pa_nil)) (nomark _))
(pss_one (ps_ret (pe_tup (pa_cons pe_str (pa_cons (pv 4) pa_nil))))) pss_nil)))
(pss_one (ps_expr (pe_bm PySem.F.plainAttrs_list PySem.F.slot_list_append PySem.F.type_list_append mt_append (pv 2) (pa_cons (pca cPl hr (by decide) rfl (pa_cons (pv 3) pa_nil)) pa_nil))))))
(pss_one (ps_ret (pe_tup (pa_cons pe_str (pa_cons (pe_callTy call_tuple_of (by rfl) B.tup (by decide +kernel) (pa_cons (pca cMb hr (by decide) rfl (pa_cons (pv 0) pa_nil)) pa_nil)) (pa_cons (pe_callTy call_tuple_of (by rfl) B.tup (by decide +kernel) (pa_cons (pca cG hr (by decide) rfl (pa_cons (pv 2) pa_nil)) pa_nil)) (pa_cons (pv 1) pa_nil))))))))), ?_⟩
  refine fun r hr0 => ⟨(by show 0 ≤ sizeLine; decide), fun L hL => ?_⟩
  have nLr : L ≠ r := fun e => by rw [e, upd_same] at hL; cases hL
  have g0 := (same_new hr0 (.dK [])).trans (same_new hL (.lst []))
  have hL0 : H L = none := (same_new hr0 (.dK [])).free hL
  refine ⟨_, _, rfl, _, rfl, a, rfl, ⟨_, g0.seq ha⟩, for_it (walk_list (K := K) (a := a) (xs := ps)) (fun i σ' H' => (∃ u v w : Option V, σ' = [some (.ref a), some (.ref r), some (.ref L), u, v, w]) ∧ Same H H' ∧ (∃ e, rkF (allP (gs.take i)) = some e ∧ H' r = some (.dK e)) ∧ ∃ ts, ts.length = i ∧ H' L = some (.lst (ltsV ts)) ∧ LtsAt H' L r gs ts) ⟨⟨_, _, _, rfl⟩, g0, ⟨[], rfl, by rw [upd_ne nLr.symm, upd_same]⟩, [], rfl, upd_same, fun j t e => by cases e⟩ (fun i σ' H' _ z => z.2.1.seq ha) (fun i x σ' H1 H1' hi z y => ?_) (fun σ' H' z => ?_)⟩
  · obtain ⟨rfl, hx⟩ := y
    obtain ⟨⟨u3, v3, w3, rfl⟩, g1, ⟨e, he, hd⟩, ts, tsl, tL, tA⟩ := z
    have hi2 : i < gs.length := by rw [← hP.1]; exact hi
    have eg := List.getElem?_eq_getElem hi2
    have hgo := hok gs[i] (List.getElem_mem hi2)
    generalize gs[i] = g0' at eg hgo
    have hLpr := (hP.2 i x g0' hx eg).same g1
    have eS := allP_succ eg
    obtain ⟨rest, er⟩ := allP_pre (gs := gs) (i := i + 1)
    rw [eS] at er
    have h900 : (allP gs).length ≤ 900 := by
      have := gs_prs hok
      omega
    have q3 := hgo.q3
    refine ⟨_, rfl, x, g0', rfl, hLpr, by omega, fun N ws H2 g2 hN0 hN hnl => ⟨N, rfl, ⟨_, SqL.of hN⟩, ?_⟩⟩
    have hd2 := g2 _ _ hd
    have tL2 := g2 _ _ tL
    have tA2 := tA.same g2
    have g12 := g1.trans g2
    have xl : ws.length = (pairsP g0').length := hnl.1
    have nNr : N ≠ r := fun e' => by rw [e', hd] at hN0; cases hN0
    refine for_it (walk_list (K := K) (a := N) (xs := ws)) (fun j σ' H' => (∃ v w : Option V, σ' = [some (.ref a), some (.ref r), some (.ref L), some x, v, w]) ∧ Same H H' ∧ Kp r H2 H' ∧ ∃ e', rkF (allP (gs.take i) ++ (pairsP g0').take j) = some e' ∧ H' r = some (.dK e')) ⟨⟨_, _, rfl⟩, g12, Kp.of (Same.refl _), e, by rw [List.take_zero, List.append_nil]; exact he, hd2⟩ (fun j σ' H' _ z => ?_) (fun j y σ' H4 H4' hj z yy => ?_) (fun σ' H' z => ?_)
    · exact SqL.of (z.2.2.1 N _ nNr hN)
    · obtain ⟨rfl, hy⟩ := yy
      obtain ⟨⟨v4, w4, rfl⟩, g4, k4, e', he', hd4⟩ := z
      rw [xl] at hj
      have eb := List.getElem?_eq_getElem hj
      generalize (pairsP g0')[j] = b at eb
      obtain ⟨pb, tb, rfl, b1, b2⟩ := PairAt.tk (kpK k4 hd2) (hnl.2 j y b hy eb)
      have ej : allP (gs.take i) ++ (pairsP g0').take (j + 1) = (allP (gs.take i) ++ (pairsP g0').take j) ++ [b] := by
        rw [List.take_succ, eb, List.append_assoc] <;> rfl
      have eP : (pairsP g0').take (j + 1) ++ (pairsP g0').drop (j + 1) = pairsP g0' := List.take_append_drop ..
      have hs : rkF (allP (gs.take i) ++ (pairsP g0').take (j + 1)) = rkStep (some e') b := by rw [ej, rk_snoc, he']
      have bad : rkStep (some e') b = none → rkBad (allP gs) b.1 := fun hz => by
        have tl : (allP (gs.take i) ++ (pairsP g0').take j).length = (allP (gs.take i)).length + j := by rw [List.length_append, List.length_take]; omega
        have eq2 : allP gs = (allP (gs.take i) ++ (pairsP g0').take (j + 1)) ++ ((pairsP g0').drop (j + 1) ++ rest) := by rw [er, List.append_assoc, List.append_assoc, ← List.append_assoc (List.take _ _), eP]
        have tl1 : (allP (gs.take i) ++ (pairsP g0').take (j + 1)).length = (allP (gs.take i)).length + j + 1 := by rw [ej, List.length_append, tl] <;> rfl
        refine ⟨(allP (gs.take i)).length + j, b, ?_, rfl, ⟨e', ?_⟩, ?_⟩
        · rw [eq2, List.getElem?_append_left (by omega), ej, List.getElem?_append_right (by omega), tl, Nat.sub_self] <;> rfl
        · rw [eq2, List.take_append_of_le_length (by omega), ej, List.take_append_of_le_length (by omega), ← tl, List.take_length]
          exact he'
        · rw [eq2, ← tl1, List.take_append_of_le_length (Nat.le_refl _), List.take_length, hs, hz]
      have el : e'.length ≤ 900 := by
        refine Nat.le_trans (rk_len he') ?_
        rw [er, List.length_append, List.length_append] at h900
        rw [List.length_append, List.length_take]
        omega
      have hbl : ((b.2.map V.str).length : Int) = ((b.2.length : Nat) : Int) := by rw [List.length_map]
      refine ⟨pb, _, rfl, b1, rfl, _, _, rfl, _, _, rfl, rfl, ?_⟩
      refine ⟨_, rfl, r, rfl, .inl ⟨_, .of hd4⟩, _, rfl, _, rfl, tb, _, rfl, .inr b2, e', Sum.inr b.1, hd4, rfl, small1000 (by omega), fun v hv => ?_, fun hn => ?_⟩
      · obtain ⟨n, rfl⟩ := rkd_at (rk_d he') hv
        refine ⟨_, rfl, tb, _, rfl, .inr b2, ?_⟩
        rw [hbl]
        by_cases c : (V.int (n : Int)) = .int (b.2.length : Nat)
        · have hs2 : rkStep (some e') b = some e' := by
            unfold rkStep
            rw [Option.bind_some, hv]
            exact if_pos c
          rw [c]
          exact ⟨rfl, _, rfl, iteNo (same_ne _) ⟨⟨_, _, rfl⟩, g4, k4, e', by rw [hs, hs2], hd4⟩⟩
        · have hs2 : rkStep (some e') b = none := by
            unfold rkStep
            rw [Option.bind_some, hv]
            exact if_neg c
          refine ⟨rfl, _, rfl, iteY (ne_t c) ?_⟩
          exact ⟨_, rfl, (by show 2 ≤ sizeLine; decide), fun t ht => ke b.1 (bad hs2) t _ (g4.trans (same_new ht _)) (SqT.of upd_same)⟩
      · have hs2 : rkStep (some e') b = some (putK e' (Sum.inr b.1 : Key) (.int (b.2.length : Nat))) := by
          unfold rkStep
          rw [Option.bind_some, hn]
        rw [hbl]
        have k5 : Kp r H4' (upd H4' r (.dK (putK e' (Sum.inr b.1 : Key) (.int (b.2.length : Nat))))) := kpPut
        refine ⟨_, rfl, tb, _, rfl, .inr (kpK k5 hd4 _ _ b2), ?_⟩
        rw [hbl]
        exact ⟨rfl, _, rfl, iteNo (same_ne _) ⟨⟨_, _, rfl⟩, same_over g4 hr0 _, k4.trans k5, _, by rw [hs, hs2], upd_same⟩⟩
    · obtain ⟨⟨v4, w4, rfl⟩, g4, k4, e', he', hd4⟩ := z
      rw [xl, List.take_length] at he'
      have tL4 := k4 _ _ nLr tL2
      have tA4 := tA2.kp k4
      refine ⟨_, rfl, .inl ⟨rfl, _, SqL.of tL4⟩, ?_⟩
      have hl12 := hgo.let
      refine ⟨_, rfl, x, g0', rfl, (hP.2 i x g0' hx eg).same g4, hgo.nd, (fun q hq => (hgo.us q hq).nd), by omega, by omega, fun lp us H5 g5 hlp0 hlp hus hum => ?_⟩
      have tL5 := g5 _ _ tL4
      have nlL : lp ≠ L := fun e' => by rw [e', tL4] at hlp0; cases hlp0
      have nlr : lp ≠ r := fun e' => by rw [e', hd4] at hlp0; cases hlp0
      refine ⟨L, ltsV ts, _, rfl, rfl, tL5, small1000 (by unfold ltsV; rw [List.length_map]; omega), ⟨_, _, _, rfl⟩, same_over (g4.trans g5) hL0 _, ⟨e', by rw [eS]; exact he', by rw [upd_ne nLr.symm]; exact g5 _ _ hd4⟩, ts ++ [(lp, us)], by rw [List.length_append, tsl] <;> rfl, by rw [upd_same]; unfold ltsV; rw [List.map_append] <;> rfl, ?_⟩
      intro j t et
      by_cases c : j < ts.length
      · rw [List.getElem?_append_left c] at et
        exact (tA4.same g5).updL j t et
      · have ej : j = i := by
          have z := (List.getElem?_eq_some_iff.mp et).1
          rw [List.length_append, List.length_singleton] at z
          omega
        subst ej
        rw [List.getElem?_append_right (by omega), tsl, Nat.sub_self] at et
        cases et
        exact ⟨g0', eg, by show upd H5 L _ lp = _; rw [upd_ne nlL]; exact hlp, nlL, nlr, hus, hum⟩
  · obtain ⟨⟨u3, v3, w3, rfl⟩, g1, ⟨e, he, hd⟩, ts, tsl, tL, tA⟩ := z
    rw [hP.1, List.take_length] at he
    rw [hP.1] at tsl
    obtain ⟨fl, fm⟩ := lts_iff tsl hok fun j t et => (tA j t et).imp fun g z => ⟨z.1, z.2.2.2.2.1, z.2.2.2.2.2⟩
    have hgm := gs_mem hok
    refine ⟨_, rfl, a, ps, gs.map (·.qs), rfl, g1.seq ha, (hP.same g1).lps, by rw [memsL_gs]; omega, (fun qs hqs q hq => ?_), (fun m hm => by rw [memsL_gs] at hm; exact hmo m hm), fun D ns H2 g2 _ hD hms hasc => ?_⟩
    · obtain ⟨g, hg, rfl⟩ := List.mem_map.mp hqs
      exact gs_uqf hok g hg q hq
    rw [memsL_gs] at hasc
    refine ⟨D, _, rfl, .inl ⟨SqL.of hD, fun tm htm => ?_⟩⟩
    have gm := same_new htm (.tup (msV ns))
    have tL3 := gm _ _ (g2 _ _ tL)
    have tA3 := (tA.same g2).same gm
    have hd3 := gm _ _ (g2 _ _ hd)
    have g13 := (g1.trans g2).trans gm
    have hms3 := hms.same gm
    have htm3 : SqT K (upd H2 tm (.tup (msV ns))) tm (msV ns) := SqT.of upd_same
    generalize upd H2 tm (.tup (msV ns)) = H3 at tL3 tA3 hd3 g13 hms3 htm3 ⊢
    refine ⟨_, rfl, L, ltsV ts, ts.map (·.2), rfl, SqL.of tL3, by unfold ltsV; rw [List.length_map, List.length_map], (fun j v ev => ?_), by omega, fun rr us l H4 g4 _ hrr hl hlm hpm hsrt => ?_⟩
    · obtain ⟨t, et, rfl⟩ := at_map ev
      obtain ⟨g, _, ht, _, _, hnd, _⟩ := tA3 j t et
      exact ⟨t.1, t.2, rfl, by rw [List.getElem?_map, et] <;> rfl, SqL.of ht, hnd⟩
    refine ⟨rr, _, rfl, .inl ⟨SqL.of hrr, fun tl htl => ?_⟩⟩
    have gl := same_new htl (.tup (us.map V.str))
    refine ⟨_, rfl, (by show 4 ≤ sizeLine; decide), fun t ht => ?_⟩
    have gt := same_new ht (.tup [.str "told", .ref tm, .ref tl, .ref r])
    have g34 := (g4.trans gl).trans gt
    exact k e he t tm tl r ns us l _ (g13.trans g34) (SqT.of upd_same) (seqT g34 htm3) (hms3.same g34) hasc (seqT gt (SqT.of upd_same)) hl (fun z => (hlm z).trans (fm z)) hpm hsrt hr0 (g34 _ _ hd3)
end
end Lw
namespace Lw
open PySem L2 TzR NsX NdX TL LamX
/-! names and letters as the law draws them -/
theorem low_ok {z : Str} (h : Tt.LowS z) : PyData.strOk z = true := by
  unfold PyData.strOk
  rw [← Array.all_toList, List.all_eq_true]
  intro c hc
  have := h c hc
  exact decide_eq_true (by omega)
theorem abc_strOk : ∀ z ∈ Tt.abcL, PyData.strOk z = true := by decide +kernel
structure NOk (q : UQ) : Prop where
  ok : UOk q
  abc : ∀ z ∈ q.ls, z ∈ Tt.abcL
  nmo : Tt.okNm q.nm
structure POk (g : PQ) : Prop where
  l3 : g.ls.length ≤ 3
  nd : g.ls.Nodup
  q3 : g.qs.length ≤ 3
  us : ∀ q ∈ g.qs, NOk q
theorem POk.gok {g : PQ} (h : POk g) : GOk g := ⟨h.l3, h.nd, h.q3, fun q hq => (h.us q hq).ok⟩
theorem NOk.okm {q : UQ} (h : NOk q) : ∀ m ∈ memQ q, OkMb m ∧ m.2.length ≤ 10 := fun m hm => by
  unfold memQ memU at hm
  obtain ⟨d, hd, rfl⟩ := List.mem_map.mp hm
  refine ⟨⟨low_ok h.nmo.1, fun p hp => ?_⟩, ?_⟩
  · unfold prsOf at hp
    have hp := (srtF_perm _ _).mem_iff.mp hp
    obtain ⟨i, hi, rfl⟩ := List.mem_map.mp hp
    obtain ⟨i0, i1⟩ := h.ok.rng i (List.mem_of_mem_take hi)
    have lt : i.toNat < q.ls.length := by omega
    refine abc_strOk _ (h.abc _ ?_)
    show q.ls.getD i.toNat Str.empty ∈ q.ls
    rw [List.getD_eq_getElem?_getD, List.getElem?_eq_getElem lt]
    exact List.getElem_mem lt
  · have z := prs_len (ls := q.ls) (is := q.l.map (·.2)) (d := d)
    rw [List.length_map, h.ok.good.1] at z
    have := h.ok.l3
    show (prsOf q.ls (q.l.map (·.2)) d).length ≤ 10
    omega
theorem gs_okm {gs : List PQ} (h : ∀ g ∈ gs, POk g) : ∀ m ∈ memsF gs, OkMb m ∧ m.2.length ≤ 10 := fun m hm => by
  obtain ⟨g, hg, hm⟩ := List.mem_flatMap.mp hm
  obtain ⟨q, hq, hm⟩ := List.mem_flatMap.mp hm
  exact ((h g hg).us q hq).okm m hm
/-! the same, told twice -/
section
variable {K : PySem.W.Frag}
theorem sm_pr {H : Hp} {n : Nat} {p : Pr} {v w : V} (h : NkV K H (pk p) v) (h' : NkV K H (pk p) w) : Sm K H (n + 2) v w := by
  obtain ⟨a, rfl, ha⟩ := at_pr h
  obtain ⟨b, rfl, hb⟩ := at_pr h'
  exact Sm.tup ha hb (by show 2 ≤ 1000; decide) (.cons (Sm.int _) (.cons (Sm.str _) .nil))
theorem sm_mb {H : Hp} {n : Nat} {m : Mb} {v w : V} (hm : m.2.length ≤ 10) (h : NkV K H (mk m) v) (h' : NkV K H (mk m) w) : Sm K H (n + 4) v w := by
  obtain ⟨a, b, us, rfl, ha, hb, hu⟩ := at_mb h
  obtain ⟨a', b', us', rfl, ha', hb', hu'⟩ := at_mb h'
  have l1 := nkAll_len hu
  have l2 := nkAll_len hu'
  rw [List.length_map] at l1 l2
  refine Sm.tup ha ha' (by show 2 ≤ 1000; decide) (.cons (Sm.str _) (.cons (Sm.tup hb hb' (by omega) ⟨by omega, fun i x y e1 e2 => ?_⟩) .nil))
  have hi : i < m.2.length := by
    have := (List.getElem?_eq_some_iff.mp e1).1
    omega
  have ep : (m.2.map pk)[i]? = some (pk m.2[i]) := by rw [List.getElem?_map, List.getElem?_eq_getElem hi] <;> rfl
  exact sm_pr (nkAll_get hu e1 ep) (nkAll_get hu' e2 ep)
theorem sm_mems {H : Hp} {n : Nat} {ns ns' : List (Addr × Mb)} (h : MsAt K H mk ns) (h' : MsAt K H mk ns') (e : ns.map (·.2) = ns'.map (·.2)) (hm : ∀ m ∈ ns.map (·.2), m.2.length ≤ 10) : SmAll K H (n + 4) (msV ns) (msV ns') := by
  have el := congrArg List.length e
  rw [List.length_map, List.length_map] at el
  refine ⟨by rw [ms_len (H := H), ms_len (H := H), el], fun i x y e1 e2 => ?_⟩
  obtain ⟨b, eb, rfl⟩ := at_map e1
  obtain ⟨c, ec, rfl⟩ := at_map e2
  have ebc : b.2 = c.2 := by
    have z1 : (ns.map (·.2))[i]? = some b.2 := by rw [List.getElem?_map, eb] <;> rfl
    have z2 : (ns'.map (·.2))[i]? = some c.2 := by rw [List.getElem?_map, ec] <;> rfl
    rw [e, z2] at z1
    exact (Option.some.inj z1).symm
  have hb := h b (List.mem_of_getElem? eb)
  have hc := h' c (List.mem_of_getElem? ec)
  rw [← ebc] at hc
  exact sm_mb (hm _ (List.mem_map.mpr ⟨b, List.mem_of_getElem? eb, rfl⟩)) hb hc
theorem sm_strs {H : Hp} {n : Nat} (ls : List Str) : SmAll K H (n + 1) (ls.map V.str) (ls.map V.str) := ⟨rfl, fun i x y e1 e2 => by
  rw [e1] at e2
  cases e2
  obtain ⟨z, _, rfl⟩ := at_map e1
  exact Sm.str z⟩
theorem sm_told {H : Hp} {t tm tl r t' tm' tl' r' : Addr} {ns ns' : List (Addr × Mb)} {us : List Str} {d : DK}
    (h1 : SqT K H t [.str "told", .ref tm, .ref tl, .ref r]) (h1' : SqT K H t' [.str "told", .ref tm', .ref tl', .ref r']) (h2 : SqT K H tm (msV ns)) (h2' : SqT K H tm' (msV ns')) (h3 : MsAt K H mk ns) (h3' : MsAt K H mk ns') (e : ns.map (·.2) = ns'.map (·.2)) (hm : ∀ m ∈ ns.map (·.2), m.2.length ≤ 10) (hl : ns.length ≤ 1000)
    (h4 : SqT K H tl (us.map V.str)) (h4' : SqT K H tl' (us.map V.str)) (ul : us.length ≤ 1000) (ne : r ≠ r') (h5 : H r = some (.dK d)) (h5' : H r' = some (.dK d)) (hd : RkD d) (dl : d.length ≤ 1000) : Sm K H 6 (.ref t) (.ref t') :=
  Sm.tup h1 h1' (by show 4 ≤ 1000; decide) (.cons (Sm.str _) (.cons (Sm.tup h2 h2' (by rw [ms_len (H := H)]; exact hl) (sm_mems h3 h3' e hm)) (.cons (Sm.tup h4 h4' (by rw [List.length_map]; exact ul) (sm_strs us)) (.cons (.inr (.inr (.inr (.inr (.inr ⟨r, r', d, rfl, rfl, ne, h5, h5', dl, by decide, fun kv hk => ⟨(hd kv hk).1, (hd kv hk).2.elim fun n hn => ⟨n, hn⟩⟩⟩))))) .nil))))
theorem sm_clash {H : Hp} {t t' : Addr} {n : Str} (h1 : SqT K H t [.str "RankClash", .str n]) (h1' : SqT K H t' [.str "RankClash", .str n]) : Sm K H 6 (.ref t) (.ref t') :=
  Sm.tup h1 h1' (by show 2 ≤ 1000; decide) (.cons (Sm.str _) (.cons (Sm.str _) .nil))
/-! what stands while all but tables stays -/
theorem TK.en {H H' : Hp} (g : ExtN H H') : TK K H H' := fun b xs q => by
  rcases q with (q | ⟨o, q⟩) | q
  · exact .inl (.inl (g _ _ q (by intro z e; cases e)))
  · exact .inl (.inr ⟨o, g _ _ q (by intro z e; cases e)⟩)
  · exact .inr q
theorem SqL.en {H H' : Hp} {a : Addr} {xs : List V} (g : ExtN H H') (q : SqL K H a xs) : SqL K H' a xs := by
  rcases q with (q | ⟨o, q⟩) | q
  · exact .inl (.inl (g _ _ q (by intro z e; cases e)))
  · exact .inl (.inr ⟨o, g _ _ q (by intro z e; cases e)⟩)
  · exact .inr q
theorem Spr.en {H H' : Hp} {st q : Addr} {b : Int} (g : ExtN H H') : Spr H st q b → Spr H' st q b
  | ⟨ns, a, c, h1, h2, r⟩ => ⟨ns, a, c, g _ _ h1 (by intro z e; cases e), g _ _ h2 (by intro z e; cases e), r⟩
theorem LprAt.en {H H' : Hp} {v : V} {p : PQ} (g : ExtN H H') : LprAt K H v p → LprAt K H' v p
  | ⟨d, T, tl, Ul, kvs, vs, h1, h2, h3, h4, h5, h6, h7, h8⟩ => ⟨d, T, tl, Ul, kvs, vs, h1, g _ _ h2 (by intro z e; cases e), h3, h4, TK.en g _ _ h5, TK.en g _ _ h6, SqL.en g h7, h8.mono (TK.en g)⟩
theorem LprsAt.en {H H' : Hp} {vs : List V} {gs : List PQ} (g : ExtN H H') (h : LprsAt K H vs gs) : LprsAt K H' vs gs := ⟨h.1, fun i v p e1 e2 => (h.2 i v p e1 e2).en g⟩
theorem tabs_ki {T : List (Addr × Str)} {H H' : Hp} (g : Ey.KI H H') (t : Tabs T H) : Tabs T H' := fun q hq => by
  obtain ⟨ps, e1, e2, e3⟩ := t q hq
  refine ⟨ps, g _ _ (fun xs z => by cases z) e1, e2, fun pos cv hc => ?_⟩
  obtain ⟨c', e4, e5⟩ := e3 pos cv hc
  exact ⟨c', e4, g _ _ (fun xs z => by unfold CodeO at z; cases z) e5⟩
theorem ki_sx {H H' : Hp} {st q : Addr} {b : Int} (s : Spr H st q b) (g : SX st q H H') : Ey.KI H H' := by
  obtain ⟨ns, a, c, h1, h2, _⟩ := s
  exact fun t o no h => g _ _ (fun e => by rw [e, h1] at h; exact no _ (Option.some.inj h).symm) (fun e => by rw [e, h2] at h; exact no _ (Option.some.inj h).symm) h
theorem tabs_dk {T : List (Addr × Str)} {H : Hp} {D : Addr} {kvs kvs' : DK} (hD : H D = some (.dK kvs)) (t : Tabs T H) : Tabs T (upd H D (.dK kvs')) := fun q hq => by
  obtain ⟨ps, e1, e2, e3⟩ := t q hq
  refine ⟨ps, by rw [upd_ne (fun e => by rw [e, hD] at e1; cases e1)]; exact e1, e2, fun pos cv hc => ?_⟩
  obtain ⟨c', e4, e5⟩ := e3 pos cv hc
  exact ⟨c', e4, by rw [upd_ne (fun e => by rw [e, hD] at e5; unfold CodeO at e5; cases e5)]; exact e5⟩
/-! the law's programs while it draws -/
def LpO (K : PySem.W.Frag) (H : Hp) (st q M : Addr) (v : V) (g : PQ) : Prop := ∃ (d T tl Ul : Addr) (kvs : DK) (vs : List V), v = .ref d ∧ H d = some (.dK kvs) ∧ valV kvs (Sum.inr "target" : Key) = some (.ref T) ∧ valV kvs (Sum.inr "uses" : Key) = some (.ref Ul) ∧ SqT K H T [.str g.nm, .ref tl] ∧ SqT K H tl (g.ls.map V.str) ∧ H Ul = some (.lst vs) ∧ LusAt K H vs g.qs ∧ Ul ≠ st ∧ Ul ≠ q ∧ Ul ≠ M
def LpsO (K : PySem.W.Frag) (H : Hp) (st q M : Addr) (vs : List V) (gs : List PQ) : Prop := vs.length = gs.length ∧ ∀ (i : Nat) (v : V) (g : PQ), vs[i]? = some v → gs[i]? = some g → LpO K H st q M v g
theorem LpO.sx {H H' : Hp} {st q M : Addr} {v : V} {p : PQ} {b : Int} (s : Spr H st q b) (g : SX st q H H') : LpO K H st q M v p → LpO K H' st q M v p
  | ⟨d, T, tl, Ul, kvs, vs, h1, h2, h3, h4, h5, h6, h7, h8, n1, n2, n3⟩ => ⟨d, T, tl, Ul, kvs, vs, h1, ki_sx s g _ _ (fun _ e => by cases e) h2, h3, h4, TK.sx s g _ _ h5, TK.sx s g _ _ h6, g _ _ n1 n2 h7, h8.mono (TK.sx s g), n1, n2, n3⟩
theorem LpO.same {H H' : Hp} {st q M : Addr} {v : V} {p : PQ} (g : Same H H') : LpO K H st q M v p → LpO K H' st q M v p
  | ⟨d, T, tl, Ul, kvs, vs, h1, h2, h3, h4, h5, h6, h7, h8, n1, n2, n3⟩ => ⟨d, T, tl, Ul, kvs, vs, h1, g _ _ h2, h3, h4, seqT g h5, seqT g h6, g _ _ h7, h8.mono (TK.of g), n1, n2, n3⟩
theorem LpO.updM {H : Hp} {st q M : Addr} {v : V} {p : PQ} {xs ys : List V} (hM : H M = some (.lst xs)) : LpO K H st q M v p → LpO K (upd H M (.lst ys)) st q M v p
  | ⟨d, T, tl, Ul, kvs, vs, h1, h2, h3, h4, h5, h6, h7, h8, n1, n2, n3⟩ => ⟨d, T, tl, Ul, kvs, vs, h1, by rw [upd_ne (fun e => by rw [e, hM] at h2; cases h2)]; exact h2, h3, h4, TK.lst hM _ _ h5, TK.lst hM _ _ h6, by rw [upd_ne n3]; exact h7, h8.mono (TK.lst hM), n1, n2, n3⟩
theorem LpO.lpr {H : Hp} {st q M : Addr} {v : V} {p : PQ} : LpO K H st q M v p → LprAt K H v p
  | ⟨d, T, tl, Ul, kvs, vs, h1, h2, h3, h4, h5, h6, h7, h8, n1, n2, n3⟩ => ⟨d, T, tl, Ul, kvs, vs, h1, h2, h3, h4, h5, h6, SqL.of h7, h8⟩
theorem LpsO.sx {H H' : Hp} {st q M : Addr} {vs : List V} {gs : List PQ} {b : Int} (s : Spr H st q b) (g : SX st q H H') (h : LpsO K H st q M vs gs) : LpsO K H' st q M vs gs := ⟨h.1, fun i v p e1 e2 => (h.2 i v p e1 e2).sx s g⟩
theorem LpsO.same {H H' : Hp} {st q M : Addr} {vs : List V} {gs : List PQ} (g : Same H H') (h : LpsO K H st q M vs gs) : LpsO K H' st q M vs gs := ⟨h.1, fun i v p e1 e2 => (h.2 i v p e1 e2).same g⟩
theorem LpsO.updM {H : Hp} {st q M : Addr} {vs : List V} {gs : List PQ} {xs ys : List V} (hM : H M = some (.lst xs)) (h : LpsO K H st q M vs gs) : LpsO K (upd H M (.lst ys)) st q M vs gs := ⟨h.1, fun i v p e1 e2 => (h.2 i v p e1 e2).updM hM⟩
theorem LpsO.snoc {H : Hp} {st q M : Addr} {vs : List V} {gs : List PQ} {v : V} {p : PQ} (h : LpsO K H st q M vs gs) (hv : LpO K H st q M v p) : LpsO K H st q M (vs ++ [v]) (gs ++ [p]) :=
  ⟨by rw [List.length_append, List.length_append, h.1] <;> rfl, snoc2 (R := fun _ v p => LpO K H st q M v p) h.1 h.2 hv⟩
theorem LpsO.lprs {H : Hp} {st q M : Addr} {vs : List V} {gs : List PQ} (h : LpsO K H st q M vs gs) : LprsAt K H vs gs := ⟨h.1, fun i v p e1 e2 => (h.2 i v p e1 e2).lpr⟩
theorem LprsAt.take {H : Hp} {vs : List V} {gs : List PQ} (n : Nat) (h : LprsAt K H vs gs) : LprsAt K H (vs.take n) (gs.take n) :=
  ⟨by rw [List.length_take, List.length_take, h.1], fun i v q e1 e2 => by
    rw [List.getElem?_take] at e1 e2
    split at e1
    · rename_i c
      rw [if_pos c] at e2
      exact h.2 i v q e1 e2
    · cases e1⟩
theorem LusAt.snoc {H : Hp} {vs : List V} {qs : List UQ} {u : Addr} {q : UQ} (h : LusAt K H vs qs) (hu : LuAt K H u q.nm q.ls q.l) : LusAt K H (vs ++ [.ref u]) (qs ++ [q]) :=
  ⟨by rw [List.length_append, List.length_append, h.1] <;> rfl, snoc2 (R := fun _ v q => ∃ u, v = .ref u ∧ LuAt K H u q.nm q.ls q.l) h.1 h.2 ⟨u, rfl, hu⟩⟩
end
end Lw
namespace Lw
open PySem L2 TzR NsX NdX TL LamX
abbrev s_law : Stmt := topS 68
abbrev n_law : List Str := ["_law_script", "_law_stream", "_law_turn", "_law_letters_here", "_law_names_here", "_law_ranks", "_law_programs", "_law_name_here", "_law_k", "_law_uses", "_law_j", "_law_rank", "_law_goal", "_law_target"]
theorem sc_law : FnScope n_law ["_law_script"] (defScope s_law) := ⟨rfl, rfl, rfl, by decide +kernel, rfl, by decide +kernel, by decide +kernel⟩
def qLam : Str := "law.<locals>." ++ "<lambda>"
def spLaw (K : PySem.W.Frag) (P0 : Addr) : Sp := fun vs H Q _ => ∃ (a : Addr) (ns : List Int), vs = [.ref a] ∧ SqL K H a (ns.map V.int) ∧ ns.length ≤ 63 ∧ H P0 = some (.tbl #[]) ∧ ∀ H', Q (.bl true) H'
section
variable {P : Program} {w : World} {K : PySem.W.Frag} {mg : Str → Option Value} {base : Heap} {FA RC WE fMd fL c P0 fRf : Addr} {dMd : FuncData}
theorem ok_law {oc od kV doc pm an ct osl} (lkL : K.lookup fL = some ⟨oc, od, .func (PySem.W.fnOf "law" "law" (defArgs s_law) (defBody s_law) (defScope s_law) .none kV doc pm an (.ref c) ct), osl⟩) (hcL : PySem.W.codeIn K (.ref c) "law" = true)
    (B : Bt mg) (B2 : Bx mg) (R : EnE K mg RC WE) (Fc : Fy K FA)
    (cS : Ca P w K mg base 1 "_law_start" ["_law_script"] (spStart K)) (cD : Ca P w K mg base 1 "_law_draw" ["_law_stream", "_law_many"] spDraw) (cP : Ca P w K mg base 2 "_law_pick" ["_law_stream", "_law_some"] (spPick K))
    (cL : Ca P w K mg base 2 "_law_letters" ["_law_stream", "_law_many"] Tt.spLet) (cM : Ca P w K mg base 2 "_law_mixed" ["_law_stream", "_law_some"] Tt.spMixed) (cN : Ca P w K mg base 4 "_law_names" ["_law_stream", "_law_many"] Tt.spNames)
    (cF : Ca P w K mg base 3 "_law_form" ["_law_stream", "_law_rank"] (spForm K)) (cMb : Ca P w K mg base 3 "_law_members" ["_law_programs"] (spLMs K)) (cE : Ca P w K mg base 6 "_law_same" ["_law_found", "_law_due_here"] (spSame K 6)) (cDu : Ca P w K mg base 4 "_law_due" ["_law_programs"] (spDue K))
    (GMd : FnOk P w K mg base (L2.CX P w) 8 fMd dMd ["_law_programs"] (spMade K FA RC)) (bMd : Binds K dMd ["_law_programs"] []) (kMd : PySem.W.keepIn K (.ref fMd) = true) (mMd : mg "_law_made" = some (.ref fMd))
    {oc' od' kV' doc' pm' an' cd' ct' osl'} (lkR : K.lookup fRf = some ⟨oc', od', .func (PySem.W.fnOf "_law_end" "_law_end" (defArgs s_l_end) (defBody s_l_end) (defScope s_l_end) .none kV' doc' pm' an' cd' ct'), osl'⟩) (hcR : PySem.W.codeIn K cd' "_law_end" = true)
    (bRf : Binds K (PySem.W.fnOf "_law_end" "_law_end" (defArgs s_l_end) (defBody s_l_end) (defScope s_l_end) .none kV' doc' pm' an' cd' ct') ["_law_deed"] []) (kRf : PySem.W.keepIn K (.ref fRf) = true) (mRf : mg "_law_end" = some (.ref fRf))
    (TB : TabB base mg c P0) :
    FnOk P w K mg base CX0 12 fL (PySem.W.fnOf "law" "law" (defArgs s_law) (defBody s_law) (defScope s_law) .none kV doc pm an (.ref c) ct) ["_law_script"] (spLaw K P0) := by
  refine fn_of lkL hcL sc_law (fun vs H Q E h => ?_) fun A outer s H vs Q E hr h => ?_
  · obtain ⟨a, ns, rfl, _⟩ := h
    rfl
  have hu1 : (cxOf CX0 P w K mg base n_law "law" (defScope s_law) fL (.ref c) A outer s H E).nox.A.units + 1 < cLine := by
    have := hr.un
    show (A.deeper _).units + 1 < cLine
    omega
  have fin : ∃ t, PSs (cxOf CX0 P w K mg base n_law "law" (defScope s_law) fL (.ref c) A outer s H E).nox (defBody s_law) t ∧ t { nx := fun _ H' => Q .non H', rt := Q } (start n_law vs) H := by
    obtain ⟨a, ns, rfl, hS, hn, hP0, k⟩ := h
    refine ⟨_, (pss_cons (ps_set (i := 1) sc_law.nd rfl (Or.inl rfl) (pca cS hr (by decide) rfl (pa_cons (pv 0) pa_nil)))
(pss_cons (ps_for PassesOwn.never rfl (pi_range1 (by rfl) B.range (pa_cons pe_int pa_nil)) (pg_name (i := 2) sc_law.nd rfl (Or.inl rfl))
(pss_cons (ps_asg (pe_tup (pa_cons (pca cL hr (by decide) rfl (pa_cons (pv 1) (pa_cons pe_int pa_nil))) (pa_cons (pca cN hr (by decide) rfl (pa_cons (pv 1) (pa_cons pe_int pa_nil))) (pa_cons pe_dnewK (pa_cons (pe_lst pa_nil) pa_nil))))) (pg_tup rfl (pgs_cons (pg_name (i := 3) sc_law.nd rfl (Or.inl rfl)) (pgs_cons (pg_name (i := 4) sc_law.nd rfl (Or.inl rfl)) (pgs_cons (pg_name (i := 5) sc_law.nd rfl (Or.inl rfl)) (pgs_cons (pg_name (i := 6) sc_law.nd rfl (Or.inr rfl)) pgs_nil))))))
(C8.pss_cut (ps_for PassesOwn.never rfl (pi_list (pv 4)) (pg_name (i := 7) sc_law.nd rfl (Or.inl rfl))
(pss_one (ps_asg (pca cD hr (by decide) rfl (pa_cons (pv 1) (pa_cons pe_int pa_nil))) (pg_sub (pv 5) (pv 7) (set_dict hu1)))))
(C8.pss_cut (ps_for PassesOwn.never rfl (pi_range1 (by rfl) B.range (pa_cons (pe_op op_add pe_int (pca cD hr (by decide) rfl (pa_cons (pv 1) (pa_cons pe_int pa_nil)))) pa_nil)) (pg_name (i := 8) sc_law.nd rfl (Or.inl rfl))
(pss_cons (ps_set (i := 9) sc_law.nd rfl (Or.inl rfl) (pe_lst pa_nil))
(C8.pss_cut (ps_for PassesOwn.never rfl (pi_range1 (by rfl) B.range (pa_cons (pca cD hr (by decide) rfl (pa_cons (pv 1) (pa_cons pe_int pa_nil))) pa_nil)) (pg_name (i := 10) sc_law.nd rfl (Or.inl rfl))
(pss_cons (ps_set (i := 7) sc_law.nd rfl (Or.inl rfl) (pca cP hr (by decide) rfl (pa_cons (pv 1) (pa_cons (pv 4) pa_nil))))
(C8.pss_cut (ps_set (i := 11) sc_law.nd rfl (Or.inl rfl) (pe_ifExp (pt_cmpR op_gt (pca cD hr (by decide) rfl (pa_cons (pv 1) (pa_cons pe_int pa_nil))) pe_int (nomark _)) (pe_dget hu1 (pv 5) (pv 7) (fun _ _ => rfl)) (pca cD hr (by decide) rfl (pa_cons (pv 1) (pa_cons pe_int pa_nil)))))
(pss_one (ps_expr (pe_bm PySem.F.plainAttrs_list PySem.F.slot_list_append PySem.F.type_list_append mt_append (pv 9) (pa_cons (pe_tup (pa_cons (pv 7) (pa_cons (pe_callTy call_tuple_of (by rfl) B.tup (by decide +kernel) (pa_cons (pe_slice sl_list (pca cM hr (by decide) rfl (pa_cons (pv 1) (pa_cons (pv 3) pa_nil))) po_none (po_some (pv 11))) pa_nil)) (pa_cons (pca cF hr (by decide) rfl (pa_cons (pv 1) (pa_cons (pv 11) pa_nil))) pa_nil)))) pa_nil)))))))
(pss_cons (ps_set (i := 12) sc_law.nd rfl (Or.inl rfl) (pca cP hr (by decide) rfl (pa_cons (pv 1) (pa_cons (pv 4) pa_nil))))
(pss_cons (ps_set (i := 13) sc_law.nd rfl (Or.inl rfl) (pe_tup (pa_cons (pv 12) (pa_cons (pe_callTy call_tuple_of (by rfl) B.tup (by decide +kernel) (pa_cons (pe_slice sl_list (pca cM hr (by decide) rfl (pa_cons (pv 1) (pa_cons (pv 3) pa_nil))) po_none (po_some (pe_dget hu1 (pv 5) (pv 12) (fun _ _ => rfl)))) pa_nil)) pa_nil))))
(pss_one (ps_expr (pe_bm PySem.F.plainAttrs_list PySem.F.slot_list_append PySem.F.type_list_append mt_append (pv 6) (pa_cons (pe_disp (pps_cons pe_str (pv 13) (pps_cons pe_str (pv 9) (pps_cons pe_str (pe_tup (pa_cons pe_str (pa_cons (pe_lst pa_nil) pa_nil))) pps_nil))) rfl rfl (by decide) (by decide)) pa_nil)))))))))
(C8.pss_cut (ps_if (pt_cmpR op_gt (pe_callB call_len_seq (by rfl) B.len PySem.boot_len (pa_cons (pca cMb hr (by decide) rfl (pa_cons (pv 6) pa_nil)) pa_nil)) pe_int (nomark _))
(pss_one (ps_set (i := 6) sc_law.nd rfl (Or.inr rfl) (pe_slice sl_list (pv 6) po_none (po_some pe_int)))) pss_nil)
(pss_one (ps_if (pt_not (pt_val (pca cE hr (by decide) rfl (pa_cons (pe_lamcall (t := fun E => tCall (spMade K FA RC) [] E (tCons (tVar 6) tNil)) (T := [(P0, qLam)]) (TT := TTe K RC) (Ng := n_l_end) (k := 8) (a := "_law_deed") (by rfl) mRf kRf lkR hcR bRf sc_l_end rfl (Or.inl rfl) (end_gives R) TB rfl (List.mem_singleton.mpr rfl) (fun p hp _ => by rw [List.mem_singleton.mp hp]; rfl) (hr.mono (by decide)) (lamS_by (by show lamSB (defScope s_law) _ = true; decide +kernel)) rfl (fun _ _ _ _ _ => rfl) (fun A outer s H E f c' hr2 => pe_call (E := E) GMd hr2 (by rfl) mMd kMd bMd .nil (passes_call (takes_of rfl rfl rfl rfl) (fun _ _ _ _ h => h)) (pa_cons (pv 6) pa_nil))) (pa_cons (pca cDu hr (by decide) rfl (pa_cons (pv 6) pa_nil)) pa_nil)))))
(pss_one (ps_ret pe_bl)) pss_nil)))))))
(pss_one (ps_ret pe_bl)))), ?_⟩
    refine ⟨_, rfl, a, ns, rfl, hS, hn, fun st q H1 g1 hs1 => ?_⟩
    have hT1 : Tabs [(P0, qLam)] H1 := fun p hp => by
      rw [List.mem_singleton.mp hp]
      exact TabS.nil (g1 _ _ hP0)
    refine ⟨5, rfl, by decide, by decide, for_range (lo := 0) (n := 5) (fun i σ' H' => ∃ (b : Int) (u2 u3 u4 u5 u6 u7 u8 u9 u10 u11 u12 u13 : Option V), σ' = [some (.ref a), some (.ref st), u2, u3, u4, u5, u6, u7, u8, u9, u10, u11, u12, u13] ∧ Tabs [(P0, qLam)] H' ∧ Spr H' st q b ∧ 0 ≤ b ∧ b ≤ 230 * i)
      ⟨0, _, _, _, _, _, _, _, _, _, _, _, _, rfl, hT1, hs1, by decide, by decide⟩ ?_ (fun _ _ _ => k _)⟩
    rintro i σ' H2 hi ⟨b, u2, u3, u4, u5, u6, u7, u8, u9, u10, u11, u12, u13, rfl, hT2, hs2, hb0, hb1⟩
    refine ⟨_, rfl, st, q, b, 4, rfl, hs2, hb0, by omega, by decide, fun L lets H3 hnd habc hlen hs3 g3 hL hL0 => ?_⟩
    obtain ⟨nL1, nL2⟩ := hs2.out hL0
    refine ⟨_, rfl, st, q, b + 4, 4, rfl, hs3, by omega, by omega, by decide, fun N nms b4 H4 hnl hnnd hnok hb4 hb4' hs4 g4 hN hN0 => ?_⟩
    obtain ⟨nN1, nN2⟩ := hs3.out hN0
    have hL4 := g4 _ _ nL1 nL2 hL
    have hT4 := tabs_ki (ki_sx hs3 g4) (tabs_ki (ki_sx hs2 g3) hT2)
    intro Rk hRk
    have gR := same_new hRk (.dK [])
    refine ⟨(by show 0 ≤ sizeLine; exact Nat.zero_le _), fun M hM => ?_⟩
    have gM := same_new hM (.lst [])
    refine ⟨(by show 4 ≤ sizeLine; decide), fun tt htt => ?_⟩
    have gt := same_new htt (.tup [.ref L, .ref N, .ref Rk, .ref M])
    refine ⟨tt, _, rfl, SqT.of upd_same, rfl, _, _, rfl, _, _, rfl, _, _, rfl, _, _, rfl, rfl, ?_⟩
    have g45 := (gR.trans gM).trans gt
    have hL5 := g45 _ _ hL4
    have hN5 := g45 _ _ hN
    have hR5 := (gM.trans gt) _ _ (upd_same (H := H4) (a := Rk) (o := .dK []))
    have hM5 := gt _ _ (upd_same (H := upd H4 Rk (.dK [])) (a := M) (o := .lst []))
    have hs5 := hs4.same g45
    have hT5 := hT4.ext g45
    obtain ⟨nR1, nR2⟩ := hs4.out hRk
    obtain ⟨nM1, nM2⟩ := (hs4.same gR).out hM
    have nLM : L ≠ M := ne_of_none (gR _ _ hL4) hM
    have nNM : N ≠ M := ne_of_none (gR _ _ hN) hM
    generalize upd (upd (upd H4 Rk (.dK [])) M (.lst [])) tt (.tup [.ref L, .ref N, .ref Rk, .ref M]) = H5 at hL5 hN5 hR5 hM5 hs5 hT5 ⊢
    clear g45 gR gM gt hT4 hs4 hs3 hL4 hN hT2 hs2 hT1 hs1
    -- the ranks
    refine ⟨fun σ' H' => ∃ (kvs : DK) (x7 : Option V), σ' = [some (.ref a), some (.ref st), some (.int (0 + (i : Int))), some (.ref L), some (.ref N), some (.ref Rk), some (.ref M), x7, u8, u9, u10, u11, u12, u13] ∧ Tabs [(P0, qLam)] H' ∧ Spr H' st q (b4 + 4) ∧ H' L = some (.lst (lets.map V.str)) ∧ H' N = some (.lst (nms.map V.str)) ∧ H' Rk = some (.dK kvs) ∧ (∀ nm ∈ nms, ∃ r : Nat, r ≤ 3 ∧ valV kvs (Sum.inr nm : Key) = some (.int (r : Int))) ∧ H' M = some (.lst []), ?_, ?_⟩
    · refine ⟨_, rfl, N, rfl, ⟨_, SqL.of hN5⟩, for_list (K := K) (a := N) (xs := nms.map V.str) (fun j σ' H' => ∃ (kvs : DK) (x7 : Option V), σ' = [some (.ref a), some (.ref st), some (.int (0 + (i : Int))), some (.ref L), some (.ref N), some (.ref Rk), some (.ref M), x7, u8, u9, u10, u11, u12, u13] ∧ Tabs [(P0, qLam)] H' ∧ Spr H' st q (b4 + j) ∧ H' L = some (.lst (lets.map V.str)) ∧ H' N = some (.lst (nms.map V.str)) ∧ H' Rk = some (.dK kvs) ∧ kvs.length ≤ j ∧ (∀ (j' : Nat) (nm : Str), j' < j → nms[j']? = some nm → ∃ r : Nat, r ≤ 3 ∧ valV kvs (Sum.inr nm : Key) = some (.int (r : Int))) ∧ H' M = some (.lst []))
        ⟨[], _, rfl, hT5, (by rw [show b4 + ((0 : Nat) : Int) = b4 from Int.add_zero _]; exact hs5), hL5, hN5, hR5, Nat.le_refl _, (fun j' nm h => absurd h (Nat.not_lt_zero _)), hM5⟩ (fun j σ' H' _ z => by obtain ⟨_, _, _, _, _, _, z5, _⟩ := z; exact SqL.of z5) ?_ ?_⟩
      · rintro j x σ' H6 hx ⟨kvs, x7, rfl, hT6, hs6, hL6, hN6, hR6, hk6, hv6, hM6⟩
        obtain ⟨nm, en, rfl⟩ := at_map hx
        have hj : j < nms.length := (List.getElem?_eq_some_iff.mp en).1
        refine ⟨_, rfl, st, q, _, 4, rfl, hs6, by omega, by omega, by decide, by decide, fun r H7 r0 r1 hs7 g7 => ?_⟩
        have hR7 := g7 _ _ nR1 nR2 hR6
        have hL7 := g7 _ _ nL1 nL2 hL6
        have hN7 := g7 _ _ nN1 nN2 hN6
        have hM7 := g7 _ _ nM1 nM2 hM6
        obtain ⟨rn, rfl⟩ : ∃ rn : Nat, r = (rn : Int) := ⟨r.toNat, by omega⟩
        refine ⟨_, rfl, _, rfl, Rk, _, rfl, DPut.k (k := (Sum.inr nm : Key)) hR7 (small1000 (by omega)), ?_⟩
        refine ⟨_, _, rfl, tabs_dk hR7 (tabs_ki (ki_sx hs6 g7) hT6), ?_, by rw [upd_ne (fun e => by rw [e, hR7] at hL7; cases hL7)]; exact hL7, by rw [upd_ne (fun e => by rw [e, hR7] at hN7; cases hN7)]; exact hN7, upd_same, ?_, fun j' z hj' ez => ?_, by rw [upd_ne (fun e => by rw [e, hR7] at hM7; cases hM7)]; exact hM7⟩
        · rw [show b4 + ((j + 1 : Nat) : Int) = b4 + (j : Int) + 1 by omega]
          exact hs7.upd nR1 nR2
        · have := length_putK kvs (Sum.inr nm : Key) (V.int (rn : Int))
          omega
        · rw [valV_put]
          by_cases c : (Sum.inr z : Key) = Sum.inr nm
          · rw [if_pos c]
            exact ⟨rn, by omega, rfl⟩
          · rw [if_neg c]
            refine hv6 j' z ?_ ez
            rcases Nat.lt_or_ge j' j with h | h
            · exact h
            · have : j' = j := by omega
              subst this
              rw [en] at ez
              cases ez
              exact absurd rfl c
      · rintro σ' H6 ⟨kvs, x7, rfl, hT6, hs6, hL6, hN6, hR6, hk6, hv6, hM6⟩
        rw [List.length_map, hnl] at hs6 hv6
        refine ⟨kvs, x7, rfl, hT6, hs6, hL6, hN6, hR6, fun nm hnm => ?_, hM6⟩
        obtain ⟨j', hj', e⟩ := List.getElem_of_mem hnm
        exact hv6 j' nm (by omega) (by rw [List.getElem?_eq_getElem hj', e])
    clear hL5 hN5 hR5 hM5 hs5 hT5
    rintro σ' H6 ⟨kvs, x7, rfl, hT6, hs6, hL6, hN6, hR6, hkv, hM6⟩
    -- the programs
    refine ⟨fun σ' H' => ∃ (b6 : Int) (Mp : Addr) (vs : List V) (gs : List PQ) (x7 x8 x9 x10 x11 x12 x13 : Option V), σ' = [some (.ref a), some (.ref st), some (.int (0 + (i : Int))), some (.ref L), some (.ref N), some (.ref Rk), some (.ref Mp), x7, x8, x9, x10, x11, x12, x13] ∧ Tabs [(P0, qLam)] H' ∧ Spr H' st q b6 ∧ b4 + 4 ≤ b6 ∧ b6 ≤ b4 + 4 + 181 ∧ H' Mp = some (.lst vs) ∧ LprsAt K H' vs gs ∧ 1 ≤ gs.length ∧ gs.length ≤ 4 ∧ ∀ g ∈ gs, POk g, ?_, ?_⟩
    · refine ⟨_, rfl, st, q, b4 + 4, 4, rfl, hs6, by omega, by omega, by decide, by decide, fun dn H7 d0 d1 hs7 g7 => ?_⟩
      obtain ⟨m, hm⟩ : ∃ m : Nat, (1 : Int) + dn = (m : Int) := ⟨(1 + dn).toNat, by omega⟩
      refine ⟨_, _, rfl, rfl, 1 + dn, rfl, by omega, by omega, ?_⟩
      have em : (1 + dn).toNat = m := by omega
      rw [em]
      refine for_range (lo := 0) (n := m) (fun j σ' H' => ∃ (b7 : Int) (vs : List V) (gs : List PQ) (x7 x8 x9 x10 x11 x12 x13 : Option V), σ' = [some (.ref a), some (.ref st), some (.int (0 + (i : Int))), some (.ref L), some (.ref N), some (.ref Rk), some (.ref M), x7, x8, x9, x10, x11, x12, x13] ∧ Tabs [(P0, qLam)] H' ∧ Spr H' st q b7 ∧ b4 + 5 ≤ b7 ∧ b7 ≤ b4 + 5 + 45 * j ∧ H' L = some (.lst (lets.map V.str)) ∧ H' N = some (.lst (nms.map V.str)) ∧ H' Rk = some (.dK kvs) ∧ H' M = some (.lst vs) ∧ LpsO K H' st q M vs gs ∧ gs.length = j ∧ ∀ g ∈ gs, POk g)
        ⟨b4 + 4 + 1, [], [], _, _, _, _, _, _, _, rfl, tabs_ki (ki_sx hs6 g7) hT6, hs7, by omega, by omega, g7 _ _ nL1 nL2 hL6, g7 _ _ nN1 nN2 hN6, g7 _ _ nR1 nR2 hR6, g7 _ _ nM1 nM2 hM6, ⟨rfl, fun _ _ _ e => by cases e⟩, rfl, fun _ h => by cases h⟩ ?_ ?_
      · rintro j σ' H8 hj ⟨b8, vs, gs, x7, x8, x9, x10, x11, x12, x13, rfl, hT8, hs8, hb8, hb8', hL8, hN8, hR8, hM8, hP8, hg8, hok8⟩
        refine ⟨(by show 0 ≤ sizeLine; exact Nat.zero_le _), fun Lu hLu => ?_⟩
        have gu := same_new hLu (.lst [])
        obtain ⟨nU1, nU2⟩ := hs8.out hLu
        have nUM : Lu ≠ M := (ne_of_none hM8 hLu).symm
        -- the uses
        refine ⟨fun σ' H' => ∃ (b9 : Int) (us : List V) (qs : List UQ) (x7 x10 x11 : Option V), σ' = [some (.ref a), some (.ref st), some (.int (0 + (i : Int))), some (.ref L), some (.ref N), some (.ref Rk), some (.ref M), x7, some (.int (0 + (j : Int))), some (.ref Lu), x10, x11, x12, x13] ∧ Spr H' st q b9 ∧ b8 ≤ b9 ∧ b9 ≤ b8 + 40 ∧ SX st q H8 H' ∧ H' Lu = some (.lst us) ∧ LusAt K H' us qs ∧ qs.length ≤ 3 ∧ ∀ x ∈ qs, NOk x, ?_, ?_⟩
        · refine ⟨_, rfl, st, q, b8, 4, rfl, hs8.same gu, by omega, by omega, by decide, by decide, fun du H9 du0 du1 hs9 g9 => ⟨du, rfl, by omega, by omega, ?_⟩⟩
          obtain ⟨mu, rfl⟩ : ∃ mu : Nat, du = (mu : Int) := ⟨du.toNat, by omega⟩
          rw [show ((mu : Nat) : Int).toNat = mu from Int.toNat_natCast mu]
          refine for_range (lo := 0) (n := mu) (fun l σ' H' => ∃ (b9 : Int) (us : List V) (qs : List UQ) (x7 x10 x11 : Option V), σ' = [some (.ref a), some (.ref st), some (.int (0 + (i : Int))), some (.ref L), some (.ref N), some (.ref Rk), some (.ref M), x7, some (.int (0 + (j : Int))), some (.ref Lu), x10, x11, x12, x13] ∧ Spr H' st q b9 ∧ b8 + 1 ≤ b9 ∧ b9 ≤ b8 + 1 + 13 * l ∧ SX st q H8 H' ∧ H' Lu = some (.lst us) ∧ LusAt K H' us qs ∧ qs.length = l ∧ ∀ x ∈ qs, NOk x)
            ⟨b8 + 1, [], [], _, _, _, rfl, hs9, by omega, by omega, (SX.of gu).trans g9, g9 _ _ nU1 nU2 upd_same, ⟨rfl, fun _ _ _ e => by cases e⟩, rfl, fun _ h => by cases h⟩ ?_ ?_
          · rintro l σ' H10 hl ⟨b10, us, qs, x7', x10', x11', rfl, hs10, hb10, hb10', gx10, hU10, hl10, hq10, hok10⟩
            refine ⟨_, rfl, _, rfl, st, q, N, b10, nms.map V.str, rfl, hs10, by omega, by omega, gx10 _ _ nN1 nN2 hN8, nN1, nN2, by rw [List.length_map]; omega, by rw [List.length_map]; omega, fun v H11 hv hs11 g11 => ?_⟩
            obtain ⟨nm, hnm, rfl⟩ := List.mem_map.mp hv
            obtain ⟨rk, hrk, hrkv⟩ := hkv nm hnm
            have gx11 := gx10.trans g11
            have hU11 := g11 _ _ nU1 nU2 hU10
            have hl11 := hl10.mono (TK.sx hs10 g11)
            -- the rank
            refine ⟨fun σ' H' => ∃ (rn : Nat) (b12 : Int), rn ≤ 3 ∧ σ' = [some (.ref a), some (.ref st), some (.int (0 + (i : Int))), some (.ref L), some (.ref N), some (.ref Rk), some (.ref M), some (.str nm), some (.int (0 + (j : Int))), some (.ref Lu), some (.int (0 + (l : Int))), some (.int (rn : Int)), x12, x13] ∧ Spr H' st q b12 ∧ b10 + 2 ≤ b12 ∧ b12 ≤ b10 + 3 ∧ SX st q H8 H' ∧ H' Lu = some (.lst us) ∧ LusAt K H' us qs, ?_, ?_⟩
            · refine ⟨_, rfl, st, q, b10 + 1, 20, rfl, hs11, by omega, by omega, by decide, by decide, fun dr H12 dr0 dr1 hs12 g12 => ?_⟩
              have gx12 := gx11.trans g12
              have hU12 := g12 _ _ nU1 nU2 hU11
              have hl12 := hl11.mono (TK.sx hs11 g12)
              refine ⟨_, _, rfl, rfl, _, rfl, ?_⟩
              by_cases c : (0 : Int) < dr
              · refine iteY (decide_eq_true c) ?_
                have hdg : DGet H12 Rk (.str nm) (some (.int (rk : Int))) := by
                  have z := DGet.k (k := (Sum.inr nm : Key)) (gx12 _ _ nR1 nR2 hR8)
                  rw [hrkv] at z
                  exact z
                exact ⟨_, rfl, _, rfl, Rk, .int (rk : Int), rfl, hdg, rk, b10 + 1 + 1, hrk, rfl, hs12, by omega, by omega, gx12, hU12, hl12⟩
              · refine iteNo (decide_eq_false c) ?_
                refine ⟨_, rfl, st, q, b10 + 1 + 1, 4, rfl, hs12, by omega, by omega, by decide, by decide, fun r H13 r0 r1 hs13 g13 => ?_⟩
                obtain ⟨rn, rfl⟩ : ∃ rn : Nat, r = (rn : Int) := ⟨r.toNat, by omega⟩
                exact ⟨rn, b10 + 1 + 1 + 1, by omega, rfl, hs13, by omega, by omega, gx12.trans g13, g13 _ _ nU1 nU2 hU12, hl12.mono (TK.sx hs12 g13)⟩
            clear hs11 gx11 hU11 hl11 g11 hs10 gx10 hU10 hl10
            rintro σ' H12 ⟨rn, b12, hrn, rfl, hs12, hb12, hb12', gx12, hU12, hl12⟩
            refine ⟨_, rfl, .inl ⟨rfl, _, SqL.of hU12⟩, ?_⟩
            refine ⟨_, rfl, _, rfl, _, rfl, st, q, L, b12, lets, rfl, hs12, by omega, by omega, gx12 _ _ nL1 nL2 hL8, by omega, fun r os H13 perm hs13 g13 hr1 hr0 => ?_⟩
            rw [hlen] at hs13
            have ecut : cutV (os.map V.str) none (some (rn : Int)) = (os.take rn).map V.str := by
              rw [cut_take _ _ (by rw [List.length_map, perm.length_eq]; omega), List.map_take]
            refine ⟨_, rfl, _, rfl, r, _, rfl, SqL.of hr1, fun p hp => ?_⟩
            rw [ecut]
            have gp := same_new hp (.lst ((os.take rn).map V.str))
            refine ⟨p, _, rfl, .inl ⟨SqL.of upd_same, fun own hown => ?_⟩⟩
            have g14 := gp.trans (same_new hown (.tup ((os.take rn).map V.str)))
            have hown14 : SqT K (upd (upd H13 p (.lst ((os.take rn).map V.str))) own (.tup ((os.take rn).map V.str))) own ((os.take rn).map V.str) := SqT.of upd_same
            have hs14 := hs13.same g14
            have gx14 := (gx12.trans g13).trans (SX.of g14)
            have hU14 := g14 _ _ (g13 _ _ nU1 nU2 hU12)
            have hl14 := (hl12.mono (TK.sx hs12 g13)).mono (TK.of g14)
            generalize upd (upd H13 p (.lst ((os.take rn).map V.str))) own (.tup ((os.take rn).map V.str)) = H14 at hown14 hs14 gx14 hU14 hl14 ⊢
            generalize hls : os.take rn = ls at hown14 ⊢
            have lsl : ls.length = rn := by rw [← hls, List.length_take, perm.length_eq]; omega
            have lsn : ls.Nodup := by rw [← hls]; exact (perm.nodup_iff.mpr hnd).sublist (List.take_sublist _ _)
            have lsa : ∀ z ∈ ls, z ∈ Tt.abcL := fun z hz => by
              rw [← hls] at hz
              exact habc z (perm.mem_iff.mp (List.mem_of_mem_take hz))
            refine ⟨_, rfl, _, rfl, st, q, _, rn, rfl, hs14, by omega, by omega, hrn, fun tf fus fl b15 H15 hgd htf htu hb15 hb15' hs15 g15 => ?_⟩
            have hU15 := g15 _ _ nU1 nU2 hU14
            have hl15 := hl14.mono (TK.sx hs14 g15)
            have hown15 := TK.sx hs14 g15 _ _ hown14
            refine ⟨(by show 3 ≤ sizeLine; decide), fun u hu => ?_⟩
            have gu2 := same_new hu (.tup [.str nm, .ref own, .ref tf])
            have hU16 := gu2 _ _ hU15
            have vl : us.length ≤ 4 := by rw [hl12.1, hq10]; omega
            refine ⟨Lu, us, _, rfl, rfl, hU16, small1000 (by omega), ?_⟩
            have hLU : LuAt K (upd H15 u (.tup [.str nm, .ref own, .ref tf])) u nm ls fl := ⟨own, tf, fus, SqT.of upd_same, seqT gu2 hown15, seqT gu2 htf, htu.mono (TK.of gu2)⟩
            have tkU : TK K (upd H15 u (.tup [.str nm, .ref own, .ref tf])) (upd (upd H15 u (.tup [.str nm, .ref own, .ref tf])) Lu (.lst (us ++ [.ref u]))) := TK.lst hU16
            refine ⟨b15, us ++ [.ref u], qs ++ [⟨nm, ls, fl⟩], _, _, _, rfl, (hs15.same gu2).upd nU1 nU2, by omega, by omega, ((gx14.trans g15).trans (SX.of gu2)).upd_out hLu, upd_same, ((hl15.mono (TK.of gu2)).mono tkU).snoc (q := ⟨nm, ls, fl⟩) (hLU.mono tkU), by rw [List.length_append, hq10] <;> rfl, fun x hx => ?_⟩
            rcases List.mem_append.mp hx with hx | hx
            · exact hok10 x hx
            · rw [List.mem_singleton.mp hx]
              exact ⟨⟨by show Good fl ls.length; rw [lsl]; exact hgd, by show ls.length ≤ 3; omega, lsn⟩, lsa, hnok nm hnm⟩
          · rintro σ' H10 ⟨b10, us, qs, x7', x10', x11', rfl, hs10, hb10, hb10', gx10, hU10, hl10, hq10, hok10⟩
            exact ⟨b10, us, qs, _, _, _, rfl, hs10, by omega, by omega, gx10, hU10, hl10, by omega, hok10⟩
        clear gu
        rintro σ' H9 ⟨b9, us, qs, x7, x10, x11, rfl, hs9, hb9, hb9', gx9, hU9, hl9, hq9, hok9⟩
        -- the target
        refine ⟨_, rfl, _, rfl, st, q, N, b9, nms.map V.str, rfl, hs9, by omega, by omega, gx9 _ _ nN1 nN2 hN8, nN1, nN2, by rw [List.length_map]; omega, by rw [List.length_map]; omega, fun v H10 hv hs10 g10 => ?_⟩
        obtain ⟨nm, hnm, rfl⟩ := List.mem_map.mp hv
        obtain ⟨rk, hrk, hrkv⟩ := hkv nm hnm
        have gx10 := gx9.trans g10
        have hU10 := g10 _ _ nU1 nU2 hU9
        have hl10 := hl9.mono (TK.sx hs9 g10)
        refine ⟨_, rfl, _, rfl, _, rfl, st, q, L, b9 + 1, lets, rfl, hs10, by omega, by omega, gx10 _ _ nL1 nL2 hL8, by omega, fun r os H11 perm hs11 g11 hr1 hr0 => ?_⟩
        rw [hlen] at hs11
        have gx11 := gx10.trans g11
        have hU11 := g11 _ _ nU1 nU2 hU10
        have hl11 := hl10.mono (TK.sx hs10 g11)
        have hdg : DGet H11 Rk (.str nm) (some (.int (rk : Int))) := by
          have z := DGet.k (k := (Sum.inr nm : Key)) (gx11 _ _ nR1 nR2 hR8)
          rw [hrkv] at z
          exact z
        have ecut : cutV (os.map V.str) none (some (rk : Int)) = (os.take rk).map V.str := by
          rw [cut_take _ _ (by rw [List.length_map, perm.length_eq]; omega), List.map_take]
        refine ⟨_, rfl, _, rfl, Rk, .int (rk : Int), rfl, hdg, _, rfl, r, _, rfl, SqL.of hr1, fun p hp => ?_⟩
        rw [ecut]
        have gp := same_new hp (.lst ((os.take rk).map V.str))
        refine ⟨p, _, rfl, .inl ⟨SqL.of upd_same, fun tl htl => ?_⟩⟩
        have gtl := same_new htl (.tup ((os.take rk).map V.str))
        have htl12 : SqT K (upd (upd H11 p (.lst ((os.take rk).map V.str))) tl (.tup ((os.take rk).map V.str))) tl ((os.take rk).map V.str) := SqT.of upd_same
        have g12 := gp.trans gtl
        generalize upd (upd H11 p (.lst ((os.take rk).map V.str))) tl (.tup ((os.take rk).map V.str)) = H12 at htl12 g12 ⊢
        generalize hls : os.take rk = ls at htl12
        have lsl : ls.length = rk := by rw [← hls, List.length_take, perm.length_eq]; omega
        have lsn : ls.Nodup := by rw [← hls]; exact (perm.nodup_iff.mpr hnd).sublist (List.take_sublist _ _)
        refine ⟨(by show 2 ≤ sizeLine; decide), fun T hT => ?_⟩
        have gT := same_new hT (.tup [.str nm, .ref tl])
        have hT13 : SqT K (upd H12 T (.tup [.str nm, .ref tl])) T [.str nm, .ref tl] := SqT.of upd_same
        have g13 := g12.trans gT
        have htl13 := seqT gT htl12
        generalize upd H12 T (.tup [.str nm, .ref tl]) = H13 at hT13 g13 htl13 ⊢
        have gx13 := gx11.trans (SX.of g13)
        have hs13 := hs11.same g13
        have hU13 := g13 _ _ hU11
        have hl13 := hl11.mono (TK.of g13)
        -- the dict
        refine ⟨_, rfl, .inl ⟨rfl, _, SqL.of (gx13 _ _ nM1 nM2 hM8)⟩, ?_⟩
        intro dp hdp
        have gd := same_new hdp (.dK [])
        refine ⟨_, rfl, _, rfl, (by show 0 ≤ sizeLine; decide), fun bl hbl => ⟨(by show 2 ≤ sizeLine; decide), fun nt hnt => ?_⟩⟩
        have gbl := same_new hbl (.lst [])
        have gnt := same_new hnt (.tup [.str "block", .ref bl])
        have gdd := (gd.trans gbl).trans gnt
        have hdp14 := gnt _ _ (gbl _ _ (upd_same (H := H13) (a := dp) (o := .dK [])))
        refine ⟨hdp14, [(Sum.inr "target", .ref T), (Sum.inr "uses", .ref Lu), (Sum.inr "node", .ref nt)], rfl, (by show 3 ≤ 15; decide), ?_⟩
        have g15 := same_over gdd hdp (.dK (mergeK [] [((Sum.inr "target" : Key), V.ref T), (Sum.inr "uses", .ref Lu), (Sum.inr "node", .ref nt)]))
        have hd15 : upd (upd (upd (upd H13 dp (.dK [])) bl (.lst [])) nt (.tup [.str "block", .ref bl])) dp (.dK (mergeK [] [((Sum.inr "target" : Key), V.ref T), (Sum.inr "uses", .ref Lu), (Sum.inr "node", .ref nt)])) dp = some (.dK (mergeK [] [((Sum.inr "target" : Key), V.ref T), (Sum.inr "uses", .ref Lu), (Sum.inr "node", .ref nt)])) := upd_same
        have eT : valV (mergeK [] [((Sum.inr "target" : Key), V.ref T), (Sum.inr "uses", .ref Lu), (Sum.inr "node", .ref nt)]) (Sum.inr "target" : Key) = some (.ref T) := by rfl
        have eU : valV (mergeK [] [((Sum.inr "target" : Key), V.ref T), (Sum.inr "uses", .ref Lu), (Sum.inr "node", .ref nt)]) (Sum.inr "uses" : Key) = some (.ref Lu) := by rfl
        generalize mergeK [] [((Sum.inr "target" : Key), V.ref T), (Sum.inr "uses", .ref Lu), (Sum.inr "node", .ref nt)] = kvsD at g15 hd15 eT eU ⊢
        generalize upd (upd (upd (upd H13 dp (.dK [])) bl (.lst [])) nt (.tup [.str "block", .ref bl])) dp (.dK kvsD) = H15 at g15 hd15 ⊢
        have gx15 := gx13.trans (SX.of g15)
        have hM15 := gx15 _ _ nM1 nM2 hM8
        have hs15 := hs13.same g15
        have hP15 := hP8.sx hs8 gx15
        have hq15 : LpO K H15 st q M (.ref dp) ⟨nm, ls, qs⟩ := ⟨dp, T, tl, Lu, kvsD, us, rfl, hd15, eT, eU, seqT g15 hT13, seqT g15 htl13, g15 _ _ hU13, hl13.mono (TK.of g15), nU1, nU2, nUM⟩
        have vl : vs.length ≤ 10 := by rw [hP8.1, hg8]; omega
        refine ⟨M, vs, _, rfl, rfl, hM15, small1000 (by omega), ?_⟩
        refine ⟨_, vs ++ [.ref dp], gs ++ [⟨nm, ls, qs⟩], _, _, _, _, _, _, _, rfl, tabs_ki (.lst hM15) (tabs_ki (ki_sx hs8 gx15) hT8), hs15.upd nM1 nM2, by omega, by omega, by rw [upd_ne nLM]; exact gx15 _ _ nL1 nL2 hL8, by rw [upd_ne nNM]; exact gx15 _ _ nN1 nN2 hN8, ?_, upd_same, (hP15.updM hM15).snoc (hq15.updM hM15), by rw [List.length_append, hg8] <;> rfl, fun g hg => ?_⟩
        · have hR15 := gx15 _ _ nR1 nR2 hR8
          rw [upd_ne (fun e => by rw [e, hM15] at hR15; cases hR15)]
          exact hR15
        · rcases List.mem_append.mp hg with hg | hg
          · exact hok8 g hg
          · rw [List.mem_singleton.mp hg]
            exact ⟨by show ls.length ≤ 3; omega, lsn, hq9, hok9⟩
      · rintro σ' H8 ⟨b8, vs, gs, x7, x8, x9, x10, x11, x12, x13, rfl, hT8, hs8, hb8, hb8', hL8, hN8, hR8, hM8, hP8, hg8, hok8⟩
        exact ⟨b8, M, vs, gs, _, _, _, _, _, _, _, rfl, hT8, hs8, by omega, by omega, hM8, hP8.lprs, by omega, by omega, hok8⟩
    clear hT6 hs6 hL6 hN6 hR6 hkv hM6
    rintro σ' H8 ⟨b8, M0, vs, gs, x7, x8, x9, x10, x11, x12, x13, rfl, hT8, hs8, hb8, hb8', hM8, hP8, hg1, hg4, hok8⟩
    -- few members
    refine ⟨fun σ' H' => ∃ (Mp : Addr) (vs : List V) (gs : List PQ), σ' = [some (.ref a), some (.ref st), some (.int (0 + (i : Int))), some (.ref L), some (.ref N), some (.ref Rk), some (.ref Mp), x7, x8, x9, x10, x11, x12, x13] ∧ Tabs [(P0, qLam)] H' ∧ Spr H' st q b8 ∧ SqL K H' Mp vs ∧ LprsAt K H' vs gs ∧ 1 ≤ gs.length ∧ gs.length ≤ 4 ∧ ∀ g ∈ gs, POk g, ?_, ?_⟩
    · have hgk : ∀ g ∈ gs, GOk g := fun g hg => (hok8 g hg).gok
      have hgm := gs_mem hgk
      refine ⟨_, rfl, M0, vs, gs.map (·.qs), rfl, SqL.of hM8, hP8.lps, by rw [memsL_gs]; omega, (fun qs hqs x hx => ?_), (fun x hx => by rw [memsL_gs] at hx; exact (gs_okm hok8 x hx).1), fun D ns' H9 g9 _ hD hms hasc => ?_⟩
      · obtain ⟨g, hg, rfl⟩ := List.mem_map.mp hqs
        exact gs_uqf hgk g hg x hx
      refine ⟨D, _, rfl, .inl (SqL.of hD), _, _, rfl, rfl, _, rfl, ?_⟩
      have hM9 := g9 _ _ hM8
      by_cases c : (10 : Int) < ((msV ns').length : Int)
      · refine iteY (decide_eq_true c) ?_
        refine ⟨_, rfl, _, rfl, M0, vs, rfl, SqL.of hM9, fun p hp => ?_⟩
        have gp := same_new hp (.lst (vs.take 1))
        have ecut : cutV vs none (some (1 : Int)) = vs.take 1 := cut_take _ 1 (by rw [hP8.1]; omega)
        rw [ecut]
        have gA := g9.trans gp
        exact ⟨p, vs.take 1, gs.take 1, rfl, hT8.ext gA, hs8.same gA, SqL.of upd_same, (hP8.same gA).take 1, by rw [List.length_take]; omega, by rw [List.length_take]; omega, fun g hg => hok8 g (List.mem_of_mem_take hg)⟩
      · exact iteNo (decide_eq_false c) ⟨M0, vs, gs, rfl, hT8.ext g9, hs8.same g9, SqL.of hM9, hP8.same g9, hg1, hg4, hok8⟩
    clear hT8 hs8 hM8 hP8 hok8
    rintro σ' H9 ⟨Mp, vs, gs, rfl, hT9, hs9, hM9, hP9, hg1, hg4, hok9⟩
    have hgk : ∀ g ∈ gs, GOk g := fun g hg => (hok9 g hg).gok
    have hgm := gs_mem hgk
    have hgl := gs_let hgk
    have hgp := gs_prs hgk
    refine ⟨hT9, fun H10 e10 T10 H11 g11 => ?_⟩
    have e11 : ExtN H9 H11 := e10.trans (ExtN.of g11)
    have T11 := T10.ext g11
    have fin : ∀ (H' : Hp), Same H11 H' → Tabs [(P0, qLam)] H' ∧ Spr H' st q b8 := fun H' g => ⟨T11.ext g, (hs9.en e11).same g⟩
    refine ⟨_, rfl, Mp, vs, gs, rfl, SqL.en e11 hM9, hP9.en e11, hg1, hg4, hgk, fun d hd p H12 g12 hF => ?_, fun n hn d H12 g12 hdd => ?_⟩
    · obtain ⟨dx, r, cc, tl, tm, ys, ns1, f1, f0, f2, f3, f4, f5, f6, f7⟩ := hF
      refine qt_told Fc f1 fun t ht => ?_
      have gt := same_new ht (.tup [.str "told", .ref tm, .ref tl, .ref r])
      have g1112 := g12.trans gt
      refine ⟨_, rfl, Mp, vs, gs, rfl, g1112.seq (SqL.en e11 hM9), (hP9.en e11).same g1112, hgk, hg4, (fun x hx => (gs_okm hok9 x hx).1), fun d' hd' t' tm' tl' r' ns2 us l H13 g13 z1 z2 z3 z4 z5 z6 z7 z8 z9 zr0 zr => ?_, fun n hn => absurd hd (bad_not hn)⟩
      rw [hd] at hd'
      cases hd'
      have eus : ys = us := f4.uniq z6 z7 z8 z9
      subst eus
      have ens : ns1.map (·.2) = ns2.map (·.2) := AscOk.one f7 z4 fun _ => Iff.rfl
      have gA := gt.trans g13
      have nsl : (ns1.map (·.2)).length ≤ (memsF gs).length := nd_len _ _ f7.1 fun y hy => (f7.2.1 y).mp hy
      have ysl := letok_len f4
      have dl := rk_len hd
      rw [List.length_map] at nsl
      have gf := gt.trans g13
      have hr13 := gA _ _ f0
      have ner : r ≠ r' := ne_of_none (gt _ _ f0) zr0
      refine ⟨_, _, rfl, sm_told (d := d) (SqT.of (g13 _ _ upd_same)) z1 (seqT gA f5) z2 (f6.same gA) z3 ens (fun x hx => (gs_okm hok9 x ((f7.2.1 x).mp hx)).2) (by omega) (seqT gA f3) z5 (by omega) ner hr13 zr (rk_d hd) (by omega), fun H14 g14 => ⟨_, rfl, iteF ⟨b8, _, _, _, _, _, _, _, _, _, _, _, _, rfl, (fin H14 ((g1112.trans g13).trans g14)).1, (fin H14 ((g1112.trans g13).trans g14)).2, by omega, by omega⟩⟩⟩
    · refine ⟨rfl, d, _, rfl, hdd, fun t ht => ?_⟩
      have gt := same_new ht (.tup [.str "RankClash", .str n])
      have g1112 := g12.trans gt
      refine ⟨_, rfl, Mp, vs, gs, rfl, g1112.seq (SqL.en e11 hM9), (hP9.en e11).same g1112, hgk, hg4, (fun x hx => (gs_okm hok9 x hx).1), fun d' hd' => absurd hd' (bad_not hn), fun n' hn' t' H13 g13 z1 => ?_⟩
      have enn := rkBad_one hn hn'
      subst enn
      exact ⟨_, _, rfl, sm_clash (SqT.of (g13 _ _ upd_same)) z1, fun H14 g14 => ⟨_, rfl, iteF ⟨b8, _, _, _, _, _, _, _, _, _, _, _, _, rfl, (fin H14 ((g1112.trans g13).trans g14)).1, (fin H14 ((g1112.trans g13).trans g14)).2, by omega, by omega⟩⟩⟩
  obtain ⟨t, ht, hq⟩ := fin
  exact ⟨t, ht.nox, hq⟩
end
end Lw
namespace Lw
open PySem L2 TL TzR NsX NdX LamX
/-- a def of the text, as the top leaves it -/
structure Dx (K : PySem.W.Frag) (mg : Str → Option Value) (x : Str) (st : Stmt) (f : Addr) (fd : FuncData) : Prop where
  F : Fun K x x st f fd
  m : mg x = some (.ref f)
theorem dx_mk {K : PySem.W.Frag} {h : Heap} {mg : Str → Option Value} {x : Str} {st : Stmt} {f : Addr} (X : K.In h) (G : h.Ns mainGlobals mg) {od an : Option Addr} {sl : Array (Option Value)} {oc kV dc pm cd ct : Value}
    (a : PySem.W.nsIn K mainGlobals x = some (some (.ref f))) (l : K.lookup f = some ⟨oc, od, .func (PySem.W.fnOf x x (defArgs st) (defBody st) (defScope st) .none kV dc pm an cd ct), sl⟩) (c : PySem.W.codeIn K cd x = true) (k : PySem.W.keepIn K (.ref f) = true) :
    Dx K mg x st f (PySem.W.fnOf x x (defArgs st) (defBody st) (defScope st) .none kV dc pm an cd ct) := ⟨fun_mk l c k, PySem.W.mg_of X G a⟩
theorem kit_me {K : PySem.W.Frag} {C : Addr} : PySem.W.kitOne K (.ref C) (.ref C) = some true := by
  unfold PySem.W.kitOne
  rw [if_pos (beq_self_eq_true _)]
theorem sq_const {K : PySem.W.Frag} {H : Hp} {a : Addr} {xs : List V} {od : Option Addr} {its : Array Value} {n : Nat} {sl : Array (Option Value)} (l : K.lookup a = some ⟨.type "tuple", od, .seq its n, sl⟩) (h : its.size ≤ sizeLine) (v : Vals xs its.toList) : SqT K H a xs :=
  .inr ⟨_, its, n, l, rfl, rfl, h, v⟩
theorem kit_noR {K : PySem.W.Frag} {n : String} {C : Addr} (h1 : PySem.W.isClsIn K C = true) (h2 : PySem.W.typeIn K (.ref C) = some (.type "type")) (h3 : PySem.W.subIn K (.type n) (.ref C) = some false) : PySem.W.kitOne K (.type n) (.ref C) = some false := by
  unfold PySem.W.kitOne
  rw [if_neg (by intro e; cases (beq_iff_eq.mp e))]
  show (if ((PySem.W.clsIn K C).isSome && PySem.W.typeIn K (.ref C) == some (.type "type")) = true then PySem.W.subIn K (.type n) (.ref C) else none) = _
  have c1 : (PySem.W.clsIn K C).isSome = true := h1
  rw [if_pos (by rw [c1, h2] <;> rfl)]
  exact h3
theorem kit_noT {K : PySem.W.Frag} {C : Addr} {T : String} (h1 : PySem.W.kitMeta T = true) (h3 : PySem.W.subIn K (.ref C) (.type T) = some false) : PySem.W.kitOne K (.ref C) (.type T) = some false := by
  unfold PySem.W.kitOne
  rw [if_neg (by intro e; cases (beq_iff_eq.mp e))]
  show (if PySem.W.kitMeta T = true then PySem.W.subIn K (.ref C) (.type T) else none) = _
  rw [if_pos h1]
  exact h3
theorem fsub (K : PySem.W.Frag) (C : Addr) : PySem.W.subIn K (.type "int") (.ref C) = some false := by kernel_rfl
theorem fsubS (K : PySem.W.Frag) (C : Addr) : PySem.W.subIn K (.type "str") (.ref C) = some false := by kernel_rfl
theorem fsubT (K : PySem.W.Frag) (C : Addr) : PySem.W.subIn K (.type "tuple") (.ref C) = some false := by kernel_rfl
/-- an own error class and its __init__, as the top leaves them -/
structure Tx (K : PySem.W.Frag) (mg : Str → Option Value) (x qual fld : Str) (st : Stmt) (C fI : Addr) (fd : FuncData) : Prop where
  T : Er K mg C fI x fld
  xf : XfC K C
  ty : PySem.W.typeIn K (.ref C) = some (.type "type")
  F : Fun K "__init__" qual st fI fd
theorem tx_mk {K : PySem.W.Frag} {h : Heap} {mg : Str → Option Value} {x qual fld : Str} {st : Stmt} {C fI Wk : Addr} (X : K.In h) (G : h.Ns mainGlobals mg)
    {nm q : Str} {N : Addr} {bs : List Value} {sn : List Str} {sub : List Value} {ab : Bool} {col : Option Bool} {dd od an : Option Addr} {m0 m1 m2 m3 m5 : Option Value} {sl : Array (Option Value)} {oc kV dc pm cd ct : Value}
    (aC : PySem.W.nsIn K mainGlobals x = some (some (.ref C)))
    (xL : K.lookup C = some (excClassObj nm q C N bs [.ref Wk, .type "ValueError", .type "Exception", .type "BaseException", .type "object"] true sn sub ab col dd m0 m1 m2 m3 m5 "ValueError.__new__"))
    (sa : PySem.W.findIn K (.ref C) "__setattr__" = some (some (.builtin "object.__setattr__"))) (ga : PySem.W.findIn K (.ref C) "__getattribute__" = some (some (.builtin "BaseException.__getattribute__"))) (gg : PySem.W.findIn K (.ref C) "__getattr__" = some none)
    (no : PySem.W.findIn K (.ref C) fld = some none) (a1 : PySem.W.findIn K (.ref C) "__init__" = some (some (.ref fI))) (t1 : PySem.W.typeIn K (.ref fI) = some (.type "function"))
    (l1 : K.lookup fI = some ⟨oc, od, .func (PySem.W.fnOf "__init__" qual (defArgs st) (defBody st) (defScope st) .none kV dc pm an cd ct), sl⟩) (c1 : PySem.W.codeIn K cd qual = true) (k1 : PySem.W.keepIn K (.ref fI) = true)
    (kC : PySem.W.keepIn K (.ref C) = true) (eC : PySem.W.subIn K (.ref C) (.type "BaseException") = some true) (tC : PySem.W.typeIn K (.ref C) = some (.type "type")) (hC : PySem.W.hasDictIn K C = true) :
    Tx K mg x qual fld st C fI (PySem.W.fnOf "__init__" qual (defArgs st) (defBody st) (defScope st) .none kV dc pm an cd ct) where
  T := { ox := { cls := ⟨nm, q, N, bs, _, sn, sub, ab, col, dd, m0, m1, m2, m3, m5, xL, by show PySem.HandSPX.refsVE PySem.HandSPX.veTail = true; decide +kernel⟩, sa := sa, exC := eC, tyC := tC, kC := kC }, ini := a1, ty := t1, no := no, m := PySem.W.mg_of X G aC }
  xf := ⟨ga, gg, eC, hC⟩
  ty := tC
  F := fun_mk l1 c1 k1
theorem ok_sames {P : Program} {w : World} {K : PySem.W.Frag} {mg : Str → Option Value} {base : Heap} {f : Addr} {fd : FuncData} (F : Fun K "_law_same" "_law_same" sSame f fd) (bF : Binds K fd ["_law_found", "_law_due_here"] []) (mF : mg "_law_same" = some (.ref f)) (B : Bt mg) :
    ∀ n : Nat, FnOk P w K mg base CX0 n f fd ["_law_found", "_law_due_here"] (spSame K n)
  | 0 => none_left fun vs H Q E ⟨_, _, _, h, _⟩ => h
  | n + 1 => ok_same F (ok_sames F bF mF B n) bF F.kp mF B
theorem ca_of {P : Program} {w : World} {K : PySem.W.Frag} {mg : Str → Option Value} {base : Heap} {x : Str} {s : Stmt} {f : Addr} {fd : FuncData} {n : Nat} {ps : List Str} {sp : Sp} (D : Dx K mg x s f fd) (b : Binds K fd ps []) (G : FnOk P w K mg base CX0 n f fd ps sp) : Ca P w K mg base n x ps sp := ⟨f, fd, G, b, D.F.kp, D.m⟩
theorem all_mk {l : PySem.W.OpenLaw} {w : World} {K : PySem.W.Frag} {h : Heap} {mg : Str → Option Value} {fa : Addr} (X : K.In h) (G : h.Ns mainGlobals mg) (hfa : mg "law" = some (.ref fa)) (own : OwnTab K fa h)
    {fL cL P0 fRf RC WE iR C U fI fU BF AW KD Dk pR gR PG fPG BL fBL FA fFA XC fXC f_is_whole f_frozen f_are_axes f_check_letters f_ascending f_access f_is_access f_use_accesses f_pairs_down_to f_use_members f_ranks_of f__law_draw f__law_start f__law_pick f__law_mixed f__law_same f__law_name f__law_names f__law_letters f__law_form f__law_form_text f__law_level_letters f__law_merged f__law_program_letters f__law_use_built f__law_pairs_of f__law_access f__law_pairs f__law_members f__law_made f__law_due : Addr} {dR d_is_whole d_frozen d_are_axes d_check_letters d_ascending d_access d_is_access d_use_accesses d_pairs_down_to d_use_members d_ranks_of d__law_draw d__law_start d__law_pick d__law_mixed d__law_same d__law_name d__law_names d__law_letters d__law_form d__law_form_text d__law_level_letters d__law_merged d__law_program_letters d__law_use_built d__law_pairs_of d__law_access d__law_pairs d__law_members d__law_made d__law_due : FuncData} {cd1 cd2 cd3 cd6 cd7 cd8 cd9 cd_b ct0 ct1 ct2 ct3 ct6 ct7 ct8 ct9 ct_b dc0 dc1 dc2 dc3 dc6 dc7 dc8 dc9 dc_b kV0 kV1 kV2 kV6 kV7 kV8 kV9 kV_b oc0 oc1 oc2 oc3 oc6 oc7 oc8 oc9 oc_a oc_b pm0 pm1 pm2 pm3 pm6 pm7 pm8 pm9 pm_b : Value} {an0 an1 an2 an3 an6 an7 an8 an9 an_b od0 od1 od2 od3 od4 od5 od6 od7 od8 od9 od_a od_b : Option Addr} {sl0 sl1 sl2 sl3 sl4 sl5 sl6 sl7 sl8 sl9 sl_a sl_b : Array (Option Value)} {vs1 its4 its5 : Array Value} {n4 n5 : Nat} {rest6 : List Value} {t3 : Tok}
    (lA : PySem.W.nsIn K mainGlobals "law" = some (some (.ref fL)))
    (lL : K.lookup fL = some ⟨oc0, od0, .func (PySem.W.fnOf "law" "law" (defArgs s_law) (defBody s_law) (defScope s_law) .none kV0 dc0 pm0 an0 (.ref cL) ct0), sl0⟩)
    (lC : PySem.W.codeIn K (.ref cL) "law" = true)
    (lK : K.lookup cL = some ⟨oc_a, od_a, .fields vs1, sl_a⟩)
    (lV : vs1[11]? = some (.ref P0))
    (lH : PySem.W.codeHdIn K cL P0 = true)
    (lN : K.lookup P0 = none)
    (rA : PySem.W.nsIn K mainGlobals "_law_end" = some (some (.ref fRf)))
    (rL : K.lookup fRf = some ⟨oc_b, od_b, .func (PySem.W.fnOf "_law_end" "_law_end" (defArgs s_l_end) (defBody s_l_end) (defScope s_l_end) .none kV_b dc_b pm_b an_b cd_b ct_b), sl_b⟩)
    (rC : PySem.W.codeIn K cd_b "_law_end" = true)
    (rK : PySem.W.keepIn K (.ref fRf) = true)
    (wW : PySem.W.nsIn K mainGlobals "WalkError" = some (some (.ref WE)))
    (xs : PySem.W.subIn K (.ref RC) (.ref RC) = some true)
    (aC : PySem.W.nsIn K mainGlobals "Form" = some (some (.ref C)))
    (aB : PySem.W.nsIn K mainGlobals "BadForm" = some (some (.ref BF)))
    (aM : PySem.W.nsIn K mainGlobals "MOST_LEVELS" = some (some (.int 3 t3)))
    (aA : PySem.W.nsIn K mainGlobals "AXIS_WORDS" = some (some (.ref AW)))
    (a1 : PySem.W.findIn K (.ref C) "__init__" = some (some (.ref fI)))
    (i1 : PySem.W.isFn K (.ref fI) = true)
    (l1 : K.lookup fI = some ⟨oc3, od3, .func (PySem.W.fnOf "__init__" "Form.__init__" (defArgs sInit) (defBody sInit) (defScope sInit) .none (.ref Dk) dc3 pm3 an3 cd3 ct3), sl3⟩)
    (c1 : PySem.W.codeIn K cd3 "Form.__init__" = true)
    (n1 : PySem.W.nsIn K Dk "axes" = some (some .none))
    (mk : PySem.W.makesIn K C = true)
    (kC : PySem.W.keepIn K (.ref C) = true)
    (pg : PySem.W.plainGet K C Str.empty = true)
    (hd : PySem.W.hasDictIn K C = true)
    (po : PySem.W.plainOver K C = true)
    (sa : PySem.W.findIn K (.ref C) "__setattr__" = some (some (.builtin "object.__setattr__")))
    (nK : PySem.W.findIn K (.ref C) "kinds" = some none)
    (nA : PySem.W.findIn K (.ref C) "axes" = some none)
    (r1 : PySem.W.readsIn K C (.type "type") = true)
    (r2 : PySem.W.specialIn K (.ref C) "__getattribute__" = some (some (.builtin "type.__getattribute__")))
    (kd : PySem.W.findCls K (.ref C) (.type "type") "KINDS" = some (.val (.ref KD)))
    (kl : K.lookup KD = some ⟨.type "tuple", od4, .seq its4 n4, sl4⟩)
    (kz : its4.size ≤ sizeLine)
    (kv : Vals (KINDS.map V.str) its4.toList)
    (al : K.lookup AW = some ⟨.type "tuple", od5, .seq its5 n5, sl5⟩)
    (az : its5.size ≤ sizeLine)
    (av : Vals (AWORDS.map V.str) its5.toList)
    (m1 : PySem.W.findCls K (.ref C) (.type "type") "read" = some (.get (.builtin "classmethod.__get__") (.ref pR) .none (.ref C)))
    (m2 : PySem.W.recIn K pR "classmethod" = some (.ref gR :: rest6))
    (m3 : PySem.W.fnIn K gR = true)
    (m4 : K.lookup gR = some ⟨oc6, od6, .func (PySem.W.fnOf "read" "Form.read" (defArgs sRead) (defBody sRead) (defScope sRead) .none kV6 dc6 pm6 an6 cd6 ct6), sl6⟩)
    (m5 : PySem.W.codeIn K cd6 "Form.read" = true)
    (m6 : PySem.W.keepIn K (.ref gR) = true)
    (xB : PySem.W.excIn K BF veB "ValueError.__new__" = true)
    (kB : PySem.W.keepIn K (.ref BF) = true)
    (rB : PySem.W.subIn K (.ref BF) (.type "BaseException") = some true)
    (tB : PySem.W.typeIn K (.ref BF) = some (.type "type"))
    (vA : PySem.W.nsIn K mainGlobals "Use" = some (some (.ref U)))
    (v1 : PySem.W.findIn K (.ref U) "__init__" = some (some (.ref fU)))
    (v2 : PySem.W.isFn K (.ref fU) = true)
    (v3 : K.lookup fU = some ⟨oc1, od1, .func (PySem.W.fnOf "__init__" "Use.__init__" (defArgs sUini) (defBody sUini) (defScope sUini) .none kV1 dc1 pm1 an1 cd1 ct1), sl1⟩)
    (v4 : PySem.W.codeIn K cd1 "Use.__init__" = true)
    (v5 : PySem.W.keepIn K (.ref fU) = true)
    (vmk : PySem.W.makesIn K U = true)
    (vk : PySem.W.keepIn K (.ref U) = true)
    (vpg : PySem.W.plainGet K U Str.empty = true)
    (vhd : PySem.W.hasDictIn K U = true)
    (vpo : PySem.W.plainOver K U = true)
    (vsa : PySem.W.findIn K (.ref U) "__setattr__" = some (some (.builtin "object.__setattr__")))
    (vn : PySem.W.findIn K (.ref U) "name" = some none)
    (vl : PySem.W.findIn K (.ref U) "letters" = some none)
    (vf : PySem.W.findIn K (.ref U) "form" = some none)
    (pA : PySem.W.nsIn K mainGlobals "Program" = some (some (.ref PG)))
    (p1 : PySem.W.findIn K (.ref PG) "__init__" = some (some (.ref fPG)))
    (p2 : PySem.W.isFn K (.ref fPG) = true)
    (p3 : K.lookup fPG = some ⟨oc2, od2, .func (PySem.W.fnOf "__init__" "Program.__init__" (defArgs s_prog) (defBody s_prog) (defScope s_prog) .none kV2 dc2 pm2 an2 cd2 ct2), sl2⟩)
    (p4 : PySem.W.codeIn K cd2 "Program.__init__" = true)
    (p5 : PySem.W.keepIn K (.ref fPG) = true)
    (pmk : PySem.W.makesIn K PG = true)
    (pk : PySem.W.keepIn K (.ref PG) = true)
    (ppg : PySem.W.plainGet K PG Str.empty = true)
    (phd : PySem.W.hasDictIn K PG = true)
    (ppo : PySem.W.plainOver K PG = true)
    (psa : PySem.W.findIn K (.ref PG) "__setattr__" = some (some (.builtin "object.__setattr__")))
    (pnT : PySem.W.findIn K (.ref PG) "target" = some none)
    (pnU : PySem.W.findIn K (.ref PG) "uses" = some none)
    (pnN : PySem.W.findIn K (.ref PG) "node" = some none)
    (pnL : PySem.W.findIn K (.ref PG) "letters" = some none)
    (bA : PySem.W.nsIn K mainGlobals "Block" = some (some (.ref BL)))
    (b1 : PySem.W.findIn K (.ref BL) "__init__" = some (some (.ref fBL)))
    (b2 : PySem.W.isFn K (.ref fBL) = true)
    (b3 : K.lookup fBL = some ⟨oc7, od7, .func (PySem.W.fnOf "__init__" "Block.__init__" (defArgs s_blk) (defBody s_blk) (defScope s_blk) .none kV7 dc7 pm7 an7 cd7 ct7), sl7⟩)
    (b4 : PySem.W.codeIn K cd7 "Block.__init__" = true)
    (b5 : PySem.W.keepIn K (.ref fBL) = true)
    (bmk : PySem.W.makesIn K BL = true)
    (bk : PySem.W.keepIn K (.ref BL) = true)
    (bpg : PySem.W.plainGet K BL Str.empty = true)
    (bhd : PySem.W.hasDictIn K BL = true)
    (bpo : PySem.W.plainOver K BL = true)
    (bsa : PySem.W.findIn K (.ref BL) "__setattr__" = some (some (.builtin "object.__setattr__")))
    (bnN : PySem.W.findIn K (.ref BL) "nodes" = some none)
    (yA : PySem.W.nsIn K mainGlobals "Family" = some (some (.ref FA)))
    (y1 : PySem.W.findIn K (.ref FA) "__init__" = some (some (.ref fFA)))
    (y2 : PySem.W.isFn K (.ref fFA) = true)
    (y3 : K.lookup fFA = some ⟨oc8, od8, .func (PySem.W.fnOf "__init__" "Family.__init__" (defArgs s_fini) (defBody s_fini) (defScope s_fini) .none kV8 dc8 pm8 an8 cd8 ct8), sl8⟩)
    (y4 : PySem.W.codeIn K cd8 "Family.__init__" = true)
    (y5 : PySem.W.keepIn K (.ref fFA) = true)
    (ymk : PySem.W.makesIn K FA = true)
    (yk : PySem.W.keepIn K (.ref FA) = true)
    (ypg : PySem.W.plainGet K FA Str.empty = true)
    (yhd : PySem.W.hasDictIn K FA = true)
    (ypo : PySem.W.plainOver K FA = true)
    (ysa : PySem.W.findIn K (.ref FA) "__setattr__" = some (some (.builtin "object.__setattr__")))
    (ynR : PySem.W.findIn K (.ref FA) "ranks" = some none)
    (ynA : PySem.W.findIn K (.ref FA) "axis_counts" = some none)
    (ynL : PySem.W.findIn K (.ref FA) "letters" = some none)
    (ynM : PySem.W.findIn K (.ref FA) "members" = some none)
    (xA : PySem.W.nsIn K mainGlobals "Expression" = some (some (.ref XC)))
    (x1 : PySem.W.findIn K (.ref XC) "__init__" = some (some (.ref fXC)))
    (x2 : PySem.W.isFn K (.ref fXC) = true)
    (x3 : K.lookup fXC = some ⟨oc9, od9, .func (PySem.W.fnOf "__init__" "Expression.__init__" (defArgs Ey.sXini) (defBody Ey.sXini) (defScope Ey.sXini) .none kV9 dc9 pm9 an9 cd9 ct9), sl9⟩)
    (x4 : PySem.W.codeIn K cd9 "Expression.__init__" = true)
    (x5 : PySem.W.keepIn K (.ref fXC) = true)
    (xmk : PySem.W.makesIn K XC = true)
    (xk : PySem.W.keepIn K (.ref XC) = true)
    (xpg : PySem.W.plainGet K XC Str.empty = true)
    (xhd : PySem.W.hasDictIn K XC = true)
    (xpo : PySem.W.plainOver K XC = true)
    (xsa : PySem.W.findIn K (.ref XC) "__setattr__" = some (some (.builtin "object.__setattr__")))
    (xnK : PySem.W.findIn K (.ref XC) "kind" = some none)
    (xnP : PySem.W.findIn K (.ref XC) "parts" = some none)
    (xnN : PySem.W.findIn K (.ref XC) "node_count" = some none)
    (xnA : PySem.W.findIn K (.ref XC) "accesses" = some none)
    (xnL : PySem.W.findIn K (.ref XC) "letters" = some none)
    (xe4 : PySem.W.findIn K (.ref XC) "__class__" = some (some (.builtin "object.__class__")))
    (xe7 : PySem.W.mroIn K XC (.type "object") = some true)
    (ve4 : PySem.W.findIn K (.ref U) "__class__" = some (some (.builtin "object.__class__")))
    (ve7 : PySem.W.mroIn K U (.type "object") = some true)
    (e5 : PySem.W.specialIn K (.builtin "object.__class__") "__get__" = some (some (.builtin "getset_descriptor.__get__")))
    (e6 : PySem.W.takesIn K (.builtin "object.__class__") = some true)
    (xic : PySem.W.isClsIn K XC = true)
    (xty : PySem.W.typeIn K (.ref XC) = some (.type "type"))
    (xsi : PySem.W.subIn K (.ref XC) (.type "int") = some false)
    (vsl : PySem.W.subIn K (.ref U) (.type "list") = some false)
    (vst : PySem.W.subIn K (.ref U) (.type "tuple") = some false)
    (z_isinstance : PySem.W.nsIn K mainGlobals "isinstance" = some none)
    (z_list : PySem.W.nsIn K mainGlobals "list" = some none)
    (z_tuple : PySem.W.nsIn K mainGlobals "tuple" = some none)
    (z_len : PySem.W.nsIn K mainGlobals "len" = some none)
    (z_all : PySem.W.nsIn K mainGlobals "all" = some none)
    (z_zip : PySem.W.nsIn K mainGlobals "zip" = some none)
    (z_dict : PySem.W.nsIn K mainGlobals "dict" = some none)
    (z_int : PySem.W.nsIn K mainGlobals "int" = some none)
    (z_bool : PySem.W.nsIn K mainGlobals "bool" = some none)
    (z_range : PySem.W.nsIn K mainGlobals "range" = some none)
    (z_str : PySem.W.nsIn K mainGlobals "str" = some none)
    (z_any : PySem.W.nsIn K mainGlobals "any" = some none)
    (z_sorted : PySem.W.nsIn K mainGlobals "sorted" = some none)
    (z_ValueError : PySem.W.nsIn K mainGlobals "ValueError" = some none)
    (z_enumerate : PySem.W.nsIn K mainGlobals "enumerate" = some none)
    (z_sum : PySem.W.nsIn K mainGlobals "sum" = some none)
    (z_set : PySem.W.nsIn K mainGlobals "set" = some none)
    (D_is_whole : Dx K mg "is_whole" sWhole f_is_whole d_is_whole)
    (D_frozen : Dx K mg "frozen" sFrozen f_frozen d_frozen)
    (D_are_axes : Dx K mg "are_axes" sAxes f_are_axes d_are_axes)
    (D_check_letters : Dx K mg "check_letters" sChkL f_check_letters d_check_letters)
    (D_ascending : Dx K mg "ascending" Ey.sAsc f_ascending d_ascending)
    (D_access : Dx K mg "access" Ey.sAcc f_access d_access)
    (D_is_access : Dx K mg "is_access" s_is_access f_is_access d_is_access)
    (D_use_accesses : Dx K mg "use_accesses" s_use_accesses f_use_accesses d_use_accesses)
    (D_pairs_down_to : Dx K mg "pairs_down_to" s_pairs_down_to f_pairs_down_to d_pairs_down_to)
    (D_use_members : Dx K mg "use_members" s_use_members f_use_members d_use_members)
    (D_ranks_of : Dx K mg "ranks_of" s_ranks_of f_ranks_of d_ranks_of)
    (D__law_draw : Dx K mg "_law_draw" sDraw f__law_draw d__law_draw)
    (D__law_start : Dx K mg "_law_start" sStart f__law_start d__law_start)
    (D__law_pick : Dx K mg "_law_pick" sPick f__law_pick d__law_pick)
    (D__law_mixed : Dx K mg "_law_mixed" sMixed f__law_mixed d__law_mixed)
    (D__law_same : Dx K mg "_law_same" sSame f__law_same d__law_same)
    (D__law_name : Dx K mg "_law_name" Tt.sName f__law_name d__law_name)
    (D__law_names : Dx K mg "_law_names" Tt.sNames f__law_names d__law_names)
    (D__law_letters : Dx K mg "_law_letters" Tt.sLet f__law_letters d__law_letters)
    (D__law_form : Dx K mg "_law_form" sForm f__law_form d__law_form)
    (D__law_form_text : Dx K mg "_law_form_text" sFtext f__law_form_text d__law_form_text)
    (D__law_level_letters : Dx K mg "_law_level_letters" s_l_level_letters f__law_level_letters d__law_level_letters)
    (D__law_merged : Dx K mg "_law_merged" s_l_merged f__law_merged d__law_merged)
    (D__law_program_letters : Dx K mg "_law_program_letters" s_l_program_letters f__law_program_letters d__law_program_letters)
    (D__law_use_built : Dx K mg "_law_use_built" s_l_use_built f__law_use_built d__law_use_built)
    (D__law_pairs_of : Dx K mg "_law_pairs_of" s_l_pairs_of f__law_pairs_of d__law_pairs_of)
    (D__law_access : Dx K mg "_law_access" Ey.sLacc f__law_access d__law_access)
    (D__law_pairs : Dx K mg "_law_pairs" s_l_pairs f__law_pairs d__law_pairs)
    (D__law_members : Dx K mg "_law_members" s_l_members f__law_members d__law_members)
    (D__law_made : Dx K mg "_law_made" s_l_made f__law_made d__law_made)
    (D__law_due : Dx K mg "_law_due" s_l_due f__law_due d__law_due)
    (E_RC : Tx K mg "RankClash" "RankClash.__init__" "name" s_rc_init RC iR dR)
    : LawAtS l w K CX0 12 63 "_law_script" mg fa h := by
  have e := hfa.symm.trans (PySem.W.mg_of X G lA)
  cases e
  have hh : PySem.W.CodeHd h cL P0 := PySem.W.codeHd_of_K X lH
  have own0 : h.get? P0 = some { cls := .none, data := .fields #[] } := own cL P0 _ _ _ _ vs1 _ lL rfl rfl lK lV
  have B : Bt mg := ⟨PySem.W.mg_none_of X G z_isinstance, PySem.W.mg_none_of X G z_list, PySem.W.mg_none_of X G z_tuple, PySem.W.mg_none_of X G z_len, PySem.W.mg_none_of X G z_all, PySem.W.mg_none_of X G z_zip, PySem.W.mg_none_of X G z_dict, PySem.W.mg_none_of X G z_int, PySem.W.mg_none_of X G z_bool, PySem.W.mg_none_of X G z_range⟩
  have S : Bs mg := ⟨PySem.W.mg_none_of X G z_str, PySem.W.mg_none_of X G z_any, PySem.W.mg_none_of X G z_sorted, PySem.W.mg_none_of X G z_ValueError⟩
  have B2 : Bx mg := ⟨PySem.W.mg_none_of X G z_sorted, PySem.W.mg_none_of X G z_enumerate, PySem.W.mg_none_of X G z_str⟩
  have B2e : Ey.Bx mg := ⟨PySem.W.mg_none_of X G z_sum, PySem.W.mg_none_of X G z_set, PySem.W.mg_none_of X G z_sorted, PySem.W.mg_none_of X G z_enumerate, PySem.W.mg_none_of X G z_str⟩
  have zAny := PySem.W.mg_none_of X G z_any
  have zSet := PySem.W.mg_none_of X G z_set
  have T : Fm K mg C fI BF AW KD (.type "type") := { cl := ⟨pg, hd, po, sa⟩, nK := nK, nA := nA, mkC := ⟨mk, a1, i1, kC⟩, mC := PySem.W.mg_of X G aC, mB := PySem.W.mg_of X G aB, xB := xB, kB := kB, rB := rB, tB := tB, most := ⟨t3, PySem.W.mg_of X G aM⟩, cr := ⟨r1, r2⟩, kd := ⟨kd, rfl⟩, kdT := fun H => sq_const kl kz kv, mAW := PySem.W.mg_of X G aA, awT := fun H => sq_const al az av }
  have Uc : Us K U C := ⟨⟨vpg, vhd, vpo, vsa⟩, vn, vl, vf, ⟨pg, hd, po, sa⟩, nK⟩
  have Uic : Ui K U := ⟨⟨⟨vpg, vhd, vpo, vsa⟩, ve4, e5, e6, ve7, kit_me⟩, kit_noT (T := "list") (by decide +kernel) vsl, kit_noT (T := "tuple") (by decide +kernel) vst⟩
  have sI := kit_noR (n := "int") xic xty (fsub K XC)
  have sS_ := kit_noR (n := "str") xic xty (fsubS K XC)
  have sT := kit_noR (n := "tuple") xic xty (fsubT K XC)
  have cI := kit_noT (T := "int") (by decide +kernel) xsi
  have Xx : Ey.Xc K mg XC fXC := { ic := ⟨⟨xpg, xhd, xpo, xsa⟩, xe4, e5, e6, xe7, kit_me⟩, nK := xnK, nP := xnP, nN := xnN, nA := xnA, nL := xnL, mkC := ⟨xmk, x1, x2, xk⟩, mC := PySem.W.mg_of X G xA, sI := sI, sS := sS_, sT := sT, cI := cI }
  have Pc : Pg K PG := ⟨⟨ppg, phd, ppo, psa⟩, pnT, pnU, pnN, pnL⟩
  have Bc : Bk K BL := ⟨⟨bpg, bhd, bpo, bsa⟩, bnN⟩
  have Fc : Fy K FA := ⟨⟨ypg, yhd, ypo, ysa⟩, ynR, ynA, ynL, ynM⟩
  have MU : Mk K U fU := ⟨vmk, v1, v2, vk⟩
  have mU := PySem.W.mg_of X G vA
  have Fu : Fun K "__init__" "Use.__init__" sUini fU _ := fun_mk v3 v4 v5
  have bU := Fu.binds (ps := ["self", "name", "letters", "form"]) fun _ _ _ _ _ _ us hl => match us, hl with | [_, _, _, _], _ => rfl
  have Fp : Fun K "__init__" "Program.__init__" s_prog fPG _ := fun_mk p3 p4 p5
  have bP := Fp.binds (ps := ["self", "target", "uses", "node"]) fun _ _ _ _ _ _ us hl => match us, hl with | [_, _, _, _], _ => rfl
  have Fb : Fun K "__init__" "Block.__init__" s_blk fBL _ := fun_mk b3 b4 b5
  have bB := Fb.binds (ps := ["self", "nodes"]) fun _ _ _ _ _ _ us hl => match us, hl with | [_, _], _ => rfl
  have Fx : Fun K "__init__" "Expression.__init__" Ey.sXini fXC _ := fun_mk x3 x4 x5
  have bX := Fx.binds (ps := ["self", "kind", "parts"]) fun _ _ _ _ _ _ us hl => match us, hl with | [_, _, _], _ => rfl
  have Ff : Fun K "__init__" "Family.__init__" s_fini fFA _ := fun_mk y3 y4 y5
  have Frd : Fun K "read" "Form.read" sRead gR _ := fun_mk m4 m5 m6
  have bRd := Frd.binds (ps := ["cls", "text"]) fun _ _ _ _ _ _ us hl => match us, hl with | [_, _], _ => rfl
  have FRf : Fun K "_law_end" "_law_end" s_l_end fRf _ := fun_mk rL rC rK
  have bRf := FRf.binds (ps := ["_law_deed"]) fun _ _ _ _ _ _ us hl => match us, hl with | [_], _ => rfl
  have b_RC := E_RC.F.binds (ps := ["self", "name"]) fun _ _ _ _ _ _ us hl => match us, hl with | [_, _], _ => rfl
  have b_is_whole := D_is_whole.F.binds (ps := ["n"]) fun _ _ _ _ _ _ us hl => match us, hl with | [_], _ => rfl
  have b_frozen := D_frozen.F.binds (ps := ["worth"]) fun _ _ _ _ _ _ us hl => match us, hl with | [_], _ => rfl
  have b_are_axes := D_are_axes.F.binds (ps := ["axes", "many"]) fun _ _ _ _ _ _ us hl => match us, hl with | [_, _], _ => rfl
  have b_check_letters := D_check_letters.F.binds (ps := ["letters"]) fun _ _ _ _ _ _ us hl => match us, hl with | [_], _ => rfl
  have b_ascending := D_ascending.F.binds (ps := ["names"]) fun _ _ _ _ _ _ us hl => match us, hl with | [_], _ => rfl
  have b_is_access := D_is_access.F.binds (ps := ["x"]) fun _ _ _ _ _ _ us hl => match us, hl with | [_], _ => rfl
  have b_use_accesses := D_use_accesses.F.binds (ps := ["program"]) fun _ _ _ _ _ _ us hl => match us, hl with | [_], _ => rfl
  have b_pairs_down_to := D_pairs_down_to.F.binds (ps := ["use", "depth"]) fun _ _ _ _ _ _ us hl => match us, hl with | [_, _], _ => rfl
  have b_use_members := D_use_members.F.binds (ps := ["use"]) fun _ _ _ _ _ _ us hl => match us, hl with | [_], _ => rfl
  have b_ranks_of := D_ranks_of.F.binds (ps := ["programs"]) fun _ _ _ _ _ _ us hl => match us, hl with | [_], _ => rfl
  have b__law_draw := D__law_draw.F.binds (ps := ["_law_stream", "_law_many"]) fun _ _ _ _ _ _ us hl => match us, hl with | [_, _], _ => rfl
  have b__law_start := D__law_start.F.binds (ps := ["_law_script"]) fun _ _ _ _ _ _ us hl => match us, hl with | [_], _ => rfl
  have b__law_pick := D__law_pick.F.binds (ps := ["_law_stream", "_law_some"]) fun _ _ _ _ _ _ us hl => match us, hl with | [_, _], _ => rfl
  have b__law_mixed := D__law_mixed.F.binds (ps := ["_law_stream", "_law_some"]) fun _ _ _ _ _ _ us hl => match us, hl with | [_, _], _ => rfl
  have b__law_same := D__law_same.F.binds (ps := ["_law_found", "_law_due_here"]) fun _ _ _ _ _ _ us hl => match us, hl with | [_, _], _ => rfl
  have b__law_name := D__law_name.F.binds (ps := ["_law_stream"]) fun _ _ _ _ _ _ us hl => match us, hl with | [_], _ => rfl
  have b__law_names := D__law_names.F.binds (ps := ["_law_stream", "_law_many"]) fun _ _ _ _ _ _ us hl => match us, hl with | [_, _], _ => rfl
  have b__law_letters := D__law_letters.F.binds (ps := ["_law_stream", "_law_many"]) fun _ _ _ _ _ _ us hl => match us, hl with | [_, _], _ => rfl
  have b__law_form := D__law_form.F.binds (ps := ["_law_stream", "_law_rank"]) fun _ _ _ _ _ _ us hl => match us, hl with | [_, _], _ => rfl
  have b__law_form_text := D__law_form_text.F.binds (ps := ["_law_form_here"]) fun _ _ _ _ _ _ us hl => match us, hl with | [_], _ => rfl
  have b__law_level_letters := D__law_level_letters.F.binds (ps := ["_law_use"]) fun _ _ _ _ _ _ us hl => match us, hl with | [_], _ => rfl
  have b__law_merged := D__law_merged.F.binds (ps := ["_law_lists"]) fun _ _ _ _ _ _ us hl => match us, hl with | [_], _ => rfl
  have b__law_program_letters := D__law_program_letters.F.binds (ps := ["_law_p"]) fun _ _ _ _ _ _ us hl => match us, hl with | [_], _ => rfl
  have b__law_use_built := D__law_use_built.F.binds (ps := ["_law_use"]) fun _ _ _ _ _ _ us hl => match us, hl with | [_], _ => rfl
  have b__law_pairs_of := D__law_pairs_of.F.binds (ps := ["_law_p"]) fun _ _ _ _ _ _ us hl => match us, hl with | [_], _ => rfl
  have b__law_access := D__law_access.F.binds (ps := ["_law_name_here", "_law_letters_here"]) fun _ _ _ _ _ _ us hl => match us, hl with | [_, _], _ => rfl
  have b__law_pairs := D__law_pairs.F.binds (ps := ["_law_use", "_law_count"]) fun _ _ _ _ _ _ us hl => match us, hl with | [_, _], _ => rfl
  have b__law_members := D__law_members.F.binds (ps := ["_law_programs"]) fun _ _ _ _ _ _ us hl => match us, hl with | [_], _ => rfl
  have b__law_made := D__law_made.F.binds (ps := ["_law_programs"]) fun _ _ _ _ _ _ us hl => match us, hl with | [_], _ => rfl
  have b__law_due := D__law_due.F.binds (ps := ["_law_programs"]) fun _ _ _ _ _ _ us hl => match us, hl with | [_], _ => rfl
  refine ⟨_, [(cL, P0)], spLaw K P0, fun p hp => ?_, fun p hp => ?_, fun p hp => ?_, fun s v => .of_eq (fd := PySem.W.fnOf "law" "law" (defArgs s_law) (defBody s_law) (defScope s_law) .none kV0 dc0 pm0 an0 (.ref cL) ct0) rfl, fun H a ns hl _ hT hS => ⟨a, ns, rfl, hS, hl, hT (cL, P0) (List.mem_singleton.mpr rfl), fun _ => rfl⟩, fun base _ _ hTB => ?_⟩
  · rw [List.mem_singleton.mp hp]
    exact own0
  · rw [List.mem_singleton.mp hp]
    exact lN
  · rw [List.mem_singleton.mp hp]
    exact hh
  have GD := ok_draw (P := l.prog) (w := w) (base := base) D__law_draw.F B
  have GP := ok_pick D__law_pick.F GD b__law_draw D__law_draw.F.kp D__law_draw.m B
  have GPs := Tt.ok_pickS D__law_pick.F GD b__law_draw D__law_draw.F.kp D__law_draw.m B
  have GMx := ok_mixed D__law_mixed.F GD b__law_draw D__law_draw.F.kp D__law_draw.m B
  have CS := ca_of D__law_start b__law_start (ok_start (P := l.prog) (w := w) (base := base) D__law_start.F B)
  have CD := ca_of D__law_draw b__law_draw GD
  have CM := ca_of D__law_mixed b__law_mixed (Tt.ok_mixed D__law_mixed.F GD b__law_draw D__law_draw.F.kp D__law_draw.m B)
  have CL := ca_of D__law_letters b__law_letters (Tt.ok_let D__law_letters.F GD b__law_draw D__law_draw.F.kp D__law_draw.m B)
  have GN := Tt.ok_name D__law_name.F GD b__law_draw D__law_draw.F.kp D__law_draw.m B GPs b__law_pick D__law_pick.F.kp D__law_pick.m
  have CN := ca_of D__law_names b__law_names (Tt.ok_names D__law_names.F B GN b__law_name D__law_name.F.kp D__law_name.m)
  have CFm := ca_of D__law_form b__law_form (ok_form D__law_form.F GMx b__law_mixed D__law_mixed.F.kp D__law_mixed.m GP b__law_pick D__law_pick.F.kp D__law_pick.m B)
  have GX := ok_ftext (P := l.prog) (w := w) (base := base) D__law_form_text.F B S
  have GW := ok_whole (P := l.prog) (w := w) (base := base) D_is_whole.F B
  have GZ := ok_frz (P := l.prog) (w := w) (base := base) D_frozen.F b_frozen D_frozen.m B
  have GZs := ok_frzS (P := l.prog) (w := w) (base := base) D_frozen.F b_frozen D_frozen.m B
  have CFz := ca_of D_frozen b_frozen GZ
  have CFu := ca_of D_frozen b_frozen (ok_frzU (P := l.prog) (w := w) (base := base) D_frozen.F b_frozen D_frozen.m B Uic)
  have GA := ok_axes D_are_axes.F GW b_is_whole D_is_whole.F.kp D_is_whole.m B
  have FI := ok_init (P := l.prog) (w := w) (base := base) (du := .none) l1 c1 n1 T B GZ b_frozen D_frozen.F.kp D_frozen.m GA b_are_axes D_are_axes.F.kp D_are_axes.m
  have GR := fnR_of (ok_read Frd T B FI) bRd
  have GC := ok_chkL (P := l.prog) (w := w) (base := base) D_check_letters.F B2
  have GU := ok_uini Fu Uc B GZs b_frozen D_frozen.F.kp D_frozen.m GC b_check_letters D_check_letters.F.kp D_check_letters.m
  have CUb := ca_of D__law_use_built b__law_use_built (ok_l_use_built D__law_use_built.F MU GU bU mU GX b__law_form_text D__law_form_text.F.kp D__law_form_text.m T GR ⟨m1, ⟨_, m2⟩, m3⟩)
  have GAs := Ey.ok_asc (P := l.prog) (w := w) (base := base) D_ascending.F B B2e
  have CAs := ca_of D_ascending b_ascending GAs
  have CAn := ca_of D_ascending b_ascending (ok_ascN (P := l.prog) (w := w) (base := base) D_ascending.F B B2 zSet)
  have FX := Ey.ok_xini Fx Xx B B2e GAs b_ascending D_ascending.F.kp D_ascending.m
  have GCe := Ey.ok_chkL (P := l.prog) (w := w) (base := base) D_check_letters.F B2e
  have GAc := Ey.ok_acc D_access.F Xx B FX bX GCe b_check_letters D_check_letters.F.kp D_check_letters.m
  have CLa := ca_of D__law_access b__law_access (Ey.ok_lacc D__law_access.F B GAc D_access.F.kp D_access.m)
  have CIa := ca_of D_is_access b_is_access (ok_is_access (P := l.prog) (w := w) (base := base) D_is_access.F Xx B)
  have GPi := ok_pini Fp Pc Xx Uc B CIa CFu CAs
  have GBi := ok_blk Fb Bc CFz
  have CUa := ca_of D_use_accesses b_use_accesses (ok_use_accesses (P := l.prog) (w := w) (mg := mg) (base := base) (X := XC) D_use_accesses.F Pc Uc)
  have CPd := ca_of D_pairs_down_to b_pairs_down_to (ok_pairs_down_to (P := l.prog) (w := w) (base := base) D_pairs_down_to.F Uc nA B B2)
  have CUm := ca_of D_use_members b_use_members (ok_use_members D_use_members.F Uc B B2 CPd)
  have CP := ca_of D__law_pick b__law_pick GP
  have GFr := ok_frV (P := l.prog) (w := w) (base := base) D_frozen.F B
  have FR := ok_rc E_RC.F E_RC.T GFr b_frozen D_frozen.F.kp D_frozen.m
  have GRk := ok_ranks_ofX D_ranks_of.F Pc Xx B CUa E_RC.T FR b_RC
  have GFy := ok_fini Ff Fc Pc Uc B GRk b_ranks_of D_ranks_of.F.kp D_ranks_of.m CAs CAn CUm
  have CLl := ca_of D__law_level_letters b__law_level_letters (ok_l_level_letters (P := l.prog) (w := w) (mg := mg) (base := base) D__law_level_letters.F)
  have CLp := ca_of D__law_pairs b__law_pairs (ok_l_pairs D__law_pairs.F B B2 CLl)
  have CMb := ca_of D__law_members b__law_members (ok_l_members D__law_members.F B B2 CLp)
  have CMt := ca_of D__law_merged b__law_merged (ok_l_merged (P := l.prog) (w := w) (base := base) D__law_merged.F B B2)
  have CMl := ca_of D__law_merged b__law_merged (ok_l_mergedL (P := l.prog) (w := w) (base := base) D__law_merged.F B B2)
  have CPl := ca_of D__law_program_letters b__law_program_letters (ok_l_program_letters D__law_program_letters.F CMt)
  have CPo := ca_of D__law_pairs_of b__law_pairs_of (ok_l_pairs_of (P := l.prog) (w := w) (mg := mg) (base := base) D__law_pairs_of.F)
  have GMd := ok_l_made D__law_made.F B CLa CUb ⟨pmk, p1, p2, pk⟩ GPi bP (PySem.W.mg_of X G pA) ⟨bmk, b1, b2, bk⟩ GBi bB (PySem.W.mg_of X G bA) ⟨ymk, y1, y2, yk⟩ GFy (PySem.W.mg_of X G yA)
  have CDu := ca_of D__law_due b__law_due (ok_l_due D__law_due.F B CPo CPl CMb CMl)
  have CE := ca_of D__law_same b__law_same (ok_sames (P := l.prog) (w := w) (base := base) D__law_same.F b__law_same D__law_same.m B 6)
  have R : EnE K mg RC WE := { m_1 := E_RC.T.m, m_w := PySem.W.mg_of X G wW, x1 := E_RC.xf, n1 := E_RC.T.no, m1 := PySem.W.exm_ref E_RC.xf.exC E_RC.xf.hdC E_RC.ty xs }
  exact ok_law lL lC B B2 R Fc CS CD CP CL CM CN CFm CMb CE CDu GMd b__law_made D__law_made.F.kp D__law_made.m rL rC bRf rK (PySem.W.mg_of X G rA) (hTB (cL, P0) (List.mem_singleton.mpr rfl))
end Lw
open PySem PySem.W PyProof.Rows
set_option maxRecDepth 100000 in
set_option maxHeartbeats 0 in
theorem PySem.Challenge.cw_levelwalks_k38_members_holds : PySem.Challenge.rw_levelwalks_k38_members.Holds := by
  w_on; o_law; k_head; (case hw => w_witness2)
  k_fill
  refine LamX.walk_ofOwn (l := PySem.Challenge.rw_levelwalks_k38_members) (n := 63) (k := 12) (x := "_law_script") (CX := fun _ => L2.CX0) rfl (by decide) rfl ⟨rfl, by decide, by decide⟩ (by decide +kernel) (fun w h Y => PySem.W.km_in_of Y) ?F (fun _ _ _ _ _ z => z)
  case F =>
    intro w mg fa h Y KX G hmg own
    refine' Lw.all_mk KX G hmg own ?lA ?lL ?lC ?lK ?lV ?lH ?lN ?rA ?rL ?rC ?rK ?wW ?xs ?aC ?aB ?aM ?aA ?a1 ?i1 ?l1 ?c1 ?n1 ?mk ?kC ?pg ?hd ?po ?sa ?nK ?nA ?r1 ?r2 ?kd ?kl ?kz ?kv ?al ?az ?av ?m1 ?m2 ?m3 ?m4 ?m5 ?m6 ?xB ?kB ?rB ?tB ?vA ?v1 ?v2 ?v3 ?v4 ?v5 ?vmk ?vk ?vpg ?vhd ?vpo ?vsa ?vn ?vl ?vf ?pA ?p1 ?p2 ?p3 ?p4 ?p5 ?pmk ?pk ?ppg ?phd ?ppo ?psa ?pnT ?pnU ?pnN ?pnL ?bA ?b1 ?b2 ?b3 ?b4 ?b5 ?bmk ?bk ?bpg ?bhd ?bpo ?bsa ?bnN ?yA ?y1 ?y2 ?y3 ?y4 ?y5 ?ymk ?yk ?ypg ?yhd ?ypo ?ysa ?ynR ?ynA ?ynL ?ynM ?xA ?x1 ?x2 ?x3 ?x4 ?x5 ?xmk ?xk ?xpg ?xhd ?xpo ?xsa ?xnK ?xnP ?xnN ?xnA ?xnL ?xe4 ?xe7 ?ve4 ?ve7 ?e5 ?e6 ?xic ?xty ?xsi ?vsl ?vst ?z_isinstance ?z_list ?z_tuple ?z_len ?z_all ?z_zip ?z_dict ?z_int ?z_bool ?z_range ?z_str ?z_any ?z_sorted ?z_ValueError ?z_enumerate ?z_sum ?z_set ?D_is_whole ?D_frozen ?D_are_axes ?D_check_letters ?D_ascending ?D_access ?D_is_access ?D_use_accesses ?D_pairs_down_to ?D_use_members ?D_ranks_of ?D__law_draw ?D__law_start ?D__law_pick ?D__law_mixed ?D__law_same ?D__law_name ?D__law_names ?D__law_letters ?D__law_form ?D__law_form_text ?D__law_level_letters ?D__law_merged ?D__law_program_letters ?D__law_use_built ?D__law_pairs_of ?D__law_access ?D__law_pairs ?D__law_members ?D__law_made ?D__law_due ?E_RC
    (case E_RC => (refine' Lw.tx_mk KX G ?q_aC ?q_xL ?q_sa ?q_ga ?q_gg ?q_no ?q_a1 ?q_t1 ?q_l1 ?q_c1 ?q_k1 ?q_kC ?q_eC ?q_tC ?q_hC; (case q_aC => k_is); (case q_xL => k_is); (case q_sa => k_is); (case q_ga => k_is); (case q_gg => k_is); (case q_no => k_is); (case q_a1 => k_is); (case q_t1 => k_is); (case q_l1 => k_is); (case q_c1 => k_is); (case q_k1 => k_is); (case q_kC => k_is); (case q_eC => k_is); (case q_tC => k_is); (case q_hC => k_is)))
    (case lA => k_is)
    (case lL => k_is)
    (case lC => k_is)
    (case lK => k_is)
    (case lV => rfl)
    (case lH => rfl)
    (case lN => rfl)
    (case rA => k_is)
    (case rL => k_is)
    (case rC => k_is)
    (case rK => k_is)
    (case wW => k_is)
    (case xs => first | rfl | k_is)
    (case aC => k_is)
    (case aB => k_is)
    (case aM => k_is)
    (case aA => k_is)
    (case a1 => k_is)
    (case i1 => k_is)
    (case l1 => k_is)
    (case c1 => k_is)
    (case n1 => k_is)
    (case mk => k_is)
    (case kC => k_is)
    (case pg => k_is)
    (case hd => k_is)
    (case po => k_is)
    (case sa => k_is)
    (case nK => k_is)
    (case nA => k_is)
    (case r1 => k_is)
    (case r2 => k_is)
    (case kd => k_is)
    (case kl => k_is)
    (case kz => decide)
    (case kv => exact .cons ⟨_, rfl⟩ (.cons ⟨_, rfl⟩ (.cons ⟨_, rfl⟩ (.cons ⟨_, rfl⟩ (.nil)))))
    (case al => k_is)
    (case az => decide)
    (case av => exact .cons ⟨_, rfl⟩ (.cons ⟨_, rfl⟩ (.cons ⟨_, rfl⟩ (.nil))))
    (case m1 => k_is)
    (case m2 => k_is)
    (case m3 => k_is)
    (case m4 => k_is)
    (case m5 => k_is)
    (case m6 => k_is)
    (case xB => k_exc)
    (case kB => k_is)
    (case rB => k_is)
    (case tB => k_is)
    (case vA => k_is)
    (case v1 => k_is)
    (case v2 => k_is)
    (case v3 => k_is)
    (case v4 => k_is)
    (case v5 => k_is)
    (case vmk => k_is)
    (case vk => k_is)
    (case vpg => k_is)
    (case vhd => k_is)
    (case vpo => k_is)
    (case vsa => k_is)
    (case vn => k_is)
    (case vl => k_is)
    (case vf => k_is)
    (case pA => k_is)
    (case p1 => k_is)
    (case p2 => k_is)
    (case p3 => k_is)
    (case p4 => k_is)
    (case p5 => k_is)
    (case pmk => k_is)
    (case pk => k_is)
    (case ppg => k_is)
    (case phd => k_is)
    (case ppo => k_is)
    (case psa => k_is)
    (case pnT => k_is)
    (case pnU => k_is)
    (case pnN => k_is)
    (case pnL => k_is)
    (case bA => k_is)
    (case b1 => k_is)
    (case b2 => k_is)
    (case b3 => k_is)
    (case b4 => k_is)
    (case b5 => k_is)
    (case bmk => k_is)
    (case bk => k_is)
    (case bpg => k_is)
    (case bhd => k_is)
    (case bpo => k_is)
    (case bsa => k_is)
    (case bnN => k_is)
    (case yA => k_is)
    (case y1 => k_is)
    (case y2 => k_is)
    (case y3 => k_is)
    (case y4 => k_is)
    (case y5 => k_is)
    (case ymk => k_is)
    (case yk => k_is)
    (case ypg => k_is)
    (case yhd => k_is)
    (case ypo => k_is)
    (case ysa => k_is)
    (case ynR => k_is)
    (case ynA => k_is)
    (case ynL => k_is)
    (case ynM => k_is)
    (case xA => k_is)
    (case x1 => k_is)
    (case x2 => k_is)
    (case x3 => k_is)
    (case x4 => k_is)
    (case x5 => k_is)
    (case xmk => k_is)
    (case xk => k_is)
    (case xpg => k_is)
    (case xhd => k_is)
    (case xpo => k_is)
    (case xsa => k_is)
    (case xnK => k_is)
    (case xnP => k_is)
    (case xnN => k_is)
    (case xnA => k_is)
    (case xnL => k_is)
    (case xe4 => k_is)
    (case xe7 => k_is)
    (case ve4 => k_is)
    (case ve7 => k_is)
    (case e5 => k_is)
    (case e6 => k_is)
    (case xic => k_is)
    (case xty => k_is)
    (case xsi => k_is)
    (case vsl => k_is)
    (case vst => k_is)
    (case z_isinstance => k_is)
    (case z_list => k_is)
    (case z_tuple => k_is)
    (case z_len => k_is)
    (case z_all => k_is)
    (case z_zip => k_is)
    (case z_dict => k_is)
    (case z_int => k_is)
    (case z_bool => k_is)
    (case z_range => k_is)
    (case z_str => k_is)
    (case z_any => k_is)
    (case z_sorted => k_is)
    (case z_ValueError => k_is)
    (case z_enumerate => k_is)
    (case z_sum => k_is)
    (case z_set => k_is)
    (case D_is_whole => (refine' Lw.dx_mk KX G ?a ?l ?c ?k; (case a => k_is); (case l => k_is); (case c => k_is); (case k => k_is)))
    (case D_frozen => (refine' Lw.dx_mk KX G ?a ?l ?c ?k; (case a => k_is); (case l => k_is); (case c => k_is); (case k => k_is)))
    (case D_are_axes => (refine' Lw.dx_mk KX G ?a ?l ?c ?k; (case a => k_is); (case l => k_is); (case c => k_is); (case k => k_is)))
    (case D_check_letters => (refine' Lw.dx_mk KX G ?a ?l ?c ?k; (case a => k_is); (case l => k_is); (case c => k_is); (case k => k_is)))
    (case D_ascending => (refine' Lw.dx_mk KX G ?a ?l ?c ?k; (case a => k_is); (case l => k_is); (case c => k_is); (case k => k_is)))
    (case D_access => (refine' Lw.dx_mk KX G ?a ?l ?c ?k; (case a => k_is); (case l => k_is); (case c => k_is); (case k => k_is)))
    (case D_is_access => (refine' Lw.dx_mk KX G ?a ?l ?c ?k; (case a => k_is); (case l => k_is); (case c => k_is); (case k => k_is)))
    (case D_use_accesses => (refine' Lw.dx_mk KX G ?a ?l ?c ?k; (case a => k_is); (case l => k_is); (case c => k_is); (case k => k_is)))
    (case D_pairs_down_to => (refine' Lw.dx_mk KX G ?a ?l ?c ?k; (case a => k_is); (case l => k_is); (case c => k_is); (case k => k_is)))
    (case D_use_members => (refine' Lw.dx_mk KX G ?a ?l ?c ?k; (case a => k_is); (case l => k_is); (case c => k_is); (case k => k_is)))
    (case D_ranks_of => (refine' Lw.dx_mk KX G ?a ?l ?c ?k; (case a => k_is); (case l => k_is); (case c => k_is); (case k => k_is)))
    (case D__law_draw => (refine' Lw.dx_mk KX G ?a ?l ?c ?k; (case a => k_is); (case l => k_is); (case c => k_is); (case k => k_is)))
    (case D__law_start => (refine' Lw.dx_mk KX G ?a ?l ?c ?k; (case a => k_is); (case l => k_is); (case c => k_is); (case k => k_is)))
    (case D__law_pick => (refine' Lw.dx_mk KX G ?a ?l ?c ?k; (case a => k_is); (case l => k_is); (case c => k_is); (case k => k_is)))
    (case D__law_mixed => (refine' Lw.dx_mk KX G ?a ?l ?c ?k; (case a => k_is); (case l => k_is); (case c => k_is); (case k => k_is)))
    (case D__law_same => (refine' Lw.dx_mk KX G ?a ?l ?c ?k; (case a => k_is); (case l => k_is); (case c => k_is); (case k => k_is)))
    (case D__law_name => (refine' Lw.dx_mk KX G ?a ?l ?c ?k; (case a => k_is); (case l => k_is); (case c => k_is); (case k => k_is)))
    (case D__law_names => (refine' Lw.dx_mk KX G ?a ?l ?c ?k; (case a => k_is); (case l => k_is); (case c => k_is); (case k => k_is)))
    (case D__law_letters => (refine' Lw.dx_mk KX G ?a ?l ?c ?k; (case a => k_is); (case l => k_is); (case c => k_is); (case k => k_is)))
    (case D__law_form => (refine' Lw.dx_mk KX G ?a ?l ?c ?k; (case a => k_is); (case l => k_is); (case c => k_is); (case k => k_is)))
    (case D__law_form_text => (refine' Lw.dx_mk KX G ?a ?l ?c ?k; (case a => k_is); (case l => k_is); (case c => k_is); (case k => k_is)))
    (case D__law_level_letters => (refine' Lw.dx_mk KX G ?a ?l ?c ?k; (case a => k_is); (case l => k_is); (case c => k_is); (case k => k_is)))
    (case D__law_merged => (refine' Lw.dx_mk KX G ?a ?l ?c ?k; (case a => k_is); (case l => k_is); (case c => k_is); (case k => k_is)))
    (case D__law_program_letters => (refine' Lw.dx_mk KX G ?a ?l ?c ?k; (case a => k_is); (case l => k_is); (case c => k_is); (case k => k_is)))
    (case D__law_use_built => (refine' Lw.dx_mk KX G ?a ?l ?c ?k; (case a => k_is); (case l => k_is); (case c => k_is); (case k => k_is)))
    (case D__law_pairs_of => (refine' Lw.dx_mk KX G ?a ?l ?c ?k; (case a => k_is); (case l => k_is); (case c => k_is); (case k => k_is)))
    (case D__law_access => (refine' Lw.dx_mk KX G ?a ?l ?c ?k; (case a => k_is); (case l => k_is); (case c => k_is); (case k => k_is)))
    (case D__law_pairs => (refine' Lw.dx_mk KX G ?a ?l ?c ?k; (case a => k_is); (case l => k_is); (case c => k_is); (case k => k_is)))
    (case D__law_members => (refine' Lw.dx_mk KX G ?a ?l ?c ?k; (case a => k_is); (case l => k_is); (case c => k_is); (case k => k_is)))
    (case D__law_made => (refine' Lw.dx_mk KX G ?a ?l ?c ?k; (case a => k_is); (case l => k_is); (case c => k_is); (case k => k_is)))
    (case D__law_due => (refine' Lw.dx_mk KX G ?a ?l ?c ?k; (case a => k_is); (case l => k_is); (case c => k_is); (case k => k_is)))
