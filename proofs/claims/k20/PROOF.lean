import PyProof.Rows.All
import Wide.All
import OpenK.AllK
import Wide.FinOn
import KE.KStateDown
import KE.KNestM
import HandS.ForExc
import HandS.ForMost
import HandS.Words
import HandS.HeadHook4
import HandS.ExcInit
import HandS.HeadWalk
import HandS.Head2
import HandS.Wide
import HandS.IsInst
import HandS.Walk
import HandS.Zip
import HandS.Style
import HandS.Codes
import HandS.Conv
import HandS.FStr
import HandS.Property
import HandS.ClsMeth
import HandS.Text
import HandS.Strs
import HandS.SortKw
import HandS.RaiseMore
import HandS.ExcIs
import HandS.TryMany
import HandS.Lambda
import HandS.EndTab
import HandS.EndBits
import HandS.TupAny
import HandS.SlotsOwn
import KE.KOpsOwn
import KE.DataCmp
import HandS.SetTxt0
import HandS.Set
import HandS.SetFor
import HandS.Zip0
import HandS.Iter
import HandS.Star
import PyProof.Rows.FactsN_abs
import PyProof.Rows.FactsB_and
import PyProof.Rows.FactsB_or
import PyProof.Rows.FactsB_xor
import PyProof.Rows.FactsB_sub
import PyProof.Rows.FactsB_mul
import PyProof.FactsInt
import KE.KDictList
import PyProof.StrWalks
import HandS.NoneIn
import HandS.ExcField
import HandS.Nested
import HandS.WordsExc
import HandS.Defaults
import HandS.TryOnly
import HandS.EndOwn
import PySem.Challenge.RW_levelwalks_k20_gains_and_losses
set_option Elab.async false
set_option linter.all false
set_option maxRecDepth 100000
set_option maxHeartbeats 8000000
/-! The head as one run: what the texts ask of the written part, as one value that the kernel reckons. -/
namespace Gh
open PySem PySem.Spec PyProof.Rows L2
abbrev Fr := PySem.W.Frag
section
variable (K : Fr) (a : Addr)
def oCls : Value := match K.lookup a with
  | some o => o.cls
  | none => .none
def oDic : Option Addr := match K.lookup a with
  | some o => o.dict
  | none => none
def oSlt : Array (Option Value) := match K.lookup a with
  | some o => o.slots
  | none => #[]
def oFun : FuncData := match K.lookup a with
  | some o => (match o.data with
    | .func fd => fd
    | _ => default)
  | none => default
def oIts : Array Value := match K.lookup a with
  | some o => (match o.data with
    | .seq its _ => its
    | .fields vs => vs
    | _ => #[])
  | none => #[]
def oNum : Nat := match K.lookup a with
  | some o => (match o.data with
    | .seq _ n => n
    | .dict _ n => n
    | _ => 0)
  | none => 0
def oEnt : Array DictEntry := match K.lookup a with
  | some o => (match o.data with
    | .dict es _ => es
    | _ => #[])
  | none => #[]
/-- the defaults: as they stand, or whether they are a tuple's address -/
def dfX : Bool → Value → Value
  | false, v => v
  | true, .ref _ => .none
  | true, _ => .bool true
def seen (dv : Bool) : He.FnV := match K.lookup a with
  | some ⟨_, _, .func f, _⟩ => some (f.name, f.qualname, f.params, f.body, f.scope, f.globals, f.closure, dfX dv f.defaults, f.builtins)
  | _ => none
def due (x q : Str) (st : Stmt) : He.FnV := some (x, q, defArgs st, .stmts (defBody st), defScope st, mainGlobals, [], .none, builtinsNs)
/-- addresses by names -/
def nsA (D : Addr) (x : Str) : Addr := match PySem.W.nsIn K D x with
  | some (some (.ref b)) => b
  | _ => 0
def nsT (D : Addr) (x : Str) : Tok := match PySem.W.nsIn K D x with
  | some (some (.int _ t)) => t
  | some (some (.str _ t)) => t
  | _ => 0
def fdA (x : Str) : Addr := match PySem.W.findIn K (.ref a) x with
  | some (some (.ref b)) => b
  | _ => 0
def refA : Value → Addr
  | .ref b => b
  | _ => 0
def isRef : Value → Bool
  | .ref _ => true
  | _ => false
def rcA (T : String) : Addr := match PySem.W.recIn K a T with
  | some (.ref b :: _) => b
  | _ => 0
def rcR (T : String) : List Value := match PySem.W.recIn K a T with
  | some (_ :: r) => r
  | _ => []
def rcB (T : String) : Bool := match PySem.W.recIn K a T with
  | some (.ref _ :: _) => true
  | _ => false
def clA (x : Str) : Addr := match PySem.W.findCls K (.ref a) (.type "type") x with
  | some (.val (.ref b)) => b
  | some (.get _ (.ref b) _ _) => b
  | _ => 0
def clB (x : Str) : Bool := match PySem.W.findCls K (.ref a) (.type "type") x with
  | some (.val (.ref _)) => true
  | _ => false
def cgB (x : Str) : Bool := match PySem.W.findCls K (.ref a) (.type "type") x with
  | some (.get g (.ref _) o t) => decide (g = .builtin "classmethod.__get__") && (decide (o = .none) && decide (t = .ref a))
  | _ => false
def tpB (vs : List V) : Bool := match K.lookup a with
  | some ⟨.type c, _, .seq its _, _⟩ => decide (c = "tuple") && (decide (its.size ≤ sizeLine) && He.relAll vs its.toList)
  | _ => false
def flB : Bool := match K.lookup a with
  | some ⟨_, _, .fields _, _⟩ => true
  | _ => false
end
section
variable {K : Fr} {a : Addr}
theorem isRef_ok {v : Value} (h : isRef v = true) : v = .ref (refA v) := by
  cases v with
  | ref b => rfl
  | _ => cases h
theorem fn_of {x q : Str} {st : Stmt} (e : seen K a false = due x q st) : K.lookup a = some ⟨oCls K a, oDic K a, .func (PySem.W.fnOf x q (defArgs st) (defBody st) (defScope st) .none (oFun K a).kwdefaults (oFun K a).doc (oFun K a).pyModule (oFun K a).annotations (oFun K a).code (oFun K a).closureTuple), oSlt K a⟩ := by
  unfold seen at e
  cases h : K.lookup a with
  | none =>
    rw [h] at e
    cases e
  | some o =>
    obtain ⟨oc, od, dt, sl⟩ := o
    rw [h] at e
    cases dt with
    | func f =>
      obtain ⟨n1, n2, n3, n4, n5, n6, n7, n8, n9, n10, n11, n12, n13, n14, n15⟩ := f
      have e2 : (some (n1, n2, n3, n4, n5, n6, n7, dfX false n8, n15) : He.FnV) = some (x, q, defArgs st, .stmts (defBody st), defScope st, mainGlobals, [], .none, builtinsNs) := e
      simp only [Option.some.injEq, Prod.mk.injEq] at e2
      obtain ⟨h1, h2, h3, h4, h5, h6, h7, h8, h9⟩ := e2
      have h8 : n8 = .none := h8
      subst h1 h2 h3 h4 h5 h6 h7 h8 h9
      simp only [oCls, oDic, oSlt, oFun, h]
    | _ => cases e
theorem fn_ofD {x q : Str} {st : Stmt} (e : seen K a true = due x q st) : K.lookup a = some ⟨oCls K a, oDic K a, .func (PySem.W.fnOf x q (defArgs st) (defBody st) (defScope st) (.ref (refA (oFun K a).defaults)) (oFun K a).kwdefaults (oFun K a).doc (oFun K a).pyModule (oFun K a).annotations (oFun K a).code (oFun K a).closureTuple), oSlt K a⟩ := by
  unfold seen at e
  cases h : K.lookup a with
  | none =>
    rw [h] at e
    cases e
  | some o =>
    obtain ⟨oc, od, dt, sl⟩ := o
    rw [h] at e
    cases dt with
    | func f =>
      obtain ⟨n1, n2, n3, n4, n5, n6, n7, n8, n9, n10, n11, n12, n13, n14, n15⟩ := f
      have e2 : (some (n1, n2, n3, n4, n5, n6, n7, dfX true n8, n15) : He.FnV) = some (x, q, defArgs st, .stmts (defBody st), defScope st, mainGlobals, [], .none, builtinsNs) := e
      simp only [Option.some.injEq, Prod.mk.injEq] at e2
      obtain ⟨h1, h2, h3, h4, h5, h6, h7, h8, h9⟩ := e2
      obtain ⟨b8, h8⟩ : ∃ b, n8 = .ref b := by
        cases n8 with
        | ref b => exact ⟨b, rfl⟩
        | _ => cases h8
      subst h1 h2 h3 h4 h5 h6 h7 h8 h9
      simp only [oCls, oDic, oSlt, oFun, refA, h]
    | _ => cases e
theorem tp_of {vs : List V} (h : tpB K a vs = true) : K.lookup a = some ⟨.type "tuple", oDic K a, .seq (oIts K a) (oNum K a), oSlt K a⟩ ∧ (oIts K a).size ≤ sizeLine ∧ Vals vs (oIts K a).toList := by
  unfold tpB at h
  cases q : K.lookup a with
  | none =>
    rw [q] at h
    cases h
  | some o =>
    obtain ⟨oc, od, dt, sl⟩ := o
    rw [q] at h
    cases oc with
    | type c =>
      cases dt with
      | seq its n =>
        obtain ⟨h1, h2⟩ := He.ba (show (decide (c = "tuple") && (decide (its.size ≤ sizeLine) && He.relAll vs its.toList)) = true from h)
        obtain ⟨h3, h4⟩ := He.ba h2
        have ec : c = "tuple" := of_decide_eq_true h1
        subst ec
        simp only [oDic, oSlt, oIts, oNum, q]
        exact ⟨trivial, of_decide_eq_true h3, He.relAll_ok h4⟩
      | _ => cases h
    | _ => cases dt <;> cases h
theorem fl_of (h : flB K a = true) : K.lookup a = some ⟨oCls K a, oDic K a, .fields (oIts K a), oSlt K a⟩ := by
  unfold flB at h
  cases q : K.lookup a with
  | none =>
    rw [q] at h
    cases h
  | some o =>
    obtain ⟨oc, od, dt, sl⟩ := o
    rw [q] at h
    cases dt with
    | fields vs => simp only [oCls, oDic, oSlt, oIts, q]
    | _ => cases h
theorem dc_of {w : World} {ks : List Str} (h : He.dicW K a = some (He.keysIn w.params ks)) : K.lookup a = some ⟨.type "dict", none, .dict (oEnt K a) (oNum K a), #[]⟩ ∧ PySem.W.KeysLit w.params (oEnt K a).toList ∧ (a == sysModules) = false := by
  obtain ⟨es, n, D⟩ := He.dicW_ok h
  have e := D.at_
  simp only [oEnt, oNum, e]
  exact ⟨trivial, D.lit, D.low⟩
theorem rc_of {T : String} (h : rcB K a T = true) : PySem.W.recIn K a T = some (.ref (rcA K a T) :: rcR K a T) := by
  unfold rcB at h
  cases q : PySem.W.recIn K a T with
  | none =>
    rw [q] at h
    cases h
  | some l =>
    rw [q] at h
    cases l with
    | nil => cases h
    | cons v r =>
      cases v with
      | ref b => simp only [rcA, rcR, q]
      | _ => cases h
theorem cl_of {x : Str} (h : clB K a x = true) : PySem.W.findCls K (.ref a) (.type "type") x = some (.val (.ref (clA K a x))) := by
  unfold clB at h
  cases q : PySem.W.findCls K (.ref a) (.type "type") x with
  | none =>
    rw [q] at h
    cases h
  | some l =>
    rw [q] at h
    cases l with
    | val v =>
      cases v with
      | ref b => simp only [clA, q]
      | _ => cases h
    | get _ _ _ _ => cases h
theorem cg_of {x : Str} (h : cgB K a x = true) : PySem.W.findCls K (.ref a) (.type "type") x = some (.get (.builtin "classmethod.__get__") (.ref (clA K a x)) .none (.ref a)) := by
  unfold cgB at h
  cases q : PySem.W.findCls K (.ref a) (.type "type") x with
  | none =>
    rw [q] at h
    cases h
  | some l =>
    rw [q] at h
    cases l with
    | val v => cases h
    | get g b o t =>
      cases b with
      | ref b =>
        obtain ⟨h1, h2⟩ := He.ba (show (decide (g = .builtin "classmethod.__get__") && (decide (o = .none) && decide (t = .ref a))) = true from h)
        obtain ⟨h3, h4⟩ := He.ba h2
        rw [of_decide_eq_true h1, of_decide_eq_true h3, of_decide_eq_true h4]
        simp only [clA, q]
      | _ => cases h
theorem none_of (h : (K.lookup a).isNone = true) : K.lookup a = none := Option.isNone_iff_eq_none.mp h
end
/-! ### the Hook -/
structure FD where
  at_ : Fr → Addr
  x : Str
  q : Str
  st : Stmt
  dv : Bool
abbrev Tb : Type := (Fr → Addr) × List Str
abbrev Al : Type := Bool × (List He.FnV × List (Option (List (Option (Str × Int)))))
/-! what the names reach, laid out plainly once: a value, a list, an object handed on only when it is reckoned -/
section
variable {β : Type}
def plV (v : Value) (k : Value → β) : β := match v with
  | .ref a => HandSHeadRun.frNat a fun a => k (.ref a)
  | .none => k .none
  | .ellipsis => k .ellipsis
  | .notImplemented => k .notImplemented
  | .bool b => k (.bool b)
  | .int i t => k (.int i t)
  | .float b t => k (.float b t)
  | .str x t => k (.str x t)
  | .bytes b t => k (.bytes b t)
  | .type n => k (.type n)
  | .builtin n => k (.builtin n)
theorem plV_eq (v : Value) (k : Value → β) : plV v k = k v := by
  cases v <;> simp only [plV, HandSHeadRun.frNat_eq]
def plVs : List Value → (List Value → β) → β
  | [], k => k []
  | v :: r, k => plV v fun v => plVs r fun r => k (v :: r)
theorem plVs_eq : ∀ (l : List Value) (k : List Value → β), plVs l k = k l
  | [], _ => rfl
  | v :: r, k => by simp only [plVs, plV_eq, plVs_eq r]
def plEs : List DictEntry → (List DictEntry → β) → β
  | [], k => k []
  | ⟨h, x, v⟩ :: r, k => plV x fun x => plV v fun v => plEs r fun r => k (⟨h, x, v⟩ :: r)
theorem plEs_eq : ∀ (l : List DictEntry) (k : List DictEntry → β), plEs l k = k l
  | [], _ => rfl
  | ⟨h, x, v⟩ :: r, k => by simp only [plEs, plV_eq, plEs_eq r]
def plD (d : Data) (k : Data → β) : β := match d with
  | .dict ⟨es⟩ n => plEs es fun es => k (.dict ⟨es⟩ n)
  | .seq ⟨vs⟩ n => plVs vs fun vs => k (.seq ⟨vs⟩ n)
  | .fields ⟨vs⟩ => plVs vs fun vs => k (.fields ⟨vs⟩)
  | .func ⟨a, b, c, d, e, f, g, v1, v2, h, i, j, v3, l, m⟩ => plV v1 fun v1 => plV v2 fun v2 => plV v3 fun v3 => k (.func ⟨a, b, c, d, e, f, g, v1, v2, h, i, j, v3, l, m⟩)
  | .cls ⟨a, b, mro, ns, c, d, e, f, g, h, i⟩ => plVs mro fun mro => HandSHeadRun.frNat ns fun ns => k (.cls ⟨a, b, mro, ns, c, d, e, f, g, h, i⟩)
  | x => k x
theorem plD_eq (d : Data) (k : Data → β) : plD d k = k d := by
  cases d with
  | dict es n =>
    obtain ⟨es⟩ := es
    simp only [plD, plEs_eq]
  | seq vs n =>
    obtain ⟨vs⟩ := vs
    simp only [plD, plVs_eq]
  | fields vs =>
    obtain ⟨vs⟩ := vs
    simp only [plD, plVs_eq]
  | func f =>
    obtain ⟨n1, n2, n3, n4, n5, n6, n7, n8, n9, n10, n11, n12, n13, n14, n15⟩ := f
    simp only [plD, plV_eq]
  | cls c =>
    obtain ⟨n1, n2, n3, n4, n5, n6, n7, n8, n9, n10, n11⟩ := c
    simp only [plD, plVs_eq, HandSHeadRun.frNat_eq]
  | _ => rfl
def plO (o : Obj) (k : Obj → β) : β := match o with
  | ⟨c, d, dt, sl⟩ => plV c fun c => plD dt fun dt => k ⟨c, d, dt, sl⟩
theorem plO_eq (o : Obj) (k : Obj → β) : plO o k = k o := by
  obtain ⟨c, d, dt, sl⟩ := o
  simp only [plO, plV_eq, plD_eq]
def plK : Fr → (Fr → β) → β
  | [], k => k []
  | (a, o) :: r, k => HandSHeadRun.frNat a fun a => plO o fun o => plK r fun r => k ((a, o) :: r)
theorem plK_eq : ∀ (l : Fr) (k : Fr → β), plK l k = k l
  | [], _ => rfl
  | (a, o) :: r, k => by simp only [plK, HandSHeadRun.frNat_eq, plO_eq, plK_eq r]
def plA : List Addr → (List Addr → β) → β
  | [], k => k []
  | a :: r, k => HandSHeadRun.frNat a fun a => plA r fun r => k (a :: r)
theorem plA_eq : ∀ (l : List Addr) (k : List Addr → β), plA l k = k l
  | [], _ => rfl
  | a :: r, k => by simp only [plA, HandSHeadRun.frNat_eq, plA_eq r]
end
/-- what an object leads to, as far as a text asks for it -/
def leads (o : Obj) : List Addr := match o.data with
  | .dict es _ => es.toList.flatMap fun e => He.refV e.val
  | .seq vs _ => vs.toList.flatMap He.refV
  | .func f => He.refV f.code ++ (He.refV f.kwdefaults ++ He.refV f.defaults)
  | .cls c => [c.ns]
  | .fields vs => (match o.cls with
    | .type n => (match decide (n = "code") with
      | true => []
      | false => vs.toList.flatMap He.refV)
    | _ => [])
  | _ => []
def news (al : List Addr) : List Addr → List Addr
  | [] => []
  | a :: r => (match al.elem a with
    | true => news al r
    | false => a :: news (a :: al) r)
def grow (g : Addr → Option Obj) : Nat → List Addr → List Addr → List Addr
  | 0, _, al => al
  | n + 1, new, al => plA (news al (new.flatMap fun a => match g a with
    | some o => leads o
    | none => [])) fun nx => grow g n nx (al ++ nx)
/-- functions and codes stand behind -/
def late (g : Addr → Option Obj) (a : Addr) : Bool := match g a with
  | some o => (match o.data with
    | .func _ => true
    | .fields _ => (match o.cls with
      | .type n => decide (n = "code")
      | _ => false)
    | _ => false)
  | none => false
def near (g : Addr → Option Obj) (n : Nat) : List Addr := plA (grow g n [mainGlobals] [mainGlobals, cStatics]) fun l => l.filter (fun a => !late g a) ++ l.filter fun a => late g a
def part (g : Addr → Option Obj) (n : Nat) : Fr := He.frT g (near g n)
def obs (fs : List (Fr → Bool)) (fn : List FD) (ds : List Tb) (K : Fr) : Al := (fs.all fun f => f K, (fn.map fun d => seen K (d.at_ K) d.dv, ds.map fun d => He.dicW K (d.1 K)))
def val (fn : List FD) (ds : List Tb) (w : World) : Al := (true, (fn.map fun d => due d.x d.q d.st, ds.map fun d => some (He.keysIn w.params d.2)))
def tabs (g : Addr → Option Obj) (tf : List (Fr → Addr)) (K : Fr) : Bool := tf.all fun p => match g (p K) with
  | some o => He.emptyTab o
  | none => false
structure Says (fs : List (Fr → Bool)) (fn : List FD) (ds : List Tb) (tf : List (Fr → Addr)) (w : World) (h : Heap) (K : Fr) : Prop where
  all : obs fs fn ds K = val fn ds w
  out : ∀ p ∈ tf, K.lookup (p K) = none
  empty : ∀ p ∈ tf, h.get? (p K) = some { cls := .none, data := .fields #[] }
def look (n : Nat) (fs : List (Fr → Bool)) (fn : List FD) (ds : List Tb) (tf : List (Fr → Addr)) (g : Addr → Option Obj) : Al × Bool := plK (part g n) fun K => (obs fs fn ds K, tabs g tf K)
theorem look_is {n : Nat} {fs : List (Fr → Bool)} {fn : List FD} {ds : List Tb} {tf : List (Fr → Addr)} {g : Addr → Option Obj} : look n fs fn ds tf g = (obs fs fn ds (part g n), tabs g tf (part g n)) := plK_eq _ _
theorem says_of {n : Nat} {fs : List (Fr → Bool)} {fn : List FD} {ds : List Tb} {tf : List (Fr → Addr)} {w : World} {h : Heap} (e : look n fs fn ds tf h.get? = (val fn ds w, true)) : Says fs fn ds tf w h (part h.get? n) := by
  rw [look_is] at e
  have e1 : obs fs fn ds (part h.get? n) = val fn ds w := congrArg (fun z : Al × Bool => z.1) e
  have e2 : tabs h.get? tf (part h.get? n) = true := congrArg (fun z : Al × Bool => z.2) e
  have key : ∀ p ∈ tf, ∃ o, h.get? (p (part h.get? n)) = some o ∧ He.emptyTab o = true := fun p hp => by
    have h4 := List.all_eq_true.mp e2 p hp
    cases q : h.get? (p (part h.get? n)) with
    | none =>
      rw [q] at h4
      cases h4
    | some o =>
      rw [q] at h4
      exact ⟨o, rfl, h4⟩
  exact ⟨e1, fun p hp => by
    obtain ⟨o, q, z⟩ := key p hp
    exact He.frT_none q z, fun p hp => by
    obtain ⟨o, q, z⟩ := key p hp
    rw [q, He.emptyTab_eq z]⟩
def hook (n : Nat) (fs : List (Fr → Bool)) (fn : List FD) (ds : List Tb) (tf : List (Fr → Addr)) : PySem.W.Hook where
  α := Al × Bool
  obs := fun s => look n fs fn ds tf s.heap.get?
  val := fun w => (val fn ds w, true)
  says := fun w h => ∃ K : Fr, K.In h ∧ Says fs fn ds tf w h K
  of := fun _ _ e => ⟨_, He.frT_in, says_of e⟩
  keeps := fun _ _ _ ⟨K, hK, c⟩ k => ⟨K, PySem.W.Frag.In.keeps hK k, ⟨c.all, c.out, fun p hp => k _ _ (c.empty p hp)⟩⟩
theorem look_eq {n : Nat} {fs : List (Fr → Bool)} {fn : List FD} {ds : List Tb} {tf : List (Fr → Addr)} {g : Addr → Option Obj} {s : Shared} (h : ∀ a, g a = s.heap.get? a) : look n fs fn ds tf g = (hook n fs fn ds tf).obs s := by
  have e : g = s.heap.get? := funext h
  rw [e] <;> rfl
section
variable {fs : List (Fr → Bool)} {fn : List FD} {ds : List Tb} {tf : List (Fr → Addr)} {w : World} {h : Heap} {K : Fr}
theorem Says.b (c : Says fs fn ds tf w h K) (i : Nat) {f : Fr → Bool} (e : fs[i]? = some f := by rfl) : f K = true :=
  List.all_eq_true.mp (show fs.all (fun f => f K) = true from congrArg (fun z : Al => z.1) c.all) f (List.mem_of_getElem? e)
theorem Says.f (c : Says fs fn ds tf w h K) (i : Nat) {d : FD} (e : fn[i]? = some d := by rfl) : seen K (d.at_ K) d.dv = due d.x d.q d.st := by
  have e1 : fn.map (fun d => seen K (d.at_ K) d.dv) = fn.map fun d => due d.x d.q d.st := congrArg (fun z : Al => z.2.1) c.all
  have e2 : (fn.map fun d => seen K (d.at_ K) d.dv)[i]? = (fn.map fun d => due d.x d.q d.st)[i]? := by rw [e1]
  rw [List.getElem?_map, List.getElem?_map, e] at e2
  exact Option.some.inj e2
theorem Says.d (c : Says fs fn ds tf w h K) (i : Nat) {d : Tb} (e : ds[i]? = some d := by rfl) : He.dicW K (d.1 K) = some (He.keysIn w.params d.2) := by
  have e1 : ds.map (fun d => He.dicW K (d.1 K)) = ds.map fun d => some (He.keysIn w.params d.2) := congrArg (fun z : Al => z.2.2) c.all
  have e2 : (ds.map fun d => He.dicW K (d.1 K))[i]? = (ds.map fun d => some (He.keysIn w.params d.2))[i]? := by rw [e1]
  rw [List.getElem?_map, List.getElem?_map, e] at e2
  exact Option.some.inj e2
end
/-! the run in parts: each an equation of its own, so that what the kernel keeps of one is gone at the next -/
def PartEq (r : PySem.W.OpenRow) (M : Nat) (w : World) (n : Nat) (fs : List (Fr → Bool)) (fn : List FD) (ds : List Tb) (tf : List (Fr → Addr)) : Prop :=
  ∀ os : OsState, (HandSHeadRun.endF (HandSHeadRun.stepQ (HandSHeadRun.denQ HandSHeadRun.tabQ) r.prog w) M r.prog w os).map (fun s => look n fs fn ds tf (HandSHeadRun.getT s)) = some (val fn ds w, true)
def BaseEq (r : PySem.W.OpenRow) (q : Program) (M : Nat) (loose : List PySem.Str) (w : World) : Prop :=
  ∀ os : OsState, (HandSHeadRun.endF (HandSHeadRun.stepQ (HandSHeadRun.denQ HandSHeadRun.tabQ) r.prog w) M r.prog w os).map (fun s => (HandSHeadRun.looksF r.prog (PySem.W.boot_heap w.params) s.abs, HandSHeadRun.seenQ q loose (importedModules r.prog.main.body) (fun s => PySem.W.xlAt q [] s && PySem.W.recOk r.toRowW.records s) s.abs)) = some (true, PySem.W.openGood q loose)
theorem look_two {n : Nat} {fs1 fs2 : List (Fr → Bool)} {fn1 fn2 : List FD} {ds1 ds2 : List Tb} {tf1 tf2 : List (Fr → Addr)} {g : Addr → Option Obj} {w : World} (h1 : look n fs1 fn1 ds1 tf1 g = (val fn1 ds1 w, true)) (h2 : look n fs2 fn2 ds2 tf2 g = (val fn2 ds2 w, true)) :
    look n (fs1 ++ fs2) (fn1 ++ fn2) (ds1 ++ ds2) (tf1 ++ tf2) g = (val (fn1 ++ fn2) (ds1 ++ ds2) w, true) := by
  rw [look_is] at h1 h2 ⊢
  unfold obs val at h1 h2 ⊢
  unfold tabs at h1 h2 ⊢
  simp only [Prod.mk.injEq] at h1 h2 ⊢
  obtain ⟨⟨a1, a2, a3⟩, a4⟩ := h1
  obtain ⟨⟨b1, b2, b3⟩, b4⟩ := h2
  refine ⟨⟨?_, ?_, ?_⟩, ?_⟩
  · rw [List.all_append, a1, b1] <;> rfl
  · rw [List.map_append, List.map_append, a2, b2]
  · rw [List.map_append, List.map_append, a3, b3]
  · rw [List.all_append, a4, b4] <;> rfl
theorem PartEq.app {r : PySem.W.OpenRow} {M : Nat} {w : World} {n : Nat} {fs1 fs2 : List (Fr → Bool)} {fn1 fn2 : List FD} {ds1 ds2 : List Tb} {tf1 tf2 : List (Fr → Addr)} (h1 : PartEq r M w n fs1 fn1 ds1 tf1) (h2 : PartEq r M w n fs2 fn2 ds2 tf2) : PartEq r M w n (fs1 ++ fs2) (fn1 ++ fn2) (ds1 ++ ds2) (tf1 ++ tf2) := fun os => by
  obtain ⟨s, es, e1⟩ := Option.map_eq_some_iff.mp (h1 os)
  have e2 := h2 os
  rw [es] at e2 ⊢
  exact congrArg some (look_two e1 (Option.some.inj e2))
theorem run_of {r : PySem.W.OpenRow} {q : Program} {M : Nat} {loose : List PySem.Str} {w : World} {n : Nat} {fs : List (Fr → Bool)} {fn : List FD} {ds : List Tb} {tf : List (Fr → Addr)} (h0 : BaseEq r q M loose w) (h1 : PartEq r M w n fs fn ds tf) : HandSHeadRun.RunEq r q (hook n fs fn ds tf) (fun s => look n fs fn ds tf (HandSHeadRun.getT s)) M loose w := fun os => by
  obtain ⟨s, es, e1⟩ := Option.map_eq_some_iff.mp (h0 os)
  have e2 := h1 os
  rw [es] at e2 ⊢
  have e2 := Option.some.inj e2
  injection e1 with e3 e4
  exact congrArg some (Prod.ext e3 (Prod.ext e4 e2))
/-- an own error class with an __init__ -/
def oexB (K : PySem.W.Frag) (C : Addr) : Bool := match K.lookup C with
  | some ⟨.type tn, _, .cls ⟨_, _, .ref D :: bm, _, _, true, _, _, _, _, false⟩, ⟨[_, _, _, _, some (.builtin nid), _]⟩⟩ => decide (tn = "type") && (decide (D = C) && (decide (nid = "ValueError.__new__") && PySem.HandSPX.refsVE bm))
  | _ => false
theorem oexB_ok {K : PySem.W.Frag} {C : Addr} (h : oexB K C = true) : ∃ nm q N bs bm sn sub ab col dd k0 k1 k2 k3 k5, K.lookup C = some (PySem.excClassObj nm q C N bs bm true sn sub ab col dd k0 k1 k2 k3 k5 "ValueError.__new__") ∧ PySem.HandSPX.refsVE bm = true := by
  unfold oexB at h
  split at h
  · rename_i tn od nm bs D bm N q sn sub ab col k0 k1 k2 k3 nid k5 e
    simp only [Bool.and_eq_true, decide_eq_true_eq] at h
    obtain ⟨rfl, rfl, rfl, h4⟩ := h
    exact ⟨_, _, _, _, bm, _, _, _, _, _, _, _, _, _, _, e, h4⟩
  · cases h
end Gh
namespace Lw
open PySem L2
/-! what is looked at behind the top -/
def Hd.tS (i : Nat) : Stmt := PySem.Challenge.pw_levelwalks_k20_gains_and_losses.main.body.getD i (.Pass ⟨0, 0, 0, 0⟩)
def a_fL (K : Gh.Fr) : Addr := Gh.nsA K mainGlobals "law"
def a_cL (K : Gh.Fr) : Addr := Gh.refA (Gh.oFun K (a_fL K)).code
def a_PL (K : Gh.Fr) : Addr := He.tabOf K (a_cL K)
def a_fB0 (K : Gh.Fr) : Addr := Gh.nsA K mainGlobals "_law_deeds"
def a_cB (K : Gh.Fr) : Addr := Gh.refA (Gh.oFun K (a_fB0 K)).code
def a_PB (K : Gh.Fr) : Addr := He.tabOf K (a_cB K)
def a_fE0 (K : Gh.Fr) : Addr := Gh.nsA K mainGlobals "_law_end"
def a_fOp (K : Gh.Fr) : Addr := Gh.nsA K mainGlobals "operand_of_expressions"
def a_NA (K : Gh.Fr) : Addr := Gh.nsA K mainGlobals "NotAnAccess"
def a_NE (K : Gh.Fr) : Addr := Gh.nsA K mainGlobals "NotAnExpression"
def a_WE (K : Gh.Fr) : Addr := Gh.nsA K mainGlobals "WalkError"
def a_XC (K : Gh.Fr) : Addr := Gh.nsA K mainGlobals "Expression"
def a_fXC (K : Gh.Fr) : Addr := Gh.fdA K (a_XC K) "__init__"
def a_AD (K : Gh.Fr) : Addr := Gh.nsA K mainGlobals "Add"
def a_fAD (K : Gh.Fr) : Addr := Gh.fdA K (a_AD K) "__init__"
def a_PG (K : Gh.Fr) : Addr := Gh.nsA K mainGlobals "Program"
def a_fPG (K : Gh.Fr) : Addr := Gh.fdA K (a_PG K) "__init__"
def a_BL (K : Gh.Fr) : Addr := Gh.nsA K mainGlobals "Block"
def a_fBL (K : Gh.Fr) : Addr := Gh.fdA K (a_BL K) "__init__"
def a_ST (K : Gh.Fr) : Addr := Gh.nsA K mainGlobals "Statement"
def a_fST (K : Gh.Fr) : Addr := Gh.fdA K (a_ST K) "__init__"
def a_dfl (K : Gh.Fr) : Addr := Gh.refA (Gh.oFun K (a_fST K)).defaults
def a_AK (K : Gh.Fr) : Addr := Gh.nsA K mainGlobals "ASSIGNED_KINDS"
def a_LT (K : Gh.Fr) : Addr := Gh.nsA K mainGlobals "LIMITS"
def a_TA1 (K : Gh.Fr) : Addr := Gh.nsA K (a_LT K) "power"
def a_TA2 (K : Gh.Fr) : Addr := Gh.nsA K (a_LT K) "left"
def a_TA3 (K : Gh.Fr) : Addr := Gh.nsA K (a_LT K) "right"
def a_gra (K : Gh.Fr) : Addr := Gh.fdA K (a_XC K) "__radd__"
def a_grn (K : Gh.Fr) : Addr := Gh.fdA K (a_XC K) "__rand__"
def a_g0mul (K : Gh.Fr) : Addr := Gh.fdA K (a_XC K) "__mul__"
def a_g0xor (K : Gh.Fr) : Addr := Gh.fdA K (a_XC K) "__xor__"
def a_f_is_whole (K : Gh.Fr) : Addr := Gh.nsA K mainGlobals "is_whole"
def a_f_ascending (K : Gh.Fr) : Addr := Gh.nsA K mainGlobals "ascending"
def a_f_access (K : Gh.Fr) : Addr := Gh.nsA K mainGlobals "access"
def a_f_number (K : Gh.Fr) : Addr := Gh.nsA K mainGlobals "number"
def a_f_check_letters (K : Gh.Fr) : Addr := Gh.nsA K mainGlobals "check_letters"
def a_f_check_expression (K : Gh.Fr) : Addr := Gh.nsA K mainGlobals "check_expression"
def a_f_joined (K : Gh.Fr) : Addr := Gh.nsA K mainGlobals "joined"
def a_f_is_allowed (K : Gh.Fr) : Addr := Gh.nsA K mainGlobals "is_allowed"
def a_f_numbered (K : Gh.Fr) : Addr := Gh.nsA K mainGlobals "numbered"
def a_f_assigned (K : Gh.Fr) : Addr := Gh.nsA K mainGlobals "assigned"
def a_f_is_access (K : Gh.Fr) : Addr := Gh.nsA K mainGlobals "is_access"
def a_f_frozen (K : Gh.Fr) : Addr := Gh.nsA K mainGlobals "frozen"
def a_f_polynomial (K : Gh.Fr) : Addr := Gh.nsA K mainGlobals "polynomial"
def a_f_active (K : Gh.Fr) : Addr := Gh.nsA K mainGlobals "active"
def a_f_value_of (K : Gh.Fr) : Addr := Gh.nsA K mainGlobals "value_of"
def a_f_greater (K : Gh.Fr) : Addr := Gh.nsA K mainGlobals "greater"
def a_f_lesser (K : Gh.Fr) : Addr := Gh.nsA K mainGlobals "lesser"
def a_f_below (K : Gh.Fr) : Addr := Gh.nsA K mainGlobals "below"
def a_f_at_most (K : Gh.Fr) : Addr := Gh.nsA K mainGlobals "at_most"
def a_f_equal (K : Gh.Fr) : Addr := Gh.nsA K mainGlobals "equal"
def a_f_unequal (K : Gh.Fr) : Addr := Gh.nsA K mainGlobals "unequal"
def a_f__law_draw (K : Gh.Fr) : Addr := Gh.nsA K mainGlobals "_law_draw"
def a_f__law_start (K : Gh.Fr) : Addr := Gh.nsA K mainGlobals "_law_start"
def a_f__law_pick (K : Gh.Fr) : Addr := Gh.nsA K mainGlobals "_law_pick"
def a_f__law_mixed (K : Gh.Fr) : Addr := Gh.nsA K mainGlobals "_law_mixed"
def a_f__law_same (K : Gh.Fr) : Addr := Gh.nsA K mainGlobals "_law_same"
def a_f__law_name (K : Gh.Fr) : Addr := Gh.nsA K mainGlobals "_law_name"
def a_f__law_names (K : Gh.Fr) : Addr := Gh.nsA K mainGlobals "_law_names"
def a_f__law_letters (K : Gh.Fr) : Addr := Gh.nsA K mainGlobals "_law_letters"
def a_f__law_own_accesses (K : Gh.Fr) : Addr := Gh.nsA K mainGlobals "_law_own_accesses"
def a_f__law_access (K : Gh.Fr) : Addr := Gh.nsA K mainGlobals "_law_access"
def a_f__law_grown (K : Gh.Fr) : Addr := Gh.nsA K mainGlobals "_law_grown"
def a_o_add (K : Gh.Fr) : Addr := Gh.fdA K (a_XC K) "__add__"
def a_o_sub (K : Gh.Fr) : Addr := Gh.fdA K (a_XC K) "__sub__"
def a_o_rmul (K : Gh.Fr) : Addr := Gh.fdA K (a_XC K) "__rmul__"
def a_o_and (K : Gh.Fr) : Addr := Gh.fdA K (a_XC K) "__and__"
def a_o_or (K : Gh.Fr) : Addr := Gh.fdA K (a_XC K) "__or__"
def a_o_rxor (K : Gh.Fr) : Addr := Gh.fdA K (a_XC K) "__rxor__"
def a_o_floordiv (K : Gh.Fr) : Addr := Gh.fdA K (a_XC K) "__floordiv__"
def a_o_pow (K : Gh.Fr) : Addr := Gh.fdA K (a_XC K) "__pow__"
def a_o_lshift (K : Gh.Fr) : Addr := Gh.fdA K (a_XC K) "__lshift__"
def a_o_rshift (K : Gh.Fr) : Addr := Gh.fdA K (a_XC K) "__rshift__"
def a_o_neg (K : Gh.Fr) : Addr := Gh.fdA K (a_XC K) "__neg__"
def a_o_pos (K : Gh.Fr) : Addr := Gh.fdA K (a_XC K) "__pos__"
def a_o_invert (K : Gh.Fr) : Addr := Gh.fdA K (a_XC K) "__invert__"
def a_o_abs (K : Gh.Fr) : Addr := Gh.fdA K (a_XC K) "__abs__"
def a_o_iadd (K : Gh.Fr) : Addr := Gh.fdA K (a_XC K) "__iadd__"
def a_o_isub (K : Gh.Fr) : Addr := Gh.fdA K (a_XC K) "__isub__"
def fs_p0x0 : List (Gh.Fr → Bool) := [
  fun K => He.eqO (PySem.W.nsIn K mainGlobals "law") (some (some (.ref (a_fL K)))),
  fun K => Gh.isRef (Gh.oFun K (a_fL K)).code,
  fun K => PySem.W.codeIn K (.ref (a_cL K)) "law",
  fun K => PySem.W.keepIn K (.ref (a_fL K)),
  fun K => Gh.flB K (a_cL K),
  fun K => decide ((Gh.oIts K (a_cL K))[11]? = some (.ref (a_PL K))),
  fun K => PySem.W.codeHdIn K (a_cL K) (a_PL K),
  fun K => He.eqO (PySem.W.nsIn K mainGlobals "_law_deeds") (some (some (.ref (a_fB0 K)))),
  fun K => Gh.isRef (Gh.oFun K (a_fB0 K)).code,
  fun K => PySem.W.codeIn K (.ref (a_cB K)) "_law_deeds",
  fun K => PySem.W.keepIn K (.ref (a_fB0 K)),
  fun K => Gh.flB K (a_cB K),
  fun K => decide ((Gh.oIts K (a_cB K))[11]? = some (.ref (a_PB K))),
  fun K => PySem.W.codeHdIn K (a_cB K) (a_PB K),
  fun K => decide ((a_PL K) ≠ (a_PB K)),
  fun K => He.eqO (PySem.W.nsIn K mainGlobals "_law_end") (some (some (.ref (a_fE0 K)))),
  fun K => PySem.W.codeIn K (Gh.oFun K (a_fE0 K)).code "_law_end",
  fun K => PySem.W.keepIn K (.ref (a_fE0 K)),
  fun K => He.eqO (PySem.W.nsIn K mainGlobals "operand_of_expressions") (some (some (.ref (a_fOp K)))),
  fun K => PySem.W.codeIn K (Gh.oFun K (a_fOp K)).code "operand_of"]
def fs_p0x1 : List (Gh.Fr → Bool) := [
  fun K => PySem.W.keepIn K (.ref (a_fOp K)),
  fun K => He.eqO (PySem.W.nsIn K mainGlobals "NotAnAccess") (some (some (.ref (a_NA K)))),
  fun K => PySem.W.excIn K (a_NA K) [.type "ValueError", .type "Exception", .type "BaseException", .type "object"] "ValueError.__new__",
  fun K => PySem.W.keepIn K (.ref (a_NA K)),
  fun K => decide (PySem.W.subIn K (.ref (a_NA K)) (.type "BaseException") = some true),
  fun K => decide (PySem.W.typeIn K (.ref (a_NA K)) = some (.type "type")),
  fun K => He.eqO (PySem.W.nsIn K mainGlobals "NotAnExpression") (some (some (.ref (a_NE K)))),
  fun K => PySem.W.excIn K (a_NE K) [.type "ValueError", .type "Exception", .type "BaseException", .type "object"] "ValueError.__new__",
  fun K => PySem.W.keepIn K (.ref (a_NE K)),
  fun K => decide (PySem.W.subIn K (.ref (a_NE K)) (.type "BaseException") = some true),
  fun K => decide (PySem.W.typeIn K (.ref (a_NE K)) = some (.type "type")),
  fun K => He.eqO (PySem.W.nsIn K mainGlobals "WalkError") (some (some (.ref (a_WE K)))),
  fun K => PySem.W.hasDictIn K (a_NA K),
  fun K => PySem.W.hasDictIn K (a_NE K),
  fun K => decide (PySem.W.subIn K (.ref (a_NA K)) (.ref (a_NA K)) = some true),
  fun K => decide (PySem.W.subIn K (.ref (a_NE K)) (.ref (a_NA K)) = some false),
  fun K => decide (PySem.W.subIn K (.ref (a_NE K)) (.ref (a_NE K)) = some true),
  fun K => He.eqO (PySem.W.nsIn K mainGlobals "Expression") (some (some (.ref (a_XC K)))),
  fun K => He.eqO (PySem.W.findIn K (.ref (a_XC K)) "__init__") (some (some (.ref (a_fXC K)))),
  fun K => PySem.W.isFn K (.ref (a_fXC K))]
def fs_p0x2 : List (Gh.Fr → Bool) := [
  fun K => PySem.W.codeIn K (Gh.oFun K (a_fXC K)).code "Expression.__init__",
  fun K => PySem.W.keepIn K (.ref (a_fXC K)),
  fun K => PySem.W.makesIn K (a_XC K),
  fun K => PySem.W.keepIn K (.ref (a_XC K)),
  fun K => PySem.W.plainGet K (a_XC K) Str.empty,
  fun K => PySem.W.hasDictIn K (a_XC K),
  fun K => PySem.W.plainOver K (a_XC K),
  fun K => He.eqO (PySem.W.findIn K (.ref (a_XC K)) "__setattr__") (some (some (.builtin "object.__setattr__"))),
  fun K => He.eqO (PySem.W.findIn K (.ref (a_XC K)) "kind") (some none),
  fun K => He.eqO (PySem.W.findIn K (.ref (a_XC K)) "parts") (some none),
  fun K => He.eqO (PySem.W.findIn K (.ref (a_XC K)) "node_count") (some none),
  fun K => He.eqO (PySem.W.findIn K (.ref (a_XC K)) "accesses") (some none),
  fun K => He.eqO (PySem.W.findIn K (.ref (a_XC K)) "letters") (some none),
  fun K => He.eqO (PySem.W.nsIn K mainGlobals "Add") (some (some (.ref (a_AD K)))),
  fun K => He.eqO (PySem.W.findIn K (.ref (a_AD K)) "__init__") (some (some (.ref (a_fAD K)))),
  fun K => PySem.W.isFn K (.ref (a_fAD K)),
  fun K => PySem.W.codeIn K (Gh.oFun K (a_fAD K)).code "Add.__init__",
  fun K => PySem.W.keepIn K (.ref (a_fAD K)),
  fun K => PySem.W.makesIn K (a_AD K),
  fun K => PySem.W.keepIn K (.ref (a_AD K))]
def fs_p0x3 : List (Gh.Fr → Bool) := [
  fun K => He.eqO (PySem.W.nsIn K mainGlobals "Program") (some (some (.ref (a_PG K)))),
  fun K => He.eqO (PySem.W.findIn K (.ref (a_PG K)) "__init__") (some (some (.ref (a_fPG K)))),
  fun K => PySem.W.isFn K (.ref (a_fPG K)),
  fun K => PySem.W.codeIn K (Gh.oFun K (a_fPG K)).code "Program.__init__",
  fun K => PySem.W.keepIn K (.ref (a_fPG K)),
  fun K => PySem.W.makesIn K (a_PG K),
  fun K => PySem.W.keepIn K (.ref (a_PG K)),
  fun K => He.eqO (PySem.W.nsIn K mainGlobals "Block") (some (some (.ref (a_BL K)))),
  fun K => He.eqO (PySem.W.findIn K (.ref (a_BL K)) "__init__") (some (some (.ref (a_fBL K)))),
  fun K => PySem.W.isFn K (.ref (a_fBL K)),
  fun K => PySem.W.codeIn K (Gh.oFun K (a_fBL K)).code "Block.__init__",
  fun K => PySem.W.keepIn K (.ref (a_fBL K)),
  fun K => PySem.W.makesIn K (a_BL K),
  fun K => PySem.W.keepIn K (.ref (a_BL K)),
  fun K => PySem.W.plainGet K (a_BL K) Str.empty,
  fun K => PySem.W.hasDictIn K (a_BL K),
  fun K => PySem.W.plainOver K (a_BL K),
  fun K => He.eqO (PySem.W.findIn K (.ref (a_BL K)) "__setattr__") (some (some (.builtin "object.__setattr__"))),
  fun K => He.eqO (PySem.W.findIn K (.ref (a_BL K)) "nodes") (some none),
  fun K => He.eqO (PySem.W.nsIn K mainGlobals "Statement") (some (some (.ref (a_ST K))))]
def fs_p0x4 : List (Gh.Fr → Bool) := [
  fun K => He.eqO (PySem.W.findIn K (.ref (a_ST K)) "__init__") (some (some (.ref (a_fST K)))),
  fun K => PySem.W.isFn K (.ref (a_fST K)),
  fun K => PySem.W.codeIn K (Gh.oFun K (a_fST K)).code "Statement.__init__",
  fun K => PySem.W.keepIn K (.ref (a_fST K)),
  fun K => PySem.W.makesIn K (a_ST K),
  fun K => PySem.W.keepIn K (.ref (a_ST K)),
  fun K => Gh.tpB K (a_dfl K) [V.str "="],
  fun K => He.eqO (PySem.W.findIn K (.ref (a_XC K)) "__class__") (some (some (.builtin "object.__class__"))),
  fun K => He.eqO (PySem.W.specialIn K (.builtin "object.__class__") "__get__") (some (some (.builtin "getset_descriptor.__get__"))),
  fun K => decide (PySem.W.takesIn K (.builtin "object.__class__") = some true),
  fun K => decide (PySem.W.mroIn K (a_XC K) (.type "object") = some true),
  fun K => PySem.W.isClsIn K (a_XC K),
  fun K => decide (PySem.W.typeIn K (.ref (a_XC K)) = some (.type "type")),
  fun K => decide (PySem.W.subIn K (.ref (a_XC K)) (.type "int") = some false),
  fun K => PySem.W.selfFirst K (a_XC K),
  fun K => He.eqO (PySem.W.nsIn K mainGlobals "ASSIGNED_KINDS") (some (some (.ref (a_AK K)))),
  fun K => Gh.tpB K (a_AK K) [V.str "gain", V.str "loss"],
  fun K => He.eqO (PySem.W.nsIn K mainGlobals "LIMITS") (some (some (.ref (a_LT K)))),
  fun K => He.eqO (PySem.W.nsIn K (a_LT K) "quotient") (some none),
  fun K => He.eqO (PySem.W.nsIn K (a_LT K) "power") (some (some (.ref (a_TA1 K))))]
def fs_p0x5 : List (Gh.Fr → Bool) := [
  fun K => Gh.tpB K (a_TA1 K) [V.int 1, V.int 4],
  fun K => He.eqO (PySem.W.nsIn K (a_LT K) "left") (some (some (.ref (a_TA2 K)))),
  fun K => Gh.tpB K (a_TA2 K) [V.int 0, V.int 60],
  fun K => He.eqO (PySem.W.nsIn K (a_LT K) "right") (some (some (.ref (a_TA3 K)))),
  fun K => Gh.tpB K (a_TA3 K) [V.int 0, V.int 60],
  fun K => He.eqO (PySem.W.findIn K (.ref (a_XC K)) "__radd__") (some (some (.ref (a_gra K)))),
  fun K => He.eqO (PySem.W.findIn K (.ref (a_XC K)) "__rand__") (some (some (.ref (a_grn K)))),
  fun K => He.eqO (PySem.W.findIn K (.ref (a_XC K)) "__rfloordiv__") (some none),
  fun K => He.eqO (PySem.W.findIn K (.ref (a_XC K)) "__rpow__") (some none),
  fun K => He.eqO (PySem.W.findIn K (.ref (a_XC K)) "__rlshift__") (some none),
  fun K => He.eqO (PySem.W.findIn K (.ref (a_XC K)) "__rrshift__") (some none),
  fun K => He.eqO (PySem.W.findIn K (.ref (a_XC K)) "__mul__") (some (some (.ref (a_g0mul K)))),
  fun K => PySem.W.isFn K (.ref (a_g0mul K)),
  fun K => He.eqO (PySem.W.findIn K (.ref (a_XC K)) "__xor__") (some (some (.ref (a_g0xor K)))),
  fun K => PySem.W.isFn K (.ref (a_g0xor K)),
  fun K => He.eqO (PySem.W.nsIn K mainGlobals "isinstance") (some none),
  fun K => He.eqO (PySem.W.nsIn K mainGlobals "list") (some none),
  fun K => He.eqO (PySem.W.nsIn K mainGlobals "tuple") (some none),
  fun K => He.eqO (PySem.W.nsIn K mainGlobals "len") (some none),
  fun K => He.eqO (PySem.W.nsIn K mainGlobals "all") (some none)]
def fs_p0x6 : List (Gh.Fr → Bool) := [
  fun K => He.eqO (PySem.W.nsIn K mainGlobals "zip") (some none),
  fun K => He.eqO (PySem.W.nsIn K mainGlobals "dict") (some none),
  fun K => He.eqO (PySem.W.nsIn K mainGlobals "int") (some none),
  fun K => He.eqO (PySem.W.nsIn K mainGlobals "bool") (some none),
  fun K => He.eqO (PySem.W.nsIn K mainGlobals "range") (some none),
  fun K => He.eqO (PySem.W.nsIn K mainGlobals "sum") (some none),
  fun K => He.eqO (PySem.W.nsIn K mainGlobals "set") (some none),
  fun K => He.eqO (PySem.W.nsIn K mainGlobals "sorted") (some none),
  fun K => He.eqO (PySem.W.nsIn K mainGlobals "enumerate") (some none),
  fun K => He.eqO (PySem.W.nsIn K mainGlobals "str") (some none),
  fun K => He.eqO (PySem.W.nsIn K mainGlobals "abs") (some none),
  fun K => He.eqO (PySem.W.nsIn K mainGlobals "is_whole") (some (some (.ref (a_f_is_whole K)))),
  fun K => PySem.W.codeIn K (Gh.oFun K (a_f_is_whole K)).code "is_whole",
  fun K => PySem.W.keepIn K (.ref (a_f_is_whole K)),
  fun K => He.eqO (PySem.W.nsIn K mainGlobals "ascending") (some (some (.ref (a_f_ascending K)))),
  fun K => PySem.W.codeIn K (Gh.oFun K (a_f_ascending K)).code "ascending",
  fun K => PySem.W.keepIn K (.ref (a_f_ascending K)),
  fun K => He.eqO (PySem.W.nsIn K mainGlobals "access") (some (some (.ref (a_f_access K)))),
  fun K => PySem.W.codeIn K (Gh.oFun K (a_f_access K)).code "access",
  fun K => PySem.W.keepIn K (.ref (a_f_access K))]
def fs_p0x7 : List (Gh.Fr → Bool) := [
  fun K => He.eqO (PySem.W.nsIn K mainGlobals "number") (some (some (.ref (a_f_number K)))),
  fun K => PySem.W.codeIn K (Gh.oFun K (a_f_number K)).code "number",
  fun K => PySem.W.keepIn K (.ref (a_f_number K)),
  fun K => He.eqO (PySem.W.nsIn K mainGlobals "check_letters") (some (some (.ref (a_f_check_letters K)))),
  fun K => PySem.W.codeIn K (Gh.oFun K (a_f_check_letters K)).code "check_letters",
  fun K => PySem.W.keepIn K (.ref (a_f_check_letters K))]
def fs_p0x : List (Gh.Fr → Bool) := fs_p0x0 ++ fs_p0x1 ++ fs_p0x2 ++ fs_p0x3 ++ fs_p0x4 ++ fs_p0x5 ++ fs_p0x6 ++ fs_p0x7
def fs_p1x0 : List (Gh.Fr → Bool) := [
  fun K => He.eqO (PySem.W.nsIn K mainGlobals "check_expression") (some (some (.ref (a_f_check_expression K)))),
  fun K => PySem.W.codeIn K (Gh.oFun K (a_f_check_expression K)).code "check_expression",
  fun K => PySem.W.keepIn K (.ref (a_f_check_expression K)),
  fun K => He.eqO (PySem.W.nsIn K mainGlobals "joined") (some (some (.ref (a_f_joined K)))),
  fun K => PySem.W.codeIn K (Gh.oFun K (a_f_joined K)).code "joined",
  fun K => PySem.W.keepIn K (.ref (a_f_joined K)),
  fun K => He.eqO (PySem.W.nsIn K mainGlobals "is_allowed") (some (some (.ref (a_f_is_allowed K)))),
  fun K => PySem.W.codeIn K (Gh.oFun K (a_f_is_allowed K)).code "is_allowed",
  fun K => PySem.W.keepIn K (.ref (a_f_is_allowed K)),
  fun K => He.eqO (PySem.W.nsIn K mainGlobals "numbered") (some (some (.ref (a_f_numbered K)))),
  fun K => PySem.W.codeIn K (Gh.oFun K (a_f_numbered K)).code "numbered",
  fun K => PySem.W.keepIn K (.ref (a_f_numbered K)),
  fun K => He.eqO (PySem.W.nsIn K mainGlobals "assigned") (some (some (.ref (a_f_assigned K)))),
  fun K => PySem.W.codeIn K (Gh.oFun K (a_f_assigned K)).code "assigned",
  fun K => PySem.W.keepIn K (.ref (a_f_assigned K)),
  fun K => He.eqO (PySem.W.nsIn K mainGlobals "is_access") (some (some (.ref (a_f_is_access K)))),
  fun K => PySem.W.codeIn K (Gh.oFun K (a_f_is_access K)).code "is_access",
  fun K => PySem.W.keepIn K (.ref (a_f_is_access K)),
  fun K => He.eqO (PySem.W.nsIn K mainGlobals "frozen") (some (some (.ref (a_f_frozen K)))),
  fun K => PySem.W.codeIn K (Gh.oFun K (a_f_frozen K)).code "frozen"]
def fs_p1x1 : List (Gh.Fr → Bool) := [
  fun K => PySem.W.keepIn K (.ref (a_f_frozen K)),
  fun K => He.eqO (PySem.W.nsIn K mainGlobals "polynomial") (some (some (.ref (a_f_polynomial K)))),
  fun K => PySem.W.codeIn K (Gh.oFun K (a_f_polynomial K)).code "polynomial",
  fun K => PySem.W.keepIn K (.ref (a_f_polynomial K)),
  fun K => He.eqO (PySem.W.nsIn K mainGlobals "active") (some (some (.ref (a_f_active K)))),
  fun K => PySem.W.codeIn K (Gh.oFun K (a_f_active K)).code "active",
  fun K => PySem.W.keepIn K (.ref (a_f_active K)),
  fun K => He.eqO (PySem.W.nsIn K mainGlobals "value_of") (some (some (.ref (a_f_value_of K)))),
  fun K => PySem.W.codeIn K (Gh.oFun K (a_f_value_of K)).code "value_of",
  fun K => PySem.W.keepIn K (.ref (a_f_value_of K)),
  fun K => He.eqO (PySem.W.nsIn K mainGlobals "greater") (some (some (.ref (a_f_greater K)))),
  fun K => PySem.W.codeIn K (Gh.oFun K (a_f_greater K)).code "greater",
  fun K => PySem.W.keepIn K (.ref (a_f_greater K)),
  fun K => He.eqO (PySem.W.nsIn K mainGlobals "lesser") (some (some (.ref (a_f_lesser K)))),
  fun K => PySem.W.codeIn K (Gh.oFun K (a_f_lesser K)).code "lesser",
  fun K => PySem.W.keepIn K (.ref (a_f_lesser K)),
  fun K => He.eqO (PySem.W.nsIn K mainGlobals "below") (some (some (.ref (a_f_below K)))),
  fun K => PySem.W.codeIn K (Gh.oFun K (a_f_below K)).code "below",
  fun K => PySem.W.keepIn K (.ref (a_f_below K)),
  fun K => He.eqO (PySem.W.nsIn K mainGlobals "at_most") (some (some (.ref (a_f_at_most K))))]
def fs_p1x2 : List (Gh.Fr → Bool) := [
  fun K => PySem.W.codeIn K (Gh.oFun K (a_f_at_most K)).code "at_most",
  fun K => PySem.W.keepIn K (.ref (a_f_at_most K)),
  fun K => He.eqO (PySem.W.nsIn K mainGlobals "equal") (some (some (.ref (a_f_equal K)))),
  fun K => PySem.W.codeIn K (Gh.oFun K (a_f_equal K)).code "equal",
  fun K => PySem.W.keepIn K (.ref (a_f_equal K)),
  fun K => He.eqO (PySem.W.nsIn K mainGlobals "unequal") (some (some (.ref (a_f_unequal K)))),
  fun K => PySem.W.codeIn K (Gh.oFun K (a_f_unequal K)).code "unequal",
  fun K => PySem.W.keepIn K (.ref (a_f_unequal K)),
  fun K => He.eqO (PySem.W.nsIn K mainGlobals "_law_draw") (some (some (.ref (a_f__law_draw K)))),
  fun K => PySem.W.codeIn K (Gh.oFun K (a_f__law_draw K)).code "_law_draw",
  fun K => PySem.W.keepIn K (.ref (a_f__law_draw K)),
  fun K => He.eqO (PySem.W.nsIn K mainGlobals "_law_start") (some (some (.ref (a_f__law_start K)))),
  fun K => PySem.W.codeIn K (Gh.oFun K (a_f__law_start K)).code "_law_start",
  fun K => PySem.W.keepIn K (.ref (a_f__law_start K)),
  fun K => He.eqO (PySem.W.nsIn K mainGlobals "_law_pick") (some (some (.ref (a_f__law_pick K)))),
  fun K => PySem.W.codeIn K (Gh.oFun K (a_f__law_pick K)).code "_law_pick",
  fun K => PySem.W.keepIn K (.ref (a_f__law_pick K)),
  fun K => He.eqO (PySem.W.nsIn K mainGlobals "_law_mixed") (some (some (.ref (a_f__law_mixed K)))),
  fun K => PySem.W.codeIn K (Gh.oFun K (a_f__law_mixed K)).code "_law_mixed",
  fun K => PySem.W.keepIn K (.ref (a_f__law_mixed K))]
def fs_p1x3 : List (Gh.Fr → Bool) := [
  fun K => He.eqO (PySem.W.nsIn K mainGlobals "_law_same") (some (some (.ref (a_f__law_same K)))),
  fun K => PySem.W.codeIn K (Gh.oFun K (a_f__law_same K)).code "_law_same",
  fun K => PySem.W.keepIn K (.ref (a_f__law_same K)),
  fun K => He.eqO (PySem.W.nsIn K mainGlobals "_law_name") (some (some (.ref (a_f__law_name K)))),
  fun K => PySem.W.codeIn K (Gh.oFun K (a_f__law_name K)).code "_law_name",
  fun K => PySem.W.keepIn K (.ref (a_f__law_name K)),
  fun K => He.eqO (PySem.W.nsIn K mainGlobals "_law_names") (some (some (.ref (a_f__law_names K)))),
  fun K => PySem.W.codeIn K (Gh.oFun K (a_f__law_names K)).code "_law_names",
  fun K => PySem.W.keepIn K (.ref (a_f__law_names K)),
  fun K => He.eqO (PySem.W.nsIn K mainGlobals "_law_letters") (some (some (.ref (a_f__law_letters K)))),
  fun K => PySem.W.codeIn K (Gh.oFun K (a_f__law_letters K)).code "_law_letters",
  fun K => PySem.W.keepIn K (.ref (a_f__law_letters K)),
  fun K => He.eqO (PySem.W.nsIn K mainGlobals "_law_own_accesses") (some (some (.ref (a_f__law_own_accesses K)))),
  fun K => PySem.W.codeIn K (Gh.oFun K (a_f__law_own_accesses K)).code "_law_own_accesses",
  fun K => PySem.W.keepIn K (.ref (a_f__law_own_accesses K)),
  fun K => He.eqO (PySem.W.nsIn K mainGlobals "_law_access") (some (some (.ref (a_f__law_access K)))),
  fun K => PySem.W.codeIn K (Gh.oFun K (a_f__law_access K)).code "_law_access",
  fun K => PySem.W.keepIn K (.ref (a_f__law_access K)),
  fun K => He.eqO (PySem.W.nsIn K mainGlobals "_law_grown") (some (some (.ref (a_f__law_grown K)))),
  fun K => PySem.W.codeIn K (Gh.oFun K (a_f__law_grown K)).code "_law_grown"]
def fs_p1x4 : List (Gh.Fr → Bool) := [
  fun K => PySem.W.keepIn K (.ref (a_f__law_grown K)),
  fun K => He.eqO (PySem.W.findIn K (.ref (a_XC K)) "__add__") (some (some (.ref (a_o_add K)))),
  fun K => PySem.W.codeIn K (Gh.oFun K (a_o_add K)).code "Expression.__add__",
  fun K => PySem.W.keepIn K (.ref (a_o_add K)),
  fun K => PySem.W.isFn K (.ref (a_o_add K)),
  fun K => He.eqO (PySem.W.findIn K (.ref (a_XC K)) "__sub__") (some (some (.ref (a_o_sub K)))),
  fun K => PySem.W.codeIn K (Gh.oFun K (a_o_sub K)).code "Expression.__sub__",
  fun K => PySem.W.keepIn K (.ref (a_o_sub K)),
  fun K => PySem.W.isFn K (.ref (a_o_sub K)),
  fun K => He.eqO (PySem.W.findIn K (.ref (a_XC K)) "__rmul__") (some (some (.ref (a_o_rmul K)))),
  fun K => PySem.W.codeIn K (Gh.oFun K (a_o_rmul K)).code "Expression.__rmul__",
  fun K => PySem.W.keepIn K (.ref (a_o_rmul K)),
  fun K => PySem.W.isFn K (.ref (a_o_rmul K)),
  fun K => He.eqO (PySem.W.findIn K (.ref (a_XC K)) "__and__") (some (some (.ref (a_o_and K)))),
  fun K => PySem.W.codeIn K (Gh.oFun K (a_o_and K)).code "Expression.__and__",
  fun K => PySem.W.keepIn K (.ref (a_o_and K)),
  fun K => PySem.W.isFn K (.ref (a_o_and K)),
  fun K => He.eqO (PySem.W.findIn K (.ref (a_XC K)) "__or__") (some (some (.ref (a_o_or K)))),
  fun K => PySem.W.codeIn K (Gh.oFun K (a_o_or K)).code "Expression.__or__",
  fun K => PySem.W.keepIn K (.ref (a_o_or K))]
def fs_p1x5 : List (Gh.Fr → Bool) := [
  fun K => PySem.W.isFn K (.ref (a_o_or K)),
  fun K => He.eqO (PySem.W.findIn K (.ref (a_XC K)) "__rxor__") (some (some (.ref (a_o_rxor K)))),
  fun K => PySem.W.codeIn K (Gh.oFun K (a_o_rxor K)).code "Expression.__rxor__",
  fun K => PySem.W.keepIn K (.ref (a_o_rxor K)),
  fun K => PySem.W.isFn K (.ref (a_o_rxor K)),
  fun K => He.eqO (PySem.W.findIn K (.ref (a_XC K)) "__floordiv__") (some (some (.ref (a_o_floordiv K)))),
  fun K => PySem.W.codeIn K (Gh.oFun K (a_o_floordiv K)).code "Expression.__floordiv__",
  fun K => PySem.W.keepIn K (.ref (a_o_floordiv K)),
  fun K => PySem.W.isFn K (.ref (a_o_floordiv K)),
  fun K => He.eqO (PySem.W.findIn K (.ref (a_XC K)) "__pow__") (some (some (.ref (a_o_pow K)))),
  fun K => PySem.W.codeIn K (Gh.oFun K (a_o_pow K)).code "Expression.__pow__",
  fun K => PySem.W.keepIn K (.ref (a_o_pow K)),
  fun K => PySem.W.isFn K (.ref (a_o_pow K)),
  fun K => He.eqO (PySem.W.findIn K (.ref (a_XC K)) "__lshift__") (some (some (.ref (a_o_lshift K)))),
  fun K => PySem.W.codeIn K (Gh.oFun K (a_o_lshift K)).code "Expression.__lshift__",
  fun K => PySem.W.keepIn K (.ref (a_o_lshift K)),
  fun K => PySem.W.isFn K (.ref (a_o_lshift K)),
  fun K => He.eqO (PySem.W.findIn K (.ref (a_XC K)) "__rshift__") (some (some (.ref (a_o_rshift K)))),
  fun K => PySem.W.codeIn K (Gh.oFun K (a_o_rshift K)).code "Expression.__rshift__",
  fun K => PySem.W.keepIn K (.ref (a_o_rshift K))]
def fs_p1x6 : List (Gh.Fr → Bool) := [
  fun K => PySem.W.isFn K (.ref (a_o_rshift K)),
  fun K => He.eqO (PySem.W.findIn K (.ref (a_XC K)) "__neg__") (some (some (.ref (a_o_neg K)))),
  fun K => PySem.W.codeIn K (Gh.oFun K (a_o_neg K)).code "Expression.__neg__",
  fun K => PySem.W.keepIn K (.ref (a_o_neg K)),
  fun K => PySem.W.isFn K (.ref (a_o_neg K)),
  fun K => He.eqO (PySem.W.findIn K (.ref (a_XC K)) "__pos__") (some (some (.ref (a_o_pos K)))),
  fun K => PySem.W.codeIn K (Gh.oFun K (a_o_pos K)).code "Expression.__pos__",
  fun K => PySem.W.keepIn K (.ref (a_o_pos K)),
  fun K => PySem.W.isFn K (.ref (a_o_pos K)),
  fun K => He.eqO (PySem.W.findIn K (.ref (a_XC K)) "__invert__") (some (some (.ref (a_o_invert K)))),
  fun K => PySem.W.codeIn K (Gh.oFun K (a_o_invert K)).code "Expression.__invert__",
  fun K => PySem.W.keepIn K (.ref (a_o_invert K)),
  fun K => PySem.W.isFn K (.ref (a_o_invert K)),
  fun K => He.eqO (PySem.W.findIn K (.ref (a_XC K)) "__abs__") (some (some (.ref (a_o_abs K)))),
  fun K => PySem.W.codeIn K (Gh.oFun K (a_o_abs K)).code "Expression.__abs__",
  fun K => PySem.W.keepIn K (.ref (a_o_abs K)),
  fun K => PySem.W.isFn K (.ref (a_o_abs K)),
  fun K => He.eqO (PySem.W.findIn K (.ref (a_XC K)) "__iadd__") (some (some (.ref (a_o_iadd K)))),
  fun K => PySem.W.codeIn K (Gh.oFun K (a_o_iadd K)).code "Expression.__iadd__",
  fun K => PySem.W.keepIn K (.ref (a_o_iadd K))]
def fs_p1x7 : List (Gh.Fr → Bool) := [
  fun K => PySem.W.isFn K (.ref (a_o_iadd K)),
  fun K => He.eqO (PySem.W.findIn K (.ref (a_XC K)) "__isub__") (some (some (.ref (a_o_isub K)))),
  fun K => PySem.W.codeIn K (Gh.oFun K (a_o_isub K)).code "Expression.__isub__",
  fun K => PySem.W.keepIn K (.ref (a_o_isub K)),
  fun K => PySem.W.isFn K (.ref (a_o_isub K))]
def fs_p1x : List (Gh.Fr → Bool) := fs_p1x0 ++ fs_p1x1 ++ fs_p1x2 ++ fs_p1x3 ++ fs_p1x4 ++ fs_p1x5 ++ fs_p1x6 ++ fs_p1x7
def fs : List (Gh.Fr → Bool) := fs_p0x ++ fs_p1x
def fn_p0x0 : List Gh.FD := [
  ⟨fun K => (a_fL K), "law", "law", Hd.tS 112, false⟩,
  ⟨fun K => (a_fB0 K), "_law_deeds", "_law_deeds", Hd.tS 111, false⟩,
  ⟨fun K => (a_fE0 K), "_law_end", "_law_end", Hd.tS 109, false⟩,
  ⟨fun K => (a_fOp K), "operand_of", "operand_of", Hd.tS 44, false⟩,
  ⟨fun K => (a_fXC K), "__init__", "Expression.__init__", inClass (Hd.tS 38) 0, false⟩,
  ⟨fun K => (a_fAD K), "__init__", "Add.__init__", inClass (Hd.tS 79) 0, false⟩,
  ⟨fun K => (a_fPG K), "__init__", "Program.__init__", inClass (Hd.tS 80) 0, false⟩,
  ⟨fun K => (a_fBL K), "__init__", "Block.__init__", inClass (Hd.tS 78) 0, false⟩,
  ⟨fun K => (a_fST K), "__init__", "Statement.__init__", inClass (Hd.tS 69) 0, true⟩,
  ⟨fun K => (a_f_is_whole K), "is_whole", "is_whole", Hd.tS 1, false⟩,
  ⟨fun K => (a_f_ascending K), "ascending", "ascending", Hd.tS 3, false⟩,
  ⟨fun K => (a_f_access K), "access", "access", Hd.tS 40, false⟩,
  ⟨fun K => (a_f_number K), "number", "number", Hd.tS 39, false⟩,
  ⟨fun K => (a_f_check_letters K), "check_letters", "check_letters", Hd.tS 41, false⟩,
  ⟨fun K => (a_f_check_expression K), "check_expression", "check_expression", Hd.tS 43, false⟩,
  ⟨fun K => (a_f_joined K), "joined", "joined", Hd.tS 46, false⟩,
  ⟨fun K => (a_f_is_allowed K), "is_allowed", "is_allowed", Hd.tS 47, false⟩,
  ⟨fun K => (a_f_numbered K), "numbered", "numbered", Hd.tS 48, false⟩,
  ⟨fun K => (a_f_assigned K), "assigned", "assigned", Hd.tS 49, false⟩,
  ⟨fun K => (a_f_is_access K), "is_access", "is_access", Hd.tS 42, false⟩]
def fn_p0x1 : List Gh.FD := [
  ⟨fun K => (a_f_frozen K), "frozen", "frozen", Hd.tS 2, false⟩,
  ⟨fun K => (a_f_polynomial K), "polynomial", "polynomial", Hd.tS 89, false⟩,
  ⟨fun K => (a_f_active K), "active", "active", Hd.tS 97, false⟩,
  ⟨fun K => (a_f_value_of K), "value_of", "value_of", Hd.tS 53, false⟩,
  ⟨fun K => (a_f_greater K), "greater", "greater", Hd.tS 71, false⟩,
  ⟨fun K => (a_f_lesser K), "lesser", "lesser", Hd.tS 72, false⟩,
  ⟨fun K => (a_f_below K), "below", "below", Hd.tS 73, false⟩,
  ⟨fun K => (a_f_at_most K), "at_most", "at_most", Hd.tS 74, false⟩,
  ⟨fun K => (a_f_equal K), "equal", "equal", Hd.tS 75, false⟩]
def fn_p0x : List Gh.FD := fn_p0x0 ++ fn_p0x1
def fn_p1x0 : List Gh.FD := [
  ⟨fun K => (a_f_unequal K), "unequal", "unequal", Hd.tS 76, false⟩,
  ⟨fun K => (a_f__law_draw K), "_law_draw", "_law_draw", Hd.tS 100, false⟩,
  ⟨fun K => (a_f__law_start K), "_law_start", "_law_start", Hd.tS 101, false⟩,
  ⟨fun K => (a_f__law_pick K), "_law_pick", "_law_pick", Hd.tS 102, false⟩,
  ⟨fun K => (a_f__law_mixed K), "_law_mixed", "_law_mixed", Hd.tS 103, false⟩,
  ⟨fun K => (a_f__law_same K), "_law_same", "_law_same", Hd.tS 104, false⟩,
  ⟨fun K => (a_f__law_name K), "_law_name", "_law_name", Hd.tS 105, false⟩,
  ⟨fun K => (a_f__law_names K), "_law_names", "_law_names", Hd.tS 106, false⟩,
  ⟨fun K => (a_f__law_letters K), "_law_letters", "_law_letters", Hd.tS 107, false⟩,
  ⟨fun K => (a_f__law_own_accesses K), "_law_own_accesses", "_law_own_accesses", Hd.tS 99, false⟩,
  ⟨fun K => (a_f__law_access K), "_law_access", "_law_access", Hd.tS 108, false⟩,
  ⟨fun K => (a_f__law_grown K), "_law_grown", "_law_grown", Hd.tS 110, false⟩,
  ⟨fun K => (a_o_add K), "__add__", "Expression.__add__", inClass (Hd.tS 38) 2, false⟩,
  ⟨fun K => (a_o_sub K), "__sub__", "Expression.__sub__", inClass (Hd.tS 38) 4, false⟩,
  ⟨fun K => (a_o_rmul K), "__rmul__", "Expression.__rmul__", inClass (Hd.tS 38) 7, false⟩,
  ⟨fun K => (a_o_and K), "__and__", "Expression.__and__", inClass (Hd.tS 38) 8, false⟩,
  ⟨fun K => (a_o_or K), "__or__", "Expression.__or__", inClass (Hd.tS 38) 10, false⟩,
  ⟨fun K => (a_o_rxor K), "__rxor__", "Expression.__rxor__", inClass (Hd.tS 38) 13, false⟩,
  ⟨fun K => (a_o_floordiv K), "__floordiv__", "Expression.__floordiv__", inClass (Hd.tS 38) 14, false⟩,
  ⟨fun K => (a_o_pow K), "__pow__", "Expression.__pow__", inClass (Hd.tS 38) 16, false⟩]
def fn_p1x1 : List Gh.FD := [
  ⟨fun K => (a_o_lshift K), "__lshift__", "Expression.__lshift__", inClass (Hd.tS 38) 17, false⟩,
  ⟨fun K => (a_o_rshift K), "__rshift__", "Expression.__rshift__", inClass (Hd.tS 38) 18, false⟩,
  ⟨fun K => (a_o_neg K), "__neg__", "Expression.__neg__", inClass (Hd.tS 38) 19, false⟩,
  ⟨fun K => (a_o_pos K), "__pos__", "Expression.__pos__", inClass (Hd.tS 38) 20, false⟩,
  ⟨fun K => (a_o_invert K), "__invert__", "Expression.__invert__", inClass (Hd.tS 38) 21, false⟩,
  ⟨fun K => (a_o_abs K), "__abs__", "Expression.__abs__", inClass (Hd.tS 38) 22, false⟩,
  ⟨fun K => (a_o_iadd K), "__iadd__", "Expression.__iadd__", inClass (Hd.tS 38) 23, false⟩,
  ⟨fun K => (a_o_isub K), "__isub__", "Expression.__isub__", inClass (Hd.tS 38) 24, false⟩]
def fn_p1x : List Gh.FD := fn_p1x0 ++ fn_p1x1
def fn : List Gh.FD := fn_p0x ++ fn_p1x
def dsx_p0x0 : List Gh.Tb := [
  (fun K => (a_LT K), ["power", "left", "right"])]
def dsx_p0x : List Gh.Tb := dsx_p0x0
def dsx_p1x : List Gh.Tb := []
def dsx : List Gh.Tb := dsx_p0x ++ dsx_p1x
def tf_p0x0 : List (Gh.Fr → Addr) := [
  fun K => (a_PL K)]
def tf_p0x : List (Gh.Fr → Addr) := tf_p0x0
def tf_p1x0 : List (Gh.Fr → Addr) := [
  fun K => (a_PB K)]
def tf_p1x : List (Gh.Fr → Addr) := tf_p1x0
def tf : List (Gh.Fr → Addr) := tf_p0x ++ tf_p1x
def nm0 : List PySem.Str := ["is_whole", "frozen", "ascending", "WalkError", "BadExpression", "BadNumber", "RepeatedLetter", "NotAnAccess", "NotAnExpression", "NotPolynomial", "SIGNS", "FRONT_SIGNS", "LIMITS", "ASSIGNED_KINDS", "plus_value", "minus_value", "times_value", "both_value", "either_value", "unlike_value"]
def nm1 : List PySem.Str := ["greater_value", "lesser_value", "below_value", "at_most_value", "equal_value", "unequal_value", "quotient_value", "remainder_value", "power_value", "left_value", "right_value", "negative_value", "inverse_value", "absolute_value", "ACTIONS", "Expression", "number", "access", "check_letters", "is_access"]
def nm2 : List PySem.Str := ["check_expression", "operand_of", "operand_of_expressions", "joined", "is_allowed", "numbered", "assigned", "part_text", "text_of", "part_value", "value_of", "LOWER", "DIGITS", "LONGEST_NAME", "MOST_LETTERS", "NUMBERED_KINDS", "CALLED_KINDS", "is_name", "is_natural", "begins_one"]
def nm3 : List PySem.Str := ["begins_operand", "kind_of_sign", "Reader", "STATEMENT_SIGNS", "Statement", "greater", "lesser", "below", "at_most", "equal", "unequal", "Block", "Add", "Program", "JOINED_KINDS", "collected", "product_value", "Polynomial", "operand_of_polynomials", "part_polynomial"]
def nm4 : List PySem.Str := ["polynomial", "PRODUCT_KINDS", "FIRST_KINDS", "SURE_KINDS", "value_at_zero", "is_active_pair", "is_active", "active", "_law_own_accesses", "_law_draw", "_law_start", "_law_pick", "_law_mixed", "_law_same", "_law_name", "_law_names", "_law_letters", "_law_access", "_law_end", "_law_grown"]
def nm5 : List PySem.Str := ["_law_deeds"]
def nms : List PySem.Str := nm0 ++ nm1 ++ nm2 ++ nm3 ++ nm4 ++ nm5

abbrev RR : PySem.W.OpenRow := PySem.W.OpenLaw.row PySem.Challenge.rw_levelwalks_k20_gains_and_losses
abbrev hkH : PySem.W.Hook := Gh.hook 7 fs fn dsx tf
def ob (s : PySem.W.SharedT) : Gh.Al × Bool := Gh.look 7 fs fn dsx tf (HandSHeadRun.getT s)
theorem ob_eq (s : PySem.W.SharedT) : ob s = hkH.obs s.abs := Gh.look_eq (HandSHeadRun.getT_eq s)
theorem runBF (w : World) : Gh.BaseEq RR (PySem.W.view RR.prog [112]) 200000 nms (w.withFollow "special-get-raises" false) := by
  intro os
  kernel_rfl
theorem runP0F (w : World) : Gh.PartEq RR 200000 (w.withFollow "special-get-raises" false) 7 fs_p0x fn_p0x dsx_p0x tf_p0x := by
  intro os
  kernel_rfl
theorem runP1F (w : World) : Gh.PartEq RR 200000 (w.withFollow "special-get-raises" false) 7 fs_p1x fn_p1x dsx_p1x tf_p1x := by
  intro os
  kernel_rfl
theorem runF (w : World) : HandSHeadRun.RunEq RR (PySem.W.view RR.prog [112]) hkH ob 200000 nms (w.withFollow "special-get-raises" false) := Gh.run_of (runBF w) (((runP0F w)).app (runP1F w))
theorem runBT (w : World) : Gh.BaseEq RR (PySem.W.view RR.prog [112]) 200000 nms (w.withFollow "special-get-raises" true) := by
  intro os
  kernel_rfl
theorem runP0T (w : World) : Gh.PartEq RR 200000 (w.withFollow "special-get-raises" true) 7 fs_p0x fn_p0x dsx_p0x tf_p0x := by
  intro os
  kernel_rfl
theorem runP1T (w : World) : Gh.PartEq RR 200000 (w.withFollow "special-get-raises" true) 7 fs_p1x fn_p1x dsx_p1x tf_p1x := by
  intro os
  kernel_rfl
theorem runT (w : World) : HandSHeadRun.RunEq RR (PySem.W.view RR.prog [112]) hkH ob 200000 nms (w.withFollow "special-get-raises" true) := Gh.run_of (runBT w) (((runP0T w)).app (runP1T w))
theorem run (w : World) : HandSHeadRun.RunEq RR (PySem.W.view RR.prog [112]) hkH ob 200000 nms w :=
  PySem.W.byRow2 "special-get-raises" (P := fun w => HandSHeadRun.RunEq RR (PySem.W.view RR.prog [112]) hkH ob 200000 nms w) runF runT w
end Lw
namespace Lw
open PySem L2
def topS (i : Nat) : Stmt := PySem.Challenge.pw_levelwalks_k20_gains_and_losses.main.body.getD i (.Pass ⟨0, 0, 0, 0⟩)
theorem seqT {K : PySem.W.Frag} {H H' : Hp} (g : Same H H') {a : Addr} {xs : List V} (h : SqT K H a xs) : SqT K H' a xs := by
  rcases h with (h | ⟨o, h⟩) | h
  · exact .inl (.inl (g _ _ h))
  · exact .inl (.inr ⟨o, g _ _ h⟩)
  · exact .inr h
theorem tyT {K : PySem.W.Frag} {H : Hp} {a : Addr} {xs : List V} (h : SqT K H a xs) : TyX K H (.ref a) (.type "tuple") := by
  rcases h with (h | ⟨o, h⟩) | ⟨o, its, n, h, c, _⟩
  · exact .base (.tup h)
  · exact .fTuple h
  · exact .kTuple h c
theorem tyL {K : PySem.W.Frag} {H : Hp} {a : Addr} {xs : List V} (h : SqL K H a xs) : TyX K H (.ref a) (.type "list") := by
  rcases h with (h | ⟨o, h⟩) | ⟨o, its, n, h, c, _⟩
  · exact .base (.lst h)
  · exact .base (.frz h)
  · exact .kList h c
/-! two values that show the same data: ints, texts, truth values, tuples and lists of such; at most n deep -/
def Sm (K : PySem.W.Frag) (H : Hp) : Nat → V → V → Prop
  | 0, _, _ => False
  | n + 1, v, w => (∃ i : Int, v = .int i ∧ w = .int i) ∨ (∃ s : Str, v = .str s ∧ w = .str s) ∨ (∃ b : Bool, v = .bl b ∧ w = .bl b) ∨
    (∃ (a b : Addr) (xs ys : List V), v = .ref a ∧ w = .ref b ∧ SqT K H a xs ∧ SqT K H b ys ∧ xs.length = ys.length ∧ xs.length ≤ 1000 ∧ ∀ (i : Nat) (x y : V), xs[i]? = some x → ys[i]? = some y → Sm K H n x y) ∨
    (∃ (a b : Addr) (xs ys : List V), v = .ref a ∧ w = .ref b ∧ H a = some (.lst xs) ∧ H b = some (.lst ys) ∧ xs.length = ys.length ∧ xs.length ≤ 1000 ∧ ∀ (i : Nat) (x y : V), xs[i]? = some x → ys[i]? = some y → Sm K H n x y)
theorem Sm.mono {K : PySem.W.Frag} {H H' : Hp} (g : Same H H') : ∀ {n : Nat} {v w : V}, Sm K H n v w → Sm K H' n v w
  | 0, _, _, h => h
  | n + 1, v, w, h => by
    rcases h with h | h | h | ⟨a, b, xs, ys, e1, e2, h1, h2, h3, h4, h5⟩ | ⟨a, b, xs, ys, e1, e2, h1, h2, h3, h4, h5⟩
    · exact .inl h
    · exact .inr (.inl h)
    · exact .inr (.inr (.inl h))
    · exact .inr (.inr (.inr (.inl ⟨a, b, xs, ys, e1, e2, seqT g h1, seqT g h2, h3, h4, fun i x y p q => Sm.mono g (h5 i x y p q)⟩)))
    · exact .inr (.inr (.inr (.inr ⟨a, b, xs, ys, e1, e2, g _ _ h1, g _ _ h2, h3, h4, fun i x y p q => Sm.mono g (h5 i x y p q)⟩)))
theorem Sm.int {K : PySem.W.Frag} {H : Hp} {n : Nat} (i : Int) : Sm K H (n + 1) (.int i) (.int i) := .inl ⟨i, rfl, rfl⟩
theorem Sm.str {K : PySem.W.Frag} {H : Hp} {n : Nat} (z : Str) : Sm K H (n + 1) (.str z) (.str z) := .inr (.inl ⟨z, rfl, rfl⟩)
theorem Sm.bl {K : PySem.W.Frag} {H : Hp} {n : Nat} (b : Bool) : Sm K H (n + 1) (.bl b) (.bl b) := .inr (.inr (.inl ⟨b, rfl, rfl⟩))
/-- place by place -/
def SmAll (K : PySem.W.Frag) (H : Hp) (n : Nat) (xs ys : List V) : Prop := xs.length = ys.length ∧ ∀ (i : Nat) (x y : V), xs[i]? = some x → ys[i]? = some y → Sm K H n x y
theorem SmAll.nil {K : PySem.W.Frag} {H : Hp} {n : Nat} : SmAll K H n [] [] := ⟨rfl, fun i x y e => by cases e⟩
theorem SmAll.cons {K : PySem.W.Frag} {H : Hp} {n : Nat} {x y : V} {xs ys : List V} (h : Sm K H n x y) (t : SmAll K H n xs ys) : SmAll K H n (x :: xs) (y :: ys) :=
  ⟨congrArg Nat.succ t.1, fun i a b e1 e2 => by
    cases i with
    | zero => cases e1; cases e2; exact h
    | succ i => exact t.2 i a b e1 e2⟩
theorem Sm.tup {K : PySem.W.Frag} {H : Hp} {n : Nat} {a b : Addr} {xs ys : List V} (h1 : SqT K H a xs) (h2 : SqT K H b ys) (hl : xs.length ≤ 1000) (t : SmAll K H n xs ys) : Sm K H (n + 1) (.ref a) (.ref b) :=
  .inr (.inr (.inr (.inl ⟨a, b, xs, ys, rfl, rfl, h1, h2, t.1, hl, t.2⟩)))
theorem Sm.lst {K : PySem.W.Frag} {H : Hp} {n : Nat} {a b : Addr} {xs ys : List V} (h1 : H a = some (.lst xs)) (h2 : H b = some (.lst ys)) (hl : xs.length ≤ 1000) (t : SmAll K H n xs ys) : Sm K H (n + 1) (.ref a) (.ref b) :=
  .inr (.inr (.inr (.inr ⟨a, b, xs, ys, rfl, rfl, h1, h2, t.1, hl, t.2⟩)))
def TK (K : PySem.W.Frag) (H H' : Hp) : Prop := ∀ (b : Addr) (xs : List V), SqT K H b xs → SqT K H' b xs
theorem TK.of {K : PySem.W.Frag} {H H' : Hp} (g : Same H H') : TK K H H' := fun b xs h => seqT g h
theorem TK.trans {K : PySem.W.Frag} {H H1 H2 : Hp} (g : TK K H H1) (g' : TK K H1 H2) : TK K H H2 := fun b xs h => g' b xs (g b xs h)
theorem TK.but {K : PySem.W.Frag} {H H' : Hp} (h : ∀ (b : Addr) (o : HO), (∀ xs, o ≠ .lst xs) → H b = some o → H' b = some o) : TK K H H' := fun b xs q => by
  rcases q with (q | ⟨o, q⟩) | q
  · exact .inl (.inl (h _ _ (by intro z e; cases e) q))
  · exact .inl (.inr ⟨o, h _ _ (by intro z e; cases e) q⟩)
  · exact .inr q
theorem TK.lst {K : PySem.W.Frag} {H : Hp} {D : Addr} {xs ys : List V} (h : H D = some (.lst xs)) : TK K H (upd H D (.lst ys)) := .but fun b o no q => by
  rw [upd_ne (fun e => by rw [e, h] at q; exact no _ (Option.some.inj q).symm)]
  exact q
theorem same_new {H : Hp} {p : Addr} (h : H p = none) (o : HO) : Same H (upd H p o) := fun b u q => by rw [upd_ne (ne_of_none q h)]; exact q
theorem same_over {H H' : Hp} {p : Addr} (g : Same H H') (h : H p = none) (o : HO) : Same H (upd H' p o) := fun b u q => by rw [upd_ne (ne_of_none q h)]; exact g _ _ q
/-- a comprehension's turn without a test -/
theorem kept {te : TE} {σ : St} {H : Hp} {R : V → Hp → Prop} {S : Hp → Prop} (h : te σ H R) : tYes σ H fun b H3 => if b = true then te σ H3 R else S H3 := iteT (A := te σ H R) (B := S H) h
/-- the built-in names that the program's text does not make its own -/
structure Bt (mg : Str → Option Value) : Prop where
  isi : mg "isinstance" = none
  lst : mg "list" = none
  tup : mg "tuple" = none
  len : mg "len" = none
  all : mg "all" = none
  zip : mg "zip" = none
  dict : mg "dict" = none
  int : mg "int" = none
  bool : mg "bool" = none
  range : mg "range" = none
section
variable {P : Program} {w : World} {K : PySem.W.Frag} {mg : Str → Option Value} {base : Heap} {f : Addr} {fd : FuncData}
theorem none_left {sp : Sp} {ps : List Str} {CX : CXT} (no : ∀ vs H Q E, ¬ sp vs H Q E) : FnOk P w K mg base CX 0 f fd ps sp :=
  ⟨fun vs H Q E h => absurd h (no vs H Q E), fun A outer s H args us vs Q E _ _ _ _ h => absurd h (no vs H Q E)⟩
theorem is_seq {K : PySem.W.Frag} {t : String} {b : Bool} (h1 : kitB t "list" = some false) (h2 : kitB t "tuple" = some b) : PySem.W.kitAny K (.type t) [.type "list", .type "tuple"] = some b :=
  kitAny_cons (kit_ty h1) (fun _ => kitAny_cons (kit_ty h2) (fun e => by rw [e]; exact kitAny_nil) (fun e => e)) (fun e => by cases e)
abbrev sSame : Stmt := topS 104
/-! zip of two tuples, as a walk -/
theorem walk_zipT {K : PySem.W.Frag} {a b : Addr} {xs ys : List V} (e : xs.length = ys.length) : Walk (RZ.ItzT K a b) xs.length (fun H => SqT K H a xs ∧ SqT K H b ys) (YPair (fun i => xs[i]?) (fun i => ys[i]?)) :=
  ⟨fun i _ hi q => ⟨xs, ys, xs[i], ys[i]'(by omega), q.1, q.2, List.getElem?_eq_getElem hi, List.getElem?_eq_getElem (by omega)⟩, fun _ q => ⟨xs, ys, q.1, q.2, .inl (Nat.le_refl _)⟩,
    fun i H v H' _ q ⟨T, x, y, h1, h2, h3, h4, h5⟩ => ⟨T, x, y, h1, h2, h3, h4 xs q.1, h5 ys q.2⟩⟩
def spSame (K : PySem.W.Frag) (n : Nat) : Sp := fun vs H Q _ => ∃ v u : V, vs = [v, u] ∧ Sm K H n v u ∧ ∀ H' : Hp, Same H H' → Q (.bl true) H'
abbrev namesS : List Str := ["_law_found", "_law_due", "_law_one", "_law_other"]
theorem scS : FnScope namesS ["_law_found", "_law_due"] (defScope sSame) := ⟨rfl, rfl, rfl, by decide +kernel, rfl, by decide +kernel, by decide +kernel⟩
theorem is_four {K : PySem.W.Frag} {t : String} (h1 : kitB t "int" = some false) (h2 : kitB t "list" = some false) (h3 : kitB t "tuple" = some false) (h4 : kitB t "dict" = some false) :
    PySem.W.kitAny K (.type t) [.type "int", .type "list", .type "tuple", .type "dict"] = some false :=
  kitAny_cons (kit_ty h1) (fun _ => kitAny_cons (kit_ty h2) (fun _ => kitAny_cons (kit_ty h3) (fun _ => kitAny_cons (kit_ty h4) (fun _ => kitAny_nil) (fun e => by cases e)) (fun e => by cases e)) (fun e => by cases e)) (fun e => by cases e)
theorem is_seqL {K : PySem.W.Frag} : PySem.W.kitAny K (.type "list") [.type "list", .type "tuple"] = some true :=
  kitAny_cons (kit_ty (r := true) (by decide +kernel)) (fun e => by cases e) (fun _ => rfl)
theorem iteC {c : Bool} {A B : Prop} (hc : c = true) (h : A) : if c = true then A else B := by
  rw [if_pos hc]
  exact h
theorem iteN {c : Bool} {A B : Prop} (hc : c = false) (h : B) : if c = true then A else B := by
  rw [if_neg (by rw [hc]; decide)]
  exact h
theorem all_true {n : Nat} : (List.replicate n true).all id = true := by
  rw [List.all_eq_true]
  intro x hx
  rw [(List.mem_replicate.mp hx).2]
  rfl
/-- the list of answers so far -/
def InvS (H0 : Hp) (D : Addr) (i : Nat) (H : Hp) : Prop := H D = some (.lst (List.replicate i (.bl true))) ∧ Same H0 H
theorem ok_same {n : Nat} (F : Fun K "_law_same" "_law_same" sSame f fd) (G : FnOk P w K mg base CX0 n f fd ["_law_found", "_law_due"] (spSame K n)) (bF : Binds K fd ["_law_found", "_law_due"] []) (kF : PySem.W.keepIn K (.ref f) = true) (mF : mg "_law_same" = some (.ref f)) (B : Bt mg) :
    FnOk P w K mg base CX0 (n + 1) f fd ["_law_found", "_law_due"] (spSame K (n + 1)) := by
  refine F.ok scS (fun vs H Q E h => ?_) (fun cdv A outer s H vs Q E hr h => ?_)
  · obtain ⟨v, u, rfl, _⟩ := h
    rfl
  obtain ⟨v, u, rfl, hA, q⟩ := h
  refine ⟨_, pss_cons (ps_if (pt_val (pe_callB call_isiT (by rfl) B.isi (by decide +kernel) (pa_cons (pv 1) (pa_cons (pe_tup (pa_cons (pe_bltn (v := .ty "list") (by rfl) B.lst (by decide +kernel) rfl) (pa_cons (pe_bltn (v := .ty "tuple") (by rfl) B.tup (by decide +kernel) rfl) pa_nil))) pa_nil))))
      (pss_cons (ps_if (PW.pt (pw_or (pt_cmpR op_ne (pe_callB call_isi (by rfl) B.isi (by decide +kernel) (pa_cons (pv 0) (pa_cons (pe_bltn (v := .ty "list") (by rfl) B.lst (by decide +kernel) rfl) pa_nil))) (pe_callB call_isi (by rfl) B.isi (by decide +kernel) (pa_cons (pv 1) (pa_cons (pe_bltn (v := .ty "list") (by rfl) B.lst (by decide +kernel) rfl) pa_nil))) (nomark _)) (pw_or1 (pt_cmpR op_ne (pe_callB call_isi (by rfl) B.isi (by decide +kernel) (pa_cons (pv 0) (pa_cons (pe_bltn (v := .ty "tuple") (by rfl) B.tup (by decide +kernel) rfl) pa_nil))) (pe_callB call_isi (by rfl) B.isi (by decide +kernel) (pa_cons (pv 1) (pa_cons (pe_bltn (v := .ty "tuple") (by rfl) B.tup (by decide +kernel) rfl) pa_nil))) (nomark _))))) (pss_one (ps_ret pe_bl)) pss_nil)
        (pss_one (ps_ret (pe_and (pe_cmpR op_eq (pe_callB call_len_seq (by rfl) B.len PySem.boot_len (pa_cons (pv 0) pa_nil)) (pe_callB call_len_seq (by rfl) B.len PySem.boot_len (pa_cons (pv 1) pa_nil)) (nomark _)) (pe_one (pe_callB (cr_all rfl) (by rfl) B.all (by decide +kernel) (pa_cons
          (pe_lc (own := [("_law_one", 2), ("_law_other", 3)]) (g := gTup K 2 (gCons (gName 2) (gCons (gName 3) gNil))) (tt := tYes) rfl scS.nd (RZ.pi_zipA (by rfl) B.zip (pa_cons (pv 0) (pa_cons (pv 1) pa_nil))) (blkOk_by (N := namesS) (sc := defScope sSame) (by decide +kernel))
            (fun _ _ _ _ _ => pg_tup rfl (pgs_cons (pg_name (i := 2) scS.nd rfl (Or.inl rfl)) (pgs_cons (pg_name (i := 3) scS.nd rfl (Or.inl rfl)) pgs_nil))) (fun _ _ _ _ _ => pts_nil)
            (fun _ _ _ _ _ => pe_call G hr rfl mF kF bF .nil pass0 (pa_cons (pv 2) (pa_cons (pv 3) pa_nil)))) pa_nil))))))) pss_nil)
    (pss_cons (ps_if (pt_val (pe_callB call_isi (by rfl) B.isi (by decide +kernel) (pa_cons (pv 1) (pa_cons (pe_bltn (v := .ty "dict") (by rfl) B.dict (by decide +kernel) rfl) pa_nil)))) (pss_cons ps_never (pss_one ps_never)) pss_nil)
    (pss_cons (ps_if (pt_val (pe_callB call_isi (by rfl) B.isi (by decide +kernel) (pa_cons (pv 1) (pa_cons (pe_bltn (v := .ty "int") (by rfl) B.int (by decide +kernel) rfl) pa_nil)))) (pss_one (ps_ret (pe_and (pe_callB call_isi (by rfl) B.isi (by decide +kernel) (pa_cons (pv 0) (pa_cons (pe_bltn (v := .ty "int") (by rfl) B.int (by decide +kernel) rfl) pa_nil))) (pe_and (pe_cmpR op_eq (pe_callB call_isi (by rfl) B.isi (by decide +kernel) (pa_cons (pv 0) (pa_cons (pe_bltn (v := .ty "bool") (by rfl) B.bool (by decide +kernel) rfl) pa_nil))) (pe_callB call_isi (by rfl) B.isi (by decide +kernel) (pa_cons (pv 1) (pa_cons (pe_bltn (v := .ty "bool") (by rfl) B.bool (by decide +kernel) rfl) pa_nil))) (nomark _)) (pe_one (pe_cmpR op_eq (pv 0) (pv 1) (nomark _))))))) pss_nil)
    (pss_one (ps_ret (pe_and (pe_cmpR op_eq (pv 0) (pv 1) (nomark _)) (pe_one (pe_cmpR op_isBl (pe_callB call_isiT (by rfl) B.isi (by decide +kernel) (pa_cons (pv 0) (pa_cons (pe_tup (pa_cons (pe_bltn (v := .ty "int") (by rfl) B.int (by decide +kernel) rfl) (pa_cons (pe_bltn (v := .ty "list") (by rfl) B.lst (by decide +kernel) rfl) (pa_cons (pe_bltn (v := .ty "tuple") (by rfl) B.tup (by decide +kernel) rfl) (pa_cons (pe_bltn (v := .ty "dict") (by rfl) B.dict (by decide +kernel) rfl) pa_nil))))) pa_nil))) pe_bl (nomark _)))))))), ?_⟩
  refine ⟨_, rfl, (by show 2 ≤ sizeLine; decide), fun t ht => ?_⟩
  have g1 : Same H (upd H t (.tup [.ty "list", .ty "tuple"])) := same_new ht _
  rcases hA with ⟨i, rfl, rfl⟩ | ⟨z, rfl, rfl⟩ | ⟨bb, rfl, rfl⟩ | ⟨a, b, xs, ys, rfl, rfl, h1, h2, h3, h4, h5⟩ | ⟨a, b, xs, ys, rfl, rfl, h1, h2, h3, h4, h5⟩
  · refine ⟨_, t, _, .type "int", [.type "list", .type "tuple"], false, rfl, upd_same, .cons (.ty _) (.cons (.ty _) .nil), .base (.int i), is_seq (by decide +kernel) (by decide +kernel), _, rfl, ?_⟩
    refine iteF ?_
    refine ⟨_, rfl, _, _, .type "int", .type "dict", false, rfl, .ty _, .base (.int i), kit_ty (by decide +kernel), _, rfl, ?_⟩
    refine iteF ?_
    refine ⟨_, rfl, _, _, .type "int", .type "int", true, rfl, .ty _, .base (.int i), kit_ty (by decide +kernel), _, rfl, ?_⟩
    refine iteT ?_
    refine ⟨_, rfl, _, _, .type "int", .type "int", true, rfl, .ty _, .base (.int i), kit_ty (by decide +kernel), _, rfl, ?_⟩
    refine iteT ?_
    refine ⟨_, rfl, _, _, .type "int", .type "bool", false, rfl, .ty _, .base (.int i), kit_ty (by decide +kernel), ?_⟩
    refine ⟨_, rfl, _, _, .type "int", .type "bool", false, rfl, .ty _, .base (.int i), kit_ty (by decide +kernel), ?_⟩
    refine ⟨rfl, _, rfl, iteC (decide_eq_true rfl) ?_⟩
    refine ⟨_, rfl, _, rfl, rfl, ?_⟩
    show Q (.bl (decide (V.int i = V.int i))) _
    rw [decide_eq_true rfl]
    exact q _ g1
  · refine ⟨_, t, _, .type "str", [.type "list", .type "tuple"], false, rfl, upd_same, .cons (.ty _) (.cons (.ty _) .nil), .base (.str z), is_seq (by decide +kernel) (by decide +kernel), _, rfl, ?_⟩
    refine iteF ?_
    refine ⟨_, rfl, _, _, .type "str", .type "dict", false, rfl, .ty _, .base (.str z), kit_ty (by decide +kernel), _, rfl, ?_⟩
    refine iteF ?_
    refine ⟨_, rfl, _, _, .type "str", .type "int", false, rfl, .ty _, .base (.str z), kit_ty (by decide +kernel), _, rfl, ?_⟩
    refine iteF ?_
    refine ⟨_, rfl, _, rfl, rfl, _, rfl, iteC (decide_eq_true rfl) ?_⟩
    refine ⟨_, rfl, (by show 4 ≤ sizeLine; decide), fun t2 ht2 => ?_⟩
    refine ⟨_, t2, _, .type "str", [.type "int", .type "list", .type "tuple", .type "dict"], false, rfl, upd_same, .cons (.ty _) (.cons (.ty _) (.cons (.ty _) (.cons (.ty _) .nil))), .base (.str z), is_four (by decide +kernel) (by decide +kernel) (by decide +kernel) (by decide +kernel), _, _, rfl, rfl, ?_⟩
    exact q _ (g1.trans (same_new ht2 _))
  · refine ⟨_, t, _, .type "bool", [.type "list", .type "tuple"], false, rfl, upd_same, .cons (.ty _) (.cons (.ty _) .nil), .base (.bl bb), is_seq (by decide +kernel) (by decide +kernel), _, rfl, ?_⟩
    refine iteF ?_
    refine ⟨_, rfl, _, _, .type "bool", .type "dict", false, rfl, .ty _, .base (.bl bb), kit_ty (by decide +kernel), _, rfl, ?_⟩
    refine iteF ?_
    refine ⟨_, rfl, _, _, .type "bool", .type "int", true, rfl, .ty _, .base (.bl bb), kit_ty (by decide +kernel), _, rfl, ?_⟩
    refine iteT ?_
    refine ⟨_, rfl, _, _, .type "bool", .type "int", true, rfl, .ty _, .base (.bl bb), kit_ty (by decide +kernel), _, rfl, ?_⟩
    refine iteT ?_
    refine ⟨_, rfl, _, _, .type "bool", .type "bool", true, rfl, .ty _, .base (.bl bb), kit_ty (by decide +kernel), ?_⟩
    refine ⟨_, rfl, _, _, .type "bool", .type "bool", true, rfl, .ty _, .base (.bl bb), kit_ty (by decide +kernel), ?_⟩
    refine ⟨rfl, _, rfl, iteC (decide_eq_true rfl) ?_⟩
    refine ⟨_, rfl, _, rfl, rfl, ?_⟩
    show Q (.bl (decide (V.bl bb = V.bl bb))) _
    rw [decide_eq_true rfl]
    exact q _ g1
  · refine ⟨_, t, _, .type "tuple", [.type "list", .type "tuple"], true, rfl, upd_same, .cons (.ty _) (.cons (.ty _) .nil), tyT (seqT g1 h2), is_seq (by decide +kernel) (by decide +kernel), _, rfl, ?_⟩
    refine iteT ?_
    have ka := seqT g1 h1
    have kb := seqT g1 h2
    refine ⟨_, rfl, _, _, .type "tuple", .type "list", false, rfl, .ty _, tyT ka, kit_ty (by decide +kernel), _, rfl, _, _, .type "tuple", .type "list", false, rfl, .ty _, tyT kb, kit_ty (by decide +kernel), rfl, _, rfl, ?_⟩
    refine iteN rfl ?_
    refine ⟨_, rfl, _, _, .type "tuple", .type "tuple", true, rfl, .ty _, tyT ka, kit_ty (by decide +kernel), _, rfl, _, _, .type "tuple", .type "tuple", true, rfl, .ty _, tyT kb, kit_ty (by decide +kernel), rfl, _, rfl, ?_⟩
    refine iteN rfl ?_
    refine ⟨_, rfl, a, xs, rfl, .inr (ka), _, rfl, b, ys, rfl, .inr (kb), rfl, _, rfl, iteC (decide_eq_true (by rw [h3])) ?_⟩
    refine ⟨_, rfl, _, rfl, a, b, xs, ys, rfl, .inr ⟨ka, kb, fun D hD => ?_⟩⟩
    have hD0 : H D = none := g1.free hD
    refine lc_it (walk_zipT (K := K) (a := a) (b := b) h3) (InvS H D) ⟨upd_same, same_over g1 hD0 _⟩ (fun i H' _ ⟨_, g⟩ => ⟨seqT g h1, seqT g h2⟩) ?_ ?_
    · rintro i v H' H'' hi ⟨hd, g⟩ ⟨T, x, y, rfl, hT, rfl, ex, ey⟩
      have gT : Same H' (upd H' T (.tup [x, y])) := same_new hT _
      have hi1 : i < 1001 := by omega
      refine ⟨T, [x, y], rfl, SqT.of upd_same, rfl, x, [y], rfl, y, [], rfl, rfl, ?_⟩
      refine ⟨rfl, kept ?_⟩
      refine ⟨_, rfl, _, rfl, x, y, rfl, (h5 i x y ex ey).mono (g.trans gT), fun H2 g2 => ?_⟩
      refine ⟨_, g2 _ _ (gT _ _ hd), by rw [List.length_replicate]; exact small1000 (by omega), by rw [upd_same, List.replicate_succ'], same_over ((g.trans gT).trans g2) hD0 _⟩
    · rintro H' ⟨hd, g⟩
      exact ⟨D, List.replicate xs.length true, rfl, SqL.of (by rw [hd, List.map_replicate]), by rw [all_true]; exact q _ g⟩
  · refine ⟨_, t, _, .type "list", [.type "list", .type "tuple"], true, rfl, upd_same, .cons (.ty _) (.cons (.ty _) .nil), .base (.lst (g1 _ _ h2)), is_seqL, _, rfl, ?_⟩
    refine iteT ?_
    have ka := g1 _ _ h1
    have kb := g1 _ _ h2
    refine ⟨_, rfl, _, _, .type "list", .type "list", true, rfl, .ty _, .base (.lst ka), kit_ty (by decide +kernel), _, rfl, _, _, .type "list", .type "list", true, rfl, .ty _, .base (.lst kb), kit_ty (by decide +kernel), rfl, _, rfl, ?_⟩
    refine iteN rfl ?_
    refine ⟨_, rfl, _, _, .type "list", .type "tuple", false, rfl, .ty _, .base (.lst ka), kit_ty (by decide +kernel), _, rfl, _, _, .type "list", .type "tuple", false, rfl, .ty _, .base (.lst kb), kit_ty (by decide +kernel), rfl, _, rfl, ?_⟩
    refine iteN rfl ?_
    refine ⟨_, rfl, a, xs, rfl, .inl (SqL.of ka), _, rfl, b, ys, rfl, .inl (SqL.of kb), rfl, _, rfl, iteC (decide_eq_true (by rw [h3])) ?_⟩
    refine ⟨_, rfl, _, rfl, a, b, xs, ys, rfl, .inl ⟨SqL.of ka, SqL.of kb, fun D hD => ?_⟩⟩
    have hD0 : H D = none := g1.free hD
    refine lc_it (walk_zip (K := K) (a := a) (b := b) (n := xs.length) (by omega)) (InvS H D) ⟨upd_same, same_over g1 hD0 _⟩ (fun i H' _ ⟨_, g⟩ => ⟨SqL.of (g _ _ h1), SqL.of (g _ _ h2)⟩) ?_ ?_
    · rintro i v H' H'' hi ⟨hd, g⟩ ⟨T, x, y, rfl, hT, rfl, ex, ey⟩
      have gT : Same H' (upd H' T (.tup [x, y])) := same_new hT _
      have hi1 : i < 1001 := by omega
      refine ⟨T, [x, y], rfl, SqT.of upd_same, rfl, x, [y], rfl, y, [], rfl, rfl, ?_⟩
      refine ⟨rfl, kept ?_⟩
      refine ⟨_, rfl, _, rfl, x, y, rfl, (h5 i x y ex ey).mono (g.trans gT), fun H2 g2 => ?_⟩
      refine ⟨_, g2 _ _ (gT _ _ hd), by rw [List.length_replicate]; exact small1000 (by omega), by rw [upd_same, List.replicate_succ'], same_over ((g.trans gT).trans g2) hD0 _⟩
    · rintro H' ⟨hd, g⟩
      exact ⟨D, List.replicate xs.length true, rfl, SqL.of (by rw [hd, List.map_replicate]), by rw [all_true]; exact q _ g⟩
abbrev sDraw : Stmt := topS 100
/-! the spring of numbers: a list of four, its first one a list of ints -/
def Spr (H : Hp) (st q : Addr) (b : Int) : Prop := ∃ (ns : List Int) (a c : Int), H st = some (.lst [.ref q, .int a, .int b, .int c]) ∧ H q = some (.lst (ns.map V.int)) ∧ 0 ≤ a ∧ 0 ≤ c ∧ c < 2147483647 ∧ ns.length ≤ 63
/-! all else is as it was -/
def SX (st q : Addr) (H H' : Hp) : Prop := ∀ (x : Addr) (o : HO), x ≠ st → x ≠ q → H x = some o → H' x = some o
theorem SX.refl {st q : Addr} {H : Hp} : SX st q H H := fun _ _ _ _ h => h
theorem SX.trans {st q : Addr} {H H1 H2 : Hp} (g : SX st q H H1) (g' : SX st q H1 H2) : SX st q H H2 := fun x o h1 h2 h => g' x o h1 h2 (g x o h1 h2 h)
theorem SX.of {st q : Addr} {H H' : Hp} (g : Same H H') : SX st q H H' := fun x o _ _ h => g x o h
theorem SX.st {st q : Addr} {H : Hp} {o : HO} : SX st q H (upd H st o) := fun x u h1 _ h => by rw [upd_ne h1]; exact h
theorem SX.q {st q : Addr} {H : Hp} {o : HO} : SX st q H (upd H q o) := fun x u _ h2 h => by rw [upd_ne h2]; exact h
theorem Spr.ne {H : Hp} {st q : Addr} {a b c : Int} {ns : List Int} (h1 : H st = some (.lst [.ref q, .int a, .int b, .int c])) (h2 : H q = some (.lst (ns.map V.int))) : q ≠ st := fun e => by
  rw [e, h1] at h2
  cases ns with
  | nil => cases h2
  | cons n r => cases h2
def spDraw : Sp := fun vs H Q _ => ∃ (st q : Addr) (b m : Int), vs = [.ref st, .int m] ∧ Spr H st q b ∧ 0 ≤ b ∧ b ≤ 1000 ∧ 0 < m ∧ m < 1073741824 ∧
  ∀ (r : Int) (H' : Hp), 0 ≤ r → r < m → Spr H' st q (b + 1) → SX st q H H' → Q (.int r) H'
theorem scD : FnScope ["_law_stream", "_law_many", "_law_digit", "_law_mixed_here"] ["_law_stream", "_law_many"] (defScope sDraw) := ⟨rfl, rfl, rfl, by decide +kernel, rfl, by decide +kernel, by decide +kernel⟩
theorem dp_ints {H : Hp} : ∀ ns : List Int, DpAll K H (ns.map V.int) (ns.map PyData.int)
  | [] => .nil
  | n :: r => .cons (.int n) (dp_ints r)
theorem first_ix {n : Nat} (h : 0 < n) : seqIndex? 0 n = some 0 := (ixN_seq (n := n) (i := 0) (j := 0) (by unfold ixN; rw [if_pos (by decide), if_pos (by omega)]; rfl)).1
theorem ok_draw (F : Fun K "_law_draw" "_law_draw" sDraw f fd) (B : Bt mg) : FnOk P w K mg base CX0 1 f fd ["_law_stream", "_law_many"] spDraw := by
  refine F.ok scD (fun vs H Q E h => ?_) (fun cdv A outer s H vs Q E hr h => ?_)
  · obtain ⟨st, q, b, m, rfl, _⟩ := h
    rfl
  obtain ⟨st, q, b, m, rfl, ⟨ns, a, c, h1, h2, ha, hc, hc2, hns⟩, hb0, hb1, hm0, hm1, k⟩ := h
  refine ⟨_, pss_cons (ps_asg (pe_op op_add (pe_ix ix_list (pv 0) pe_int (fun _ _ => rfl)) pe_int) (pg_sub (pv 0) pe_int set_list))
    (C8.pss_cut (ps_if (PW.pt (pw_and (pt_cmpR op_eq (pe_ix ix_list (pv 0) pe_int (fun _ _ => rfl)) pe_int (nomark _)) (pw_and1 (pt_cmpR (op_neD hr.units) (pe_ix ix_list (pv 0) pe_int (fun _ _ => rfl)) (pe_lst pa_nil) (nomark _))))) (pss_cons (ps_asg (pe_bm PySem.F.plainAttrs_list PySem.F.slot_list_pop PySem.F.type_list_pop mt_popAt (pe_ix ix_list (pv 0) pe_int (fun _ _ => rfl)) (pa_cons pe_int pa_nil)) (pg_sub (pv 0) pe_int set_list)) (pss_one (ps_if (pt_cmpR op_lt (pe_ix ix_list (pv 0) pe_int (fun _ _ => rfl)) (pe_op op_pow pe_int pe_int) (nomark _)) (pss_cons (ps_asg (pe_op op_mod (pe_callTy call_int1 (by rfl) B.int (by decide +kernel) (pa_cons (pe_op op_add (pe_op op_add (pe_op op_mul (pe_ix ix_list (pv 0) pe_int (fun _ _ => rfl)) pe_int) (pe_ix ix_list (pv 0) pe_int (fun _ _ => rfl))) pe_int) pa_nil)) pe_int) (pg_sub (pv 0) pe_int set_list)) (pss_one (ps_asg pe_int (pg_sub (pv 0) pe_int set_list)))) pss_nil))) pss_nil)
    (pss_cons (ps_if (pt_cmpR op_gt (pe_ix ix_list (pv 0) pe_int (fun _ _ => rfl)) pe_int (nomark _)) (pss_cons (ps_set (i := 2) scD.nd rfl (Or.inl rfl) (pe_op op_mod (pe_callTy call_int1 (by rfl) B.int (by decide +kernel) (pa_cons (pe_ix ix_list (pv 0) pe_int (fun _ _ => rfl)) pa_nil)) (pv 1))) (pss_cons (ps_asg (pe_op op_fdiv (pe_ix ix_list (pv 0) pe_int (fun _ _ => rfl)) (pv 1)) (pg_sub (pv 0) pe_int set_list)) (pss_one (ps_ret (pv 2))))) pss_nil)
    (pss_cons (ps_set (i := 3) scD.nd rfl (Or.inl rfl) (pe_op op_mod (pe_op op_pow (pe_op op_add (pe_op op_add (pe_ix ix_list (pv 0) pe_int (fun _ _ => rfl)) (pe_op op_mul pe_int (pe_ix ix_list (pv 0) pe_int (fun _ _ => rfl)))) pe_int) pe_int) pe_int))
    (pss_one (ps_ret (pe_op op_mod (pe_op op_mod (pe_op op_pow (pe_op op_add (pe_op op_add (pe_op op_mul (pv 3) pe_int) (pe_op op_mul (pe_op op_mul pe_int (pe_ix ix_list (pv 0) pe_int (fun _ _ => rfl))) (pe_ix ix_list (pv 0) pe_int (fun _ _ => rfl)))) pe_int) pe_int) pe_int) (pv 1))))))), ?_⟩
  have nqs : q ≠ st := Spr.ne h1 h2
  refine ⟨_, rfl, st, _, _, _, rfl, rfl, SqL.of h1, rfl, _, _, rfl, rfl, _, rfl, st, _, _, _, rfl, rfl, h1, rfl, ?_⟩
  have e1 : upd H st (.lst [.ref q, .int a, .int (b + 1), .int c]) st = some (.lst [.ref q, .int a, .int (b + 1), .int c]) := upd_same
  have e2 : upd H st (.lst [.ref q, .int a, .int (b + 1), .int c]) q = some (.lst (ns.map V.int)) := by rw [upd_ne nqs]; exact h2
  have gx : SX st q H (upd H st (.lst [.ref q, .int a, .int (b + 1), .int c])) := SX.st
  refine ⟨fun σ' H' => σ' = [some (.ref st), some (.int m), none, none] ∧ Spr H' st q (b + 1) ∧ SX st q H H', ?_, ?_⟩
  · refine ⟨_, rfl, st, _, _, _, rfl, rfl, SqL.of e1, rfl, rfl, _, rfl, ?_⟩
    refine ite2 (fun ca => ?_) (fun _ => ⟨rfl, ⟨ns, a, c, e1, e2, ha, hc, hc2, hns⟩, gx⟩)
    have ca0 : a = 0 := by
      have z := of_decide_eq_true ca
      cases z
      rfl
    refine ⟨_, rfl, st, _, _, _, rfl, rfl, SqL.of e1, rfl, Nat.zero_le _, fun l hl => ?_⟩
    have g2 := same_new hl (.lst [])
    have f1 := g2 _ _ e1
    have f2 := g2 _ _ e2
    have gx2 := gx.trans (.of g2)
    cases ns with
    | nil =>
      refine ⟨.list [], .list [], .lst (SqL.of f2) .nil, .lst (SqL.of upd_same) .nil, by decide +kernel, by decide +kernel, _, rfl, ?_⟩
      refine iteN (by decide +kernel) ⟨rfl, ⟨[], a, c, f1, f2, ha, hc, hc2, hns⟩, gx2⟩
    | cons n r =>
      refine ⟨.list ((n :: r).map PyData.int), .list [], .lst (SqL.of f2) (dp_ints _), .lst (SqL.of upd_same) .nil, PySem.W.ke_shaped_ints _, by decide +kernel, _, rfl, ?_⟩
      refine iteC rfl ?_
      refine ⟨_, rfl, st, _, _, _, rfl, rfl, SqL.of f1, rfl, .inl ⟨rfl, _, SqL.of f2⟩, q, _, 0, 0, _, rfl, rfl, f2, by decide, by decide, first_ix (by simp), rfl, ?_⟩
      have p1 := (upd_ne (o := .lst (r.map V.int)) nqs.symm).trans f1
      have gx3 := gx2.trans (SX.q (o := .lst (r.map V.int)))
      refine ⟨_, rfl, st, _, _, _, rfl, rfl, p1, rfl, ?_⟩
      have gx4 := gx3.trans (SX.st (o := .lst [.ref q, .int n, .int (b + 1), .int c]))
      refine ⟨_, rfl, st, _, _, _, rfl, rfl, SqL.of upd_same, rfl, _, _, rfl, rfl, ⟨by decide, by decide, by decide⟩, _, _, rfl, rfl, _, rfl, ?_⟩
      refine ite2 (fun cn => ?_) (fun cn => ?_)
      · refine ⟨_, rfl, st, _, _, _, rfl, rfl, SqL.of upd_same, rfl, _, _, rfl, rfl, .inr ⟨by decide, by decide⟩, _, rfl, st, _, _, _, rfl, rfl, SqL.of upd_same, rfl, _, _, rfl, rfl, _, _, rfl, rfl, .inl ⟨_, rfl, ?_⟩⟩
        refine ⟨_, _, rfl, rfl, (by show (0 : Int) < 2147483647; decide), _, rfl, st, _, _, _, rfl, rfl, upd_same, rfl, _, rfl, st, _, _, _, rfl, rfl, upd_same, rfl, ?_⟩
        refine ⟨rfl, ⟨r, 0, (c * 31 + n + 7) % 2147483647, upd_same, ?_, by decide, Int.emod_nonneg _ (by decide), Int.emod_lt_of_pos _ (by decide), by simp at hns; omega⟩, (gx4.trans SX.st).trans SX.st⟩
        rw [upd_ne nqs, upd_ne nqs, upd_ne nqs, upd_same]
        rfl
      · have cn1 : ¬ n < (10 : Int) ^ 18 := of_decide_eq_false (Bool.eq_false_iff.mpr cn)
        refine ⟨rfl, ⟨r, n, c, upd_same, ?_, by omega, hc, hc2, by simp at hns; omega⟩, gx4⟩
        rw [upd_ne nqs, upd_same]
        rfl
  · rintro σ' H' ⟨rfl, ⟨ns', a', c', d1, d2, ha', hc', hc2', hns'⟩, g'⟩
    refine ⟨_, rfl, st, _, _, _, rfl, rfl, SqL.of d1, rfl, _, _, rfl, rfl, _, rfl, ?_⟩
    refine ite2 (fun cp => ?_) (fun cp => ?_)
    · have cp1 : a' > 0 := of_decide_eq_true cp
      refine ⟨_, rfl, st, _, _, _, rfl, rfl, SqL.of d1, rfl, .inl ⟨_, rfl, ?_⟩⟩
      refine ⟨_, rfl, _, _, rfl, rfl, hm0, _, rfl, st, _, _, _, rfl, rfl, SqL.of d1, rfl, _, rfl, _, _, rfl, rfl, ⟨hm0, hm1⟩, _, rfl, st, _, _, _, rfl, rfl, d1, rfl, _, rfl, ?_⟩
      exact k _ _ (Int.emod_nonneg _ (by omega)) (Int.emod_lt_of_pos _ hm0) ⟨ns', a' / m, c', upd_same, by rw [upd_ne nqs]; exact d2, Int.ediv_nonneg ha' (by omega), hc', hc2', hns'⟩ (g'.trans SX.st)
    · refine ⟨_, rfl, st, _, _, _, rfl, rfl, SqL.of d1, rfl, _, rfl, st, _, _, _, rfl, rfl, SqL.of d1, rfl, _, _, rfl, rfl, .inl ⟨by decide, by decide⟩, _, _, rfl, rfl, _, _, rfl, rfl, _, _, rfl, rfl, ⟨by decide, by decide, ?_⟩, _, _, rfl, rfl, (by show (0 : Int) < 2147483629; decide), ?_⟩
      · show (c' + 104729 * (b + 1) + 17).natAbs < 18446744073709551616
        omega
      have x0 : 0 ≤ (c' + 104729 * (b + 1) + 17) ^ (5 : Int).toNat % 2147483629 := Int.emod_nonneg _ (by decide)
      have x1 : (c' + 104729 * (b + 1) + 17) ^ (5 : Int).toNat % 2147483629 < 2147483629 := Int.emod_lt_of_pos _ (by decide)
      refine ⟨_, rfl, _, _, rfl, rfl, .inr ⟨by decide, by decide⟩, _, rfl, st, _, _, _, rfl, rfl, SqL.of d1, rfl, _, _, rfl, rfl, .inl ⟨by decide, by decide⟩, _, rfl, st, _, _, _, rfl, rfl, SqL.of d1, rfl, _, _, rfl, rfl, .inr ⟨?_, ?_⟩, _, _, rfl, rfl, _, _, rfl, rfl, _, _, rfl, rfl, ⟨by decide, by decide, ?_⟩, _, _, rfl, rfl, (by show (0 : Int) < 1000000007; decide), _, rfl, _, _, rfl, rfl, hm0, ?_⟩
      · show -(18446744073709551616 : Int) < b + 1
        omega
      · show b + 1 < (18446744073709551616 : Int)
        omega
      · show ((c' + 104729 * (b + 1) + 17) ^ (5 : Int).toNat % 2147483629 * 48271 + 40503 * (b + 1) * (b + 1) + 13).natAbs < 18446744073709551616
        have y0 : 0 ≤ 40503 * (b + 1) * (b + 1) := Int.mul_nonneg (by omega) (by omega)
        have y1 : 40503 * (b + 1) * (b + 1) ≤ 40543503 * 1001 := Int.mul_le_mul (by omega) (by omega) (by omega) (by omega)
        revert x0 x1 y0 y1
        generalize (c' + 104729 * (b + 1) + 17) ^ (5 : Int).toNat % 2147483629 = x
        generalize 40503 * (b + 1) * (b + 1) = y
        intro x0 x1 y0 y1
        omega
      · exact k _ _ (Int.emod_nonneg _ (by omega)) (Int.emod_lt_of_pos _ hm0) ⟨ns', a', c', d1, d2, ha', hc', hc2', hns'⟩ g'
theorem Spr.same {H H' : Hp} {st q : Addr} {b : Int} (g : Same H H') : Spr H st q b → Spr H' st q b
  | ⟨ns, a, c, h1, h2, r⟩ => ⟨ns, a, c, g _ _ h1, g _ _ h2, r⟩
theorem TK.sx {H H' : Hp} {st q : Addr} {b : Int} (s : Spr H st q b) (g : SX st q H H') : TK K H H' := by
  obtain ⟨ns, a, c, h1, h2, _⟩ := s
  exact .but fun t o no h => g _ _ (fun e => by rw [e, h1] at h; exact no _ (Option.some.inj h).symm) (fun e => by rw [e, h2] at h; exact no _ (Option.some.inj h).symm) h
abbrev sStart : Stmt := topS 101
abbrev sPick : Stmt := topS 102
def spStart (K : PySem.W.Frag) : Sp := fun vs H Q _ => ∃ (a : Addr) (ns : List Int), vs = [.ref a] ∧ SqL K H a (ns.map V.int) ∧ ns.length ≤ 63 ∧
  ∀ (st q : Addr) (H' : Hp), Same H H' → Spr H' st q 0 → Q (.ref st) H'
theorem scT : FnScope ["_law_script"] ["_law_script"] (defScope sStart) := ⟨rfl, rfl, rfl, by decide +kernel, rfl, by decide +kernel, by decide +kernel⟩
theorem ok_start (F : Fun K "_law_start" "_law_start" sStart f fd) (B : Bt mg) : FnOk P w K mg base CX0 1 f fd ["_law_script"] (spStart K) := by
  refine F.ok scT (fun vs H Q E h => ?_) (fun cdv A outer s H vs Q E hr h => ?_)
  · obtain ⟨a, ns, rfl, _⟩ := h
    rfl
  obtain ⟨a, ns, rfl, hS, hn, k⟩ := h
  refine ⟨_, pss_one (ps_ret (pe_lst (pa_cons (pe_callTy call_list_of (by rfl) B.lst (by decide +kernel) (pa_cons (pv 0) pa_nil)) (pa_cons pe_int (pa_cons pe_int (pa_cons pe_int pa_nil)))))), ?_⟩
  refine ⟨_, rfl, a, _, rfl, .inl hS, fun l hl => ?_⟩
  have g1 := same_new hl (.lst (ns.map V.int))
  refine ⟨(by show 4 ≤ sizeLine; decide), fun t ht => ?_⟩
  have g2 := same_new ht (.lst [.ref l, .int 0, .int 0, .int 0])
  exact k t l _ (g1.trans g2) ⟨ns, 0, 0, upd_same, g2 _ _ upd_same, by decide, by decide, by decide, hn⟩
def spPick (K : PySem.W.Frag) : Sp := fun vs H Q _ => ∃ (st q p : Addr) (b : Int) (xs : List V), vs = [.ref st, .ref p] ∧ Spr H st q b ∧ 0 ≤ b ∧ b ≤ 1000 ∧ H p = some (.lst xs) ∧ p ≠ st ∧ p ≠ q ∧ 0 < xs.length ∧ xs.length ≤ 1000 ∧
  ∀ (v : V) (H' : Hp), v ∈ xs → Spr H' st q (b + 1) → SX st q H H' → Q v H'
theorem scP : FnScope ["_law_stream", "_law_some"] ["_law_stream", "_law_some"] (defScope sPick) := ⟨rfl, rfl, rfl, by decide +kernel, rfl, by decide +kernel, by decide +kernel⟩
theorem at_int {xs : List V} {r : Int} (h0 : 0 ≤ r) (h1 : r < (xs.length : Int)) : ∃ v, v ∈ xs ∧ atI xs r = some v := by
  have hk : r.toNat < xs.length := by omega
  refine ⟨xs[r.toNat], List.getElem_mem hk, ?_⟩
  have q := atI_nat (xs := xs) (j := r.toNat) (v := xs[r.toNat]) (List.getElem?_eq_getElem hk)
  rwa [show ((r.toNat : Nat) : Int) = r by omega] at q
theorem ok_pick (F : Fun K "_law_pick" "_law_pick" sPick f fd) {g : Addr} {gd : FuncData} (G : FnOk P w K mg base CX0 1 g gd ["_law_stream", "_law_many"] spDraw) (bG : Binds K gd ["_law_stream", "_law_many"] []) (kG : PySem.W.keepIn K (.ref g) = true) (mG : mg "_law_draw" = some (.ref g)) (B : Bt mg) :
    FnOk P w K mg base CX0 2 f fd ["_law_stream", "_law_some"] (spPick K) := by
  refine F.ok scP (fun vs H Q E h => ?_) (fun cdv A outer s H vs Q E hr h => ?_)
  · obtain ⟨st, q, p, b, xs, rfl, _⟩ := h
    rfl
  obtain ⟨st, q, p, b, xs, rfl, hs, hb0, hb1, hp, n1, n2, hx0, hx1, k⟩ := h
  refine ⟨_, pss_one (ps_ret (pe_ix ix_list (pv 1) (pe_call G hr rfl mG kG bG .nil pass0 (pa_cons (pv 0) (pa_cons (pe_callB call_len_seq (by rfl) B.len PySem.boot_len (pa_cons (pv 1) pa_nil)) pa_nil))) (fun _ _ => rfl))), ?_⟩
  refine ⟨_, rfl, _, rfl, _, rfl, p, xs, rfl, .inl (SqL.of hp), st, q, b, _, rfl, hs, hb0, hb1, by omega, by omega, fun r H' r0 r1 hs' gx => ?_⟩
  obtain ⟨v, hv, ev⟩ := at_int r0 r1
  exact ⟨p, xs, r, v, rfl, rfl, SqL.of (gx _ _ n1 n2 hp), ev, k v H' hv hs' gx⟩
theorem all_nil {p : V → Prop} : ∀ x ∈ ([] : List V), p x := fun x h => by cases h
theorem all_cons {p : V → Prop} {a : V} {l : List V} (h : p a) (t : ∀ x ∈ l, p x) : ∀ x ∈ a :: l, p x := fun x q => by
  cases q with
  | head => exact h
  | tail _ q => exact t x q
end
end Lw
/-! operators of the program's own classes: x op y, x op= y, op x by the class's own defs; order of data -/
namespace OwB
open PySem PySem.Spec PyProof.Rows L2
section
variable {X : Cx} {CX : CXT} {k : Nat} {g C : Addr} {gd : FuncData} {ps : List Str} {sp : Sp} {E : XK}
theorem inst_of {pins : List (Addr × Obj)} {σ : L2.St} {H : Hp} {s : Shared} {a dx : Addr} {fs : List (Str × V)} (I : Inv X pins σ H s) (h : H a = some (.ins C dx fs)) : ∃ od, PySem.W.InstAt s.heap a (PySem.W.instObj C dx) C (some od) := by
  obtain ⟨mA, O, _⟩ := ins_get I.hok h
  obtain ⟨od, J, _⟩ := O.look
  exact ⟨od, J⟩
theorem back_of {pins : List (Addr × Obj)} {σ : L2.St} {Q : VK} {v : Value} {s' : Shared} (h : EP X pins σ Q v s') : PySem.W.CmpBack (EP X pins σ Q) v s' := by
  obtain ⟨z, H', I', rz, qz⟩ := h
  exact SlX.cmpback rz ⟨z, H', I', rz, qz⟩
/-- the def at g stands for the class at C under the name x -/
structure OpD (K : PySem.W.Frag) (C g : Addr) (x : Str) : Prop where
  at_ : PySem.W.findIn K (.ref C) x = some (some (.ref g))
  fn : PySem.W.isFn K (.ref g) = true
/-- x op y, both instances of the class at C -/
def rOwnI (C : Addr) (sp : Sp) (E : XK) : R2 := fun x y H Q => ∃ a b dx dy fs gs, x = .ref a ∧ y = .ref b ∧ H a = some (.ins C dx fs) ∧ H b = some (.ins C dy gs) ∧ sp [x, y] H Q E
theorem op_ownB {op : Operator} (hc : PySem.W.selfFirst X.K C = true) (D : OpD X.K C g (PySem.dunder op.info.2)) (F : FnOk X.prog X.w X.K X.mg X.base CX k g gd ps sp) (hr : Room k X.A) (hb : Binds X.K gd ps []) (hx : Passes CX X E) :
    OpR X (binaryOp op) (rOwnI C sp E) := by
  intro pins s σ H x y v u Q I rx ry h
  obtain ⟨a, b, dx, dy, fs, gs, rfl, rfl, ha, hb', q⟩ := h
  cases (show v = Value.ref a from rx)
  cases (show u = Value.ref b from ry)
  obtain ⟨od, J⟩ := inst_of I ha
  obtain ⟨od', J'⟩ := inst_of I hb'
  obtain ⟨m, hF⟩ := I.fr
  refine PySem.W.binop_K hF I.ok.mod.kin J J'.type hc D.at_ D.fn ?_
  exact wpAny_mono (run_fn (us := [.ref a, .ref b]) (vs := [.ref a, .ref b]) F hr hb .nil hx I (.cons rfl (.cons rfl .nil)) q) (fun w s' z => back_of z) fun _ _ x => x
theorem op_ownC {op : CmpOp} (hop : ∀ a b, compareOp op a b = richCompare op a b) (D : OpD X.K C g (cmpInfo op).2.1) (F : FnOk X.prog X.w X.K X.mg X.base CX k g gd ps sp) (hr : Room k X.A) (hb : Binds X.K gd ps []) (hx : Passes CX X E) :
    OpR X (compareOp op) (rOwnI C sp E) := by
  intro pins s σ H x y v u Q I rx ry h
  obtain ⟨a, b, dx, dy, fs, gs, rfl, rfl, ha, hb', q⟩ := h
  cases (show v = Value.ref a from rx)
  cases (show u = Value.ref b from ry)
  obtain ⟨od, J⟩ := inst_of I ha
  obtain ⟨od', J'⟩ := inst_of I hb'
  obtain ⟨m, hF⟩ := I.fr
  rw [hop]
  refine PySem.W.cmp_K (op := op) (tb := .ref C) hr.units0 hF I.ok.mod.kin J J'.type ?_ D.at_ D.fn ?_
  · unfold PySem.W.notFirst
    rw [beq_self_eq_true, Bool.true_or]
  exact wpAny_mono (run_fn (us := [.ref a, .ref b]) (vs := [.ref a, .ref b]) F hr hb .nil hx I (.cons rfl (.cons rfl .nil)) q) (fun w s' z => back_of z) fun _ _ x => x
/-- x op= y, x an instance of the class at C -/
def rOwnA (C : Addr) (sp : Sp) (E : XK) : R2 := fun x y H Q => ∃ a dx fs, x = .ref a ∧ H a = some (.ins C dx fs) ∧ sp [x, y] H Q E
theorem op_ownA {op : Operator} (hc : PySem.W.selfFirst X.K C = true) (D : OpD X.K C g (PySem.dunderI op.info.2)) (F : FnOk X.prog X.w X.K X.mg X.base CX k g gd ps sp) (hr : Room k X.A) (hb : Binds X.K gd ps []) (hx : Passes CX X E) :
    OpR X (inplaceOp op) (rOwnA C sp E) := by
  intro pins s σ H x y v u Q I rx ry h
  obtain ⟨a, dx, fs, rfl, ha, q⟩ := h
  cases (show v = Value.ref a from rx)
  obtain ⟨od, J⟩ := inst_of I ha
  obtain ⟨m, hF⟩ := I.fr
  refine PySem.W.ksp_inplace hF I.ok.mod.kin J hc D.at_ D.fn ?_
  exact wpAny_mono (run_fn (us := [.ref a, u]) (vs := [.ref a, y]) F hr hb .nil hx I (.cons rfl (.cons ry .nil)) q) (fun w s' z => back_of z) fun _ _ x => x
/-- op x -/
def rOwnU (C : Addr) (sp : Sp) (E : XK) : V → Hp → VK → Prop := fun x H Q => ∃ a dx fs, x = .ref a ∧ H a = some (.ins C dx fs) ∧ sp [x] H Q E
theorem un_own_neg (D : OpD X.K C g "__neg__") (F : FnOk X.prog X.w X.K X.mg X.base CX k g gd ps sp) (hr : Room k X.A) (hb : Binds X.K gd ps []) (hx : Passes CX X E) : UnR X (unaryOp .USub) (rOwnU C sp E) := by
  intro pins s σ H x v Q I rx h
  obtain ⟨a, dx, fs, rfl, ha, q⟩ := h
  cases (show v = Value.ref a from rx)
  obtain ⟨od, J⟩ := inst_of I ha
  obtain ⟨m, hF⟩ := I.fr
  exact PySem.W.ksp_neg hF I.ok.mod.kin J D.at_ D.fn (run_fn (us := [.ref a]) (vs := [.ref a]) F hr hb .nil hx I (.cons rfl .nil) q)
theorem un_own_pos (D : OpD X.K C g "__pos__") (F : FnOk X.prog X.w X.K X.mg X.base CX k g gd ps sp) (hr : Room k X.A) (hb : Binds X.K gd ps []) (hx : Passes CX X E) : UnR X (unaryOp .UAdd) (rOwnU C sp E) := by
  intro pins s σ H x v Q I rx h
  obtain ⟨a, dx, fs, rfl, ha, q⟩ := h
  cases (show v = Value.ref a from rx)
  obtain ⟨od, J⟩ := inst_of I ha
  obtain ⟨m, hF⟩ := I.fr
  exact PySem.W.ksp_pos hF I.ok.mod.kin J D.at_ D.fn (run_fn (us := [.ref a]) (vs := [.ref a]) F hr hb .nil hx I (.cons rfl .nil) q)
theorem un_own_inv (D : OpD X.K C g "__invert__") (F : FnOk X.prog X.w X.K X.mg X.base CX k g gd ps sp) (hr : Room k X.A) (hb : Binds X.K gd ps []) (hx : Passes CX X E) : UnR X (unaryOp .Invert) (rOwnU C sp E) := by
  intro pins s σ H x v Q I rx h
  obtain ⟨a, dx, fs, rfl, ha, q⟩ := h
  cases (show v = Value.ref a from rx)
  obtain ⟨od, J⟩ := inst_of I ha
  obtain ⟨m, hF⟩ := I.fr
  exact PySem.W.ksp_inv hF I.ok.mod.kin J D.at_ D.fn (run_fn (us := [.ref a]) (vs := [.ref a]) F hr hb .nil hx I (.cons rfl .nil) q)
/-- x op i, x an instance, i an int -/
def rOwnN (C : Addr) (sp : Sp) (E : XK) : R2 := fun x y H Q => ∃ a dx fs i, x = .ref a ∧ y = .int i ∧ H a = some (.ins C dx fs) ∧ sp [x, y] H Q E
theorem op_ownN {op : Operator} {fo ro rc : Option Value} (hc : PySem.W.selfFirst X.K C = true) (D : OpD X.K C g (PySem.dunder op.info.2)) (hr' : PySem.W.findIn X.K (.ref C) (PySem.dunderR op.info.2) = some rc) (hp : rc = none ∨ ∃ g : Addr, rc = some (.ref g))
    (h1 : PySem.W.findIn X.K (.type "int") (PySem.dunder op.info.2) = some fo) (h2 : PySem.W.findIn X.K (.type "int") (PySem.dunderR op.info.2) = some ro) (hsub : PySem.W.subIn X.K (.type "int") (.ref C) = some false)
    (F : FnOk X.prog X.w X.K X.mg X.base CX k g gd ps sp) (hr : Room k X.A) (hb : Binds X.K gd ps []) (hx : Passes CX X E) : OpR X (binaryOp op) (rOwnN C sp E) := by
  intro pins s σ H x y v u Q I rx ry h
  obtain ⟨a, dx, fs, i, rfl, rfl, ha, q⟩ := h
  cases (show v = Value.ref a from rx)
  obtain ⟨t, rfl⟩ := (show ∃ t, u = Value.int i t from ry)
  obtain ⟨od, J⟩ := inst_of I ha
  obtain ⟨m, hF⟩ := I.fr
  refine PySem.W.ksp_binT (b := .int i t) hF I.ok.mod.kin J rfl hc D.at_ D.fn hr' hp h1 h2 hsub ?_
  exact wpAny_mono (run_fn (us := [.ref a, .int i t]) (vs := [.ref a, .int i]) F hr hb .nil hx I (.cons rfl (.cons ⟨t, rfl⟩ .nil)) q) (fun w s' z => back_of z) fun _ _ x => x
end
/-! ### the order of data -/
section
variable {X : Cx}
def rCmpD (K : PySem.W.Frag) (p : PyData → PyData → Bool) : R2 := fun x y H Q => ∃ d e, Dp K H x d ∧ Dp K H y e ∧ PySem.W.alike d e = true ∧ d ≠ .none ∧ min d.depth e.depth ≤ 32 ∧ Q (.bl (p d e)) H
theorem op_ltD (hu : X.A.units + 64 < cLine) : OpR X (compareOp .Lt) (rCmpD X.K fun d e => PySem.W.dataLt d e) := by
  intro pins s σ H x y v u Q I rx ry ⟨d, e, hd, he, ha, hn, hl, q⟩
  obtain ⟨as, r1⟩ := Dp.reads I d x v hd rx
  obtain ⟨bs, r2⟩ := Dp.reads I e y u he ry
  exact PySem.W.lt_data r1 r2 ha hn (by omega) ⟨.bl _, H, I, rfl, q⟩
theorem op_gtD (hu : X.A.units + 64 < cLine) : OpR X (compareOp .Gt) (rCmpD X.K fun d e => PySem.W.dataLt e d) := by
  intro pins s σ H x y v u Q I rx ry ⟨d, e, hd, he, ha, hn, hl, q⟩
  obtain ⟨as, r1⟩ := Dp.reads I d x v hd rx
  obtain ⟨bs, r2⟩ := Dp.reads I e y u he ry
  exact PySem.W.gt_data r1 r2 ha hn (by omega) ⟨.bl _, H, I, rfl, q⟩
theorem op_leD (hu : X.A.units + 64 < cLine) : OpR X (compareOp .LtE) (rCmpD X.K fun d e => !PySem.W.dataLt e d) := by
  intro pins s σ H x y v u Q I rx ry ⟨d, e, hd, he, ha, hn, hl, q⟩
  obtain ⟨as, r1⟩ := Dp.reads I d x v hd rx
  obtain ⟨bs, r2⟩ := Dp.reads I e y u he ry
  exact PySem.W.le_data r1 r2 ha hn (by omega) ⟨.bl _, H, I, rfl, q⟩
theorem op_geD (hu : X.A.units + 64 < cLine) : OpR X (compareOp .GtE) (rCmpD X.K fun d e => !PySem.W.dataLt d e) := by
  intro pins s σ H x y v u Q I rx ry ⟨d, e, hd, he, ha, hn, hl, q⟩
  obtain ⟨as, r1⟩ := Dp.reads I d x v hd rx
  obtain ⟨bs, r2⟩ := Dp.reads I e y u he ry
  exact PySem.W.ge_data r1 r2 ha hn (by omega) ⟨.bl _, H, I, rfl, q⟩
end
end OwB
/-! sets of texts: set(list of texts), sorted(such a set) -/
namespace TxS
open PySem PySem.Spec PyProof.Rows L2
abbrev SD := PySem.Froz.SD
abbrev sOb (D : SD) : Obj := PySem.Froz.sObj "set" D
/-- what a set's table holds: the texts l; it rises and can be walked -/
structure Pay (P : Program) (w : World) (D : SD) (l : List Str) : Prop where
  tx : PySem.Froz.TxOk P w D l
  ris : Ris D.2.2.place.toList
  led : w.params.followText "set-order" = true ∨ D.2.2.led = true
  nd : l.Nodup
section
variable {P : Program} {w : World} {A : Around} {E : Value → Shared → Prop} {s : Shared} {D : SD} {l : List Str} {k : Str} {a : Addr}
theorem tail_ris {ep : Nat} {es1 : Array (Int × Value)} {t2 : SetTable} {wd : Bool} (r : Ris t2.place.toList) : Ris (PySem.Froz.tailTx ep es1 t2 wd).2.2.place.toList := by
  unfold PySem.Froz.tailTx
  by_cases c : (!wd && t2.tooFull) = true
  · rw [if_pos c]
    exact relayAll_ris _ _ _
  · rw [if_neg c]
    exact r
theorem tail_led {ep : Nat} {es1 : Array (Int × Value)} {t2 : SetTable} {wd : Bool} (r : t2.led = true) : (PySem.Froz.tailTx ep es1 t2 wd).2.2.led = true := by
  unfold PySem.Froz.tailTx
  by_cases c : (!wd && t2.tooFull) = true
  · rw [if_pos c]
    exact (relayAll_led _ _ _).trans r
  · rw [if_neg c]
    exact r
theorem Pay.add (F : Pay P w D l) (hk : k ∉ l) (u : Tok) : Pay P w (PySem.Froz.addTx (hashStr w k) (.str k u) D) (k :: l) := by
  refine ⟨PySem.Froz.add_ok u F.tx, ?_, ?_, List.nodup_cons.mpr ⟨hk, F.nd⟩⟩
  · have r1 := layNew_ris D.2.2 D.1 (hashStr w k) (.str k u) F.ris
    refine tail_ris ?_
    by_cases c : (layNew D.2.2 D.1 (hashStr w k) (.str k u)).2.1.plain = true
    · rw [if_pos c]
      exact r1
    · rw [if_neg c]
      exact r1
  · refine F.led.imp id fun z => ?_
    have r1 := (layNew_led D.2.2 D.1 (hashStr w k) (.str k u)).trans z
    refine tail_led ?_
    by_cases c : (layNew D.2.2 D.1 (hashStr w k) (.str k u)).2.1.plain = true
    · rw [if_pos c]
      exact r1
    · rw [if_neg c]
      exact r1
theorem add_old {T : String} {u : Tok} {Q : Bool → Shared → Prop} (ho : s.heap.get? a = some (PySem.Froz.sObj T D)) (F : PySem.Froz.TxOk P w D l) (hk : k ∈ l) (hb : l.length < scanBound) (h : Q false s) :
    wpAny (model P w) A (setAddHashed a (.str k u) (hashStr w k)) Q E s := by
  obtain ⟨es, ep, t⟩ := D
  have hd : (PySem.Froz.sObj T (es, ep, t)).data = .set es ep t := rfl
  have hf : t.fits es.size = true := F.fit
  have hel : ElemsOf (PySem.strKind P w) es.toList := F.el
  have hsz : es.size = l.length := F.sz
  have hkey : (PySem.strKind P w).is k (.str k u) = true := PySem.Froz.is_str k u
  unfold setAddHashed setAddHashedIn
  refine wpAny_holding (wpAny_bind (wpAny_setState_of ho hd hf ?_))
  dsimp only
  rw [byScan_of (knd := PySem.strKind P w) rfl (by omega) hel]
  simp only [↓reduceIte]
  unfold setAddByScan
  refine wpAny_bind (wpAny_bind (wpAny_rule (wpAny_bind (wpAny_setScan_of (knd := PySem.strKind P w) (k := k) hkey ho hd hf hel ?_))))
  cases hr : List.findIdx? (fun e => (PySem.strKind P w).is k e.2) es.toList with
  | none =>
    obtain ⟨e, he, q⟩ := (F.mem k).mp hk
    have z := List.findIdx?_eq_none_iff.mp hr e he
    rw [q] at z
    cases z
  | some j =>
    dsimp only
    exact wpAny_pure (wpAny_pure h)
/-- one add: the text is there behind it -/
theorem add_one {u : Tok} {Q : Bool → Shared → Prop} (ho : s.heap.get? a = some (sOb D)) (F : Pay P w D l) (hb : l.length + 1 < scanBound)
    (h : ∀ (b : Bool) (h' : Heap) (D' : SD) (l' : List Str), Heap.SameBut a s.heap h' → h'.get? a = some (sOb D') → Pay P w D' l' → (∀ z, z ∈ l' ↔ z = k ∨ z ∈ l) → l'.length ≤ l.length + 1 → Q b { s with heap := h' }) :
    wpAny (model P w) A (setAddHashed a (.str k u) (hashStr w k)) Q E s := by
  by_cases hk : k ∈ l
  · exact add_old ho F.tx hk (by omega) (h false s.heap D l (Heap.SameBut.refl a s.heap) ho F (fun z => ⟨.inr, fun q => q.elim (fun e => e ▸ hk) id⟩) (Nat.le_succ _))
  · refine PySem.Froz.add_x ho F.tx hk hb (h true _ (PySem.Froz.addTx (hashStr w k) (.str k u) D) (k :: l) (Heap.SameBut.update s.heap a _) (PySem.Froz.get_upd _ ho rfl) (F.add hk u) (fun z => ?_) (Nat.le_refl _))
    rw [List.mem_cons]
/-- the loop of set(..) over texts -/
theorem upd_texts {R : Result → Shared → Prop} {I : Addr} {fp wr : List Addr} {G : Array GenState → Array GenState → Prop} {n : Nat} {Pv : Nat → Value → Prop} {St : Nat → Shared → Prop}
    (W : WalksS P w A.in1 I fp wr G n Pv St) (S : Addr) (hSf : S ∉ fp) (zs : List Str) (hn : n = zs.length) (hb : zs.length + 1 < scanBound) (hval : ∀ i v, Pv i v → ∃ z t, zs[i]? = some z ∧ v = .str z t) :
    ∀ (k i : Nat) (s : Shared), n - i = k → i ≤ n → St i s → (∃ D l, s.heap.get? S = some (sOb D) ∧ Pay P w D l ∧ (∀ z, z ∈ l ↔ z ∈ zs.take i) ∧ l.length ≤ i) →
      (∀ s', Moved (S :: wr) G s s' → (∃ D l, s'.heap.get? S = some (sOb D) ∧ Pay P w D l ∧ (∀ z, z ∈ l ↔ z ∈ zs) ∧ l.length ≤ n) → R (.ok (.ret .none)) s') →
      codeAny (model P w) A (.builtin "set.update.loop" ⟨[.ref S, .ref I], []⟩) R s := by
  have hSw : S ∉ wr := fun h => hSf (W.sub _ h)
  have hsub : ∀ b ∈ wr, b ∈ S :: wr := fun b hb => List.mem_cons_of_mem _ hb
  intro k
  induction k with
  | zero =>
    intro i s hk hi hst ⟨D, l, h1, h2, h3, h4⟩ hR
    obtain rfl : i = n := by omega
    refine codeAny_builtin F.entry_set_update_loop ?_
    rw [Around.under_plainId F.plain_set_update_loop _]
    show wpAny _ A.in1 (pyNext (.ref I) >>= _) _ _ s
    refine wpAny_bind (W.done s _ _ hst fun s' hm => ?_)
    show wpAny _ A.in1 (ret Value.none) _ _ s'
    rw [List.take_of_length_le (by omega)] at h3
    exact wpAny_pure (hR s' (hm.mono hsub) ⟨D, l, hm.heap S _ hSw h1, h2, h3, h4⟩)
  | succ k ih =>
    intro i s hk hi hst ⟨D, l, h1, h2, h3, h4⟩ hR
    have hlt : i < n := by omega
    refine codeAny_builtin F.entry_set_update_loop ?_
    rw [Around.under_plainId F.plain_set_update_loop _]
    show wpAny _ A.in1 (pyNext (.ref I) >>= _) _ _ s
    refine wpAny_bind (W.item i s _ _ hlt hst fun v s' hP hst' hm => ?_)
    obtain ⟨z, t, hz, rfl⟩ := hval i v hP
    have h1' := hm.heap S _ hSw h1
    show wpAny _ A.in1 (holding [Value.str z t] (setAdd S (.str z t)) >>= _) _ _ s'
    refine wpAny_bind (wpAny_holding ?_)
    unfold setAdd
    refine wpAny_holding (wpAny_bind ((PySem.strKind P w).pyHash (k := z) (PySem.Froz.is_str z t) ?_))
    refine add_one (k := z) (s := { s' with toks := s'.toks + 1 }) h1' h2 (by omega) fun b h' D' l' hsb q1 q2 q3 q4 => ?_
    refine wpAny_pure ⟨plainId_quiet F.plain_set_update_loop _, ih (i + 1) _ (by omega) hlt (W.frame _ s' _ _ hst' (Nat.le_succ _) fun b hb o e => ?_) ⟨D', l', q1, q2, fun y => ?_, by omega⟩ fun s'' hm2 hE => ?_⟩
    · rw [hsb.2 b (fun h : b = S => hSf (by rw [← h]; exact hb))]
      exact e
    · rw [q3 y, h3 y, List.take_add_one, hz, List.mem_append]
      show _ ↔ _ ∨ y ∈ [z]
      rw [List.mem_singleton]
      exact Or.comm
    · refine hR s'' (Moved.trans W.gtrans ((hm.mono hsub).then_heap (Nat.le_succ _) fun b o hb e => ?_) hm2) hE
      rw [hsb.2 b (fun h : b = S => hb (by rw [h]; exact List.mem_cons_self))]
      exact e
theorem pay_new {t : SetTable} {ep : Nat} (hf : t.fits 0 = true) (hp : t.place = #[]) (hl : w.params.followText "set-order" = true ∨ t.led = true) : Pay P w (#[], ep, t) [] :=
  ⟨PySem.Froz.TxOk.nil hf, by show Ris t.place.toList; rw [hp]; exact List.Pairwise.nil, hl, List.nodup_nil⟩
abbrev newSet (w : World) : Obj := { cls := .type "set", dict := none, data := .set #[] 0 (.fresh 0 0 (!w.params.followText "set-order")) }
theorem pay_fresh : Pay P w (#[], 0, .fresh 0 0 (!w.params.followText "set-order")) [] := by
  refine pay_new (by rfl) rfl ?_
  show _ ∨ (!w.params.followText "set-order") = true
  cases w.params.followText "set-order"
  · exact .inr rfl
  · exact .inl rfl
set_option maxHeartbeats 3200000 in
/-- set(xs), a list of texts -/
theorem call_set {L : Addr} {items : Array Value} (zs : List Str) {Q : Value → Shared → Prop} (hh : A.handled = none) (hl : s.heap.IsList L items) (hit : StrsAre items.toList zs) (hb : zs.length + 1 < scanBound)
    (h : ∀ (h' : Heap) (tk : Nat) (D : SD) (l : List Str), h'.get? s.heap.objs.size = some (sOb D) → Pay P w D l → (∀ z, z ∈ l ↔ z ∈ zs) → l.length ≤ zs.length → (∀ b o, s.heap.get? b = some o → h'.get? b = some o) → Q (.ref s.heap.objs.size) { s with heap := h', toks := tk }) :
    wpAny (model P w) A (call (.type "set") [.ref L]) Q E s := by
  have hisz : items.size = zs.length := by
    have q := StrsAre.len_eq hit
    rw [Array.length_toList] at q
    exact q
  obtain ⟨c, tl, hmro⟩ := PySem.F.called_set.mro
  have hmade := PySem.F.called_set.made
  have hsub := PySem.F.called_set.sub
  refine wpAny_call (codeAny_of_tree ?_)
  show wpAny _ _ (callAny (.type "set") _) _ _ _
  refine wpAny_pure ⟨Code.quiet_builtin _ (by decide +kernel), codeAny_builtin PySem.F.entry_type_call ?_⟩
  rw [Around.under_plain (weight_type_call_type "set" [.ref L] []) rfl]
  have h1 := PySem.F.called_set.notType
  have h2 := PySem.F.called_set.canCreate
  have hct := PySem.F.typeCall_set_1 (.ref L)
  repeat (any_goals (first | assumption | wp_step))
  refine codeAny_mono (code_set_led1 (.ref L) (E := E) (Q₁ := fun obj s₁ => obj = .ref s.heap.objs.size ∧ s₁ = { s with heap := s.heap.push (newSet w) }) ⟨rfl, rfl⟩) fun r s₁ hr => ?_
  cases r with
  | error e => exact hr
  | ok fl =>
    cases fl with
    | ret obj =>
      obtain ⟨rfl, rfl⟩ := hr
      have hS : (s.heap.push (newSet w)).get? s.heap.objs.size = some (newSet w) := Heap.get?_push_size _ rfl
      have hT : Shared.TypeIs { s with heap := s.heap.push (newSet w) } (.ref s.heap.objs.size) "set" := ⟨_, hS, rfl⟩
      have hli := PySem.F.called_set.init.lookup
      have hbi := PySem.F.called_set.init.bind (.ref s.heap.objs.size)
      repeat (any_goals (first | assumption | wp_step))
      refine codeAny_mono (codeAny_call_builtin (R := wants (fun r s₂ => r = .none ∧ ∃ h' tk, s₂ = { s with heap := h', toks := tk } ∧ (∃ D l, h'.get? s.heap.objs.size = some (sOb D) ∧ Pay P w D l ∧ (∀ z, z ∈ l ↔ z ∈ zs) ∧ l.length ≤ zs.length) ∧
          (∀ b o, s.heap.get? b = some o → h'.get? b = some o)) E) PySem.F.called_set.init.plain PySem.F.entry_set_init (check_set_init_1 hT ?_)) fun r₂ s₂ hr₂ => ?_
      · obtain ⟨⟨ocls, odict, odata, oslots⟩, hol, hcl, nl, hdl⟩ := hl
        simp only at hcl hdl
        subst hcl hdl
        have hol' : (s.heap.push (newSet w)).get? L = some { cls := .type "list", dict := odict, data := .seq items nl, slots := oslots } := Heap.get?_push_of_some _ hol
        have hsls := PySem.F.sub_list_set
        have hslf := PySem.F.sub_list_frozenset
        have hne : (Value.type "list" == Value.type "dict") = false := by decide
        have hl1 : (s.heap.push (newSet w)).IsList L items := ⟨_, hol', rfl, nl, rfl⟩
        unfold Builtin.«set.__init__» noKeywords Builtin.Frozenset.updateFrom
        generalize hPI : pyIter = PI
        wp_walk
        subst hPI
        refine wpAny_pyIter_list hl1 ?_
        refine wpAny_bind (wpAny_runValue ?_)
        have hlS : L < s.heap.objs.size := Heap.lt_size hol
        have hh3 : A.in1.in1.in1.handled = none := by simp [hh]
        have hneI : L ≠ (s.heap.push (newSet w)).objs.size := by
          rw [Heap.size_push]
          exact Nat.ne_of_lt (Nat.lt_succ_of_lt hlS)
        have hSf : s.heap.objs.size ∉ [(s.heap.push (newSet w)).objs.size, L] := by
          rw [Heap.size_push]
          simp only [List.mem_cons, List.mem_singleton, List.not_mem_nil, or_false, not_or]
          exact ⟨Nat.ne_of_lt (Nat.lt_succ_self _), Nat.ne_of_gt hlS⟩
        have hval : ∀ (i : Nat) (v : Value), items[i]? = some v → ∃ z t, zs[i]? = some z ∧ v = .str z t := fun i v hv => by
          have hi : i < zs.length := by rw [← hisz]; exact (Array.getElem?_eq_some_iff.mp hv).1
          obtain ⟨t, e⟩ := SS.strs_at hit i v (by rw [Array.getElem?_toList]; exact hv)
          refine ⟨zs[i], t, List.getElem?_eq_getElem hi, ?_⟩
          rw [e, List.getD_eq_getElem?_getD, List.getElem?_eq_getElem hi] <;> rfl
        refine upd_texts ((Walks.list hh3 _ L hneI items).toS) s.heap.objs.size hSf zs hisz hb hval (items.size - 0) 0 _ (by omega) (Nat.zero_le _) ⟨⟨_, Heap.get?_push_size _ rfl, rfl, rfl⟩, (hl1.push _)⟩ ?hS0 ?hR
        case hS0 =>
          refine ⟨(#[], 0, .fresh 0 0 (!w.params.followText "set-order")), [], ?_, pay_fresh, fun z => by simp, Nat.le_refl _⟩
          exact Heap.get?_push_of_some _ hS
        case hR =>
          intro s' hm hE
          obtain ⟨h', g', d', tk', os'⟩ := s'
          obtain rfl : g' = s.gens := hm.gens
          obtain rfl : d' = s.drawn := hm.drawn
          obtain rfl : os' = s.os := hm.os
          show wpAny _ _ _ _ _ _
          refine wpAny_pure ?_
          show wpAny _ _ (ret Value.none) _ _ _
          rw [hisz] at hE
          refine wpAny_pure ⟨rfl, h', tk', rfl, hE, fun b o e => ?_⟩
          have hb0 : b < s.heap.objs.size := Heap.lt_size e
          have hb2 : b ≠ (s.heap.push (newSet w)).objs.size := by
            rw [Heap.size_push]
            exact Nat.ne_of_lt (Nat.lt_succ_of_lt hb0)
          exact hm.heap b o (by simp only [List.mem_cons, List.mem_singleton, List.not_mem_nil, or_false, not_or]; exact ⟨Nat.ne_of_lt hb0, hb2⟩) (Heap.get?_push_of_some _ (Heap.get?_push_of_some _ e))
      · cases r₂ with
        | error e => exact hr₂
        | ok fl₂ =>
          cases fl₂ with
          | ret r =>
            obtain ⟨rfl, h', tk, rfl, ⟨D, l, q1, q2, q3, q4⟩, hk'⟩ := hr₂
            repeat (any_goals (first | assumption | wp_step))
            exact h _ _ D l q1 q2 q3 q4 hk'
          | _ => exact hr₂.elim
    | _ => exact hr.elim
theorem strs_out {es : List (Int × Value)} (h : ElemsOf (PySem.strKind P w) es) : ∀ v ∈ es.map (·.2), ∃ x t, v = Value.str x t := fun v hv => by
  obtain ⟨e, he, rfl⟩ := List.mem_map.mp hv
  obtain ⟨⟨x, q, _⟩, _⟩ := h e he
  have z : Value.isStrOf x e.2 = true := q
  obtain ⟨t, et⟩ := Value.isStrOf_shape (x := x) (v := e.2) z
  exact ⟨x, t, et⟩
/-- sorted(set of texts) -/
theorem call_sorted {Q : Value → Shared → Prop} (ho : s.heap.get? a = some (sOb D)) (F : Pay P w D l) (hh : A.handled = none) (h64 : l.length < 64)
    (h : ∀ s' p (out : Array Value) (c : Nat) (ys : List Str), (∀ b o, s.heap.get? b = some o → s'.heap.get? b = some o) → s'.gens = s.gens → s'.os = s.os → s.heap.objs.size ≤ p → s'.heap.get? p = some (seqObj "list" out c) → StrsAre out.toList ys → sortedS ys = true →
      (∀ z, z ∈ ys ↔ z ∈ l) → ys.length = l.length → Q (.ref p) s') : wpAny (model P w) A (call (.builtin "sorted") [.ref a]) Q E s := by
  obtain ⟨es, ep, t⟩ := D
  have hsz : es.size = l.length := F.tx.sz
  refine Calls.call_function_entry kind_sorted plain_sorted entry_sorted (args_sorted1 _) ?_
  unfold Builtin.«sorted»
  refine wpAny_bind (m := checkCount "sorted" 1 1 _) (wpAny_pure ?_)
  refine wpAny_bind (collect_set (A := A.in1) hh ⟨_, ho, rfl, rfl⟩ F.tx.fit (by show es.size < scanBound; rw [hsz]; exact Nat.lt_trans h64 (by decide)) F.ris F.led fun s1 vs k1 hz g1 o1 pm => ?_)
  have pm : vs.Perm (es.toList.map (·.2)) := pm
  have hvl : vs.length = l.length := by rw [pm.length_eq, List.length_map, Array.length_toList, hsz]
  have hall : ∀ v ∈ vs, ∃ x t, v = Value.str x t := fun v hv => strs_out F.tx.el v (pm.mem_iff.mp hv)
  have hS : StrsAre vs (vs.map strOf) := strsAre_map vs hall
  refine wpAny_bind (wpAny_newList ?_ (by rw [hvl, sizeLine_eq]; omega))
  have hoL : (s1.heap.push (seqObj "list" vs.toArray 0)).get? s1.heap.objs.size = some (seqObj "list" vs.toArray 0) := Heap.get?_push_size _ rfl
  refine wpAny_bind (wpAny_holding (wpAny_call_entry slot_list_sort ⟨_, hoL, rfl⟩ entry_list_sort (list_sort_treeK strKind_oneLt hoL hS.keysOf (fun v₁ v₂ rest e => keyKind_strs (by rw [← e]; exact hS)) (by rw [hvl]; exact h64) fun st' hp hs => ⟨_, rfl, ?_⟩) (args_list_sort _)))
  obtain ⟨ys, a1, a2, a3⟩ := sorted_out_str hS hp hs
  obtain ⟨c, hc⟩ := sortedHeap_at (vs := vs) (out := (arrOf st').map (·.2)) hoL
  refine wpAny_pure ⟨_, rfl, h _ s1.heap.objs.size _ c ys (fun b u e => ?_) g1 o1 hz hc a1 a3 (fun z => ?_) ?_⟩
  · have q := k1 b u e
    have hlt := Heap.lt_size q
    show (sortedHeap (s1.heap.push (seqObj "list" vs.toArray 0)) s1.heap.objs.size vs _).get? b = some u
    rw [sortedHeap_old (Nat.ne_of_lt hlt) (by rw [size_push']; exact Nat.lt_succ_of_lt hlt)]
    exact Heap.get?_push_of_some _ q
  · have m := F.tx.mem z
    rw [m, a2.mem_iff, List.mem_map]
    constructor
    · rintro ⟨v, hv, rfl⟩
      obtain ⟨x, t', rfl⟩ := hall v hv
      obtain ⟨e, he, q⟩ := List.mem_map.mp (pm.mem_iff.mp hv)
      exact ⟨e, he, by rw [q]; exact PySem.Froz.is_str x t'⟩
    · rintro ⟨e, he, q⟩
      have z1 : Value.isStrOf z e.2 = true := q
      obtain ⟨t', et⟩ := Value.isStrOf_shape (x := z) (v := e.2) z1
      exact ⟨e.2, pm.mem_iff.mpr (List.mem_map.mpr ⟨e, he, rfl⟩), by rw [et] <;> rfl⟩
  · rw [a2.length_eq, List.length_map, hvl]
end
/-- a set of the texts l -/
def SetT (P : Program) (w : World) (a : Addr) (l : List Str) : HO := .ext fun h => ∃ D, h.get? a = some (sOb D) ∧ Pay P w D l
theorem setT_ok {P : Program} {w : World} {H : Hp} {h : Heap} {a : Addr} {l : List Str} {D : SD} (ho : h.get? a = some (sOb D)) (F : Pay P w D l) : ObjOk P w H h a (SetT P w a l) :=
  ⟨⟨D, ho, F⟩, ⟨_, ho⟩, fun h1 h2 ⟨D', p, q⟩ k => ⟨D', k _ p, q⟩⟩
section
variable {X : Cx}
def rSetT (K : PySem.W.Frag) (P : Program) (w : World) : List V → Hp → VK → Prop := fun xs H Q => ∃ (L : Addr) (zs : List Str), xs = [V.ref L] ∧ SqL K H L (zs.map V.str) ∧ zs.length < 64 ∧
  ∀ (a : Addr) (l : List Str), H a = none → l.Nodup → (∀ z, z ∈ l ↔ z ∈ zs) → l.length ≤ zs.length → Q (.ref a) (upd H a (SetT P w a l))
theorem cr_setT (hc : X.calm = true) : CallR X (.type "set") (rSetT X.K X.prog X.w) := by
  intro pins s σ H xs us Q I r h
  obtain ⟨L, zs, rfl, hl, h64, q⟩ := h
  rw [Vals.ref1 r]
  obtain ⟨its, rv, pl, hz⟩ := I.list hl
  have hn : H s.heap.objs.size = none := I.hok.fresh (Nat.le_refl _)
  refine call_set (P := X.prog) (w := X.w) zs (I.ok.hd hc) pl.isList (by simpa using strsAre_of rv) (Nat.lt_trans (Nat.succ_lt_succ h64) (by decide)) fun h' tk D l q1 q2 q3 q4 k => ?_
  exact ⟨.ref s.heap.objs.size, upd H s.heap.objs.size (SetT X.prog X.w s.heap.objs.size l), I.laid (t' := tk) k (Nat.le_refl _) (setT_ok q1 q2), rfl, q _ l hn q2.nd q3 q4⟩
def rSortT (P : Program) (w : World) : List V → Hp → VK → Prop := fun xs H Q => ∃ (a : Addr) (l : List Str), xs = [V.ref a] ∧ H a = some (SetT P w a l) ∧ l.length < 64 ∧
  ∀ (ys : List Str) (p : Addr), sortedS ys = true → (∀ z, z ∈ ys ↔ z ∈ l) → ys.length = l.length → H p = none → Q (.ref p) (upd H p (.lst (ys.map V.str)))
theorem cr_sortT (hc : X.calm = true) : CallR X (.builtin "sorted") (rSortT X.prog X.w) := by
  intro pins s σ H vs us Q I r h
  obtain ⟨a, l, rfl, ha, h64, q⟩ := h
  obtain ⟨D, ho, F⟩ := (I.hok a _ ha).1
  rw [Vals.ref1 r]
  refine call_sorted ho F (I.ok.hd hc) h64 fun s' p out c ys k g o hp hg hi hs hm hl => ?_
  have hlen : (ys.map V.str).length ≤ sizeLine := by rw [List.length_map, hl, sizeLine_eq]; omega
  have hn : H p = none := I.hok.fresh hp
  have J : Inv X pins σ (upd H p (.lst (ys.map V.str))) { s with heap := s'.heap, gens := s'.gens, drawn := s'.drawn, toks := s'.toks } :=
    I.call (ch := []) (Un.laid k hp hn) (I.hok.laid k hp ⟨hlen, out.toList, c, vals_of_strs hi, hg⟩) (by rw [g]; exact I.bare) (fun _ z => nomatch z)
  have e : s' = { s with heap := s'.heap, gens := s'.gens, drawn := s'.drawn, toks := s'.toks } := by
    cases s'
    cases s
    cases o
    rfl
  rw [e]
  exact ⟨.ref p, _, J, rfl, q ys p hs hm hl hn⟩
end
end TxS
/-! enumerate(t), t a tuple -/
namespace EnT
open PySem PySem.Spec PyProof.Rows L2
theorem drawsT {prog : Program} {w : World} {A : Around} (hh : A.handled = none) (it t : Addr) (hne : t ≠ it) (items : Array Value) :
    Draws prog w A it [it, t] items.size (fun i v => items[i]? = some v) (fun i h => h.IsTupleIter it t i ∧ h.IsTuple t items) where
  live := fun _ _ st => let ⟨o, ho, _⟩ := st.1; ⟨o, ho⟩
  frame := fun _ _ _ st k => ⟨let ⟨o, ho, r⟩ := st.1; ⟨o, k it (by simp) o ho, r⟩, let ⟨o, ho, r⟩ := st.2; ⟨o, k t (by simp) o ho, r⟩⟩
  item := fun i s Q E hi st hQ => by
    refine RZ.nextOf_tuple_item st.1 st.2 (x := items[i]) (by simp [hi]) fun h' hit' hs' => ?_
    exact hQ _ h' s.toks (by simp [hi]) ⟨hit', let ⟨o, ho, r⟩ := st.2; ⟨o, (hs'.2 t hne).trans ho, r⟩⟩ hs'
  done := fun s Q E st hE => RZ.nextOf_tuple_end hh st.1 st.2 (by simp) hE
theorem meets_new (t : Addr) (items : Array Value) :
    Meets (Builtin.«enumerate.__new__» ⟨[.type "enumerate", .ref t], []⟩) (fun _ R s => s.heap.IsTuple t items ∧
      R (.ok (.ret (.ref (s.heap.push { cls := .type "tuple_iterator", data := .fields #[.ref t, .int 0 0] }).objs.size)))
        { s with heap := (s.heap.push { cls := .type "tuple_iterator", data := .fields #[.ref t, .int 0 0] }).push { cls := .type "enumerate", data := .fields #[.none, .bool false, .ref s.heap.objs.size, rawInt 0, .none, .none] } }) :=
  .of_wp fun prog w A R s h => by
    obtain ⟨hp, g, d, tk, os⟩ := s
    obtain ⟨hl, h⟩ := h
    have hsub := sub_enumerate
    have hL : Heap.IsTuple (Shared.heap ⟨hp, g, d, tk, os⟩) t items := hl
    obtain ⟨⟨c0, d0, dt0, sl0⟩, ho, hc, n, hd⟩ := hl
    replace hc : c0 = .type "tuple" := hc
    replace hd : dt0 = .seq items n := hd
    subst hc hd
    wp_walk using AutoSeq1.wpAny_loadPart' ho
    refine wpAny_stack_any fun st => wpAny_pure ?_
    split
    · rename_i c _ _ _ _ _
      cases (c == Value.type "enumerate")
      · wp_walk using AutoSeq1.wpAny_loadPart' ho, wpAny_pyIter_tuple hL
        exact ⟨_, rfl, h⟩
      · wp_walk using AutoSeq1.wpAny_loadPart' ho, wpAny_pyIter_tuple hL
        exact ⟨_, rfl, h⟩
    · wp_walk using AutoSeq1.wpAny_loadPart' ho, wpAny_pyIter_tuple hL
      exact ⟨_, rfl, h⟩
section
variable {prog : Program} {w : World} {A : Around} {E : Value → Shared → Prop} {s : Shared}
theorem call_enum {t : Addr} {items : Array Value} {Q : Value → Shared → Prop} (hL : s.heap.IsTuple t items)
    (h : ∀ h', IsEnum h' (s.heap.objs.size + 1) s.heap.objs.size 0 .none → h'.IsTupleIter s.heap.objs.size t 0 → (∀ b o, s.heap.get? b = some o → h'.get? b = some o) → Q (.ref (s.heap.objs.size + 1)) { s with heap := h' }) :
    wpAny (model prog w) A (call (.type "enumerate") [.ref t]) Q E s := by
  refine callType_new PySem.F.called_enumerate (by decide) (PySem.F.typeCall_enumerate_1 _) (PySem.F.newCall_enumerate_1 _) (fun obj => PySem.F.args_object_init_2 obj _) PySem.F.entry_enumerate_new (meets_new t items) ⟨hL, ?_⟩
  have hz : (s.heap.push { cls := .type "tuple_iterator", data := .fields #[.ref t, .int 0 0] }).objs.size = s.heap.objs.size + 1 := Heap.size_push ..
  show _ ∧ _
  rw [hz]
  have he : IsEnum ((s.heap.push { cls := .type "tuple_iterator", data := .fields #[.ref t, .int 0 0] }).push { cls := .type "enumerate", data := .fields #[.none, .bool false, .ref s.heap.objs.size, rawInt 0, .none, .none] }) (s.heap.objs.size + 1) s.heap.objs.size 0 .none := by
    have q := Heap.get?_push_size (s.heap.push { cls := .type "tuple_iterator", data := .fields #[.ref t, .int 0 0] }) (o := { cls := .type "enumerate", data := .fields #[.none, .bool false, .ref s.heap.objs.size, rawInt 0, .none, .none] }) rfl
    rw [hz] at q
    exact q
  exact ⟨⟨_, he, rfl⟩, h _ he ⟨_, Heap.get?_push_of_some _ (Heap.get?_push_size _ rfl), rfl, rfl⟩ fun b o x => Heap.get?_push_of_some _ (Heap.get?_push_of_some _ x)⟩
end
/-- the tuple at a, each item in a new pair with its place -/
def IteT (K : PySem.W.Frag) (a : Addr) : It :=
  ⟨fun i H => ∃ (xs : List V) (x : V), SqT K H a xs ∧ xs[i]? = some x, fun i H v H' => ∃ T x, v = .ref T ∧ H T = none ∧ H' = upd H T (.tup [.int (i : Nat), x]) ∧ ∀ xs, SqT K H a xs → xs[i]? = some x, fun i H => ∃ xs : List V, SqT K H a xs ∧ xs.length = i⟩
theorem turn_enumT {P : Program} {w : World} {K : PySem.W.Frag} {elts : List Expr} {kk : Nat} {tpos : Pos} (a e it : Addr) (items : Array Value) :
    Turn P w K (.Tuple elts kk tpos) (IteT K a) [e, it] e (fun i h => (∃ old, IsEnum h e it ((i : Nat) : Int) old) ∧ h.IsTupleIter it a i ∧ e ≠ it ∧ a ≠ it ∧ e ≠ a) where
  mem := by simp
  obj := fun i h st b hb => by
    obtain ⟨⟨old, he⟩, ⟨o, ho, hc, hd⟩, _⟩ := st
    have e' : b = e ∨ b = it := by simpa using hb
    rcases e' with z | z
    · rw [z]; exact ⟨_, he, fun v q => nomatch q⟩
    · rw [z]; exact ⟨o, ho, fun v q => by rw [hd] at q; cases q⟩
  keep := fun i h h' st k => let ⟨⟨old, he⟩, ⟨o, ho, r⟩, hne⟩ := st; ⟨⟨old, k e (by simp) _ he⟩, ⟨o, k it (by simp) _ ho, r⟩, hne⟩
  item := by
    intro X hP hw hK hc i pins s σ H E I hf st hg
    subst hP hw hK
    obtain ⟨⟨old, he⟩, hit, hne, hat, hea⟩ := st
    obtain ⟨xs, x, hq, hx⟩ := hg
    obtain ⟨its, rv, p, hz⟩ := I.tuple hq
    obtain ⟨u, hu, ru⟩ := rv.get hx
    have hel : e < s.heap.objs.size := Heap.lt_size he
    have hi : i < its.toArray.size := by simpa using (List.getElem?_eq_some_iff.mp hu).1
    refine wpAny_pyNext_enum_itemD (drawsT (A := X.A.in1) (I.ok.hd hc) it a hat its.toArray) he ⟨hit, p⟩ hi hne (by simp [hne, hea]) fun v h' tk hv ho hst' hT hsz hk => ?_
    have ev : v = u := by
      have q : its.toArray[i]? = some v := hv
      rw [List.getElem?_toArray, hu] at q
      exact (Option.some.inj q).symm
    subst ev
    refine ⟨_, rfl, wpAny_letOwnedTupleGo_enum (s := { s with heap := h', toks := tk + 1 }) ho fun h'' he' sb => ?_⟩
    have hT2 : h''.get? s.heap.objs.size = some { cls := .type "tuple", data := .seq #[.int i tk, v] } := (sb.2 _ (Nat.ne_of_gt hel)).trans hT
    have new : ObjOk X.prog X.w (upd H s.heap.objs.size (.tup [.int (i : Nat), x])) h'' s.heap.objs.size (.tup [.int (i : Nat), x]) :=
      ⟨by show 2 ≤ sizeLine; decide, [.int i tk, v], .cons ⟨_, rfl⟩ (.cons ru .nil), ⟨_, hT2, rfl, _, rfl⟩⟩
    have I1 : Inv X pins σ (upd H s.heap.objs.size (.tup [.int (i : Nat), x])) { s with heap := h'', toks := tk + 1 } :=
      I.turnedNew (ch := [e, it]) (fun b ob hb q => (sb.2 b (fun z => hb (by simp [z]))).trans (hk b ob (fun z => hb (by simp [z])) (fun z => hb (by simp [z])) q)) hf (Nat.le_refl _) new
    refine ⟨.ref s.heap.objs.size, _, I1, rfl, ⟨_, x, rfl, I.hok.fresh (Nat.le_refl _), rfl, fun ys hy => by rw [I.tuple_inj hy hq]; exact hx⟩, ⟨⟨v, ?_⟩, ?_, hne, hat, hea⟩, fun b hb => ?_⟩
    · have e1 : ((i + 1 : Nat) : Int) = (i : Int) + 1 := by omega
      rw [e1]
      exact he'
    · obtain ⟨o, ho2, r⟩ := hst'.1
      exact ⟨o, (sb.2 it (Ne.symm hne)).trans ho2, r⟩
    · have hb' : b < s.heap.objs.size := by
        have e' : b = e ∨ b = it := by simpa using hb
        rcases e' with z | z
        · rw [z]; exact hel
        · obtain ⟨o, q, _⟩ := hit
          rw [z]; exact Heap.lt_size q
      rw [upd_ne (Nat.ne_of_lt hb')]
      exact (hf b hb).1
  done := by
    intro X hP hw hK hc i pins s σ H E I hf st hg
    subst hP hw hK
    obtain ⟨⟨old, he⟩, hit, hne, hat, hea⟩ := st
    obtain ⟨xs, hq, hx⟩ := hg
    obtain ⟨its, rv, p, hz⟩ := I.tuple hq
    obtain ⟨f0, f1, f2, f3, f4, f5⟩ := hf it (by simp)
    have hl := rv.length
    have ei : its.toArray.size = i := by simp; omega
    subst ei
    exact wpAny_pyNext_enum_endD (drawsT (A := X.A.in1) (I.ok.hd hc) it a hat its.toArray) he ⟨hit, p⟩ fun h' eb => ⟨rfl, I.turned (t' := s.toks) (fun b o hb q => eb b o hb q) f0 f1 f3 f4 f5⟩
  self := fun A i s Q E st h => let ⟨⟨_, he⟩, _⟩ := st; wpAny_pyIter_enum he h
def iEnumT (K : PySem.W.Frag) (ta : TA) : TI := fun σ H R => ta σ H fun vs H1 => ∃ a xs, vs = [.ref a] ∧ SqT K H1 a xs ∧ R (IteT K a) H1
theorem pi_enumT {X : Cx} {e : Expr} {ta : TA} {p pos tpos : Pos} {elts : List Expr} {kk : Nat} (hg : Gl X "enumerate") (hm : X.mg "enumerate" = none) (ha : PA X [e] ta) (hs : starEach [e] X.env = [(false, eval e X.env)] := by rfl) :
    PI X (.Tuple elts kk tpos) (.Call (.Name "enumerate" p) [e] [] pos) (iEnumT X.K ta) := by
  refine ⟨fun pins s σ H R I h => ?_⟩
  refine Call_ (ld_blt I hg hm boot_enumerate (PyProof.Rows.callWith_type1 (thn (ha.run pos pins s σ H _ I h) fun us s1 ⟨vs, H1, I1, r1, q1⟩ => ?_) hs rfl))
  obtain ⟨a, xs, ex, hq, q⟩ := q1
  subst ex
  cases r1 with
  | cons r rr =>
    cases rr
    cases r
    obtain ⟨its, rv, p', hz⟩ := I1.tuple hq
    have hal : a < s1.heap.objs.size := by
      obtain ⟨o, ho, _⟩ := p'
      exact Heap.lt_size ho
    refine call_enum p' fun h' he hit hk => wpAny_pyIter_enum he ?_
    have I2 : Inv X pins σ H1 { s1 with heap := h' } := I1.kept (t' := s1.toks) hk
    refine ⟨s1.heap.objs.size + 1, [s1.heap.objs.size + 1, s1.heap.objs.size], _, _, H1, rfl, I2, turn_enumT a (s1.heap.objs.size + 1) s1.heap.objs.size its.toArray, ⟨⟨.none, he⟩, hit, Nat.succ_ne_self _, Nat.ne_of_lt hal, Nat.ne_of_gt (Nat.lt_succ_of_lt hal)⟩, fun b hb => ?_, q⟩
    have e' : b = s1.heap.objs.size + 1 ∨ b = s1.heap.objs.size := by simpa using hb
    have hle : s1.heap.objs.size ≤ b := by
      rcases e' with z | z
      · rw [z]; exact Nat.le_add_right _ _
      · rw [z]; exact Nat.le_refl _
    exact I1.fpOk hle (I1.hok.fresh hle)
end EnT
namespace Lw
open PySem L2 OwB
/-! a comprehension of two clauses whose element is the second name: the inner sources one behind another -/
def flat (fs : Nat → List V) : Nat → List V
  | 0 => []
  | n + 1 => flat fs n ++ fs n
/-- what walks the outer source: an item a turn, the heap stays -/
structure Outer (J : It) (H0 : Hp) (D : Addr) (xs : List V) : Prop where
  go : ∀ i H, i < xs.length → (∀ b o, H0 b = some o → H b = some o) → J.go i H
  yld : ∀ i H x H', (∀ b o, H0 b = some o → H b = some o) → J.yld i H x H' → H' = H ∧ xs[i]? = some x
  stop : ∀ H, (∀ b o, H0 b = some o → H b = some o) → J.stop xs.length H
theorem outer_list {K : PySem.W.Frag} {a : Addr} {xs : List V} {H0 : Hp} {D : Addr} (h : SqL K H0 a xs) : Outer (Itl K a) H0 D xs :=
  ⟨fun i H hi g => ⟨xs, xs[i], Same.seq g h, List.getElem?_eq_getElem hi⟩, fun i H x H' g y => ⟨y.1, y.2 xs (Same.seq g h)⟩, fun H g => ⟨xs, Same.seq g h, Nat.le_refl _⟩⟩
theorem outer_tup {K : PySem.W.Frag} {a : Addr} {xs : List V} {H0 : Hp} {D : Addr} (h : SqT K H0 a xs) : Outer (Itt K a) H0 D xs :=
  ⟨fun i H hi g => ⟨xs, xs[i], seqT g h, List.getElem?_eq_getElem hi⟩, fun i H x H' g y => ⟨y.1, y.2 xs (seqT g h)⟩, fun H g => ⟨xs, seqT g h, Nat.le_refl _⟩⟩
theorem lc2_it {K : PySem.W.Frag} {J : It} {xs : List V} {wi1 : TI} {σ : St} {H0 : Hp} {D : Addr} {Qd : Hp → Prop} {i0 j0 : Nat} (fs : Nat → List V) (hD : H0 D = none) (hJ : Outer J H0 D xs)
    (hw : ∀ i x H R, xs[i]? = some x → Same H0 H → (∀ b, SqT K H0 b (fs i) → R (Itt K b) H) → wi1 ((wipe σ [i0, j0]).set i0 (some x)) H R) (hlen : (flat fs xs.length).length ≤ 1000)
    (hmono : ∀ i, i < xs.length → ((flat fs i).length + (fs i).length ≤ 1000))
    (hq : ∀ H, H D = some (.lst (flat fs xs.length)) → Same H0 H → Qd H)
    (w1 : ∀ x, wipe ((wipe σ [i0, j0]).set i0 (some x)) [i0, j0] = wipe σ [i0, j0])
    (w2 : ∀ x y, wipe ((wipe ((wipe σ [i0, j0]).set i0 (some x)) [j0]).set j0 (some y)) [j0] = wipe ((wipe σ [i0, j0]).set i0 (some x)) [j0])
    (w3 : ∀ x y, ((wipe ((wipe σ [i0, j0]).set i0 (some x)) [j0]).set j0 (some y))[j0]? = some (some y)) :
    ∃ W : Nat → Nat → Hp → Prop, (∃ m, W 0 m (upd H0 D (.lst []))) ∧ ∀ i m H, W i m H →
      (J.stop i H ∧ Qd H) ∨ (J.go i H ∧ ∃ Nx : Hp → Prop, (∀ H', Nx H' → ∃ m', m' < m ∧ W (i + 1) m' H') ∧ ∀ x H', J.yld i H x H' → gName i0 x (wipe σ [i0, j0]) H' fun σ2 H2 => wipe σ2 [i0, j0] = wipe σ [i0, j0] ∧ tYes σ2 H2 fun b H3 =>
        if b = true then wi1 σ2 H3 fun J1 H4 => ∃ W1 : Nat → Nat → Hp → Prop, (∃ m, W1 0 m H4) ∧ ∀ j k H, W1 j k H →
          (J1.stop j H ∧ Nx H) ∨ (J1.go j H ∧ ∃ Nx1 : Hp → Prop, (∀ H', Nx1 H' → ∃ k', k' < k ∧ W1 (j + 1) k' H') ∧ ∀ x H', J1.yld j H x H' → gName j0 x (wipe σ2 [j0]) H' fun σ3 H5 => wipe σ3 [j0] = wipe σ2 [j0] ∧ tYes σ3 H5 fun b H6 =>
            if b = true then tVar j0 σ3 H6 fun y H7 => ∃ acc, H7 D = some (.lst acc) ∧ acc.length < sizeLine ∧ Nx1 (upd H7 D (.lst (acc ++ [y]))) else Nx1 H6)
        else Nx H3) := by
  refine ⟨fun i m H => m = xs.length - i ∧ i ≤ xs.length ∧ H D = some (.lst (flat fs i)) ∧ Same H0 H, ⟨xs.length, by simp, Nat.zero_le _, upd_same, same_new hD _⟩, ?_⟩
  rintro i m H ⟨rfl, hi, hd, g⟩
  by_cases hlt : i < xs.length
  · refine .inr ⟨hJ.go i H hlt g, fun H' => H' D = some (.lst (flat fs (i + 1))) ∧ Same H0 H', fun H' ⟨d', g'⟩ => ⟨xs.length - (i + 1), by omega, rfl, hlt, d', g'⟩, fun x H' y => ?_⟩
    obtain ⟨rfl, hx⟩ := hJ.yld i H x H' g y
    refine ⟨w1 x, iteT (B := H' D = some (.lst (flat fs (i + 1))) ∧ Same H0 H') ?_⟩
    refine hw i x H' _ hx g fun b hb => ?_
    refine ⟨fun j k H1 => k = (fs i).length - j ∧ j ≤ (fs i).length ∧ H1 D = some (.lst (flat fs i ++ (fs i).take j)) ∧ Same H0 H1, ⟨(fs i).length, by simp, Nat.zero_le _, by rw [List.take_zero, List.append_nil]; exact hd, g⟩, ?_⟩
    rintro j k H1 ⟨rfl, hj, hd1, g1⟩
    by_cases hlj : j < (fs i).length
    · refine .inr ⟨⟨fs i, (fs i)[j], seqT g1 hb, List.getElem?_eq_getElem hlj⟩, fun H2 => H2 D = some (.lst (flat fs i ++ (fs i).take (j + 1))) ∧ Same H0 H2, fun H2 ⟨d2, g2⟩ => ⟨(fs i).length - (j + 1), by omega, rfl, hlj, d2, g2⟩, fun z H2 yz => ?_⟩
      obtain ⟨rfl, yz⟩ := yz
      have hz := yz (fs i) (seqT g1 hb)
      refine ⟨w2 x z, iteT (B := H2 D = some (.lst (flat fs i ++ (fs i).take (j + 1))) ∧ Same H0 H2) ?_⟩
      refine ⟨z, w3 x z, _, hd1, ?_, ?_⟩
      · rw [List.length_append, List.length_take]
        have := hmono i hlt
        exact small1000 (by omega)
      · refine ⟨?_, same_over g1 hD _⟩
        rw [upd_same, List.take_add_one, hz, List.append_assoc] <;> rfl
    · have e : j = (fs i).length := by omega
      subst e
      refine .inl ⟨⟨fs i, seqT g1 hb, Nat.le_refl _⟩, ?_, g1⟩
      rw [hd1, List.take_length] <;> rfl
  · have e : i = xs.length := by omega
    subst e
    exact .inl ⟨hJ.stop H g, hq H hd g⟩
/-! expressions, as data -/
inductive Ex where
  | num (n : Int)
  | acc (nm : Str) (ls : List Str)
  | bi (k : Str) (x y : Ex)
  | nu (k : Str) (x : Ex) (n : Int)
  | un (k : Str) (x : Ex)
def Ex.kind : Ex → Str
  | .num _ => "number"
  | .acc _ _ => "access"
  | .bi k _ _ => k
  | .nu k _ _ => k
  | .un k _ => k
def Ex.accs : Ex → List (Str × List Str)
  | .num _ => []
  | .acc nm ls => [(nm, ls)]
  | .bi _ x y => x.accs ++ y.accs
  | .nu _ x _ => x.accs
  | .un _ x => x.accs
def Ex.nodes : Ex → Int
  | .num _ => 1
  | .acc _ _ => 1
  | .bi _ x y => 1 + (x.nodes + y.nodes)
  | .nu _ x _ => 1 + x.nodes
  | .un _ x => 1 + x.nodes
/-- letters in all accesses, doubles too -/
def lts (as : List (Str × List Str)) : List Str := (as.map (·.2)).flatten
/-- the fields of an expression -/
def fE (k : Str) (tp ta tl : Addr) (m : Int) : List (Str × V) := putF "letters" (.ref tl) (putF "accesses" (.ref ta) (putF "node_count" (.int m) (putF "parts" (.ref tp) (putF "kind" (.str k) []))))
theorem nb (a b : String) (h : (Str.ofString a == Str.ofString b) = false) : ¬ Str.ofString a = Str.ofString b := fun e => by rw [e, beq_self_eq_true] at h; cases h
theorem fE_k {k : Str} {tp ta tl : Addr} {m : Int} : (fE k tp ta tl m).lookup ("kind" : Str) = some (.str k) := by
  unfold fE
  rw [lookup_putF, if_neg (nb _ _ (by decide +kernel)), lookup_putF, if_neg (nb _ _ (by decide +kernel)), lookup_putF, if_neg (nb _ _ (by decide +kernel)), lookup_putF, if_neg (nb _ _ (by decide +kernel)), lookup_putF, if_pos rfl]
theorem fE_p {k : Str} {tp ta tl : Addr} {m : Int} : (fE k tp ta tl m).lookup ("parts" : Str) = some (.ref tp) := by
  unfold fE
  rw [lookup_putF, if_neg (nb _ _ (by decide +kernel)), lookup_putF, if_neg (nb _ _ (by decide +kernel)), lookup_putF, if_neg (nb _ _ (by decide +kernel)), lookup_putF, if_pos rfl]
theorem fE_n {k : Str} {tp ta tl : Addr} {m : Int} : (fE k tp ta tl m).lookup ("node_count" : Str) = some (.int m) := by
  unfold fE
  rw [lookup_putF, if_neg (nb _ _ (by decide +kernel)), lookup_putF, if_neg (nb _ _ (by decide +kernel)), lookup_putF, if_pos rfl]
theorem fE_a {k : Str} {tp ta tl : Addr} {m : Int} : (fE k tp ta tl m).lookup ("accesses" : Str) = some (.ref ta) := by
  unfold fE
  rw [lookup_putF, if_neg (nb _ _ (by decide +kernel)), lookup_putF, if_pos rfl]
theorem fE_l {k : Str} {tp ta tl : Addr} {m : Int} : (fE k tp ta tl m).lookup ("letters" : Str) = some (.ref tl) := by
  unfold fE
  rw [lookup_putF, if_pos rfl]
/-- a pair (name, letters) -/
def PairAt (K : PySem.W.Frag) (H : Hp) (v : V) (p : Str × List Str) : Prop := ∃ a t : Addr, v = .ref a ∧ SqT K H a [.str p.1, .ref t] ∧ SqT K H t (p.2.map V.str)
theorem PairAt.same {K : PySem.W.Frag} {H H' : Hp} {v : V} {p : Str × List Str} (g : Same H H') : PairAt K H v p → PairAt K H' v p
  | ⟨a, t, e, h1, h2⟩ => ⟨a, t, e, seqT g h1, seqT g h2⟩
/-- place by place -/
inductive PairsAt (K : PySem.W.Frag) (H : Hp) : List V → List (Str × List Str) → Prop where
  | nil : PairsAt K H [] []
  | cons {v : V} {p : Str × List Str} {vs : List V} {ps : List (Str × List Str)} (h : PairAt K H v p) (t : PairsAt K H vs ps) : PairsAt K H (v :: vs) (p :: ps)
theorem PairsAt.same {K : PySem.W.Frag} {H H' : Hp} (g : Same H H') : ∀ {vs : List V} {ps : List (Str × List Str)}, PairsAt K H vs ps → PairsAt K H' vs ps
  | _, _, .nil => .nil
  | _, _, .cons h t => .cons (h.same g) (PairsAt.same g t)
theorem PairsAt.app {K : PySem.W.Frag} {H : Hp} : ∀ {vs us : List V} {ps qs : List (Str × List Str)}, PairsAt K H vs ps → PairsAt K H us qs → PairsAt K H (vs ++ us) (ps ++ qs)
  | _, _, _, _, .nil, h => h
  | _, _, _, _, .cons h t, q => .cons h (PairsAt.app t q)
theorem PairsAt.len {K : PySem.W.Frag} {H : Hp} : ∀ {vs : List V} {ps : List (Str × List Str)}, PairsAt K H vs ps → vs.length = ps.length
  | _, _, .nil => rfl
  | _, _, .cons _ t => congrArg Nat.succ t.len
theorem PairsAt.get {K : PySem.W.Frag} {H : Hp} : ∀ {vs : List V} {ps : List (Str × List Str)} {i : Nat} {v : V}, PairsAt K H vs ps → vs[i]? = some v → ∃ p, ps[i]? = some p ∧ PairAt K H v p
  | _, _, i, _, .nil, e => by cases e
  | _, _, 0, _, .cons h _, e => by cases e; exact ⟨_, rfl, h⟩
  | _, _, i + 1, _, .cons _ t, e => PairsAt.get (i := i) t e
/-- the tuple of the letters: ascending, each once -/
structure LetOk (ys zs : List Str) : Prop where
  srt : PyProof.Rows.sortedS ys = true
  mem : ∀ z, z ∈ ys ↔ z ∈ zs
  ex : ∃ l : List Str, l.Nodup ∧ ys.length = l.length ∧ ∀ z, z ∈ l ↔ z ∈ zs
/-- an instance at p with the fields of an expression -/
def HdE (K : PySem.W.Frag) (C : Addr) (H : Hp) (p : Addr) (k : Str) (vs : List V) (as : List (Str × List Str)) (m : Int) : Prop :=
  ∃ (dx tp ta tl : Addr) (us : List V) (ys : List Str), H p = some (.ins C dx (fE k tp ta tl m)) ∧ SqT K H tp vs ∧ SqT K H ta us ∧ PairsAt K H us as ∧ SqT K H tl (ys.map V.str) ∧ LetOk ys (lts as)
theorem HdE.same {K : PySem.W.Frag} {C p : Addr} {H H' : Hp} {k : Str} {vs : List V} {as : List (Str × List Str)} {m : Int} (g : Same H H') : HdE K C H p k vs as m → HdE K C H' p k vs as m
  | ⟨dx, tp, ta, tl, us, ys, h1, h2, h3, h4, h5, h6⟩ => ⟨dx, tp, ta, tl, us, ys, g _ _ h1, seqT g h2, seqT g h3, h4.same g, seqT g h5, h6⟩
def okK (k : Str) : Prop := k ≠ "access" ∧ k ≠ "number" ∧ k ≠ "gain" ∧ k ≠ "loss"
/-- the expression e stands at p -/
def ExAt (K : PySem.W.Frag) (C : Addr) (H : Hp) : Ex → Addr → Prop
  | .num n, p => HdE K C H p "number" [.int n] [] 1
  | .acc nm ls, p => ∃ t, HdE K C H p "access" [.str nm, .ref t] [(nm, ls)] 1 ∧ SqT K H t (ls.map V.str)
  | .bi k x y, p => okK k ∧ ∃ a b, HdE K C H p k [.ref a, .ref b] (x.accs ++ y.accs) (1 + (x.nodes + y.nodes)) ∧ ExAt K C H x a ∧ ExAt K C H y b
  | .nu k x n, p => okK k ∧ ∃ a, HdE K C H p k [.ref a, .int n] x.accs (1 + x.nodes) ∧ ExAt K C H x a
  | .un k x, p => okK k ∧ ∃ a, HdE K C H p k [.ref a] x.accs (1 + x.nodes) ∧ ExAt K C H x a
theorem ExAt.same {K : PySem.W.Frag} {C : Addr} {H H' : Hp} (g : Same H H') : ∀ {e : Ex} {p : Addr}, ExAt K C H e p → ExAt K C H' e p
  | .num n, p, h => HdE.same g h
  | .acc nm ls, p, ⟨t, h1, h2⟩ => ⟨t, h1.same g, seqT g h2⟩
  | .bi k x y, p, ⟨o, a, b, h1, h2, h3⟩ => ⟨o, a, b, h1.same g, ExAt.same g h2, ExAt.same g h3⟩
  | .nu k x n, p, ⟨o, a, h1, h2⟩ => ⟨o, a, h1.same g, ExAt.same g h2⟩
  | .un k x, p, ⟨o, a, h1, h2⟩ => ⟨o, a, h1.same g, ExAt.same g h2⟩
/-- its head, whatever it is -/
theorem ExAt.hd {K : PySem.W.Frag} {C : Addr} {H : Hp} : ∀ {e : Ex} {p : Addr}, ExAt K C H e p → ∃ vs, HdE K C H p e.kind vs e.accs e.nodes
  | .num n, p, h => ⟨_, h⟩
  | .acc nm ls, p, ⟨t, h, _⟩ => ⟨_, h⟩
  | .bi k x y, p, ⟨_, a, b, h, _⟩ => ⟨_, h⟩
  | .nu k x n, p, ⟨_, a, h, _⟩ => ⟨_, h⟩
  | .un k x, p, ⟨_, a, h, _⟩ => ⟨_, h⟩
theorem ExAt.noGain {K : PySem.W.Frag} {C : Addr} {H : Hp} : ∀ {e : Ex} {p : Addr}, ExAt K C H e p → e.kind ≠ "gain" ∧ e.kind ≠ "loss"
  | .num n, p, h => ⟨nb _ _ (by decide +kernel), nb _ _ (by decide +kernel)⟩
  | .acc nm ls, p, h => ⟨nb _ _ (by decide +kernel), nb _ _ (by decide +kernel)⟩
  | .bi k x y, p, ⟨o, _⟩ => o.2.2
  | .nu k x n, p, ⟨o, _⟩ => o.2.2
  | .un k x, p, ⟨o, _⟩ => o.2.2
end Lw
namespace L2
open PySem PySem.Spec PyProof.Rows
/-- a list or a tuple, walked -/
def iSeq (K : PySem.W.Frag) (tl : TE) : TI := fun σ H R => tl σ H fun x H1 => ∃ a, x = .ref a ∧ (((∃ xs, SqL K H1 a xs) ∧ R (Itl K a) H1) ∨ ((∃ xs, SqT K H1 a xs) ∧ R (Itt K a) H1))
theorem pi_seq {X : Cx} {tg : Expr} {l : Expr} {tl : TE} (hl : PE X l tl) : PI X tg l (iSeq X.K tl) := by
  refine ⟨fun pins s σ H R I h => ?_⟩
  refine thn (hl.run pins s σ H _ I h) fun v s1 ⟨x, H1, I1, r1, q1⟩ => ?_
  obtain ⟨a, e, q⟩ := q1
  subst e
  cases r1
  rcases q with ⟨⟨xs, hq⟩, q⟩ | ⟨⟨xs, hq⟩, q⟩
  · obtain ⟨its, rv, p, hz⟩ := I1.list hq
    refine wpAny_pyIter_list p.isList ?_
    refine ⟨s1.heap.objs.size, [s1.heap.objs.size], _, _, H1, rfl, I1.kept (t' := s1.toks) fun b o e => Heap.get?_push_of_some _ e, turn_list a _, ⟨_, Heap.get?_push_size _ rfl, rfl, rfl⟩, fun b hb => ?_, q⟩
    have e : b = s1.heap.objs.size := by simpa using hb
    subst e
    exact I1.fpOk (Nat.le_refl _) (I1.hok.fresh (Nat.le_refl _))
  · obtain ⟨its, rv, p, hz⟩ := I1.tuple hq
    refine wpAny_pyIter_tuple (show s1.heap.IsTuple a its.toArray from p) ?_
    refine ⟨s1.heap.objs.size, [s1.heap.objs.size], _, _, H1, rfl, I1.kept (t' := s1.toks) fun b o e => Heap.get?_push_of_some _ e, turn_tuple a _, ⟨_, Heap.get?_push_size _ rfl, rfl, rfl⟩, fun b hb => ?_, q⟩
    have e : b = s1.heap.objs.size := by simpa using hb
    subst e
    exact I1.fpOk (Nat.le_refl _) (I1.hok.fresh (Nat.le_refl _))
end L2
namespace Lw
open PySem L2
/-- a list or a tuple -/
def SqA (K : PySem.W.Frag) (H : Hp) (a : Addr) (xs : List V) : Prop := SqL K H a xs ∨ SqT K H a xs
theorem SqA.same {K : PySem.W.Frag} {H H' : Hp} {a : Addr} {xs : List V} (g : Same H H') : SqA K H a xs → SqA K H' a xs
  | .inl h => .inl (Same.seq g h)
  | .inr h => .inr (seqT g h)
/-- a comprehension over a list or a tuple -/
theorem lc_seq {K : PySem.W.Frag} {a : Addr} {xs : List V} {g : TG} {tt : TT} {te : TE} {vs : List Nat} {σ : St} {H1 : Hp} {Qd : Addr → Hp → Prop} (h : SqA K H1 a xs) (Pv : Addr → Nat → Hp → Prop) (h0 : ∀ D, H1 D = none → Pv D 0 (upd H1 D (.lst []))) (hl : ∀ D i H, H1 D = none → Pv D i H → SqA K H a xs ∧ Same H1 H)
    (hs : ∀ D, H1 D = none → ∀ i x H, xs[i]? = some x → Pv D i H → g x (wipe σ vs) H fun σ2 H2 => wipe σ2 vs = wipe σ vs ∧ tt σ2 H2 fun b H3 =>
      if b = true then te σ2 H3 fun y H4 => ∃ acc, H4 D = some (.lst acc) ∧ acc.length < sizeLine ∧ Pv D (i + 1) (upd H4 D (.lst (acc ++ [y]))) else Pv D (i + 1) H3) (hd : ∀ D, H1 D = none → ∀ H, Pv D xs.length H → Qd D H) :
    ((∃ xs, SqL K H1 a xs) ∧ ∀ D, H1 D = none → ∃ W : Nat → Nat → Hp → Prop, (∃ m, W 0 m (upd H1 D (.lst []))) ∧ ∀ i m H, W i m H →
      ((Itl K a).stop i H ∧ Qd D H) ∨ ((Itl K a).go i H ∧ ∃ Nx : Hp → Prop, (∀ H', Nx H' → ∃ m', m' < m ∧ W (i + 1) m' H') ∧ ∀ x H', (Itl K a).yld i H x H' → g x (wipe σ vs) H' fun σ2 H2 => wipe σ2 vs = wipe σ vs ∧ tt σ2 H2 fun b H3 =>
        if b = true then te σ2 H3 fun y H4 => ∃ acc, H4 D = some (.lst acc) ∧ acc.length < sizeLine ∧ Nx (upd H4 D (.lst (acc ++ [y]))) else Nx H3)) ∨
    ((∃ xs, SqT K H1 a xs) ∧ ∀ D, H1 D = none → ∃ W : Nat → Nat → Hp → Prop, (∃ m, W 0 m (upd H1 D (.lst []))) ∧ ∀ i m H, W i m H →
      ((Itt K a).stop i H ∧ Qd D H) ∨ ((Itt K a).go i H ∧ ∃ Nx : Hp → Prop, (∀ H', Nx H' → ∃ m', m' < m ∧ W (i + 1) m' H') ∧ ∀ x H', (Itt K a).yld i H x H' → g x (wipe σ vs) H' fun σ2 H2 => wipe σ2 vs = wipe σ vs ∧ tt σ2 H2 fun b H3 =>
        if b = true then te σ2 H3 fun y H4 => ∃ acc, H4 D = some (.lst acc) ∧ acc.length < sizeLine ∧ Nx (upd H4 D (.lst (acc ++ [y]))) else Nx H3)) := by
  rcases h with h | h
  · exact .inl ⟨⟨_, h⟩, fun D hD => lc_list (K := K) (a := a) (xs := xs) (Pv D) (h0 D hD) (fun i H _ p => Same.seq (hl D i H hD p).2 h) (fun i x H hx p => hs D hD i x H hx p) (hd D hD)⟩
  · exact .inr ⟨⟨_, h⟩, fun D hD => lc_tup (K := K) (a := a) (xs := xs) (Pv D) (h0 D hD) (fun i H _ p => seqT (hl D i H hD p).2 h) (fun i x H hx p => hs D hD i x H hx p) (hd D hD)⟩
end Lw
namespace Lw
open PySem L2 OwB
abbrev sWhole : Stmt := topS 1
abbrev sAsc : Stmt := topS 3
abbrev sXini : Stmt := inClass (topS 38) 0
abbrev sNum : Stmt := topS 39
/-! the class Expression -/
structure Xc (K : PySem.W.Frag) (mg : Str → Option Value) (C fI : Addr) : Prop where
  ic : C8.InsC K C
  nK : NoAttr K C "kind"
  nP : NoAttr K C "parts"
  nN : NoAttr K C "node_count"
  nA : NoAttr K C "accesses"
  nL : NoAttr K C "letters"
  mkC : Mk K C fI
  mC : mg "Expression" = some (.ref C)
  sI : PySem.W.kitOne K (.type "int") (.ref C) = some false
  sS : PySem.W.kitOne K (.type "str") (.ref C) = some false
  sT : PySem.W.kitOne K (.type "tuple") (.ref C) = some false
  cI : PySem.W.kitOne K (.ref C) (.type "int") = some false
/-- more built-in names -/
structure Bx (mg : Str → Option Value) : Prop where
  sum : mg "sum" = none
  set : mg "set" = none
  sorted : mg "sorted" = none
  enum : mg "enumerate" = none
  str : mg "str" = none
def Kp (p : Addr) (H H' : Hp) : Prop := ∀ b o, b ≠ p → H b = some o → H' b = some o
theorem Kp.same {p : Addr} {H H1 H2 : Hp} (k : Kp p H H1) (g : Same H1 H2) : Kp p H H2 := fun b o n e => g _ _ (k b o n e)
theorem Kp.upd {p : Addr} {H H1 : Hp} (k : Kp p H H1) (o : HO) : Kp p H (upd H1 p o) := fun b u n e => by rw [upd_ne n]; exact k b u n e
theorem made_same {H H' : Hp} {x dx : Addr} {o1 o2 : HO} (hx : H x = none) (hd : H dx = none) (k : Kp x (upd (upd H dx o1) x o2) H') : Same H H' := fun b o e => by
  have n1 : b ≠ x := ne_of_none e hx
  have n2 : b ≠ dx := ne_of_none e hd
  exact k b o n1 (by rw [upd_ne n1, upd_ne n2]; exact e)
theorem Kp.seq {K : PySem.W.Frag} {p a C dx : Addr} {H H' : Hp} {xs : List V} {fs : List (Str × V)} (k : Kp p H H') (hp : H p = some (.ins C dx fs)) (h : SqT K H a xs) : SqT K H' a xs := by
  rcases h with (h | ⟨o, h⟩) | h
  · exact .inl (.inl (k _ _ (fun e => by rw [e, hp] at h; cases h) h))
  · exact .inl (.inr ⟨o, k _ _ (fun e => by rw [e, hp] at h; cases h) h⟩)
  · exact .inr h
theorem Kp.pair {K : PySem.W.Frag} {p C dx : Addr} {H H' : Hp} {fs : List (Str × V)} (k : Kp p H H') (hp : H p = some (.ins C dx fs)) {v : V} {q : Str × List Str} : PairAt K H v q → PairAt K H' v q
  | ⟨a, t, e, h1, h2⟩ => ⟨a, t, e, k.seq hp h1, k.seq hp h2⟩
theorem Kp.pairs {K : PySem.W.Frag} {p C dx : Addr} {H H' : Hp} {fs : List (Str × V)} (k : Kp p H H') (hp : H p = some (.ins C dx fs)) : ∀ {vs : List V} {ps : List (Str × List Str)}, PairsAt K H vs ps → PairsAt K H' vs ps
  | _, _, .nil => .nil
  | _, _, .cons h t => .cons (k.pair hp h) (Kp.pairs k hp t)
theorem fE_ne {k : Str} {tp ta tl : Addr} {m : Int} : fE k tp ta tl m ≠ [] := fun e => by
  have z := fE_l (k := k) (tp := tp) (ta := ta) (tl := tl) (m := m)
  rw [e] at z
  cases z
theorem Kp.hd {K : PySem.W.Frag} {p a C C' dx : Addr} {H H' : Hp} (k : Kp p H H') (hp : H p = some (.ins C dx [])) {w : Str} {vs : List V} {as : List (Str × List Str)} {m : Int} : HdE K C' H a w vs as m → HdE K C' H' a w vs as m
  | ⟨ex, tp, ta, tl, us, ys, h1, h2, h3, h4, h5, h6⟩ => ⟨ex, tp, ta, tl, us, ys, k _ _ (fun e => by
      rw [e, hp] at h1
      injection h1 with z
      injection z with _ _ z3
      exact fE_ne z3.symm) h1, k.seq hp h2, k.seq hp h3, k.pairs hp h4, k.seq hp h5, h6⟩
theorem Kp.ex {K : PySem.W.Frag} {p C C' dx : Addr} {H H' : Hp} (k : Kp p H H') (hp : H p = some (.ins C dx [])) : ∀ {e : Ex} {a : Addr}, ExAt K C' H e a → ExAt K C' H' e a
  | .num n, a, h => Kp.hd k hp h
  | .acc nm ls, a, ⟨t, h1, h2⟩ => ⟨t, k.hd hp h1, k.seq hp h2⟩
  | .bi w x y, a, ⟨o, b, c, h1, h2, h3⟩ => ⟨o, b, c, k.hd hp h1, Kp.ex k hp h2, Kp.ex k hp h3⟩
  | .nu w x n, a, ⟨o, b, h1, h2⟩ => ⟨o, b, k.hd hp h1, Kp.ex k hp h2⟩
  | .un w x, a, ⟨o, b, h1, h2⟩ => ⟨o, b, k.hd hp h1, Kp.ex k hp h2⟩
/-- a part: data, or an expression -/
def PtAt (K : PySem.W.Frag) (C : Addr) (H : Hp) (v : V) : Option Ex → Prop
  | none => (∃ i, v = .int i) ∨ (∃ s, v = .str s) ∨ ∃ t xs, v = .ref t ∧ SqT K H t xs
  | some e => ∃ a, v = .ref a ∧ ExAt K C H e a
theorem PtAt.same {K : PySem.W.Frag} {C : Addr} {H H' : Hp} {v : V} (g : Same H H') : ∀ {o : Option Ex}, PtAt K C H v o → PtAt K C H' v o
  | none, h => by
    rcases h with h | h | ⟨t, xs, e, h⟩
    · exact .inl h
    · exact .inr (.inl h)
    · exact .inr (.inr ⟨t, xs, e, seqT g h⟩)
  | some e, ⟨a, ea, h⟩ => ⟨a, ea, h.same g⟩
inductive PtsAt (K : PySem.W.Frag) (C : Addr) (H : Hp) : List V → List (Option Ex) → Prop where
  | nil : PtsAt K C H [] []
  | cons {v : V} {o : Option Ex} {vs : List V} {os : List (Option Ex)} (h : PtAt K C H v o) (t : PtsAt K C H vs os) : PtsAt K C H (v :: vs) (o :: os)
theorem PtsAt.get {K : PySem.W.Frag} {C : Addr} {H : Hp} : ∀ {vs : List V} {os : List (Option Ex)} {i : Nat} {v : V}, PtsAt K C H vs os → vs[i]? = some v → ∃ o, os[i]? = some o ∧ PtAt K C H v o
  | _, _, i, _, .nil, e => by cases e
  | _, _, 0, _, .cons h _, e => by cases e; exact ⟨_, rfl, h⟩
  | _, _, i + 1, _, .cons _ t, e => PtsAt.get (i := i) t e
theorem PtsAt.len {K : PySem.W.Frag} {C : Addr} {H : Hp} : ∀ {vs : List V} {os : List (Option Ex)}, PtsAt K C H vs os → vs.length = os.length
  | _, _, .nil => rfl
  | _, _, .cons _ t => congrArg Nat.succ t.len
/-- the operands, in a list -/
inductive OpsAt (K : PySem.W.Frag) (C : Addr) (H : Hp) : List V → List Ex → Prop where
  | nil : OpsAt K C H [] []
  | cons {a : Addr} {e : Ex} {vs : List V} {es : List Ex} (h : ExAt K C H e a) (t : OpsAt K C H vs es) : OpsAt K C H (.ref a :: vs) (e :: es)
theorem OpsAt.same {K : PySem.W.Frag} {C : Addr} {H H' : Hp} (g : Same H H') : ∀ {vs : List V} {es : List Ex}, OpsAt K C H vs es → OpsAt K C H' vs es
  | _, _, .nil => .nil
  | _, _, .cons h t => .cons (h.same g) (OpsAt.same g t)
theorem OpsAt.snoc {K : PySem.W.Frag} {C : Addr} {H : Hp} {a : Addr} {e : Ex} (h : ExAt K C H e a) : ∀ {vs : List V} {es : List Ex}, OpsAt K C H vs es → OpsAt K C H (vs ++ [.ref a]) (es ++ [e])
  | _, _, .nil => .cons h .nil
  | _, _, .cons q t => .cons q (OpsAt.snoc h t)
theorem OpsAt.len {K : PySem.W.Frag} {C : Addr} {H : Hp} : ∀ {vs : List V} {es : List Ex}, OpsAt K C H vs es → vs.length = es.length
  | _, _, .nil => rfl
  | _, _, .cons _ t => congrArg Nat.succ t.len
theorem OpsAt.get {K : PySem.W.Frag} {C : Addr} {H : Hp} : ∀ {vs : List V} {es : List Ex} {i : Nat} {v : V}, OpsAt K C H vs es → vs[i]? = some v → ∃ a e, v = .ref a ∧ es[i]? = some e ∧ ExAt K C H e a
  | _, _, i, _, .nil, e => by cases e
  | _, _, 0, _, .cons h _, e => by cases e; exact ⟨_, _, rfl, rfl, h⟩
  | _, _, i + 1, _, .cons _ t, e => OpsAt.get (i := i) t e
section
variable {P : Program} {w : World} {K : PySem.W.Frag} {mg : Str → Option Value} {base : Heap} {f C fI fA : Addr} {fd dI dA : FuncData}
def spWh (C : Addr) : Sp := fun vs H Q _ => ∃ v, vs = [v] ∧ ((∃ i : Int, v = .int i ∧ Q (.bl true) H) ∨ ∃ p dx fs, v = .ref p ∧ H p = some (.ins C dx fs) ∧ Q (.bl false) H)
theorem scW : FnScope ["n"] ["n"] (defScope sWhole) := ⟨rfl, rfl, rfl, by decide +kernel, rfl, by decide +kernel, by decide +kernel⟩
theorem tyI {H : Hp} {p dx : Addr} {fs : List (Str × V)} (c : C8.InsC K C) (h : H p = some (.ins C dx fs)) : TyX K H (.ref p) (.ref C) := .base (.ins h c.cl c.ha c.hn c.htk c.hm)
theorem ok_whole (F : Fun K "is_whole" "is_whole" sWhole f fd) (B : Bt mg) (T : Xc K mg C fI) : FnOk P w K mg base CX0 1 f fd ["n"] (spWh C) := by
  refine F.ok scW (fun vs H Q E h => ?_) (fun cdv A outer s H vs Q E hr h => ?_)
  · obtain ⟨v, rfl, _⟩ := h
    rfl
  obtain ⟨v, rfl, h⟩ := h
  refine ⟨_, pss_one (ps_ret (pe_and (pe_callB call_isi (by rfl) B.isi (by decide +kernel) (pa_cons (pv 0) (pa_cons (pe_bltn (v := .ty "int") (by rfl) B.int (by decide +kernel) rfl) pa_nil)))
    (pe_one (pe_not (pe_callB call_isi (by rfl) B.isi (by decide +kernel) (pa_cons (pv 0) (pa_cons (pe_bltn (v := .ty "bool") (by rfl) B.bool (by decide +kernel) rfl) pa_nil))))))), ?_⟩
  rcases h with ⟨i, rfl, q⟩ | ⟨p, dx, fs, rfl, hp, q⟩
  · refine ⟨_, rfl, _, _, .type "int", .type "int", true, rfl, .ty _, .base (.int i), kit_ty (by decide +kernel), _, rfl, ?_⟩
    refine iteT ?_
    exact ⟨_, rfl, _, _, .type "int", .type "bool", false, rfl, .ty _, .base (.int i), kit_ty (by decide +kernel), _, rfl, q⟩
  · refine ⟨_, rfl, _, _, .ref C, .type "int", false, rfl, .ty _, tyI T.ic hp, T.cI, _, rfl, ?_⟩
    exact iteF q
def spAsc (K : PySem.W.Frag) : Sp := fun vs H Q _ => ∃ (L : Addr) (zs : List Str), vs = [.ref L] ∧ SqL K H L (zs.map V.str) ∧ zs.length < 64 ∧ ∀ (t : Addr) (ys : List Str) (H' : Hp), Same H H' → SqT K H' t (ys.map V.str) → LetOk ys zs → Q (.ref t) H'
theorem scAs : FnScope ["names"] ["names"] (defScope sAsc) := ⟨rfl, rfl, rfl, by decide +kernel, rfl, by decide +kernel, by decide +kernel⟩
theorem ok_asc (F : Fun K "ascending" "ascending" sAsc f fd) (B : Bt mg) (B2 : Bx mg) : FnOk P w K mg base CX0 1 f fd ["names"] (spAsc K) := by
  refine F.ok scAs (fun vs H Q E h => ?_) (fun cdv A outer s H vs Q E hr h => ?_)
  · obtain ⟨L, zs, rfl, _⟩ := h
    rfl
  obtain ⟨L, zs, rfl, hL, h64, k⟩ := h
  refine ⟨_, pss_one (ps_ret (pe_callTy call_tuple_of (by rfl) B.tup (by decide +kernel) (pa_cons (pe_callB (TxS.cr_sortT rfl) (by rfl) B2.sorted (by decide +kernel) (pa_cons (pe_callTy (TxS.cr_setT rfl) (by rfl) B2.set (by decide +kernel) (pa_cons (pv 0) pa_nil)) pa_nil)) pa_nil))), ?_⟩
  refine ⟨_, rfl, L, zs, rfl, hL, h64, fun a l ha nd mem le => ?_⟩
  have g1 := same_new ha (TxS.SetT P w a l)
  refine ⟨a, l, rfl, upd_same, Nat.lt_of_le_of_lt le h64, fun ys p srt mm hl hp => ?_⟩
  have g2 := same_new hp (.lst (ys.map V.str))
  refine ⟨p, _, rfl, .inl ⟨SqL.of upd_same, fun t ht => ?_⟩⟩
  have g3 := same_new ht (.tup (ys.map V.str))
  exact k t ys _ ((g1.trans g2).trans g3) (SqT.of upd_same) ⟨srt, fun z => (mm z).trans (mem z), ⟨l, nd, hl, mem⟩⟩
end
end Lw
namespace Lw
open PySem L2 OwB
theorem Kp.pt {K : PySem.W.Frag} {p C C' dx : Addr} {H H' : Hp} {v : V} (k : Kp p H H') (hp : H p = some (.ins C dx [])) : ∀ {o : Option Ex}, PtAt K C' H v o → PtAt K C' H' v o
  | none, h => by
    rcases h with h | h | ⟨t, xs, e, h⟩
    · exact .inl h
    · exact .inr (.inl h)
    · exact .inr (.inr ⟨t, xs, e, k.seq hp h⟩)
  | some e, ⟨a, ea, h⟩ => ⟨a, ea, k.ex hp h⟩
theorem Kp.pts {K : PySem.W.Frag} {p C C' dx : Addr} {H H' : Hp} (k : Kp p H H') (hp : H p = some (.ins C dx [])) : ∀ {vs : List V} {os : List (Option Ex)}, PtsAt K C' H vs os → PtsAt K C' H' vs os
  | _, _, .nil => .nil
  | _, _, .cons h t => .cons (k.pt hp h) (Kp.pts k hp t)
abbrev opsOf (os : List (Option Ex)) : List Ex := os.filterMap id
theorem ops_none {os : List (Option Ex)} {i : Nat} (h : os[i]? = some none) : opsOf (os.take (i + 1)) = opsOf (os.take i) := by
  unfold opsOf
  rw [List.take_add_one, h, List.filterMap_append] <;> simp
theorem ops_some {os : List (Option Ex)} {i : Nat} {e : Ex} (h : os[i]? = some (some e)) : opsOf (os.take (i + 1)) = opsOf (os.take i) ++ [e] := by
  unfold opsOf
  rw [List.take_add_one, h, List.filterMap_append] <;> rfl
/-- the accesses of the operands, the nodes -/
def accsOf (es : List Ex) : List (Str × List Str) := (es.map Ex.accs).flatten
def InvOp (K : PySem.W.Frag) (C : Addr) (HA HB : Hp) (D : Addr) (os : List (Option Ex)) (i : Nat) (H : Hp) : Prop := ∃ acc : List V, H D = some (.lst acc) ∧ OpsAt K C HA acc (opsOf (os.take i)) ∧ Same HB H
theorem Kp.ops {K : PySem.W.Frag} {p C C' dx : Addr} {H H' : Hp} (k : Kp p H H') (hp : H p = some (.ins C dx [])) : ∀ {vs : List V} {es : List Ex}, OpsAt K C' H vs es → OpsAt K C' H' vs es
  | _, _, .nil => .nil
  | _, _, .cons h t => .cons (k.ex hp h) (Kp.ops k hp t)
def InvMp {α : Type} (H0 : Hp) (D : Addr) (f : α → V) (l : List α) (i : Nat) (H : Hp) : Prop := H D = some (.lst ((l.take i).map f)) ∧ Same H0 H
theorem InvMp.next {α : Type} {H0 H : Hp} {D : Addr} {f : α → V} {l : List α} {i : Nat} {a : α} (hd0 : H0 D = none) (hH : Same H0 H) (e : l[i]? = some a) : InvMp H0 D f l (i + 1) (upd H D (.lst ((l.take i).map f ++ [f a]))) :=
  ⟨by rw [upd_same, List.take_succ, e, List.map_append] <;> rfl, same_over hH hd0 _⟩
/-- the values at which the accesses of the operands stand -/
inductive AccsAt (K : PySem.W.Frag) (H : Hp) : List Ex → List (List V) → Prop where
  | nil : AccsAt K H [] []
  | cons {e : Ex} {us : List V} {es : List Ex} {uss : List (List V)} (h : PairsAt K H us e.accs) (t : AccsAt K H es uss) : AccsAt K H (e :: es) (us :: uss)
theorem AccsAt.all {K : PySem.W.Frag} {H : Hp} : ∀ {es : List Ex} {uss : List (List V)}, AccsAt K H es uss → PairsAt K H uss.flatten (accsOf es)
  | _, _, .nil => .nil
  | _, _, .cons h t => h.app t.all
/-- where the accesses of each operand stand -/
theorem OpsAt.accs {K : PySem.W.Frag} {C : Addr} {H : Hp} : ∀ {vs : List V} {es : List Ex}, OpsAt K C H vs es → ∃ uss : List (List V), AccsAt K H es uss ∧ vs.length = uss.length ∧
    ∀ (i : Nat) (v : V), vs[i]? = some v → ∃ (a dx tp ta tl : Addr) (k : Str) (m : Int) (us : List V), v = .ref a ∧ H a = some (.ins C dx (fE k tp ta tl m)) ∧ uss[i]? = some us ∧ SqT K H ta us
  | _, _, .nil => ⟨[], .nil, rfl, fun i v e => by cases e⟩
  | _, _, .cons h t => by
    obtain ⟨uss, h1, h2, h3⟩ := OpsAt.accs t
    obtain ⟨_, dx, tp, ta, tl, us, ys, ha, _, hta, hpr, _⟩ := h.hd
    refine ⟨us :: uss, .cons hpr h1, congrArg Nat.succ h2, fun i v e => ?_⟩
    cases i with
    | zero => cases e; exact ⟨_, dx, tp, ta, tl, _, _, us, rfl, ha, rfl, hta⟩
    | succ i => exact h3 i v e
theorem flat_lts : ∀ (as : List (Str × List Str)), flat (fun i => ((as.getD i (Str.empty, [])).2).map V.str) as.length = (lts as).map V.str := by
  intro as
  have key : ∀ (n : Nat), n ≤ as.length → flat (fun i => ((as.getD i (Str.empty, [])).2).map V.str) n = (lts (as.take n)).map V.str := by
    intro n
    induction n with
    | zero => intro _; rfl
    | succ n ih =>
      intro h
      have hn : as[n]? = some as[n] := List.getElem?_eq_getElem (by omega)
      show flat _ n ++ ((as.getD n (Str.empty, [])).2).map V.str = _
      rw [ih (by omega), List.take_add_one, hn, List.getD_eq_getElem?_getD, hn]
      unfold lts
      rw [List.map_append, List.flatten_append, List.map_append]
      simp
  rw [key _ (Nat.le_refl _), List.take_length]
theorem flat_le2 (fs : Nat → List V) (m n i : Nat) (h : (flat fs m).length ≤ n) (hi : i < m) : (flat fs i).length + (fs i).length ≤ n := by
  have step : ∀ d, (flat fs (i + 1)).length ≤ (flat fs (i + 1 + d)).length := by
    intro d
    induction d with
    | zero => exact Nat.le_refl _
    | succ d ih =>
      refine Nat.le_trans ih ?_
      show _ ≤ (flat fs (i + 1 + d) ++ fs (i + 1 + d)).length
      rw [List.length_append]
      exact Nat.le_add_right _ _
  have z := step (m - (i + 1))
  rw [show i + 1 + (m - (i + 1)) = m by omega] at z
  have e : flat fs (i + 1) = flat fs i ++ fs i := rfl
  rw [e, List.length_append] at z
  omega
theorem flat_get : ∀ (uss : List (List V)), flat (fun i => uss.getD i []) uss.length = uss.flatten := by
  intro uss
  have key : ∀ (n : Nat), n ≤ uss.length → flat (fun i => uss.getD i []) n = (uss.take n).flatten := by
    intro n
    induction n with
    | zero => intro _; rfl
    | succ n ih =>
      intro h
      have hn : uss[n]? = some uss[n] := List.getElem?_eq_getElem (by omega)
      show flat (fun i => uss.getD i []) n ++ uss.getD n [] = _
      rw [ih (by omega), List.take_add_one, hn, List.flatten_append, List.getD_eq_getElem?_getD, hn]
      simp
  rw [key _ (Nat.le_refl _), List.take_length]
theorem Kp.sql {K : PySem.W.Frag} {p a C dx : Addr} {H H' : Hp} {xs : List V} {fs : List (Str × V)} (k : Kp p H H') (hp : H p = some (.ins C dx fs)) (h : SqL K H a xs) : SqL K H' a xs := by
  rcases h with (h | ⟨o, h⟩) | h
  · exact .inl (.inl (k _ _ (fun e => by rw [e, hp] at h; cases h) h))
  · exact .inl (.inr ⟨o, k _ _ (fun e => by rw [e, hp] at h; cases h) h⟩)
  · exact .inr h
def spXini (K : PySem.W.Frag) (C : Addr) : Sp := fun vs H Q _ => ∃ (p dx tp : Addr) (k : Str) (xs : List V) (os : List (Option Ex)) (own as : List (Str × List Str)), vs = [.ref p, .str k, .ref tp] ∧ H p = some (.ins C dx []) ∧ SqA K H tp xs ∧ PtsAt K C H xs os ∧ xs.length ≤ 10 ∧
  ((k = "access" ∧ SqT K H tp xs ∧ ∃ pr, own = [pr] ∧ PairAt K H (.ref tp) pr) ∨ (k ≠ "access" ∧ own = [])) ∧ as = own ++ accsOf (opsOf os) ∧ as.length ≤ 900 ∧ (lts as).length < 64 ∧
  ∀ H' : Hp, Kp p H H' → HdE K C H' p k xs as (1 + ((opsOf os).map Ex.nodes).sum) → Q .non H'
abbrev namesX : List Str := ["self", "kind", "parts", "operands", "own", "part", "operand", "pair", "letter"]
section
variable {P : Program} {w : World} {K : PySem.W.Frag} {mg : Str → Option Value} {base : Heap} {f C fI fA : Addr} {fd dI dA : FuncData}
theorem scX : FnScope namesX ["self", "kind", "parts"] (defScope sXini) := ⟨rfl, rfl, rfl, by decide +kernel, rfl, by decide +kernel, by decide +kernel⟩
theorem ok_xini (F : Fun K "__init__" "Expression.__init__" sXini fI dI) (T : Xc K mg C fI) (B : Bt mg) (B2 : Bx mg) (GA : FnOk P w K mg base CX0 1 fA dA ["names"] (spAsc K)) (bA : Binds K dA ["names"] []) (kA : PySem.W.keepIn K (.ref fA) = true) (mA : mg "ascending" = some (.ref fA)) :
    FnOk P w K mg base CX0 2 fI dI ["self", "kind", "parts"] (spXini K C) := by
  refine F.ok scX (fun vs H Q E h => ?_) (fun cdv A outer s H vs Q E hr h => ?_)
  · obtain ⟨p, dx, tp, k, xs, os, own, as, rfl, _⟩ := h
    rfl
  obtain ⟨p, dx, src, k, xs, os, own, as, rfl, hp, htp, hpts, hx10, hown, eas, has, hlt, q⟩ := h
  refine ⟨_, pss_cons (ps_fld (pv 0) (pv 1) rfl)
    (C8.pss_cut (ps_fld (pv 0) (pe_callTy call_tuple_of (by rfl) B.tup (by decide +kernel) (pa_cons (pv 2) pa_nil)) rfl)
    (pss_cons (ps_setLc (i := 3) (own := [("part", 5)]) (g := gName 5) (tt := tB (tCB (rIsi K) (tCons (tVar 5) (tCons (tC (.ref C)) tNil)))) (te := tVar 5) rfl scX.nd rfl rfl (sw_true rfl rfl rfl (by decide +kernel)) (pi_seq (pv 2)) (blkOk_by (N := namesX) (sc := defScope sXini) (by decide +kernel)) (fun _ _ _ _ _ => pg_name (i := 5) scX.nd rfl (Or.inl rfl))
      (fun _ _ _ _ _ => pts_one (pt_val (pe_callB call_isi (by rfl) B.isi (by decide +kernel) (pa_cons (pv 5) (pa_cons (pe_glob (v := .ref C) (by rfl) T.mC rfl) pa_nil))))) (fun _ _ _ _ _ => pv 5))
    (pss_cons (ps_fld (pv 0) (pe_op op_add pe_int (pe_callB (cr_sum rfl) (by rfl) B2.sum (by decide +kernel) (pa_cons (pe_lc (own := [("operand", 6)]) (g := gName 6) (tt := tYes) (te := tFld K (tVar 6) "node_count") rfl scX.nd (pi_list (pv 3)) (blkOk_by (N := namesX) (sc := defScope sXini) (by decide +kernel)) (fun _ _ _ _ _ => pg_name (i := 6) scX.nd rfl (Or.inl rfl)) (fun _ _ _ _ _ => pts_nil) (fun _ _ _ _ _ => pe_fld (pv 6) rfl)) pa_nil))) rfl)
    (C8.pss_cut (ps_set (i := 4) scX.nd rfl (Or.inl rfl) (pe_ifExp (pt_cmpR op_eq (pv 1) pe_str (nomark _)) (pe_lst (pa_cons (pe_fld (pv 0) rfl) pa_nil)) (pe_lst pa_nil)))
    (pss_cons (ps_fld (pv 0) (pe_callTy call_tuple_of (by rfl) B.tup (by decide +kernel) (pa_cons (pe_op op_cat (pv 4) (pe_lc2 (own := [("operand", 6), ("pair", 7)]) (vs1 := [7]) (g := gName 6) (g1 := gName 7) (tt := tYes) (tt1 := tYes) (wi1 := iTup K (tFld K (tVar 6) "accesses")) (te := tVar 7) rfl scX.nd (pi_list (pv 3)) (blkOk_by (N := namesX) (sc := defScope sXini) (by decide +kernel)) (by decide)
        (fun _ _ _ _ _ => pg_name (i := 6) scX.nd rfl (Or.inl rfl)) (fun _ _ _ _ _ => pts_nil) (fun _ _ _ _ _ => pi_tup (pe_fld (pv 6) rfl)) (fun _ _ _ _ _ => pg_name (i := 7) scX.nd rfl (Or.inl rfl)) (fun _ _ _ _ _ => pts_nil) (fun _ _ _ _ _ => pv 7))) pa_nil)) rfl)
    (pss_one (ps_fld (pv 0) (pe_call GA hr rfl mA kA bA .nil pass0 (pa_cons (pe_lc2 (own := [("pair", 7), ("letter", 8)]) (vs1 := [8]) (g := gName 7) (g1 := gName 8) (tt := tYes) (tt1 := tYes) (wi1 := iTup K (tOp (rIxT K) (tVar 7) (tC (.int 1)))) (te := tVar 8) rfl scX.nd (pi_tup (pe_fld (pv 0) rfl)) (blkOk_by (N := namesX) (sc := defScope sXini) (by decide +kernel)) (by decide)
        (fun _ _ _ _ _ => pg_name (i := 7) scX.nd rfl (Or.inl rfl)) (fun _ _ _ _ _ => pts_nil) (fun _ _ _ _ _ => pi_tup (pe_ix ix_tup (pv 7) pe_int (fun _ _ => rfl))) (fun _ _ _ _ _ => pg_name (i := 8) scX.nd rfl (Or.inl rfl)) (fun _ _ _ _ _ => pts_nil) (fun _ _ _ _ _ => pv 8)) pa_nil)) rfl))))))), ?_⟩
  refine ⟨_, rfl, _, rfl, p, C, dx, _, rfl, hp, T.ic.cl, T.nK, by decide, ?_⟩
  have k1 : Kp p H (upd H p (.ins C dx (putF "kind" (.str k) []))) := Kp.upd (fun b o _ e => e) _
  refine ⟨fun σ' HB => ∃ (Hs : Hp) (tq : Addr), σ' = [some (.ref p), some (.str k), some (.ref src), none, none, none, none, none, none] ∧ Kp p H Hs ∧ Hs p = some (.ins C dx []) ∧ SqT K Hs tq xs ∧ SqA K Hs src xs ∧ PtsAt K C Hs xs os ∧ ((k = "access" ∧ ∃ pr, own = [pr] ∧ PairAt K Hs (.ref tq) pr) ∨ (k ≠ "access" ∧ own = [])) ∧ Kp p Hs HB ∧ HB p = some (.ins C dx (putF "parts" (.ref tq) (putF "kind" (.str k) []))), ?_, ?_⟩
  · have alt : (SqT K H src xs ∧ ((k = "access" ∧ ∃ pr, own = [pr] ∧ PairAt K H (.ref src) pr) ∨ (k ≠ "access" ∧ own = []))) ∨ (SqL K H src xs ∧ k ≠ "access" ∧ own = []) := by
      rcases hown with ⟨ek, hT, pr, eo, hpr⟩ | ⟨nk, eo⟩
      · exact .inl ⟨hT, .inl ⟨ek, pr, eo, hpr⟩⟩
      · exact htp.elim (fun h => .inr ⟨h, nk, eo⟩) (fun h => .inl ⟨h, .inr ⟨nk, eo⟩⟩)
    rcases alt with ⟨hT, hown'⟩ | ⟨hl, nk, eo⟩
    · refine ⟨_, rfl, src, _, rfl, .inr ⟨k1.seq hp hT, ?_⟩⟩
      exact ⟨_, rfl, p, C, dx, _, rfl, upd_same, T.ic.cl, T.nP, (by show 1 < 1000; decide), ⟨H, src, rfl, fun b o _ e => e, hp, hT, .inr hT, hpts, hown', k1.upd _, upd_same⟩⟩
    · refine ⟨_, rfl, src, _, rfl, .inl ⟨k1.sql hp hl, fun l hl0 => ?_⟩⟩
      have nlp : l ≠ p := fun e => by
        rw [e, upd_same] at hl0
        cases hl0
      have hl1 : H l = none := by rw [upd_ne nlp] at hl0; exact hl0
      have g0 := same_new hl1 (.tup xs)
      refine ⟨_, rfl, p, C, dx, putF "kind" (.str k) [], rfl, by rw [upd_ne nlp.symm, upd_same], T.ic.cl, T.nP, (by show 1 < 1000; decide), ?_⟩
      refine ⟨upd H l (.tup xs), l, rfl, fun b o _ e => g0 _ _ e, g0 _ _ hp, SqT.of upd_same, .inl (Same.seq g0 hl), Kp.pts (H' := upd H l (.tup xs)) (fun b o _ e => g0 _ _ e) hp hpts, .inr ⟨nk, eo⟩, fun b o n e => ?_, upd_same⟩
      rw [upd_ne n]
      by_cases hb : b = l
      · subst hb
        rw [upd_same] at e ⊢
        exact e
      · rw [upd_ne hb] at e ⊢
        rw [upd_ne n]
        exact e
  clear k1 hown hpts htp hp
  rintro σ' HB ⟨H, tp, rfl, kS, hp, htp, hsrcS, hpts, hown, k2, hp2⟩
  have q : ∀ H' : Hp, Kp p H H' → HdE K C H' p k xs as (1 + ((opsOf os).map Ex.nodes).sum) → Q .non H' := fun H' g h => q H' (fun b o n e => g b o n (kS b o n e)) h
  clear kS
  have srcB : SqA K HB src xs := hsrcS.elim (fun h => .inl (k2.sql hp h)) (fun h => .inr (k2.seq hp h))
  have tpB := k2.seq hp htp
  have ptB := k2.pts hp hpts
  -- the operands
  refine ⟨_, rfl, src, rfl, ?_⟩
  refine lc_seq (K := K) (a := src) (xs := xs) srcB (fun D1 => InvOp K C H HB D1 os) (fun D1 hD1 => ⟨[], upd_same, .nil, same_new hD1 _⟩) (fun D1 i H' hD1 ⟨_, _, _, g⟩ => ⟨srcB.same g, g⟩) (fun D1 hD1 i x H' hx ⟨acc, hd, ho, g⟩ => ?_) (fun D1 hD1 H1 inv => ?_)
  · refine ⟨rfl, ?_⟩
    obtain ⟨o, eo, hpt0⟩ := hpts.get hx
    have hpt := k2.pt hp hpt0
    cases o with
    | none =>
      have fin : InvOp K C H HB D1 os (i + 1) H' := ⟨acc, hd, by rw [ops_none eo]; exact ho, g⟩
      rcases hpt with ⟨j, rfl⟩ | ⟨z, rfl⟩ | ⟨t, ys, rfl, ht⟩
      · exact ⟨_, rfl, _, .ref C, _, .ref C, false, rfl, .own C, .base (.int j), T.sI, _, rfl, iteF fin⟩
      · exact ⟨_, rfl, _, .ref C, _, .ref C, false, rfl, .own C, .base (.str z), T.sS, _, rfl, iteF fin⟩
      · exact ⟨_, rfl, _, .ref C, _, .ref C, false, rfl, .own C, tyT (seqT g ht), T.sT, _, rfl, iteF fin⟩
    | some e =>
      obtain ⟨a, rfl, he⟩ := hpt0
      obtain ⟨_, dx', _, _, _, _, _, ha, _⟩ := (k2.ex hp he).hd
      refine ⟨_, rfl, _, .ref C, _, .ref C, true, rfl, .own C, tyI T.ic (g _ _ ha), T.ic.me, _, rfl, iteT ?_⟩
      have hal : acc.length ≤ os.length := by
        rw [ho.len]
        exact Nat.le_trans (List.length_filterMap_le _ _) (by rw [List.length_take]; exact Nat.min_le_right _ _)
      have hol := ptB.len
      exact ⟨_, rfl, acc, hd, small1000 (by omega), acc ++ [.ref a], upd_same, by rw [ops_some eo]; exact ho.snoc he, same_over g hD1 _⟩
  obtain ⟨acc, hd1, ho1, g1⟩ := inv
  rw [List.take_of_length_le (by rw [ptB.len]; exact Nat.le_refl _)] at ho1
  generalize hes : opsOf os = es at ho1 eas q
  have hel : es.length ≤ 10 := by
    rw [← hes]
    exact Nat.le_trans (List.length_filterMap_le _ _) (by rw [← hpts.len]; exact hx10)
  have k3 := k2.same g1
  have hop1 := k3.ops hp ho1
  -- the nodes
  refine ⟨_, rfl, D1, rfl, ⟨_, SqL.of hd1⟩, fun D2 hD2 => ?_⟩
  refine lc_list (K := K) (a := D1) (xs := acc) (InvMp H1 D2 (fun e : Ex => V.int e.nodes) es) ⟨upd_same, same_new hD2 _⟩ (fun i H' _ ⟨_, g⟩ => SqL.of (g _ _ hd1)) (fun i x H' hx hv => ?_) ?_
  · obtain ⟨a, e, rfl, ee, he⟩ := hop1.get hx
    obtain ⟨_, dx', _, _, _, _, _, ha, _⟩ := he.hd
    refine ⟨rfl, kept ?_⟩
    refine ⟨_, rfl, a, C, dx', _, _, rfl, hv.2 _ _ ha, T.ic.cl, T.nN, fE_n, ?_⟩
    exact ⟨_, hv.1, by rw [List.length_map, List.length_take]; exact small1000 (by omega), InvMp.next (f := fun e : Ex => V.int e.nodes) hD2 hv.2 ee⟩
  rintro H2 ⟨hd2, g2⟩
  rw [List.take_of_length_le (by rw [ho1.len]; exact Nat.le_refl _)] at hd2
  have k4 := k3.same g2
  refine ⟨D2, es.map Ex.nodes, rfl, SqL.of (by rw [hd2, List.map_map] <;> rfl), _, _, rfl, rfl, _, rfl, p, C, dx, _, rfl, g2 _ _ (g1 _ _ hp2), T.ic.cl, T.nN, (by show 2 < 1000; decide), ?_⟩
  dsimp only
  generalize hm : (1 : Int) + (es.map Ex.nodes).sum = m at q ⊢
  have n1p : D1 ≠ p := fun e => by
    rw [e, g1 _ _ hp2] at hd1
    cases hd1
  have hdC : upd H2 p (.ins C dx (putF "node_count" (.int m) (putF "parts" (.ref tp) (putF "kind" (.str k) [])))) D1 = some (.lst acc) := by
    rw [upd_ne n1p]
    exact g2 _ _ hd1
  have kC := k4.upd (.ins C dx (putF "node_count" (.int m) (putF "parts" (.ref tp) (putF "kind" (.str k) []))))
  have hpC : upd H2 p (.ins C dx (putF "node_count" (.int m) (putF "parts" (.ref tp) (putF "kind" (.str k) [])))) p = some (.ins C dx (putF "node_count" (.int m) (putF "parts" (.ref tp) (putF "kind" (.str k) [])))) := upd_same
  revert hdC kC hpC
  generalize upd H2 p (.ins C dx (putF "node_count" (.int m) (putF "parts" (.ref tp) (putF "kind" (.str k) [])))) = HC
  intro hdC kC hpC
  have flp : (putF "node_count" (V.int m) (putF "parts" (.ref tp) (putF "kind" (.str k) []))).lookup ("parts" : Str) = some (.ref tp) := by
    rw [lookup_putF, if_neg (nb _ _ (by decide +kernel)), lookup_putF, if_pos rfl]
  clear hd2 g2 k4 k3 g1 hop1 hd1 ptB tpB hp2 k2 hm
  -- its own access
  refine ⟨fun σ' H' => ∃ (Lo : Addr) (ovs : List V), σ' = [some (.ref p), some (.str k), some (.ref src), some (.ref D1), some (.ref Lo), none, none, none, none] ∧ H' Lo = some (.lst ovs) ∧ PairsAt K H' ovs own ∧ ovs.length ≤ 1 ∧ Same HC H', ?_, ?_⟩
  · refine ⟨_, rfl, rfl, _, rfl, ?_⟩
    refine ite2 (fun c => ?_) (fun c => ?_)
    · have ek : k = "access" := by
        have z := of_decide_eq_true c
        cases z
        rfl
      rcases hown with ⟨_, pr, rfl, hpr⟩ | ⟨n, _⟩
      · refine ⟨_, rfl, p, C, dx, _, _, rfl, hpC, T.ic.cl, T.nP, flp, (by show 1 ≤ sizeLine; decide), fun l hl => ?_⟩
        have g := same_new hl (.lst [.ref tp])
        exact ⟨l, _, rfl, upd_same, .cons ((kC.pair hp hpr).same g) .nil, (by show 1 ≤ 1; decide), g⟩
      · exact absurd ek n
    · have ek : k ≠ "access" := fun e => c (decide_eq_true (congrArg V.str e))
      rcases hown with ⟨e, _⟩ | ⟨_, rfl⟩
      · exact absurd e ek
      · refine ⟨Nat.zero_le _, fun l hl => ?_⟩
        have g := same_new hl (.lst [])
        exact ⟨l, _, rfl, upd_same, .nil, by decide, g⟩
  rintro σ' H3 ⟨Lo, ovs, rfl, hLo, hprs, hovs, g3⟩
  have k5 := kC.same g3
  have hd3 := g3 _ _ hdC
  obtain ⟨uss, hacs, hul, hug⟩ := (k5.ops hp ho1).accs
  have hall := hacs.all
  have eaccs := hall.len
  have hL1 : uss.flatten.length ≤ 900 := by
    rw [eaccs]
    rw [eas, List.length_append] at has
    omega
  refine ⟨_, rfl, _, rfl, D1, rfl, ⟨_, SqL.of hd3⟩, fun D3 hD3 => ?_⟩
  refine lc2_it (K := K) (xs := acc) (i0 := 6) (j0 := 7) (fun i => uss.getD i []) hD3 (outer_list (SqL.of hd3)) (fun i x H' R hx g hR => ?_) (by rw [hul, flat_get]; omega) (fun i hi => flat_le2 _ acc.length 1000 i (by rw [hul, flat_get]; omega) hi) (fun H4 hd4 g4 => ?_) (fun _ => rfl) (fun _ _ => rfl) (fun _ _ => rfl)
  · obtain ⟨a, dx', tp', ta', tl', k', m', us, rfl, ha, eu, hta⟩ := hug i x hx
    refine ⟨_, rfl, a, C, dx', _, _, rfl, g _ _ ha, T.ic.cl, T.nA, fE_a, ta', rfl, ⟨_, seqT g hta⟩, hR ta' ?_⟩
    show SqT K H3 ta' (uss.getD i [])
    rw [List.getD_eq_getElem?_getD, eu]
    exact hta
  rw [hul, flat_get] at hd4
  refine ⟨Lo, D3, _, _, rfl, rfl, g4 _ _ hLo, hd4, Nat.le_of_lt (small1000 (by omega)), fun L5 hL5 => ?_⟩
  have g5 := same_new hL5 (.lst (ovs ++ uss.flatten))
  refine ⟨L5, _, rfl, .inl ⟨SqL.of upd_same, fun ta hta => ?_⟩⟩
  have g6 := same_new hta (.tup (ovs ++ uss.flatten))
  have g36 := (g4.trans g5).trans g6
  have hp6 := g36 _ _ (g3 _ _ hpC)
  refine ⟨_, rfl, p, C, dx, _, rfl, hp6, T.ic.cl, T.nA, (by show 3 < 1000; decide), ?_⟩
  have k6 := ((k5.same g36).upd (.ins C dx (putF "accesses" (.ref ta) (putF "node_count" (.int m) (putF "parts" (.ref tp) (putF "kind" (.str k) []))))))
  have hpD : upd (upd (upd H4 L5 (.lst (ovs ++ uss.flatten))) ta (.tup (ovs ++ uss.flatten))) p (.ins C dx (putF "accesses" (.ref ta) (putF "node_count" (.int m) (putF "parts" (.ref tp) (putF "kind" (.str k) []))))) p = some (.ins C dx (putF "accesses" (.ref ta) (putF "node_count" (.int m) (putF "parts" (.ref tp) (putF "kind" (.str k) []))))) := upd_same
  have taD : SqT K (upd (upd (upd H4 L5 (.lst (ovs ++ uss.flatten))) ta (.tup (ovs ++ uss.flatten))) p (.ins C dx (putF "accesses" (.ref ta) (putF "node_count" (.int m) (putF "parts" (.ref tp) (putF "kind" (.str k) [])))))) ta (ovs ++ uss.flatten) := by
    refine SqT.of ?_
    rw [upd_ne (ne_of upd_same hp6 (by intro z; cases z))]
    exact upd_same
  have kk : Kp p H3 (upd (upd (upd H4 L5 (.lst (ovs ++ uss.flatten))) ta (.tup (ovs ++ uss.flatten))) p (.ins C dx (putF "accesses" (.ref ta) (putF "node_count" (.int m) (putF "parts" (.ref tp) (putF "kind" (.str k) [])))))) := Kp.upd (fun b o _ e => g36 _ _ e) _
  have prD := (kk.pairs (g3 _ _ hpC) hprs).app (kk.pairs (g3 _ _ hpC) hall)
  rw [← eas] at prD
  revert k6 hpD taD prD
  generalize upd (upd (upd H4 L5 (.lst (ovs ++ uss.flatten))) ta (.tup (ovs ++ uss.flatten))) p (.ins C dx (putF "accesses" (.ref ta) (putF "node_count" (.int m) (putF "parts" (.ref tp) (putF "kind" (.str k) []))))) = HD
  intro k6 hpD taD prD
  clear kk hp6 g36 g6 hta g5 hL5 hd4 g4 k5 hd3 hacs hug hall
  -- the letters
  have exl := prD.len
  refine ⟨_, rfl, p, C, dx, _, _, rfl, hpD, T.ic.cl, T.nA, (by rw [lookup_putF, if_pos rfl]), ta, rfl, ⟨_, taD⟩, fun D5 hD5 => ?_⟩
  have hfl : (flat (fun i => ((as.getD i (Str.empty, [])).2).map V.str) (ovs ++ uss.flatten).length).length ≤ 1000 := by
    rw [exl, flat_lts, List.length_map]
    omega
  refine lc2_it (K := K) (xs := ovs ++ uss.flatten) (i0 := 7) (j0 := 8) (fun i => ((as.getD i (Str.empty, [])).2).map V.str) hD5 (outer_tup taD) (fun i x H' R hx g hR => ?_) hfl (fun i hi => flat_le2 _ _ 1000 i hfl hi) (fun H6 hd6 g6 => ?_) (fun _ => rfl) (fun _ _ => rfl) (fun _ _ => rfl)
  · obtain ⟨pr, epr, a, t, rfl, h1, h2⟩ := prD.get hx
    refine ⟨_, rfl, a, _, 1, .ref t, rfl, rfl, seqT g h1, rfl, t, rfl, ⟨_, seqT g h2⟩, hR t ?_⟩
    show SqT K HD t ((as.getD i (Str.empty, [])).2.map V.str)
    rw [List.getD_eq_getElem?_getD, epr]
    exact h2
  rw [exl, flat_lts] at hd6
  refine ⟨D5, lts as, rfl, SqL.of hd6, hlt, fun tl ys H7 g7 htl hlet => ?_⟩
  have hp7 := g7 _ _ (g6 _ _ hpD)
  refine ⟨_, rfl, p, C, dx, _, rfl, hp7, T.ic.cl, T.nL, (by show 4 < 1000; decide), ?_⟩
  have kD : Kp p HD (upd H7 p (.ins C dx (fE k tp ta tl m))) := Kp.upd (fun b o _ e => g7 _ _ (g6 _ _ e)) _
  have k7 : Kp p H (upd H7 p (.ins C dx (fE k tp ta tl m))) := fun b o n e => kD b o n (k6 b o n e)
  have kE : Kp p H7 (upd H7 p (.ins C dx (fE k tp ta tl m))) := Kp.upd (fun b o _ e => e) _
  exact q _ k7 ⟨dx, tp, ta, tl, _, ys, upd_same, k7.seq hp htp, kD.seq hpD taD, kD.pairs hpD prD, kE.seq hp7 htl, hlet⟩
end
end Lw
namespace Lw
open PySem L2 OwB
abbrev sAcc : Stmt := topS 40
abbrev sChkL : Stmt := topS 41
abbrev sChkE : Stmt := topS 43
abbrev sOpd : Stmt := topS 44
abbrev sJoin : Stmt := topS 46
theorem sIx_nat (n d i : Nat) : HT.sIx n d (some (i : Int)) = min i n := by
  unfold HT.sIx
  simp only
  split
  · omega
  · omega
theorem sIx_none (n d : Nat) : HT.sIx n d none = d := rfl
theorem cut_take (xs : List V) (i : Nat) (h : i ≤ xs.length) : cutV xs none (some (i : Int)) = xs.take i := by
  unfold cutV
  rw [sIx_nat, sIx_none, List.drop_zero, Nat.sub_zero, Nat.min_eq_left h]
theorem in_strs (z : Str) : ∀ ls : List Str, inV (.str z) (ls.map V.str) = decide (z ∈ ls)
  | [] => by simp [inV]
  | y :: r => by
    have q := in_strs z r
    unfold inV at q ⊢
    rw [List.map_cons, List.any_cons, q]
    show ((y == z) || decide (z ∈ r)) = decide (z ∈ y :: r)
    by_cases h : y = z
    · subst h
      simp
    · have h2 : ¬ z = y := fun e => h e.symm
      simp [h, h2]
theorem flat_strs' (ls : List Str) : (ls.map V.str).all flatV = true := by
  rw [List.all_eq_true]
  intro x hx
  obtain ⟨i, _, rfl⟩ := List.mem_map.mp hx
  rfl
/-- a for over enumerate(tuple) -/
theorem for_enumT {K : PySem.W.Frag} {a : Addr} {xs : List V} {g : TG} {tb : TS} {D : Ends} {σ : St} {H : Hp} (Pv : Nat → St → Hp → Prop) (h0 : Pv 0 σ H) (hl : ∀ i σ H, Pv i σ H → SqT K H a xs)
    (hs : ∀ i σ H x T, xs[i]? = some x → Pv i σ H → H T = none → g (.ref T) σ (upd H T (.tup [.int (i : Nat), x])) fun σ2 H2 => tb { D with nx := Pv (i + 1), ct := Pv (i + 1), bk := D.nx } σ2 H2) (hd : ∀ σ H, Pv xs.length σ H → D.nx σ H) :
    ∃ W : Nat → Nat → St → Hp → Prop, (∃ m, W 0 m σ H) ∧ ∀ i m σ H, W i m σ H →
      ((EnT.IteT K a).stop i H ∧ D.nx σ H) ∨ ((EnT.IteT K a).go i H ∧ ∃ N : St → Hp → Prop, (∀ σ' H', N σ' H' → ∃ m', m' < m ∧ W (i + 1) m' σ' H') ∧ ∀ x H', (EnT.IteT K a).yld i H x H' → g x σ H' fun σ2 H2 => tb { D with nx := N, ct := N, bk := D.nx } σ2 H2) := by
  refine ⟨fun i m σ H => m = xs.length - i ∧ i ≤ xs.length ∧ Pv i σ H, ⟨xs.length, by simp, Nat.zero_le _, h0⟩, ?_⟩
  rintro i m σ H ⟨rfl, hi, p⟩
  have sq := hl i σ H p
  by_cases hlt : i < xs.length
  · refine .inr ⟨⟨xs, xs[i], sq, List.getElem?_eq_getElem hlt⟩, Pv (i + 1), fun σ' H' p' => ⟨xs.length - (i + 1), by omega, rfl, hlt, p'⟩, fun x H' y => ?_⟩
    obtain ⟨T, x', rfl, hT, rfl, hx⟩ := y
    exact hs i σ H x' T (hx xs sq) p hT
  · have e : i = xs.length := by omega
    subst e
    exact .inl ⟨⟨xs, sq, rfl⟩, hd σ H p⟩
theorem same2 {H : Hp} {x dx : Addr} (hx : H x = none) (hd : H dx = none) (o1 o2 : HO) : Same H (upd (upd H dx o1) x o2) := fun b o e => by rw [upd_ne (ne_of_none e hx), upd_ne (ne_of_none e hd)]; exact e
theorem PtsAt.same {K : PySem.W.Frag} {C : Addr} {H H' : Hp} (g : Same H H') : ∀ {vs : List V} {os : List (Option Ex)}, PtsAt K C H vs os → PtsAt K C H' vs os
  | _, _, .nil => .nil
  | _, _, .cons h t => .cons (h.same g) (PtsAt.same g t)
/-- a new expression -/
theorem newEx {K : PySem.W.Frag} {C : Addr} {H1 : Hp} {k : Str} {tp : Addr} {xs : List V} {os : List (Option Ex)} {own as : List (Str × List Str)} (htp : SqT K H1 tp xs) (hpts : PtsAt K C H1 xs os) (h10 : xs.length ≤ 10)
    (hown : (k = "access" ∧ ∃ pr, own = [pr] ∧ PairAt K H1 (.ref tp) pr) ∨ (k ≠ "access" ∧ own = [])) (eas : as = own ++ accsOf (opsOf os)) (has : as.length ≤ 900) (hlt : (lts as).length < 64) {x dx : Addr} (hx : H1 x = none) (hd : H1 dx = none) {Q' : VK}
    (q : ∀ H' : Hp, Same H1 H' → HdE K C H' x k xs as (1 + ((opsOf os).map Ex.nodes).sum) → Q' .non H') : spXini K C [.ref x, .str k, .ref tp] (upd (upd H1 dx (.own x)) x (.ins C dx [])) Q' E0 := by
  have g := same2 hx hd (.own x) (.ins C dx [])
  exact ⟨x, dx, tp, k, xs, os, own, as, rfl, upd_same, .inr (seqT g htp), hpts.same g, h10, hown.imp (fun ⟨e, pr, e2, h⟩ => ⟨e, seqT g htp, pr, e2, h.same g⟩) id, eas, has, hlt, fun H' kp h => q H' (made_same hx hd kp) h⟩
/-- .. from a list of parts -/
theorem newExL {K : PySem.W.Frag} {C : Addr} {H1 : Hp} {k : Str} {L : Addr} {xs : List V} {os : List (Option Ex)} {as : List (Str × List Str)} (hL : SqL K H1 L xs) (hpts : PtsAt K C H1 xs os) (h10 : xs.length ≤ 10) (nk : k ≠ "access") (eas : as = accsOf (opsOf os)) (has : as.length ≤ 900) (hlt : (lts as).length < 64) {x dx : Addr} (hx : H1 x = none) (hd : H1 dx = none) {Q' : VK}
    (q : ∀ H' : Hp, Same H1 H' → HdE K C H' x k xs as (1 + ((opsOf os).map Ex.nodes).sum) → Q' .non H') : spXini K C [.ref x, .str k, .ref L] (upd (upd H1 dx (.own x)) x (.ins C dx [])) Q' E0 := by
  have g := same2 hx hd (.own x) (.ins C dx [])
  exact ⟨x, dx, L, k, xs, os, [], as, rfl, upd_same, .inl (Same.seq g hL), hpts.same g, h10, .inr ⟨nk, rfl⟩, by rw [List.nil_append]; exact eas, has, hlt, fun H' kp h => q H' (made_same hx hd kp) h⟩
/-- bounds -/
structure Sm0 (e : Ex) : Prop where
  as : e.accs.length ≤ 400
  ls : (lts e.accs).length ≤ 31
theorem lts_app (a b : List (Str × List Str)) : lts (a ++ b) = lts a ++ lts b := by
  unfold lts
  rw [List.map_append, List.flatten_append]
theorem kne (a b : String) (h : (Str.ofString a == Str.ofString b) = false := by decide +kernel) : Str.ofString a ≠ Str.ofString b := nb a b h
section
variable {P : Program} {w : World} {K : PySem.W.Frag} {mg : Str → Option Value} {base : Heap} {f g g2 g3 C fI : Addr} {fd gd gd2 gd3 dI : FuncData}
abbrev XI (P : Program) (w : World) (K : PySem.W.Frag) (mg : Str → Option Value) (base : Heap) (C fI : Addr) (dI : FuncData) : Prop := FnOk P w K mg base CX0 2 fI dI ["self", "kind", "parts"] (spXini K C)
def spNum (K : PySem.W.Frag) (C : Addr) : Sp := fun vs H Q _ => ∃ n : Int, vs = [.int n] ∧ ∀ (p : Addr) (H' : Hp), Same H H' → ExAt K C H' (.num n) p → Q (.ref p) H'
theorem scN : FnScope ["n"] ["n"] (defScope sNum) := ⟨rfl, rfl, rfl, by decide +kernel, rfl, by decide +kernel, by decide +kernel⟩
theorem ok_num (F : Fun K "number" "number" sNum f fd) (T : Xc K mg C fI) (FI : XI P w K mg base C fI dI) (bI : Binds K dI ["self", "kind", "parts"] []) : FnOk P w K mg base CX0 4 f fd ["n"] (spNum K C) := by
  refine F.ok scN (fun vs H Q E h => ?_) (fun cdv A outer s H vs Q E hr h => ?_)
  · obtain ⟨n, rfl, _⟩ := h
    rfl
  obtain ⟨n, rfl, k⟩ := h
  refine ⟨_, pss_one (ps_ret (pe_make T.mkC FI hr (by rfl) T.mC bI .nil pass0 (pa_cons pe_str (pa_cons (pe_tup (pa_cons (pv 0) pa_nil)) pa_nil)))), ?_⟩
  refine ⟨_, rfl, (by show 1 ≤ sizeLine; decide), fun tp htp => ?_⟩
  have g1 := same_new htp (.tup [.int n])
  intro x dx hx hd _
  exact newEx (os := [none]) (own := []) (as := []) (SqT.of upd_same) (.cons (.inl ⟨n, rfl⟩) .nil) (by show 1 ≤ 10; decide) (.inr ⟨kne "number" "access", rfl⟩) rfl (by decide) (by decide) hx hd (fun H' g h => ⟨rfl, k x H' (g1.trans g) h⟩)
def spChkE (K : PySem.W.Frag) (C : Addr) : Sp := fun vs H Q _ => ∃ (p : Addr) (e : Ex), vs = [.ref p] ∧ ExAt K C H e p ∧ Q .non H
theorem scCE : FnScope ["x"] ["x"] (defScope sChkE) := ⟨rfl, rfl, rfl, by decide +kernel, rfl, by decide +kernel, by decide +kernel⟩
/-- the constants of the text -/
structure Kc (K : PySem.W.Frag) (mg : Str → Option Value) (AK : Addr) : Prop where
  mA : mg "ASSIGNED_KINDS" = some (.ref AK)
  tA : ∀ H : Hp, SqT K H AK [.str "gain", .str "loss"]
theorem ok_chkE {AK : Addr} (F : Fun K "check_expression" "check_expression" sChkE f fd) (T : Xc K mg C fI) (Kx : Kc K mg AK) : FnOk P w K mg base CX0 1 f fd ["x"] (spChkE K C) := by
  refine F.ok scCE (fun vs H Q E h => ?_) (fun cdv A outer s H vs Q E hr h => ?_)
  · obtain ⟨p, e, rfl, _⟩ := h
    rfl
  obtain ⟨p, e, rfl, he, k⟩ := h
  refine ⟨_, pss_one (ps_if (pt_cmpR (r := rIn K false) op_in_seq (pe_fld (pv 0) rfl) (pe_glob (v := .ref AK) (by rfl) Kx.mA rfl) (by rfl)) (pss_one ps_never) pss_nil), ?_⟩
  obtain ⟨_, dx, _, _, _, _, _, hp, _⟩ := he.hd
  obtain ⟨n1, n2⟩ := he.noGain
  refine ⟨_, rfl, p, C, dx, _, _, rfl, hp, T.ic.cl, T.nK, fE_k, AK, _, rfl, .inr (Kx.tA H), rfl, rfl, _, rfl, ?_⟩
  have z : inV (.str e.kind) [.str "gain", .str "loss"] = false := by
    have z2 := in_strs e.kind ["gain", "loss"]
    rw [show inV (.str e.kind) [.str "gain", .str "loss"] = inV (.str e.kind) ((["gain", "loss"] : List Str).map V.str) from rfl, z2]
    simp [n1, n2]
  exact iteN (c := inV (.str e.kind) [.str "gain", .str "loss"]) z k
/-- an operand: an int, or an expression -/
def OpV (K : PySem.W.Frag) (C : Addr) (H : Hp) (v : V) (e : Ex) : Prop := (∃ i : Int, v = .int i ∧ e = .num i) ∨ ∃ p, v = .ref p ∧ ExAt K C H e p
theorem OpV.same {H H' : Hp} {v : V} {e : Ex} (g : Same H H') : OpV K C H v e → OpV K C H' v e
  | .inl h => .inl h
  | .inr ⟨p, ep, h⟩ => .inr ⟨p, ep, h.same g⟩
def spOpd (K : PySem.W.Frag) (C : Addr) : Sp := fun vs H Q _ => ∃ (v : V) (e : Ex), vs = [v] ∧ OpV K C H v e ∧ ∀ (p : Addr) (H' : Hp), Same H H' → ExAt K C H' e p → Q (.ref p) H'
theorem scOp : FnScope ["x"] ["x"] (defScope sOpd) := ⟨rfl, rfl, rfl, by decide +kernel, rfl, by decide +kernel, by decide +kernel⟩
theorem ok_opd (F : Fun K "operand_of" "operand_of" sOpd f fd) (T : Xc K mg C fI) (B : Bt mg) (GW : FnOk P w K mg base CX0 1 g gd ["n"] (spWh C)) (bW : Binds K gd ["n"] []) (kW : PySem.W.keepIn K (.ref g) = true) (mW : mg "is_whole" = some (.ref g))
    (GN : FnOk P w K mg base CX0 4 g2 gd2 ["n"] (spNum K C)) (bN : Binds K gd2 ["n"] []) (kN : PySem.W.keepIn K (.ref g2) = true) (mN : mg "number" = some (.ref g2))
    (GE : FnOk P w K mg base CX0 1 g3 gd3 ["x"] (spChkE K C)) (bE : Binds K gd3 ["x"] []) (kE : PySem.W.keepIn K (.ref g3) = true) (mE : mg "check_expression" = some (.ref g3)) : FnOk P w K mg base CX0 5 f fd ["x"] (spOpd K C) := by
  refine F.ok scOp (fun vs H Q E h => ?_) (fun cdv A outer s H vs Q E hr h => ?_)
  · obtain ⟨v, e, rfl, _⟩ := h
    rfl
  obtain ⟨v, e, rfl, hv, k⟩ := h
  have hr1 := hr.mono (show 1 ≤ 4 by decide)
  refine ⟨_, pss_cons (ps_if (pt_val (pe_call GW hr1 rfl mW kW bW .nil pass0 (pa_cons (pv 0) pa_nil))) (pss_one (ps_ret (pe_call GN hr rfl mN kN bN .nil pass0 (pa_cons (pv 0) pa_nil)))) pss_nil)
    (pss_cons (ps_if (pt_not (pt_val (pe_callB (C8.call_isC T.ic) (by rfl) B.isi (by decide +kernel) (pa_cons (pv 0) (pa_cons (pe_glob (v := .ref C) (by rfl) T.mC rfl) pa_nil))))) (pss_one ps_never) pss_nil)
    (pss_cons (ps_expr (pe_call GE hr1 rfl mE kE bE .nil pass0 (pa_cons (pv 0) pa_nil))) (pss_one (ps_ret (pv 0))))), ?_⟩
  rcases hv with ⟨i, rfl, rfl⟩ | ⟨p, rfl, he⟩
  · refine ⟨_, rfl, _, rfl, .inl ⟨i, rfl, _, rfl, iteT ?_⟩⟩
    exact ⟨_, rfl, i, rfl, fun p H' g h => k p H' g h⟩
  · obtain ⟨_, dx, _, _, _, _, _, hp, _⟩ := he.hd
    refine ⟨_, rfl, _, rfl, .inr ⟨p, dx, _, rfl, hp, _, rfl, iteF ?_⟩⟩
    refine ⟨_, rfl, p, dx, _, rfl, hp, _, rfl, iteF ?_⟩
    exact ⟨_, rfl, p, e, rfl, he, _, rfl, k p H (Same.refl H) he⟩
def spJoin (K : PySem.W.Frag) (C : Addr) : Sp := fun vs H Q _ => ∃ (k : Str) (v u : V) (x y : Ex), vs = [.str k, v, u] ∧ okK k ∧ OpV K C H v x ∧ OpV K C H u y ∧ Sm0 x ∧ Sm0 y ∧ ∀ (p : Addr) (H' : Hp), Same H H' → ExAt K C H' (.bi k x y) p → Q (.ref p) H'
theorem scJ : FnScope ["kind", "x", "y"] ["kind", "x", "y"] (defScope sJoin) := ⟨rfl, rfl, rfl, by decide +kernel, rfl, by decide +kernel, by decide +kernel⟩
theorem ok_join (F : Fun K "joined" "joined" sJoin f fd) (T : Xc K mg C fI) (FI : XI P w K mg base C fI dI) (bI : Binds K dI ["self", "kind", "parts"] [])
    (GO : FnOk P w K mg base CX0 5 g gd ["x"] (spOpd K C)) (bO : Binds K gd ["x"] []) (kO : PySem.W.keepIn K (.ref g) = true) (mO : mg "operand_of_expressions" = some (.ref g)) : FnOk P w K mg base CX0 6 f fd ["kind", "x", "y"] (spJoin K C) := by
  refine F.ok scJ (fun vs H Q E h => ?_) (fun cdv A outer s H vs Q E hr h => ?_)
  · obtain ⟨k, v, u, x, y, rfl, _⟩ := h
    rfl
  obtain ⟨k, v, u, x, y, rfl, hk, hv, hu, sx, sy, q⟩ := h
  refine ⟨_, pss_one (ps_ret (pe_make T.mkC FI (hr.mono (by decide)) (by rfl) T.mC bI .nil pass0 (pa_cons (pv 0) (pa_cons (pe_tup (pa_cons (pe_call GO hr rfl mO kO bO .nil pass0 (pa_cons (pv 1) pa_nil)) (pa_cons (pe_call GO hr rfl mO kO bO .nil pass0 (pa_cons (pv 2) pa_nil)) pa_nil))) pa_nil)))), ?_⟩
  refine ⟨_, rfl, _, rfl, v, x, rfl, hv, fun a H1 g1 ha => ?_⟩
  refine ⟨_, rfl, u, y, rfl, hu.same g1, fun b H2 g2 hb => ?_⟩
  refine ⟨(by show 2 ≤ sizeLine; decide), fun tp htp => ?_⟩
  have g3 := same_new htp (.tup [.ref a, .ref b])
  have ha3 := ha.same (g2.trans g3)
  have hb3 := hb.same g3
  intro p dx hp hd _
  refine newEx (os := [some x, some y]) (own := []) (as := x.accs ++ y.accs) (SqT.of upd_same) (.cons ⟨a, rfl, ha3⟩ (.cons ⟨b, rfl, hb3⟩ .nil)) (by show 2 ≤ 10; decide) (.inr ⟨hk.1, rfl⟩) (by show _ = [] ++ (x.accs ++ (y.accs ++ [])); simp) ?_ ?_ hp hd (fun H' g h => ⟨rfl, q p H' (((g1.trans g2).trans g3).trans g) ?_⟩)
  · rw [List.length_append]
    have := sx.as
    have := sy.as
    omega
  · rw [lts_app, List.length_append]
    have := sx.ls
    have := sy.ls
    omega
  · refine ⟨hk, a, b, ?_, ha3.same g, hb3.same g⟩
    have e : (1 : Int) + (([x, y] : List Ex).map Ex.nodes).sum = 1 + (x.nodes + y.nodes) := by simp
    rw [← e]
    exact h
def spChkL (K : PySem.W.Frag) : Sp := fun vs H Q _ => ∃ (t : Addr) (ls : List Str), vs = [.ref t] ∧ SqT K H t (ls.map V.str) ∧ ls.length ≤ 100 ∧ ls.Nodup ∧ ∀ H' : Hp, Same H H' → Q .non H'
theorem scCL : FnScope ["letters", "at", "letter"] ["letters"] (defScope sChkL) := ⟨rfl, rfl, rfl, by decide +kernel, rfl, by decide +kernel, by decide +kernel⟩
theorem ok_chkL (F : Fun K "check_letters" "check_letters" sChkL f fd) (B2 : Bx mg) : FnOk P w K mg base CX0 1 f fd ["letters"] (spChkL K) := by
  refine F.ok scCL (fun vs H Q E h => ?_) (fun cdv A outer s H vs Q E hr h => ?_)
  · obtain ⟨t, ls, rfl, _⟩ := h
    rfl
  obtain ⟨t, ls, rfl, ht, hl, hn, k⟩ := h
  refine ⟨_, pss_one (ps_for PassesOwn.never rfl (EnT.pi_enumT (by rfl) B2.enum (pa_cons (pv 0) pa_nil)) (pg_tup rfl (pgs_cons (pg_name (i := 1) scCL.nd rfl (Or.inl rfl)) (pgs_cons (pg_name (i := 2) scCL.nd rfl (Or.inl rfl)) pgs_nil)))
    (pss_one (ps_if (pt_cmpR (r := rIn K false) op_in_seq (pv 2) (pe_slice sl_tupA (pv 0) po_none (po_some (pv 1))) (by rfl)) (pss_one ps_never) pss_nil))), ?_⟩
  refine ⟨_, rfl, t, _, rfl, ht, for_enumT (K := K) (a := t) (xs := ls.map V.str) (fun i σ' H' => (∃ u v : Option V, σ' = [some (.ref t), u, v]) ∧ Same H H') ⟨⟨_, _, rfl⟩, Same.refl H⟩ (fun i σ' H' ⟨_, g⟩ => seqT g ht) (fun i σ' H' x T hx ⟨⟨u, v, e⟩, g⟩ hT => ?_) (fun σ' H' ⟨_, g⟩ => k H' g)⟩
  subst e
  rw [List.getElem?_map] at hx
  cases ez : ls[i]? with
  | none => rw [ez] at hx; cases hx
  | some z =>
    rw [ez] at hx
    cases hx
    have hi : i < ls.length := (List.getElem?_eq_some_iff.mp ez).1
    have gT := same_new hT (.tup [.int (i : Nat), .str z])
    have htT := seqT (g.trans gT) ht
    have no : decide (z ∈ ls.take i) = false := by
      refine decide_eq_false fun hm => ?_
      obtain ⟨j, hj, ej⟩ := List.getElem_of_mem hm
      rw [List.length_take] at hj
      rw [List.getElem_take] at ej
      obtain ⟨_, e2⟩ := List.getElem?_eq_some_iff.mp ez
      exact absurd ((List.getElem_inj hn).mp (ej.trans e2.symm)) (by omega)
    have ecut : cutV (ls.map V.str) none (some (i : Int)) = (ls.take i).map V.str := by
      rw [cut_take _ _ (by rw [List.length_map]; omega), List.map_take]
    refine ⟨T, _, rfl, SqT.of upd_same, rfl, _, _, rfl, _, _, rfl, rfl, ?_⟩
    refine ⟨_, rfl, _, rfl, _, rfl, _, rfl, t, _, rfl, htT, fun hw => ?_, fun _ p hp => ?_⟩
    · exfalso
      have z2 := hw.2
      rw [sIx_nat, List.length_map] at z2
      omega
    · have gp := same_new hp (.tup (cutV (ls.map V.str) none (some (i : Int))))
      refine ⟨p, _, rfl, .inr (SqT.of upd_same), rfl, by rw [ecut]; exact flat_strs' _, _, rfl, ?_⟩
      have e3 : inV (.str z) (cutV (ls.map V.str) none (some (i : Int))) = false := by
        rw [ecut, in_strs]
        exact no
      exact iteN (c := inV (.str z) (cutV (ls.map V.str) none (some (i : Int)))) e3 ⟨⟨_, _, rfl⟩, (g.trans gT).trans gp⟩
end
end Lw
/-! abs(x) by an own __abs__; n op x, n an int, by an own __radd__ and its like -/
namespace OwB
open PySem PySem.Spec PyProof.Rows L2
section
variable {X : Cx} {CX : CXT} {k : Nat} {g C : Addr} {gd : FuncData} {ps : List Str} {sp : Sp} {E : XK}
/-- abs(x), x an instance of the class at C -/
def rAbs (C : Addr) (sp : Sp) (E : XK) : List V → Hp → VK → Prop := fun xs H Q => ∃ a dx fs, xs = [.ref a] ∧ H a = some (.ins C dx fs) ∧ sp [.ref a] H Q E
theorem call_absO (D : OpD X.K C g "__abs__") (F : FnR X.prog X.w X.K X.mg X.base CX k g sp) (hr : Room (k + 1) X.A) (hx : Passes CX X E) : CallR X (.builtin "abs") (rAbs C sp E) := by
  intro pins s σ H xs us Q I r h
  obtain ⟨a, dx, fs, rfl, ha, q⟩ := h
  obtain ⟨u, rfl, ru⟩ := r.one
  cases (show u = Value.ref a from ru)
  obtain ⟨od, J⟩ := inst_of I ha
  refine Calls.call_function_entry kind_abs plain_abs entry_abs (args_abs _) ?_
  unfold Builtin.«abs»
  refine wpAny_bind (m := oneArg "abs" ⟨[.ref a], []⟩) (wpAny_of_eq (a := Value.ref a) rfl ?_)
  show wpAny _ _ (callSpecial? (.ref a) "__abs__" >>= _) _ _ s
  refine wpAny_bind (PySem.W.special_fn I.kIn J D.at_ (beq_iff_eq.mp D.fn) (wpAny_mono (wpAny_call (SlX.run_at (us := [.ref a]) (ws := [.ref a]) F hr.in1 I.env0.in1 hx I (.cons rfl .nil) q)) (fun v s' z => ?_) fun _ _ x => x))
  show wpAny _ _ (ret v) _ _ _
  exact wpAny_pure ⟨_, rfl, z⟩
end
end OwB
namespace OwB
open PySem PySem.Spec PyProof.Rows L2
/-- an int's slot refuses an instance -/
theorem intB_no {M : Model} {A : Around} {E : Value → Shared → Prop} {s : Shared} {name : String} {fn : Int → Int → Sem Fin} {i : Int} {t : Tok} {p C dx : Addr} {od : Option Obj} (J : PySem.W.InstAt s.heap p (PySem.W.instObj C dx) C od) {Q : Fin → Shared → Prop} (h : Q (.done (.ret .notImplemented)) s) :
    wpAny M A (PySem.Builtin.Int.intBinary name fn false ⟨[.int i t, .ref p], []⟩) Q E s := by
  unfold PySem.Builtin.Int.intBinary
  refine wpAny_bind (m := slotArgs name 1 ⟨[.int i t, .ref p], []⟩) (wpAny_of_eq (a := (Value.int i t, [Value.ref p])) rfl ?_)
  refine wpAny_bind (m := PySem.Builtin.Int.intOfSelf (.int i t)) (wpAny_of_eq (a := i) rfl ?_)
  refine wpAny_bind (m := asInt? (.ref p)) (wpAny_bind (m := load p) (wpAny_load J.at_ ?_))
  show wpAny M A (pure none) _ E s
  refine wpAny_pure ?_
  exact wpAny_bind (m := rule "int.binary.not-an-int") (wpAny_rule (wpAny_pure h))
/-- what the slot of int is -/
structure IntS (op : Operator) : Prop where
  slot : ∃ id b name fn, Slot "int" (PySem.dunder op.info.2) id ∧ entryFor table id = some b ∧ b = PySem.Builtin.Int.intBinary name fn false ∧ ∀ a c : Value, argsOk id ⟨[a, c], []⟩
  fills : fillsNumberSlot (.type "int") op.info.2 = pure true
theorem iAdd : IntS .Add := ⟨⟨_, _, _, _, slot_int_add, entry_int_add, rfl, args_int_add⟩, fills_int_add⟩
theorem iSub : IntS .Sub := ⟨⟨_, _, _, _, slot_int_sub, entry_int_sub, rfl, args_int_sub⟩, fills_int_sub⟩
theorem iMul : IntS .Mult := ⟨⟨_, _, _, _, slot_int_mul, entry_int_mul, rfl, args_int_mul⟩, fills_int_mul⟩
theorem iAnd : IntS .BitAnd := ⟨⟨_, _, _, _, slot_int_and, entry_int_and, rfl, args_int_and⟩, fills_int_and⟩
theorem iOr : IntS .BitOr := ⟨⟨_, _, _, _, slot_int_or, entry_int_or, rfl, args_int_or⟩, fills_int_or⟩
theorem iXor : IntS .BitXor := ⟨⟨_, _, _, _, slot_int_xor, entry_int_xor, rfl, args_int_xor⟩, fills_int_xor⟩
section
variable {prog : Program} {w : World} {A : Around} {E : Value → Shared → Prop} {s : Shared} {K : PySem.W.Frag} {x C L f : Addr} {h₀ : Heap} {m : Str → Option Value} {ox : Obj} {od : Option Obj}
theorem tryInt {op : Operator} (S : IntS op) {i : Int} {t : Tok} {p dx : Addr} (J : PySem.W.InstAt s.heap p (PySem.W.instObj C dx) C od) {Q : Option Value → Shared → Prop} (h : Q none s) :
    wpAny (model prog w) A (tryMethod (.int i t) (PySem.dunder op.info.2) (.ref p)) Q E s := by
  obtain ⟨id, b, name, fn, sl, en, rfl, ar⟩ := S.slot
  unfold tryMethod
  refine wpAny_bind (wpAny_callSpecial?_slot (name := PySem.dunder op.info.2) (typeIs_int s i t) sl (wpAny_call_entry sl (typeIs_int s i t) en ?_ (ar _ _)))
  refine intB_no J ⟨_, rfl, ?_⟩
  exact wpAny_pure h
open PySem.W in
/-- n op x, n an int, x an instance whose class has the def and the reflected one -/
theorem ksp_refl {op : Operator} {i : Int} {t : Tok} {g0 dx : Addr} {Q : Value → Shared → Prop} (S : IntS op) (F : Fr h₀ L s.heap m) (X₀ : K.In h₀) (I : InstAt s.heap x (instObj C dx) C od) (hc : selfFirst K C = true)
    (hs0 : findIn K (.ref C) (PySem.dunder op.info.2) = some (some (.ref g0))) (hs : findIn K (.ref C) (dunderR op.info.2) = some (some (.ref f))) (hf : isFn K (.ref f) = true)
    (hsub : subIn K (.ref C) (.type "int") = some false)
    (h : wpAny (model prog w) A (call (.ref f) [.ref x, .int i t]) (PySem.W.CmpBack Q) E s) : wpAny (model prog w) A (binaryOp op (.int i t) (.ref x)) Q E s := by
  have X := X₀.keeps F.keep
  obtain ⟨cd, rest, hcd, hm⟩ := ksp_first hc
  have one := ksp_try X I hs hf h
  have tri : ∀ Q' : Option Value → Shared → Prop, Q' none s → wpAny (model prog w) A (tryMethod (.int i t) (PySem.dunder op.info.2) (.ref x)) Q' E s := fun Q' q => tryInt S I q
  have fil := S.fills
  rcases hi : op.info with ⟨sym, nm'⟩
  rw [hi] at hs hs0 tri fil one
  dsimp only at hs hs0 tri fil one
  obtain ⟨hh, g, d, tt, os⟩ := s
  have L1 : Looks (model prog w) hh (typeOf (.ref x)) (.ref C) := I.type
  have L2 : Looks (model prog w) hh (typeOf (.int i t)) (.type "int") := Looks.of_pure rfl
  have L3 : Looks (model prog w) hh (fillsNumberSlot (.ref C) nm') true := fills_K X hcd hm hs0
  have L4 : Looks (model prog w) hh (fillsNumberSlot (.type "int") nm') true := Looks.of_pure fil
  have L5 : Looks (model prog w) hh (isSubtype (.ref C) (.type "int")) false := looks_subIn X hsub
  have L6 : Looks (model prog w) hh (numberSlotInPython (.type "int") nm') false := Looks.of_pure rfl
  have hne : (Value.type "int" == Value.ref C) = false := Bool.eq_false_iff.mpr fun q => by cases beq_iff_eq.mp q
  simp only [binaryOp, hi]
  refine wpAny_holding (wpAny_bind ?_)
  unfold binaryOp1
  refine wpAny_bind (L2.at (wpAny_bind (L1.at (wpAny_bind (L4.at ?_)))))
  simp only [hne, Bool.false_eq_true, if_false]
  ksp_lk
  refine tri _ ?_
  ksp_lk
  refine wpAny_mono one (fun r s' hr' => ?_) fun _ _ e => e
  obtain ⟨v, rfl, hq⟩ := hr'
  ksp_lk
  exact hq
end
section
variable {X : Cx} {CX : CXT} {k : Nat} {g g0 C : Addr} {gd : FuncData} {ps : List Str} {sp : Sp} {E : XK}
/-- i op x, x an instance, i an int -/
def rOwnR (C : Addr) (sp : Sp) (E : XK) : R2 := fun x y H Q => ∃ a dx fs i, x = .int i ∧ y = .ref a ∧ H a = some (.ins C dx fs) ∧ sp [y, x] H Q E
theorem op_ownR {op : Operator} (S : IntS op) (hc : PySem.W.selfFirst X.K C = true) (D0 : OpD X.K C g0 (PySem.dunder op.info.2)) (D : OpD X.K C g (PySem.dunderR op.info.2)) (hsub : PySem.W.subIn X.K (.ref C) (.type "int") = some false)
    (F : FnOk X.prog X.w X.K X.mg X.base CX k g gd ps sp) (hr : Room k X.A) (hb : Binds X.K gd ps []) (hx : Passes CX X E) : OpR X (binaryOp op) (rOwnR C sp E) := by
  intro pins s σ H x y v u Q I rx ry h
  obtain ⟨a, dx, fs, i, rfl, rfl, ha, q⟩ := h
  cases (show u = Value.ref a from ry)
  obtain ⟨t, rfl⟩ := (show ∃ t, v = Value.int i t from rx)
  obtain ⟨od, J⟩ := inst_of I ha
  obtain ⟨m, hF⟩ := I.fr
  refine ksp_refl S hF I.ok.mod.kin J hc D0.at_ D.at_ D.fn hsub ?_
  exact wpAny_mono (run_fn (us := [.ref a, .int i t]) (vs := [.ref a, .int i]) F hr hb .nil hx I (.cons rfl (.cons ⟨t, rfl⟩ .nil)) q) (fun w s' z => back_of z) fun _ _ x => x
end
end OwB
namespace Lw
open PySem L2 OwB
abbrev sAlw : Stmt := topS 47
abbrev sNbd : Stmt := topS 48
section
variable {X : Cx} {CX : CXT} {k : Nat} {f : Addr} {sp : Sp} {E : XK} {x : Str} {e : Expr} {es : List Expr} {t : TA} {p pos : Pos}
/-- x(e, ..), x a def by its promise alone -/
theorem pe_callR (F : FnR X.prog X.w X.K X.mg X.base CX k f sp) (hr : Room k X.A) (hg : Gl X x) (hm : X.mg x = some (.ref f)) (hk : PySem.W.keepIn X.K (.ref f) = true) (hx : Passes CX X E)
    (ha : PA X (e :: es) t) (hdb : (x == ("__debug__" : Str)) = false := by decide) (he : starEach (e :: es) X.env = (false, eval e X.env) :: starEach es X.env := by rfl) (hpl : (backTo pos (starEach es X.env)).any (·.1) = false := by rfl) :
    PE X (.Call (.Name x p) (e :: es) [] pos) (fun σ H Q => t σ H fun vs H1 => sp vs H1 Q E) := by
  refine ⟨fun pins s σ H Q I h => ?_⟩
  refine wpAny_Call_Name_kw (ld_glob I hg hm ?_ hdb)
  refine PySem.W.callWith_K (h₀ := X.base) I.ok.mod.kin hk (thn (ha.run pos pins s σ H _ I h) fun us s1 ⟨vs, H1, I1, r, q⟩ => ⟨I1.kIn, ?_⟩) he hpl
  exact wpAny_call (run_fnR F hr hx I1 r q)
end
section
variable {P : Program} {w : World} {K : PySem.W.Frag} {mg : Str → Option Value} {base : Heap} {f g g2 g3 C fI : Addr} {fd gd gd2 gd3 dI : FuncData}
/-- access(nm, letters ..) -/
def spAcc (K : PySem.W.Frag) (C : Addr) : Sp := fun vs H Q _ => ∃ (nm : Str) (ls : List Str), vs = .str nm :: ls.map V.str ∧ ls.length ≤ 20 ∧ ls.Nodup ∧ ∀ (p : Addr) (H' : Hp), Same H H' → ExAt K C H' (.acc nm ls) p → Q (.ref p) H'
theorem scAc : FnScope ["name", "letters"] ["name", "letters"] (defScope sAcc) := ⟨rfl, rfl, rfl, by decide +kernel, rfl, by decide +kernel, by decide +kernel⟩
theorem ok_acc (F : Fun K "access" "access" sAcc f fd) (T : Xc K mg C fI) (B : Bt mg) (FI : XI P w K mg base C fI dI) (bI : Binds K dI ["self", "kind", "parts"] [])
    (GL : FnOk P w K mg base CX0 1 g gd ["letters"] (spChkL K)) (bL : Binds K gd ["letters"] []) (kL : PySem.W.keepIn K (.ref g) = true) (mL : mg "check_letters" = some (.ref g)) : FnR P w K mg base CX0 4 f (spAcc K C) := by
  obtain ⟨oc, od, kV, doc, pm, an, cdv, ct, osl, rfl, lk, hcd⟩ := F.ex
  have z := StX.fn_star (P := P) (w := w) (mg := mg) (base := base) (CX := CX0) (k := 3) (ps := ["name"]) (pv := "letters") (N := ["name", "letters"])
    (sp := fun vs H Q _ => ∃ (nm : Str) (ls : List Str) (t : Addr), vs = [.str nm, .ref t] ∧ SqT K H t (ls.map V.str) ∧ ls.length ≤ 20 ∧ ls.Nodup ∧ ∀ (p : Addr) (H' : Hp), Same H H' → ExAt K C H' (.acc nm ls) p → Q (.ref p) H')
    lk hcd scAc StX.cxUp_none (StX.bind_star1 (B := fun us => bindArgs (PySem.W.fnOf "access" "access" (defArgs sAcc) (defBody sAcc) (defScope sAcc) .none kV doc pm an cdv ct) ⟨us, []⟩) (fun a => rfl) (fun a r rs => rfl)) (fun A outer s H vs Q E hr h => ?_)
  · refine z.imp fun vs H Q E h => ?_
    obtain ⟨nm, ls, rfl, hl, hn, k⟩ := h
    refine ⟨[.str nm], ls.map V.str, rfl, rfl, by rw [List.length_map]; exact Nat.le_trans hl (by decide), fun p hp => ⟨nm, ls, p, rfl, SqT.of upd_same, hl, hn, fun q H' g => k q H' ((same_new hp _).trans g)⟩⟩
  obtain ⟨nm, ls, t, rfl, ht, hl, hn, k⟩ := h
  suffices hh : ∃ t', PSs (cxOf CX0 P w K mg base ["name", "letters"] "access" (defScope sAcc) f cdv A outer s H E).nox (defBody sAcc) t' ∧ t' { nx := fun _ H' => Q .non H', rt := Q } (start ["name", "letters"] [.str nm, .ref t]) H by
    obtain ⟨t', h1, h2⟩ := hh
    exact ⟨t', h1.nox, h2⟩
  refine ⟨_, pss_cons (ps_expr (pe_call GL (hr.mono (by decide)) rfl mL kL bL .nil pass0 (pa_cons (pv 1) pa_nil)))
    (pss_one (ps_ret (pe_make T.mkC FI hr (by rfl) T.mC bI .nil pass0 (pa_cons pe_str (pa_cons (pe_tup (pa_cons (pv 0) (pa_cons (pe_callTy call_tuple_of (by rfl) B.tup (by decide +kernel) (pa_cons (pv 1) pa_nil)) pa_nil))) pa_nil))))), ?_⟩
  refine ⟨_, rfl, t, ls, rfl, ht, by omega, hn, fun H1 g1 => ?_⟩
  refine ⟨_, rfl, _, rfl, t, ls.map V.str, rfl, .inr ⟨seqT g1 ht, (by show 2 ≤ sizeLine; decide), fun tp htp => ?_⟩⟩
  have g2 := same_new htp (.tup [.str nm, .ref t])
  have ht2 := seqT (g1.trans g2) ht
  intro x dx hx hd _
  refine newEx (os := [none, none]) (own := [(nm, ls)]) (as := [(nm, ls)]) (SqT.of upd_same) (.cons (.inr (.inl ⟨nm, rfl⟩)) (.cons (.inr (.inr ⟨t, _, rfl, ht2⟩)) .nil)) (by show 2 ≤ 10; decide) (.inl ⟨rfl, _, rfl, tp, t, rfl, SqT.of upd_same, ht2⟩) rfl (by show 1 ≤ 900; decide) ?_ hx hd (fun H' g h => ⟨rfl, k x H' ((g1.trans g2).trans g) ⟨t, h, seqT g ht2⟩⟩)
  show ((ls ++ []) : List Str).length < 64
  rw [List.append_nil]
  omega
/-- the limits of the kinds with an integer -/
structure Lc (K : PySem.W.Frag) (w : World) (mg : Str → Option Value) (LA : Addr) : Prop where
  mL : mg "LIMITS" = some (.ref LA)
  D : ∃ es n, KDict K w LA es n
  q : PySem.W.nsIn K LA "quotient" = some none
  kd : ∀ k : Str, k = "power" ∨ k = "left" ∨ k = "right" → ∃ T : Addr, PySem.W.nsIn K LA k = some (some (.ref T)) ∧ ∀ H : Hp, SqT K H T [.int (if k = "power" then 1 else 0), .int (if k = "power" then 4 else 60)]
def okN (k : Str) (n : Int) : Prop := (k = "quotient" ∧ n ≠ 0) ∨ ((k = "power" ∨ k = "left" ∨ k = "right") ∧ (if k = "power" then 1 else 0) ≤ n ∧ n ≤ (if k = "power" then 4 else 60))
def spAlw : Sp := fun vs H Q _ => ∃ (k : Str) (n : Int), vs = [.str k, .int n] ∧ okN k n ∧ Q (.bl true) H
theorem scAl : FnScope ["kind", "n", "least", "greatest"] ["kind", "n"] (defScope sAlw) := ⟨rfl, rfl, rfl, by decide +kernel, rfl, by decide +kernel, by decide +kernel⟩
theorem ok_alw {LA : Addr} (F : Fun K "is_allowed" "is_allowed" sAlw f fd) (Lx : Lc K w mg LA) : FnOk P w K mg base CX0 1 f fd ["kind", "n"] spAlw := by
  refine F.ok scAl (fun vs H Q E h => ?_) (fun cdv A outer s H vs Q E hr h => ?_)
  · obtain ⟨k, n, rfl, _⟩ := h
    rfl
  obtain ⟨es, en, D⟩ := Lx.D
  obtain ⟨k, n, rfl, hk, q⟩ := h
  refine ⟨_, pss_cons (ps_if (pt_cmpR (op_in_kd D) (pv 0) (pe_glob (v := .ref LA) (by rfl) Lx.mL rfl) (by rfl))
    (pss_cons (ps_asg (pe_ix ix_kdict (pe_glob (v := .ref LA) (by rfl) Lx.mL rfl) (pv 0) (fun _ _ => rfl)) (pg_tup rfl (pgs_cons (pg_name (i := 2) scAl.nd rfl (Or.inl rfl)) (pgs_cons (pg_name (i := 3) scAl.nd rfl (Or.inl rfl)) pgs_nil))))
      (pss_one (ps_ret (pe_chain op_le op_le (pv 2) (pv 1) (pv 3))))) pss_nil)
    (pss_one (ps_ret (pe_cmpR op_ne (pv 1) pe_int (nomark _)))), ?_⟩
  rcases hk with ⟨rfl, hn⟩ | ⟨hk, hlo, hhi⟩
  · refine ⟨_, rfl, _, _, rfl, rfl, Lx.q, _, rfl, iteF ?_⟩
    refine ⟨_, rfl, rfl, ?_⟩
    rw [dec_int, show (n == (0 : Int)) = false from beq_eq_false_iff_ne.mpr hn]
    exact q
  · obtain ⟨T, e, hT⟩ := Lx.kd k hk
    refine ⟨_, rfl, _, _, rfl, rfl, e, _, rfl, iteT ?_⟩
    refine ⟨_, rfl, LA, k, .ref T, rfl, rfl, ⟨es, en, _, D.at_, D.lit, e, rfl⟩, T, _, rfl, hT H, rfl, _, _, rfl, _, _, rfl, rfl, ?_⟩
    refine ⟨_, rfl, _, rfl, _, _, rfl, rfl, _, rfl, ?_⟩
    rw [decide_eq_true hlo]
    refine iteT ⟨_, rfl, _, _, rfl, rfl, ?_⟩
    show Q (V.bl (decide (n ≤ if k = ("power" : Str) then (4 : Int) else 60))) H
    rw [decide_eq_true hhi]
    exact q
def spNbd (K : PySem.W.Frag) (C : Addr) : Sp := fun vs H Q _ => ∃ (k : Str) (v : V) (n : Int) (x : Ex), vs = [.str k, v, .int n] ∧ okN k n ∧ OpV K C H v x ∧ Sm0 x ∧ ∀ (p : Addr) (H' : Hp), Same H H' → ExAt K C H' (.nu k x n) p → Q (.ref p) H'
theorem scNb : FnScope ["kind", "x", "n"] ["kind", "x", "n"] (defScope sNbd) := ⟨rfl, rfl, rfl, by decide +kernel, rfl, by decide +kernel, by decide +kernel⟩
theorem okN.ok {k : Str} {n : Int} (h : okN k n) : okK k := by
  rcases h with ⟨rfl, _⟩ | ⟨rfl | rfl | rfl, _⟩ <;> exact ⟨kne _ _, kne _ _, kne _ _, kne _ _⟩
theorem ok_nbd {h hA : Addr} {hd dA : FuncData} (F : Fun K "numbered" "numbered" sNbd f fd) (T : Xc K mg C fI) (FI : XI P w K mg base C fI dI) (bI : Binds K dI ["self", "kind", "parts"] [])
    (GW : FnOk P w K mg base CX0 1 g gd ["n"] (spWh C)) (bW : Binds K gd ["n"] []) (kW : PySem.W.keepIn K (.ref g) = true) (mW : mg "is_whole" = some (.ref g))
    (GA : FnOk P w K mg base CX0 1 hA dA ["kind", "n"] spAlw) (bA : Binds K dA ["kind", "n"] []) (kA : PySem.W.keepIn K (.ref hA) = true) (mA : mg "is_allowed" = some (.ref hA))
    (GO : FnOk P w K mg base CX0 5 g2 gd2 ["x"] (spOpd K C)) (bO : Binds K gd2 ["x"] []) (kO : PySem.W.keepIn K (.ref g2) = true) (mO : mg "operand_of_expressions" = some (.ref g2)) : FnOk P w K mg base CX0 6 f fd ["kind", "x", "n"] (spNbd K C) := by
  refine F.ok scNb (fun vs H Q E h => ?_) (fun cdv A outer s H vs Q E hr h => ?_)
  · obtain ⟨k, v, n, x, rfl, _⟩ := h
    rfl
  obtain ⟨k, v, n, x, rfl, hk, hv, sx, q⟩ := h
  have hr1 := hr.mono (show 1 ≤ 5 by decide)
  refine ⟨_, pss_cons (ps_if (pt_not (pt_val (pe_call GW hr1 rfl mW kW bW .nil pass0 (pa_cons (pv 2) pa_nil)))) pss_never pss_nil)
    (pss_cons (ps_if (pt_not (pt_val (pe_call GA hr1 rfl mA kA bA .nil pass0 (pa_cons (pv 0) (pa_cons (pv 2) pa_nil))))) pss_never pss_nil)
    (pss_one (ps_ret (pe_make T.mkC FI (hr.mono (by decide)) (by rfl) T.mC bI .nil pass0 (pa_cons (pv 0) (pa_cons (pe_tup (pa_cons (pe_call GO hr rfl mO kO bO .nil pass0 (pa_cons (pv 1) pa_nil)) (pa_cons (pv 2) pa_nil))) pa_nil)))))), ?_⟩
  refine ⟨_, rfl, _, rfl, .inl ⟨n, rfl, _, rfl, iteF ?_⟩⟩
  refine ⟨_, rfl, _, rfl, k, n, rfl, hk, _, rfl, iteF ?_⟩
  refine ⟨_, rfl, _, rfl, v, x, rfl, hv, fun a H1 g1 ha => ?_⟩
  refine ⟨_, rfl, (by show 2 ≤ sizeLine; decide), fun tp htp => ?_⟩
  have g3 := same_new htp (.tup [.ref a, .int n])
  have ha3 := ha.same g3
  intro p dx hp hd _
  refine newEx (os := [some x, none]) (own := []) (as := x.accs) (SqT.of upd_same) (.cons ⟨a, rfl, ha3⟩ (.cons (.inl ⟨n, rfl⟩) .nil)) (by show 2 ≤ 10; decide) (.inr ⟨hk.ok.1, rfl⟩) (by show _ = [] ++ (x.accs ++ []); simp) ?_ ?_ hp hd (fun H' g h => ⟨rfl, q p H' ((g1.trans g3).trans g) ⟨hk.ok, a, ?_, ha3.same g⟩⟩)
  · have := sx.as
    omega
  · have := sx.ls
    omega
  · have e : (1 : Int) + (([x] : List Ex).map Ex.nodes).sum = 1 + x.nodes := by simp
    rw [← e]
    exact h
end
end Lw
namespace Lw
open PySem L2 OwB
abbrev s_add : Stmt := inClass (topS 38) 2
abbrev s_radd : Stmt := inClass (topS 38) 3
abbrev s_sub : Stmt := inClass (topS 38) 4
abbrev s_rsub : Stmt := inClass (topS 38) 5
abbrev s_mul : Stmt := inClass (topS 38) 6
abbrev s_rmul : Stmt := inClass (topS 38) 7
abbrev s_and : Stmt := inClass (topS 38) 8
abbrev s_rand : Stmt := inClass (topS 38) 9
abbrev s_or : Stmt := inClass (topS 38) 10
abbrev s_ror : Stmt := inClass (topS 38) 11
abbrev s_xor : Stmt := inClass (topS 38) 12
abbrev s_rxor : Stmt := inClass (topS 38) 13
abbrev s_floordiv : Stmt := inClass (topS 38) 14
abbrev s_mod : Stmt := inClass (topS 38) 15
abbrev s_pow : Stmt := inClass (topS 38) 16
abbrev s_lshift : Stmt := inClass (topS 38) 17
abbrev s_rshift : Stmt := inClass (topS 38) 18
abbrev s_neg : Stmt := inClass (topS 38) 19
abbrev s_pos : Stmt := inClass (topS 38) 20
abbrev s_invert : Stmt := inClass (topS 38) 21
abbrev s_abs : Stmt := inClass (topS 38) 22
abbrev s_greater : Stmt := topS 71
abbrev s_lesser : Stmt := topS 72
abbrev s_below : Stmt := topS 73
abbrev s_at_most : Stmt := topS 74
abbrev s_equal : Stmt := topS 75
abbrev s_unequal : Stmt := topS 76
section
variable {P : Program} {w : World} {K : PySem.W.Frag} {mg : Str → Option Value} {base : Heap} {f g C fI : Addr} {fd gd dI : FuncData}
/-- what joined promises, for a kind; the operands as they come, or turned -/
def spJ2 (K : PySem.W.Frag) (C : Addr) (k : Str) : Sp := fun vs H Q E => ∃ v u, vs = [v, u] ∧ spJoin K C [.str k, v, u] H Q E
def spJ2r (K : PySem.W.Frag) (C : Addr) (k : Str) : Sp := fun vs H Q E => ∃ v u, vs = [v, u] ∧ spJoin K C [.str k, u, v] H Q E
def spN2 (K : PySem.W.Frag) (C : Addr) (k : Str) : Sp := fun vs H Q E => ∃ v u, vs = [v, u] ∧ spNbd K C [.str k, v, u] H Q E
def spU1 (K : PySem.W.Frag) (C : Addr) (k : Str) : Sp := fun vs H Q _ => ∃ (v : V) (x : Ex), vs = [v] ∧ OpV K C H v x ∧ Sm0 x ∧ okK k ∧ ∀ (p : Addr) (H' : Hp), Same H H' → ExAt K C H' (.un k x) p → Q (.ref p) H'
/-- joined, as the defs of the text find it -/
structure Jn (P : Program) (w : World) (K : PySem.W.Frag) (mg : Str → Option Value) (base : Heap) (C : Addr) (g : Addr) (gd : FuncData) : Prop where
  G : FnOk P w K mg base CX0 6 g gd ["kind", "x", "y"] (spJoin K C)
  b : Binds K gd ["kind", "x", "y"] []
  k : PySem.W.keepIn K (.ref g) = true
  m : mg "joined" = some (.ref g)
structure Nb (P : Program) (w : World) (K : PySem.W.Frag) (mg : Str → Option Value) (base : Heap) (C : Addr) (g : Addr) (gd : FuncData) : Prop where
  G : FnOk P w K mg base CX0 6 g gd ["kind", "x", "n"] (spNbd K C)
  b : Binds K gd ["kind", "x", "n"] []
  k : PySem.W.keepIn K (.ref g) = true
  m : mg "numbered" = some (.ref g)
structure Od (P : Program) (w : World) (K : PySem.W.Frag) (mg : Str → Option Value) (base : Heap) (C : Addr) (g : Addr) (gd : FuncData) : Prop where
  G : FnOk P w K mg base CX0 5 g gd ["x"] (spOpd K C)
  b : Binds K gd ["x"] []
  k : PySem.W.keepIn K (.ref g) = true
  m : mg "operand_of_expressions" = some (.ref g)
theorem sc_add : FnScope ["self", "other"] ["self", "other"] (defScope s_add) := ⟨rfl, rfl, rfl, by decide +kernel, rfl, by decide +kernel, by decide +kernel⟩
theorem ok_add (F : Fun K "__add__" "Expression.__add__" s_add f fd) (J : Jn P w K mg base C g gd) : FnOk P w K mg base CX0 7 f fd ["self", "other"] (spJ2 K C "plus") := by
  refine F.ok sc_add (fun vs H Q E h => ?_) (fun cdv A outer s H vs Q E hr h => ?_)
  · obtain ⟨v, u, rfl, _⟩ := h
    rfl
  obtain ⟨v, u, rfl, q⟩ := h
  refine ⟨_, pss_one (ps_ret (pe_call J.G hr rfl J.m J.k J.b .nil pass0 (pa_cons pe_str (pa_cons (pv 0) (pa_cons (pv 1) pa_nil))))), ?_⟩
  exact ⟨_, rfl, _, rfl, q⟩
theorem un_end {k : Str} {a p tp dx : Addr} {x : Ex} {H : Hp} {Q : VK} (ha : ExAt K C (upd H tp (.tup [.ref a])) x a) (hk : okK k) (sx : Sm0 x) (q : ∀ H' : Hp, Same (upd H tp (.tup [.ref a])) H' → ExAt K C H' (.un k x) p → Q (.ref p) H')
    (hp : upd H tp (.tup [.ref a]) p = none) (hd : upd H tp (.tup [.ref a]) dx = none) : spXini K C [.ref p, .str k, .ref tp] (upd (upd (upd H tp (.tup [.ref a])) dx (.own p)) p (.ins C dx [])) (fun v H' => v = .non ∧ Q (.ref p) H') E0 := by
  refine newEx (os := [some x]) (own := []) (as := x.accs) (SqT.of upd_same) (.cons ⟨a, rfl, ha⟩ .nil) (by show 1 ≤ 10; decide) (.inr ⟨hk.1, rfl⟩) (by show _ = [] ++ (x.accs ++ []); simp) ?_ ?_ hp hd (fun H' g h => ⟨rfl, q H' g ⟨hk, a, ?_, ha.same g⟩⟩)
  · have := sx.as
    omega
  · have := sx.ls
    omega
  · have e : (1 : Int) + (([x] : List Ex).map Ex.nodes).sum = 1 + x.nodes := by simp
    rw [← e]
    exact h
theorem sc_neg : FnScope ["self"] ["self"] (defScope s_neg) := ⟨rfl, rfl, rfl, by decide +kernel, rfl, by decide +kernel, by decide +kernel⟩
theorem ok_neg (F : Fun K "__neg__" "Expression.__neg__" s_neg f fd) (T : Xc K mg C fI) (FI : XI P w K mg base C fI dI) (bI : Binds K dI ["self", "kind", "parts"] []) (J : Od P w K mg base C g gd) : FnOk P w K mg base CX0 6 f fd ["self"] (spU1 K C "negative") := by
  refine F.ok sc_neg (fun vs H Q E h => ?_) (fun cdv A outer s H vs Q E hr h => ?_)
  · obtain ⟨v, x, rfl, _⟩ := h
    rfl
  obtain ⟨v, x, rfl, hv, sx, hk, q⟩ := h
  refine ⟨_, pss_one (ps_ret (pe_make T.mkC FI (hr.mono (by decide)) (by rfl) T.mC bI .nil pass0 (pa_cons pe_str (pa_cons (pe_tup (pa_cons (pe_call J.G hr rfl J.m J.k J.b .nil pass0 (pa_cons (pv 0) pa_nil)) pa_nil)) pa_nil)))), ?_⟩
  refine ⟨_, rfl, v, x, rfl, hv, fun a H1 g1 ha => ?_⟩
  refine ⟨(by show 1 ≤ sizeLine; decide), fun tp htp => ?_⟩
  have g3 := same_new htp (.tup [.ref a])
  have ha3 := ha.same g3
  intro p dx hp hd _
  exact un_end ha3 hk sx (fun H' g => q p H' ((g1.trans g3).trans g)) hp hd
theorem sc_abs : FnScope ["self"] ["self"] (defScope s_abs) := ⟨rfl, rfl, rfl, by decide +kernel, rfl, by decide +kernel, by decide +kernel⟩
theorem ok_abs (F : Fun K "__abs__" "Expression.__abs__" s_abs f fd) (T : Xc K mg C fI) (FI : XI P w K mg base C fI dI) (bI : Binds K dI ["self", "kind", "parts"] []) (J : Od P w K mg base C g gd) : FnOk P w K mg base CX0 6 f fd ["self"] (spU1 K C "absolute") := by
  refine F.ok sc_abs (fun vs H Q E h => ?_) (fun cdv A outer s H vs Q E hr h => ?_)
  · obtain ⟨v, x, rfl, _⟩ := h
    rfl
  obtain ⟨v, x, rfl, hv, sx, hk, q⟩ := h
  refine ⟨_, pss_one (ps_ret (pe_make T.mkC FI (hr.mono (by decide)) (by rfl) T.mC bI .nil pass0 (pa_cons pe_str (pa_cons (pe_tup (pa_cons (pe_call J.G hr rfl J.m J.k J.b .nil pass0 (pa_cons (pv 0) pa_nil)) pa_nil)) pa_nil)))), ?_⟩
  refine ⟨_, rfl, v, x, rfl, hv, fun a H1 g1 ha => ?_⟩
  refine ⟨(by show 1 ≤ sizeLine; decide), fun tp htp => ?_⟩
  have g3 := same_new htp (.tup [.ref a])
  have ha3 := ha.same g3
  intro p dx hp hd _
  exact un_end ha3 hk sx (fun H' g => q p H' ((g1.trans g3).trans g)) hp hd
end
end Lw
/-! list(text): its signs -/
namespace LiS
open PySem PySem.Spec PyProof.Rows L2
section
variable {prog : Program} {w : World} {A : Around} {E : Value → Shared → Prop} {s : Shared} {x : Str} {t : Tok}
theorem hint_str {Q : Bool → Shared → Prop} (h : Q false s) : wpAny (model prog w) A (Builtin.List.listLengthHint (.str x t)) Q E s := by
  unfold Builtin.List.listLengthHint
  refine wpAny_bind (wpAny_specialOf (typeIs_str s x t) PySem.F.slot_str_len.lookup ?_)
  generalize hid : ("str.__len__" : String) = id0
  wp_delta
  rw [show splitId id0 = some ("str", "__len__") from by subst hid; decide +kernel]
  subst hid
  refine wpAny_bind (wpAny_isInstance (T := "str") (b := true) (typeIs_str s x t) (by rw [isSubtype_type]; kernel_rfl) ?_)
  refine wpAny_ite_split (fun hab => absurd hab (by decide)) (fun _ => ?_)
  refine wpAny_ite_split (fun _ => ?_) (fun hab => absurd (by decide +kernel) hab)
  refine wpAny_bind (wpAny_typeOf (typeIs_str s x t) ?_)
  exact wpAny_pure h
theorem ext_str {R : Result → Shared → Prop} (hh : A.handled = none) (ha : x.cps.all (· < 128) = true) (S : Addr) (res : Value) (c₀ : Nat) (hS : s.heap.get? S = some { cls := .type "list", data := .seq #[] c₀ })
    (hR : ∀ h' tk acc' c', (∀ b o, b ≠ S → s.heap.get? b = some o → h'.get? b = some o) → h'.get? S = some { cls := .type "list", dict := none, data := .seq acc' c', slots := #[] } → ItemsOf (SignAt x) acc' x.cps.size → R (.ok (.ret res)) { s with heap := h', toks := tk }) (hn : x.cps.size ≤ sizeLine) :
    wpAny (model prog w) A.in1 (Builtin.List.listExtendWith (.ref S) (.str x t) res)
      (fun fin s' => match fin with | .done f => R (.ok f) s' | .again c' => c'.quiet = true ∧ codeAny (model prog w) A c' R s') (fun e s' => R (.error e) s') s := by
  have hSI : S ≠ s.heap.objs.size := Nat.ne_of_lt (Heap.lt_size hS)
  have hSf : S ∉ [s.heap.objs.size] := by simp only [List.mem_cons, List.not_mem_nil, or_false]; exact hSI
  have W := Walks.strAscii (prog := prog) (w := w) (A := A.in1) hh s.heap.objs.size x t
  have key : ∀ (h : Heap) (c₁ tk : Nat), h.IsStrIter s.heap.objs.size "str_ascii_iterator" x t 0 → (∀ b o, b ≠ S → s.heap.get? b = some o → h.get? b = some o) →
      h.get? S = some { cls := .type "list", data := .seq #[] c₁ } → codeAny (model prog w) A (.builtin "list.extend.loop" ⟨[.ref S, .ref s.heap.objs.size, res], []⟩) R { s with heap := h, toks := tk } := by
    intro h c₁ tk hst hk hS₁
    refine codeAny_extend_loopS W.toS hn S hSf res x.cps.size 0 _ #[] c₁ rfl (Nat.zero_le _) hst hS₁ (ItemsOf.nil _) fun s' acc' c' hm hS' hacc => ?_
    rw [Moved.eq_with hm]
    refine hR s'.heap s'.toks acc' c' (fun b o hb e => hm.heap b o (fun hmem => ?_) (hk b o hb e)) hS' hacc
    rcases List.mem_cons.mp hmem with e' | hmem
    · exact hb e'
    · exact absurd (Heap.lt_size e) (by rw [List.mem_singleton.mp hmem]; exact Nat.lt_irrefl _)
  unfold Builtin.List.listExtendWith
  refine wpAny_bind (wpAny_typeOf (T := "str") (typeIs_str s x t) ?_)
  have h1 : Builtin.List.listSameRef (.ref S) (.str x t) = false := rfl
  have h2 : (Value.type "str" == Value.type "list") = false := by decide
  have h3 : (Value.type "str" == Value.type "tuple") = false := by decide
  simp only [h1, h2, h3, Bool.or_false, Bool.false_eq_true, if_false]
  refine wpAny_bind (wpAny_pyIter_ascii ha ?_)
  have hS₁ := Heap.get?_push_of_some { cls := .type "str_ascii_iterator", data := .fields #[.str x t, .int 0 0] } hS
  have st : (s.heap.push { cls := .type "str_ascii_iterator", data := .fields #[.str x t, .int 0 0] }).IsStrIter s.heap.objs.size "str_ascii_iterator" x t 0 := ⟨_, Heap.get?_push_size _ rfl, rfl, rfl⟩
  refine wpAny_bind (wpAny_holding (hint_str ?_))
  refine wpAny_ite_split (fun _ => ?_) (fun _ => wpAny_pure ⟨plainId_quiet PySem.F.plain_extend_loop _, key _ c₀ _ st (fun b o _ e => Heap.get?_push_of_some _ e) hS₁⟩)
  refine wpAny_bind (wpAny_rule ?_)
  refine wpAny_bind ?_
  show wpAny _ _ (updateSeq S (·.push .none) >>= fun _ => updateSeq S (·.pop)) _ _ _
  refine wpAny_bind (wpAny_updateSeq hS₁ rfl ?_)
  have hS₂ := Heap.get?_update_self (Obj.mapSeq (·.push Value.none)) hS₁ rfl
  refine wpAny_updateSeq (hz := by seq_fits) hS₂ rfl ?_
  have hS₃ := Heap.get?_update_self (Obj.mapSeq (·.pop)) hS₂ rfl
  refine wpAny_pure ⟨plainId_quiet PySem.F.plain_extend_loop _, key _ _ _ ?_ (fun b o hb e => ?_) hS₃⟩
  · refine W.frame 0 _ _ st fun b hb o e => ?_
    have hbS : b ≠ S := fun h => hSf (h ▸ hb)
    exact (Heap.get?_update_other _ _ (Ne.symm hbS)).trans ((Heap.get?_update_other _ _ (Ne.symm hbS)).trans e)
  · exact (Heap.get?_update_other _ _ (Ne.symm hb)).trans ((Heap.get?_update_other _ _ (Ne.symm hb)).trans (Heap.get?_push_of_some _ e))
theorem ini_str {R : Result → Shared → Prop} (hh : A.handled = none) (ha : x.cps.all (· < 128) = true) (S : Addr) (hS : s.heap.get? S = some { cls := .type "list", data := .seq #[] })
    (hR : ∀ h' tk acc' c', (∀ b o, b ≠ S → s.heap.get? b = some o → h'.get? b = some o) → h'.get? S = some { cls := .type "list", dict := none, data := .seq acc' c', slots := #[] } → ItemsOf (SignAt x) acc' x.cps.size → R (.ok (.ret .none)) { s with heap := h', toks := tk }) (hn : x.cps.size ≤ sizeLine) :
    wpAny (model prog w) A.in1 (Builtin.«list.__init__» ⟨[.ref S, .str x t], []⟩)
      (fun fin s' => match fin with | .done f => R (.ok f) s' | .again c' => c'.quiet = true ∧ codeAny (model prog w) A c' R s') (fun e s' => R (.error e) s') s := by
  show wpAny _ _ (do let old ← Builtin.List.listItems (.ref S); Builtin.List.listUpdate (.ref S) (fun _ => #[]); letGo old.toList.reverse; Builtin.List.listExtendWith (.ref S) (.str x t) .none) _ _ s
  refine wpAny_bind ?_
  unfold Builtin.List.listItems
  refine wpAny_bind (wpAny_seqItems hS rfl (wpAny_pure ?_))
  show wpAny _ _ (updateSeq S (fun _ => #[]) >>= fun _ => letGo (#[] : Array Value).toList.reverse >>= fun _ => Builtin.List.listExtendWith (.ref S) (.str x t) .none) _ _ s
  refine wpAny_bind (wpAny_updateSeq hS rfl ?_)
  have hS₂ := Heap.get?_update_self (Obj.mapSeq (fun _ => (#[] : Array Value))) hS rfl
  have oth : ∀ b o, b ≠ S → s.heap.get? b = some o → (s.heap.update S (Obj.mapSeq (fun _ => (#[] : Array Value)))).get? b = some o :=
    fun b o hb e => (Heap.get?_update_other _ _ (Ne.symm hb)).trans e
  refine wpAny_bind (wpAny_letGo ?_)
  refine ext_str hh ha S .none _ hS₂ (fun h' tk acc' c' hk hS' hacc => ?_) hn
  exact hR h' tk acc' c' (fun b o hb e => hk b o hb (oth b o hb e)) hS' hacc
theorem call_str {Q : Value → Shared → Prop} (hh : A.handled = none) (ha : x.cps.all (· < 128) = true) (hn : x.cps.size ≤ sizeLine)
    (hQ : ∀ h' tk acc' c', (∀ b o, s.heap.get? b = some o → h'.get? b = some o) → h'.get? s.heap.objs.size = some { cls := .type "list", dict := none, data := .seq acc' c', slots := #[] } → ItemsOf (SignAt x) acc' x.cps.size → Q (.ref s.heap.objs.size) { s with heap := h', toks := tk }) :
    wpAny (model prog w) A (call (.type "list") [.str x t]) Q E s := by
  refine callType_codes (Q₁ := fun obj s₁ => obj = .ref s.heap.objs.size ∧ s₁ = { s with heap := s.heap.push { cls := .type "list", data := .seq #[] } }) PySem.F.called_list (PySem.F.typeCall_list_1 _) PySem.F.entry_list_init
    (code_list_new _ ⟨rfl, rfl⟩) fun obj s₁ h₁ => ?_
  obtain ⟨rfl, rfl⟩ := h₁
  have hS : (s.heap.push { cls := .type "list", data := .seq #[] }).get? s.heap.objs.size = some { cls := .type "list", data := .seq #[] } := Heap.get?_push_size _ rfl
  refine ⟨⟨_, hS, rfl⟩, PySem.F.args_list_init_2 _ _, ini_str (A := A.in1) hh ha _ hS (fun h' tk acc' c' hk hS' hacc => ?_) hn⟩
  exact ⟨rfl, hQ h' tk acc' c' (fun b o e => hk b o (Nat.ne_of_lt (Heap.lt_size e)) (Heap.get?_push_of_some _ e)) hS' hacc⟩
end
/-- the signs of a text, each a text -/
def signs (z : Str) : List V := z.cps.toList.map fun c => V.str ⟨#[c]⟩
theorem call_listS {X : Cx} (hc : X.calm = true) : CallR X (.type "list") (fun xs H Q => ∃ z, xs = [.str z] ∧ z.cps.all (· < 128) = true ∧ z.cps.size ≤ sizeLine ∧ ∀ l, H l = none → Q (.ref l) (upd H l (.lst (signs z)))) := by
  intro pins s σ H xs us Q I r h
  obtain ⟨z, e, ha, hn, q⟩ := h
  subst e
  obtain ⟨u, rfl, rx⟩ := vals1 r
  obtain ⟨t, rfl⟩ := rx
  refine call_str (I.ok.hd hc) ha hn fun h' tk acc' c' hkeep hS hacc => ?_
  refine ⟨.ref s.heap.objs.size, upd H s.heap.objs.size (.lst (signs z)), I.laid hkeep (Nat.le_refl _) (show ObjOk X.prog X.w _ _ _ (.lst (signs z)) from ⟨?_, acc'.toList, c', ?_, ?_⟩), rfl, q _ (I.hok.fresh (Nat.le_refl _))⟩
  · unfold signs
    rw [List.length_map, Array.length_toList]
    exact hn
  · have el : acc'.toList.length = acc'.size := by simp
    refine vals_of_at (by unfold signs; rw [List.length_map, Array.length_toList, el, hacc.1]) fun j v u h1 h2 => ?_
    obtain ⟨c, tk', hc', rfl⟩ := hacc.2 j u (by rw [← Array.getElem?_toList]; exact h2)
    unfold signs at h1
    rw [List.getElem?_map, Array.getElem?_toList, hc'] at h1
    cases h1
    exact ⟨tk', rfl⟩
  · rw [Array.toArray_toList]; exact hS
end LiS
namespace Lw
open PySem L2 OwB
abbrev sMixed : Stmt := topS 103
abbrev sLet : Stmt := topS 107
theorem SX.upd_out {st q D : Addr} {H H' : Hp} {o : HO} (g : SX st q H H') (n : H D = none) : SX st q H (upd H' D o) := fun b u h1 h2 e => by rw [upd_ne (ne_of_none e n)]; exact g b u h1 h2 e
theorem Spr.upd {st q D : Addr} {H : Hp} {b : Int} {o : HO} (s : Spr H st q b) (n1 : D ≠ st) (n2 : D ≠ q) : Spr (upd H D o) st q b := by
  obtain ⟨ns, a, c, h1, h2, r⟩ := s
  exact ⟨ns, a, c, by rw [upd_ne n1.symm]; exact h1, by rw [upd_ne n2.symm]; exact h2, r⟩
theorem Spr.out {st q D : Addr} {H : Hp} {b : Int} (s : Spr H st q b) (n : H D = none) : D ≠ st ∧ D ≠ q := by
  obtain ⟨ns, a, c, h1, h2, _⟩ := s
  exact ⟨(ne_of_none h1 n).symm, (ne_of_none h2 n).symm⟩
theorem er_perm {α : Type} : ∀ (l : List α) (k : Nat) (h : k < l.length), (l[k] :: l.eraseIdx k).Perm l
  | a :: r, 0, _ => List.Perm.refl _
  | a :: r, k + 1, h => (List.Perm.swap _ _ _).trans (List.Perm.cons a (er_perm r k (Nat.lt_of_succ_lt_succ h)))
theorem er_map {α β : Type} (f : α → β) : ∀ (l : List α) (k : Nat), (l.map f).eraseIdx k = (l.eraseIdx k).map f
  | [], _ => rfl
  | a :: r, 0 => rfl
  | a :: r, k + 1 => congrArg (f a :: ·) (er_map f r k)
theorem pop_at {ls : List Str} {r : Int} (h0 : 0 ≤ r) (h1 : r < (ls.length : Int)) : ∃ (k : Nat) (n : Str), seqIndex? r (ls.map V.str).length = some k ∧ (ls.map V.str)[k]? = some (.str n) ∧ (ls.map V.str).eraseIdx k = (ls.eraseIdx k).map V.str ∧ (n :: ls.eraseIdx k).Perm ls ∧ (ls.eraseIdx k).length + 1 = ls.length := by
  have hk : r.toNat < ls.length := by omega
  refine ⟨r.toNat, ls[r.toNat], ?_, by rw [List.getElem?_map, List.getElem?_eq_getElem hk] <;> rfl, ?_, er_perm ls _ hk, by rw [List.length_eraseIdx_of_lt hk]; omega⟩
  · refine (ixN_seq (n := (ls.map V.str).length) (i := r) (j := r.toNat) ?_).1
    unfold ixN
    rw [if_pos h0, if_pos (by rw [List.length_map]; exact h1)]
  · rw [er_map]
/-- drawing one by one, out of ls -/
def InvMx (H0 : Hp) (st q L D : Addr) (b : Int) (is : List Str) (i : Nat) (H : Hp) : Prop := ∃ acc ls : List Str, H D = some (.lst (acc.map V.str)) ∧ H L = some (.lst (ls.map V.str)) ∧ acc.length = i ∧ ls.length + i = is.length ∧ (acc ++ ls).Perm is ∧ Spr H st q (b + i) ∧ SX st q H0 H
section
variable {P : Program} {w : World} {K : PySem.W.Frag} {mg : Str → Option Value} {base : Heap} {f g : Addr} {fd gd : FuncData}
abbrev tPop (K : PySem.W.Frag) (i : Nat) : TE := tBM K "list" rPopAt (tVar i) (tCons (tCall spDraw [] E0 (tCons (tVar 0) (tCons (tCB (fun xs H Q => ∃ p ys, xs = [.ref p] ∧ (SqL K H p ys ∨ SqT K H p ys) ∧ Q (.int ys.length) H) (tCons (tVar i) tNil)) tNil))) tNil)
/-- one turn -/
theorem pop_turn {st q L D : Addr} {b : Int} {is : List Str} {i : Nat} {H H2 : Hp} {σ : St} {Nx : Hp → Prop} (nL1 : L ≠ st) (nL2 : L ≠ q) (nD1 : D ≠ st) (nD2 : D ≠ q) (nDL : D ≠ L) (hL : H L = none) (hD : H D = none) (hb0 : 0 ≤ b) (hb1 : b ≤ 900) (h26 : is.length ≤ 50)
    (e0 : σ[0]? = some (some (.ref st))) (e2 : σ[2]? = some (some (.ref L))) (inv : InvMx H st q L D b is i H2) (hi : i < is.length) (nx : ∀ H3, InvMx H st q L D b is (i + 1) H3 → Nx H3) :
    tPop K 2 σ H2 fun y H3 => ∃ acc, H3 D = some (.lst acc) ∧ acc.length < sizeLine ∧ Nx (upd H3 D (.lst (acc ++ [y]))) := by
  obtain ⟨acc, ls, hd, hl2, ha, hn, hp2, hs2, gx⟩ := inv
  have hlen : (((ls.map V.str).length : Nat) : Int) = (ls.length : Int) := by rw [List.length_map]
  refine ⟨_, e2, .inl ⟨rfl, _, SqL.of hl2⟩, _, e0, _, e2, L, _, rfl, .inl (SqL.of hl2), st, q, b + i, _, rfl, hs2, by omega, by omega, by rw [hlen]; omega, by rw [hlen]; omega, fun r H3 r0 r1 hs3 g3 => ?_⟩
  have hd3 := g3 _ _ nD1 nD2 hd
  have hl3 := g3 _ _ nL1 nL2 hl2
  obtain ⟨j, n, e1, e2, e3, e4, e5⟩ := pop_at r0 (by rw [hlen] at r1; exact r1)
  refine ⟨L, _, r, j, _, rfl, rfl, hl3, by omega, by rw [hlen] at r1; omega, e1, e2, ?_⟩
  have hd4 := (upd_ne (o := .lst ((ls.map V.str).eraseIdx j)) nDL).trans hd3
  refine ⟨_, hd4, by rw [List.length_map]; exact small1000 (by omega), nx _ ⟨acc ++ [n], ls.eraseIdx j, by rw [upd_same, List.map_append] <;> rfl, by rw [upd_ne nDL.symm, upd_same, e3], by rw [List.length_append, ha] <;> rfl, by omega, ?_, ?_, ?_⟩⟩
  · rw [List.append_assoc]
    exact (List.Perm.append_left acc e4).trans hp2
  · have e6 : b + (i : Int) + 1 = b + ((i + 1 : Nat) : Int) := by omega
    rw [← e6]
    exact (hs3.upd nL1 nL2).upd nD1 nD2
  · exact ((gx.trans g3).upd_out hL).upd_out hD
def spMixed : Sp := fun vs H Q _ => ∃ (st q p : Addr) (b : Int) (is : List Str), vs = [.ref st, .ref p] ∧ Spr H st q b ∧ 0 ≤ b ∧ b ≤ 900 ∧ H p = some (.lst (is.map V.str)) ∧ is.length ≤ 10 ∧
  ∀ (r : Addr) (os : List Str) (H' : Hp), os.Perm is → Spr H' st q (b + is.length) → SX st q H H' → H' r = some (.lst (os.map V.str)) → H r = none → Q (.ref r) H'
abbrev namesM : List Str := ["_law_stream", "_law_some", "_law_left", "_law_k"]
theorem scM : FnScope namesM ["_law_stream", "_law_some"] (defScope sMixed) := ⟨rfl, rfl, rfl, by decide +kernel, rfl, by decide +kernel, by decide +kernel⟩
theorem ok_mixed (F : Fun K "_law_mixed" "_law_mixed" sMixed f fd) (G : FnOk P w K mg base CX0 1 g gd ["_law_stream", "_law_many"] spDraw) (bG : Binds K gd ["_law_stream", "_law_many"] []) (kG : PySem.W.keepIn K (.ref g) = true) (mG : mg "_law_draw" = some (.ref g)) (B : Bt mg) :
    FnOk P w K mg base CX0 2 f fd ["_law_stream", "_law_some"] spMixed := by
  refine F.ok scM (fun vs H Q E h => ?_) (fun cdv A outer s H vs Q E hr h => ?_)
  · obtain ⟨st, q, p, b, is, rfl, _⟩ := h
    rfl
  obtain ⟨st, q, p, b, is, rfl, hs, hb0, hb1, hp, hl, k⟩ := h
  refine ⟨_, pss_cons (ps_set (i := 2) scM.nd rfl (Or.inr rfl) (pe_callTy call_list_of (by rfl) B.lst (by decide +kernel) (pa_cons (pv 1) pa_nil)))
    (pss_one (ps_ret (pe_lc (own := [("_law_k", 3)]) (g := gName 3) (tt := tYes) (te := tPop K 2) rfl scM.nd (pi_range1 (by rfl) B.range (pa_cons (pe_callB call_len_seq (by rfl) B.len PySem.boot_len (pa_cons (pv 2) pa_nil)) pa_nil)) (blkOk_by (N := namesM) (sc := defScope sMixed) (by decide +kernel))
      (fun _ _ _ _ _ => pg_name (i := 3) scM.nd rfl (Or.inl rfl)) (fun _ _ _ _ _ => pts_nil)
      (fun _ _ _ _ _ => pe_bm PySem.F.plainAttrs_list PySem.F.slot_list_pop PySem.F.type_list_pop mt_popAt (pv 2) (pa_cons (pe_call G hr rfl mG kG bG .nil pass0 (pa_cons (pv 0) (pa_cons (pe_callB call_len_seq (by rfl) B.len PySem.boot_len (pa_cons (pv 2) pa_nil)) pa_nil))) pa_nil))))), ?_⟩
  refine ⟨_, rfl, p, _, rfl, .inl (SqL.of hp), fun L hL => ?_⟩
  have gL := same_new hL (.lst (is.map V.str))
  obtain ⟨nL1, nL2⟩ := hs.out hL
  have hsL := hs.same gL
  refine ⟨_, rfl, L, _, rfl, .inl (SqL.of upd_same), _, rfl, by rw [List.length_map]; omega, by rw [List.length_map]; omega, fun D hD => ?_⟩
  obtain ⟨nD1, nD2⟩ := hsL.out hD
  have nDL : D ≠ L := (ne_of_none (upd_same (H := H) (a := L) (o := .lst (is.map V.str))) hD).symm
  have hD0 : H D = none := gL.free hD
  have gD := same_new hD (.lst [])
  have elm : (is.map V.str).length = is.length := List.length_map _
  refine lc_range (lo := 0) (n := (is.map V.str).length) (InvMx H st q L D b is) ⟨[], is, upd_same, gD _ _ upd_same, rfl, rfl, List.Perm.refl _, ?_, .of (gL.trans gD)⟩ ?_ ?_
  · rw [show b + ((0 : Nat) : Int) = b from Int.add_zero b]
    exact hsL.same gD
  · intro i H2 hi inv
    rw [elm] at hi
    exact ⟨rfl, kept (pop_turn nL1 nL2 nD1 nD2 nDL hL hD0 hb0 hb1 (by omega) rfl rfl inv hi fun _ h => h)⟩
  · rintro H2 ⟨acc, ls, hd, hl2, ha, hn, hp2, hs2, gx⟩
    rw [elm] at hs2
    have els : ls = [] := List.length_eq_zero_iff.mp (by omega)
    subst els
    rw [List.append_nil] at hp2
    exact k D acc H2 hp2 hs2 gx hd hD0
/-! the letters -/
def abc : Str := "abcdefghijklmnopqrstuvwxyz"
def abcL : List Str := abc.cps.toList.map fun c => (⟨#[c]⟩ : Str)
theorem abc_signs : LiS.signs abc = abcL.map V.str := by
  unfold LiS.signs abcL
  rw [List.map_map] <;> rfl
theorem abc_len : abcL.length = 26 := by decide +kernel
theorem abc_nd : abcL.Nodup := by decide +kernel
def spLet : Sp := fun vs H Q _ => ∃ (st q : Addr) (b : Int) (m : Nat), vs = [.ref st, .int m] ∧ Spr H st q b ∧ 0 ≤ b ∧ b ≤ 900 ∧ m ≤ 10 ∧
  ∀ (r : Addr) (os : List Str) (H' : Hp), os.Nodup → (∀ z ∈ os, z ∈ abcL) → os.length = m → Spr H' st q (b + m) → SX st q H H' → H' r = some (.lst (os.map V.str)) → H r = none → Q (.ref r) H'
abbrev namesL : List Str := ["_law_stream", "_law_many", "_law_left", "_law_k"]
theorem scLt : FnScope namesL ["_law_stream", "_law_many"] (defScope sLet) := ⟨rfl, rfl, rfl, by decide +kernel, rfl, by decide +kernel, by decide +kernel⟩
theorem ok_let (F : Fun K "_law_letters" "_law_letters" sLet f fd) (G : FnOk P w K mg base CX0 1 g gd ["_law_stream", "_law_many"] spDraw) (bG : Binds K gd ["_law_stream", "_law_many"] []) (kG : PySem.W.keepIn K (.ref g) = true) (mG : mg "_law_draw" = some (.ref g)) (B : Bt mg) :
    FnOk P w K mg base CX0 2 f fd ["_law_stream", "_law_many"] spLet := by
  refine F.ok scLt (fun vs H Q E h => ?_) (fun cdv A outer s H vs Q E hr h => ?_)
  · obtain ⟨st, q, b, m, rfl, _⟩ := h
    rfl
  obtain ⟨st, q, b, m, rfl, hs, hb0, hb1, hm, k⟩ := h
  refine ⟨_, pss_cons (ps_set (i := 2) scLt.nd rfl (Or.inr rfl) (pe_callTy (LiS.call_listS rfl) (by rfl) B.lst (by decide +kernel) (pa_cons pe_str pa_nil)))
    (pss_one (ps_ret (pe_lc (own := [("_law_k", 3)]) (g := gName 3) (tt := tYes) (te := tPop K 2) rfl scLt.nd (pi_range1 (by rfl) B.range (pa_cons (pv 1) pa_nil)) (blkOk_by (N := namesL) (sc := defScope sLet) (by decide +kernel))
      (fun _ _ _ _ _ => pg_name (i := 3) scLt.nd rfl (Or.inl rfl)) (fun _ _ _ _ _ => pts_nil)
      (fun _ _ _ _ _ => pe_bm PySem.F.plainAttrs_list PySem.F.slot_list_pop PySem.F.type_list_pop mt_popAt (pv 2) (pa_cons (pe_call G hr rfl mG kG bG .nil pass0 (pa_cons (pv 0) (pa_cons (pe_callB call_len_seq (by rfl) B.len PySem.boot_len (pa_cons (pv 2) pa_nil)) pa_nil))) pa_nil))))), ?_⟩
  refine ⟨abc, rfl, by decide +kernel, Nat.le_trans (show abc.cps.size ≤ 26 by decide +kernel) (by decide), fun L hL => ?_⟩
  rw [abc_signs]
  have gL := same_new hL (.lst (abcL.map V.str))
  obtain ⟨nL1, nL2⟩ := hs.out hL
  have hsL := hs.same gL
  refine ⟨_, rfl, _, rfl, by omega, by omega, fun D hD => ?_⟩
  obtain ⟨nD1, nD2⟩ := hsL.out hD
  have nDL : D ≠ L := (ne_of_none (upd_same (H := H) (a := L) (o := .lst (abcL.map V.str))) hD).symm
  have hD0 : H D = none := gL.free hD
  have gD := same_new hD (.lst [])
  have h26 := abc_len
  refine lc_range (lo := 0) (n := m) (InvMx H st q L D b abcL) ⟨[], abcL, upd_same, gD _ _ upd_same, rfl, rfl, List.Perm.refl _, ?_, .of (gL.trans gD)⟩ ?_ ?_
  · rw [show b + ((0 : Nat) : Int) = b from Int.add_zero b]
    exact hsL.same gD
  · intro i H2 hi inv
    exact ⟨rfl, kept (pop_turn nL1 nL2 nD1 nD2 nDL hL hD0 hb0 hb1 (by omega) rfl rfl inv (by omega) fun _ h => h)⟩
  · rintro H2 ⟨acc, ls, hd, hl2, ha, hn, hp2, hs2, gx⟩
    have nd : (acc ++ ls).Nodup := hp2.nodup_iff.mpr abc_nd
    exact k D acc H2 (List.Nodup.sublist (List.sublist_append_left acc ls) nd) (fun z hz => hp2.mem_iff.mp (List.mem_append.mpr (.inl hz))) ha hs2 gx hd hD0
end
end Lw
namespace Lw
open PySem L2 OwB TL
abbrev sName : Stmt := topS 105
abbrev sNames : Stmt := topS 106
theorem ne_tl {x y : Str} (h : tl x ≠ tl y) : x ≠ y := fun e => h (congrArg tl e)
theorem cutS_le (z : Str) (lo hi : Option Int) : (cutS z lo hi).length ≤ z.length := by
  unfold cutS
  show (List.toArray _).size ≤ z.length
  have e : z.cps.toList.length = z.length := by rw [Array.length_toList] <;> rfl
  rw [List.size_toArray, List.length_take, List.length_drop, e]
  omega
/-- four unlike ones don't fit into three -/
theorem pig {ns : List Str} (h : ns.length ≤ 3) (f : Nat → Str) (inj : ∀ i j, i < 4 → j < 4 → f i = f j → i = j) : ∃ i, i < 4 ∧ f i ∉ ns := by
  refine Classical.byContradiction fun no => ?_
  have all : ∀ i, i < 4 → ∃ j, j < 3 ∧ ns[j]? = some (f i) := fun i hi => by
    have hm : f i ∈ ns := Classical.byContradiction fun q => no ⟨i, hi, q⟩
    obtain ⟨j, hj, e⟩ := List.getElem_of_mem hm
    exact ⟨j, by omega, by rw [List.getElem?_eq_getElem hj, e]⟩
  have ne : ∀ i j a b : Nat, i < 4 → j < 4 → i ≠ j → ns[(a : Nat)]? = some (f i) → ns[(b : Nat)]? = some (f j) → a ≠ b := fun i j a b hi hj n e1 e2 q => by
    subst q
    exact n (inj i j hi hj (Option.some.inj (e1.symm.trans e2)))
  obtain ⟨a, ha, ea⟩ := all 0 (by decide)
  obtain ⟨b, hb, eb⟩ := all 1 (by decide)
  obtain ⟨c, hc, ec⟩ := all 2 (by decide)
  obtain ⟨d, hd, ed⟩ := all 3 (by decide)
  have n1 := ne 0 1 a b (by decide) (by decide) (by decide) ea eb
  have n2 := ne 0 2 a c (by decide) (by decide) (by decide) ea ec
  have n3 := ne 0 3 a d (by decide) (by decide) (by decide) ea ed
  have n4 := ne 1 2 b c (by decide) (by decide) (by decide) eb ec
  have n5 := ne 1 3 b d (by decide) (by decide) (by decide) eb ed
  have n6 := ne 2 3 c d (by decide) (by decide) (by decide) ec ed
  omega
/-- another name in its place -/
def zz (c : Nat) (x : Str) : Str := ("zz" : Str) ++ ⟨#[c]⟩ ++ x
theorem zz_ne {a b : Nat} {x : Str} (h : zz a x = zz b x) : a = b := by
  have e : tl (zz a x) = tl (zz b x) := congrArg tl h
  unfold zz at e
  rw [tl_append, tl_append, tl_append, tl_append] at e
  have e2 : ([122, 122, a] : List Nat) ++ tl x = [122, 122, b] ++ tl x := e
  injection e2 with _ e3
  injection e3 with _ e4
  injection e4 with e5 _
def abch : Str := "abcdefgh"
theorem abch_at : ∀ i, i < 4 → abch.cps[i]? = some (97 + i) := by
  intro i hi
  have h : i = 0 ∨ i = 1 ∨ i = 2 ∨ i = 3 := by omega
  rcases h with rfl | rfl | rfl | rfl <;> decide +kernel
/-! lower-case signs -/
def LowS (z : Str) : Prop := ∀ c ∈ tl z, 97 ≤ c ∧ c ≤ 122
def okL (z : Str) : Prop := ∃ c, z = ⟨#[c]⟩ ∧ 97 ≤ c ∧ c ≤ 122
def okNm (z : Str) : Prop := LowS z ∧ 1 ≤ z.length ∧ z.length ≤ 8
theorem abc_rng : ∀ c ∈ tl abc, 97 ≤ c ∧ c ≤ 122 := by decide +kernel
theorem abc_okL {z : Str} (h : z ∈ abcL) : okL z := by
  unfold abcL at h
  obtain ⟨c, hc, rfl⟩ := List.mem_map.mp h
  exact ⟨c, rfl, abc_rng c hc⟩
theorem mem_joinL {S : List Nat} {c : Nat} : ∀ {ps : List (List Nat)}, c ∈ joinL S ps → c ∈ S ∨ ∃ p ∈ ps, c ∈ p
  | [], h => by cases h
  | [p], h => .inr ⟨p, List.mem_singleton.mpr rfl, h⟩
  | p :: q :: r, h => by
    rcases List.mem_append.mp (show c ∈ p ++ (S ++ joinL S (q :: r)) from h) with h | h
    · exact .inr ⟨p, List.mem_cons_self .., h⟩
    · rcases List.mem_append.mp h with h | h
      · exact .inl h
      · rcases mem_joinL h with h | ⟨p', h1, h2⟩
        · exact .inl h
        · exact .inr ⟨p', List.mem_cons_of_mem _ h1, h2⟩
theorem low_join {acc : List Str} (h : ∀ z ∈ acc, okL z) : LowS (Txt.join Str.empty acc) := fun c hc => by
  rw [join_eq, tl_join] at hc
  rcases mem_joinL hc with h1 | ⟨p, h1, h2⟩
  · cases h1
  · obtain ⟨z, hz, rfl⟩ := List.mem_map.mp h1
    obtain ⟨d, rfl, e1, e2⟩ := h z hz
    cases List.mem_singleton.mp (show c ∈ [d] from h2)
    exact ⟨e1, e2⟩
theorem low_zz {c : Nat} {x : Str} (h1 : 97 ≤ c) (h2 : c ≤ 122) (hx : okNm x) : okNm (zz c (cutS x none (some 5))) := by
  have e : tl (zz c (cutS x none (some 5))) = [122, 122, c] ++ tl (cutS x none (some 5)) := by
    unfold zz
    rw [tl_append, tl_append] <;> rfl
  have e5 : tl (cutS x none (some 5)) = (tl x).take (min 5 x.length) := by
    unfold cutS
    rw [show (5 : Int) = ((5 : Nat) : Int) from rfl, HT.sIx_nat, HT.sIx_none]
    show (List.take _ _).toArray.toList = _
    rw [List.drop_zero] <;> rfl
  refine ⟨fun d hd => ?_, ?_, ?_⟩
  · rw [e] at hd
    rcases List.mem_append.mp hd with hd | hd
    · simp only [List.mem_cons, List.not_mem_nil, or_false] at hd
      rcases hd with rfl | rfl | rfl
      · exact ⟨by decide, by decide⟩
      · exact ⟨by decide, by decide⟩
      · exact ⟨h1, h2⟩
    · rw [e5] at hd
      exact hx.1 d (List.mem_of_mem_take hd)
  · rw [len_tl, e, List.length_append]
    show 1 ≤ 3 + _
    omega
  · rw [len_tl, e, List.length_append, e5, List.length_take]
    show 3 + _ ≤ 8
    omega
section
variable {P : Program} {w : World} {K : PySem.W.Frag} {mg : Str → Option Value} {base : Heap} {f g g2 : Addr} {fd gd gd2 : FuncData}
/-- one sign of a text -/
def spPickS : Sp := fun vs H Q _ => ∃ (st q : Addr) (b : Int) (z : Str), vs = [.ref st, .str z] ∧ Spr H st q b ∧ 0 ≤ b ∧ b ≤ 1000 ∧ 0 < z.length ∧ z.length ≤ 1000 ∧
  ∀ (c : Nat) (H' : Hp), c ∈ tl z → Spr H' st q (b + 1) → SX st q H H' → Q (.str ⟨#[c]⟩) H'
theorem ok_pickS (F : Fun K "_law_pick" "_law_pick" sPick f fd) (G : FnOk P w K mg base CX0 1 g gd ["_law_stream", "_law_many"] spDraw) (bG : Binds K gd ["_law_stream", "_law_many"] []) (kG : PySem.W.keepIn K (.ref g) = true) (mG : mg "_law_draw" = some (.ref g)) (B : Bt mg) :
    FnOk P w K mg base CX0 2 f fd ["_law_stream", "_law_some"] spPickS := by
  refine F.ok scP (fun vs H Q E h => ?_) (fun cdv A outer s H vs Q E hr h => ?_)
  · obtain ⟨st, q, b, z, rfl, _⟩ := h
    rfl
  obtain ⟨st, q, b, z, rfl, hs, hb0, hb1, hx0, hx1, k⟩ := h
  refine ⟨_, pss_one (ps_ret (pe_ix ix_str (pv 1) (pe_call G hr rfl mG kG bG .nil pass0 (pa_cons (pv 0) (pa_cons (pe_callB call_len_str (by rfl) B.len PySem.boot_len (pa_cons (pv 1) pa_nil)) pa_nil))) (fun _ _ => rfl))), ?_⟩
  refine ⟨_, rfl, _, rfl, _, rfl, z, rfl, Nat.le_trans hx1 (by decide), st, q, b, _, rfl, hs, hb0, hb1, by omega, by omega, fun r H' r0 r1 hs' gx => ?_⟩
  have hk : r.toNat < z.cps.toList.length := by rw [Array.length_toList]; show r.toNat < z.length; omega
  have q2 := atI_nat (xs := z.cps.toList) (j := r.toNat) (v := z.cps.toList[r.toNat]) (List.getElem?_eq_getElem hk)
  rw [show ((r.toNat : Nat) : Int) = r by omega] at q2
  exact ⟨z, r, _, rfl, rfl, Nat.le_trans hx1 (by decide), q2, k _ H' (List.getElem_mem _) hs' gx⟩
def spName : Sp := fun vs H Q _ => ∃ (st q : Addr) (b : Int), vs = [.ref st] ∧ Spr H st q b ∧ 0 ≤ b ∧ b ≤ 900 ∧
  ∀ (nm : Str) (b' : Int) (H' : Hp), okNm nm → b ≤ b' → b' ≤ b + 9 → Spr H' st q b' → SX st q H H' → Q (.str nm) H'
abbrev namesN : List Str := ["_law_stream", "_law_k"]
theorem scNm : FnScope namesN ["_law_stream"] (defScope sName) := ⟨rfl, rfl, rfl, by decide +kernel, rfl, by decide +kernel, by decide +kernel⟩
def InvNm (H0 : Hp) (st q D : Addr) (b : Int) (i : Nat) (H : Hp) : Prop := ∃ acc : List Str, H D = some (.lst (acc.map V.str)) ∧ acc.length = i ∧ (acc.map (·.length)).sum = i ∧ (∀ z ∈ acc, okL z) ∧ Spr H st q (b + i) ∧ SX st q H0 H
theorem ok_name (F : Fun K "_law_name" "_law_name" sName f fd) (G : FnOk P w K mg base CX0 1 g gd ["_law_stream", "_law_many"] spDraw) (bG : Binds K gd ["_law_stream", "_law_many"] []) (kG : PySem.W.keepIn K (.ref g) = true) (mG : mg "_law_draw" = some (.ref g)) (B : Bt mg)
    (GP : FnOk P w K mg base CX0 2 g2 gd2 ["_law_stream", "_law_some"] spPickS) (bP : Binds K gd2 ["_law_stream", "_law_some"] []) (kP : PySem.W.keepIn K (.ref g2) = true) (mP : mg "_law_pick" = some (.ref g2)) :
    FnOk P w K mg base CX0 3 f fd ["_law_stream"] spName := by
  refine F.ok scNm (fun vs H Q E h => ?_) (fun cdv A outer s H vs Q E hr h => ?_)
  · obtain ⟨st, q, b, rfl, _⟩ := h
    rfl
  obtain ⟨st, q, b, rfl, hs, hb0, hb1, k⟩ := h
  refine ⟨_, pss_one (ps_ret (pe_join pe_str (pe_lc (own := [("_law_k", 1)]) (g := gName 1) (tt := tYes) (te := tCall spPickS [] E0 (tCons (tVar 0) (tCons (tC (.str abc)) tNil))) rfl scNm.nd (pi_range1 (by rfl) B.range (pa_cons (pe_op op_add pe_int (pe_call G (hr.mono (by decide)) rfl mG kG bG .nil pass0 (pa_cons (pv 0) (pa_cons pe_int pa_nil)))) pa_nil)) (blkOk_by (N := namesN) (sc := defScope sName) (by decide +kernel))
      (fun _ _ _ _ _ => pg_name (i := 1) scNm.nd rfl (Or.inl rfl)) (fun _ _ _ _ _ => pts_nil)
      (fun _ _ _ _ _ => pe_call GP hr rfl mP kP bP .nil pass0 (pa_cons (pv 0) (pa_cons pe_str pa_nil)))))), ?_⟩
  refine ⟨⟨_, rfl⟩, _, rfl, st, q, b, 8, rfl, hs, hb0, by omega, by decide, by decide, fun r H1 r0 r1 hs1 gx1 => ?_⟩
  obtain ⟨m, hm⟩ : ∃ m : Nat, (1 : Int) + r = (m : Int) := ⟨(1 + r).toNat, by omega⟩
  refine ⟨_, _, rfl, rfl, 1 + r, rfl, by omega, by omega, fun D hD => ?_⟩
  have em : (1 + r).toNat = m := by omega
  rw [em]
  obtain ⟨nD1, nD2⟩ := hs1.out hD
  have gD := same_new hD (.lst [])
  refine lc_range (lo := 0) (n := m) (InvNm H1 st q D (b + 1)) ⟨[], upd_same, rfl, rfl, (fun z hz => by cases hz), ?_, .of gD⟩ ?_ ?_
  · rw [show b + 1 + ((0 : Nat) : Int) = b + 1 from Int.add_zero _]
    exact hs1.same gD
  · rintro i H2 hi ⟨acc, hd, ha, hsum, hok, hs2, gx⟩
    refine ⟨rfl, kept ?_⟩
    refine ⟨_, rfl, st, q, _, abc, rfl, hs2, by omega, by omega, by decide +kernel, Nat.le_trans (show abc.length ≤ 26 by decide +kernel) (by decide), fun c H3 hc hs3 g3 => ?_⟩
    refine ⟨_, g3 _ _ nD1 nD2 hd, by rw [List.length_map]; exact small1000 (by omega), acc ++ [⟨#[c]⟩], by rw [upd_same, List.map_append] <;> rfl, by rw [List.length_append, ha] <;> rfl, ?_, ?_, ?_, (gx.trans g3).upd_out hD⟩
    · rw [List.map_append, List.sum_append, hsum] <;> rfl
    · intro z hz
      rcases List.mem_append.mp hz with hz | hz
      · exact hok z hz
      · cases List.mem_singleton.mp hz
        exact ⟨c, rfl, abc_rng c hc⟩
    · rw [show b + 1 + ((i + 1 : Nat) : Int) = b + 1 + (i : Int) + 1 by omega]
      exact hs3.upd nD1 nD2
  · rintro H2 ⟨acc, hd, ha, hsum, hok, hs2, gx⟩
    refine ⟨_, D, acc, rfl, rfl, .inl (SqL.of hd), ?_, ?_⟩
    · rw [hsum]
      show m + acc.length * 0 ≤ 16777216
      omega
    · refine k _ _ H2 ?_ ?_ ?_ hs2 (gx1.trans gx)
      · have hlen : (Txt.join Str.empty acc).length = m := by
          show (Builtin.Str.glued _ acc).length = m
          rw [size_glued, hsum]
          show m + (acc.length - 1) * 0 = m
          omega
        have hjl : okNm (Txt.join Str.empty acc) := ⟨low_join hok, by omega, by omega⟩
        exact hjl
      · omega
      · omega
end
end Lw
namespace Lw
open PySem L2 OwB TL
abbrev rCatS : R2 := fun x y H Q => ∃ i j, x = .str i ∧ y = .str j ∧ i.length + j.length ≤ sizeLine ∧ Q (.str (i ++ j)) H
section
variable {P : Program} {w : World} {K : PySem.W.Frag} {mg : Str → Option Value} {base : Heap} {f g g2 : Addr} {fd gd gd2 : FuncData}
def spNames : Sp := fun vs H Q _ => ∃ (st q : Addr) (b : Int) (m : Nat), vs = [.ref st, .int m] ∧ Spr H st q b ∧ 0 ≤ b ∧ b ≤ 800 ∧ m ≤ 4 ∧
  ∀ (r : Addr) (os : List Str) (b' : Int) (H' : Hp), os.length = m → (∀ z ∈ os, okNm z) → b ≤ b' → b' ≤ b + 9 * m → Spr H' st q b' → SX st q H H' → H' r = some (.lst (os.map V.str)) → H r = none → Q (.ref r) H'
abbrev namesNs : List Str := ["_law_stream", "_law_many", "_law_names_here", "_law_k", "_law_name_here", "_law_one", "_law_sign"]
theorem scNs : FnScope namesNs ["_law_stream", "_law_many"] (defScope sNames) := ⟨rfl, rfl, rfl, by decide +kernel, rfl, by decide +kernel, by decide +kernel⟩
/-- the candidates behind a name -/
def cands (x : Str) (n : Nat) : List Str := ((abch.cps.toList.take n).map fun c => zz c (cutS x none (some 5)))
def InvZz (H0 : Hp) (D : Addr) (x : Str) (i : Nat) (H : Hp) : Prop := H D = some (.lst ((cands x i).map V.str)) ∧ Same H0 H
def InvF (H0 : Hp) (D : Addr) (cs ns : List Str) (i : Nat) (H : Hp) : Prop := ∃ acc : List Str, H D = some (.lst (acc.map V.str)) ∧ acc.length ≤ i ∧ (∀ z ∈ acc, z ∈ cs) ∧ (∀ j z, j < i → cs[j]? = some z → z ∉ ns → acc ≠ []) ∧ Same H0 H
theorem ok_names (F : Fun K "_law_names" "_law_names" sNames f fd) (B : Bt mg)
    (GP : FnOk P w K mg base CX0 3 g gd ["_law_stream"] spName) (bP : Binds K gd ["_law_stream"] []) (kP : PySem.W.keepIn K (.ref g) = true) (mP : mg "_law_name" = some (.ref g)) :
    FnOk P w K mg base CX0 4 f fd ["_law_stream", "_law_many"] spNames := by
  refine F.ok scNs (fun vs H Q E h => ?_) (fun cdv A outer s H vs Q E hr h => ?_)
  · obtain ⟨st, q, b, m, rfl, _⟩ := h
    rfl
  obtain ⟨st, q, b, m, rfl, hs, hb0, hb1, hm, k⟩ := h
  refine ⟨_, pss_cons (ps_set (i := 2) scNs.nd rfl (Or.inr rfl) (pe_lst pa_nil))
    (pss_cons (ps_for PassesOwn.never rfl (pi_range1 (by rfl) B.range (pa_cons (pv 1) pa_nil)) (pg_name (i := 3) scNs.nd rfl (Or.inl rfl))
      (pss_cons (ps_set (i := 4) scNs.nd rfl (Or.inr rfl) (pe_call GP hr rfl mP kP bP .nil pass0 (pa_cons (pv 0) pa_nil)))
      (pss_one (ps_expr (pe_bm PySem.F.plainAttrs_list PySem.F.slot_list_append PySem.F.type_list_append mt_append (pv 2) (pa_cons
        (pe_ix ix_list (pe_lc (own := [("_law_one", 5)]) (g := gName 5) (tt := tTest (tOp (rIn K true) (tVar 5) (tVar 2))) (te := tVar 5) rfl scNs.nd (pi_list (pe_op op_cat (pe_lst (pa_cons (pv 4) pa_nil))
            (pe_lc (own := [("_law_sign", 6)]) (g := gName 6) (tt := tYes) (te := tOp rCatS (tOp rCatS (tC (.str "zz")) (tVar 6)) (tSl rSlS (tVar 4) tNoPart (tPart (tC (.int 5))))) rfl scNs.nd (pi_str pe_str) (blkOk_by (N := namesNs) (sc := defScope sNames) (by decide +kernel)) (fun _ _ _ _ _ => pg_name (i := 6) scNs.nd rfl (Or.inl rfl)) (fun _ _ _ _ _ => pts_nil)
              (fun _ _ _ _ _ => pe_op op_add_str (pe_op op_add_str pe_str (pv 6)) (pe_slice sl_str (pv 4) po_none (po_some pe_int))))))
          (blkOk_by (N := namesNs) (sc := defScope sNames) (by decide +kernel)) (fun _ _ _ _ _ => pg_name (i := 5) scNs.nd rfl (Or.inl rfl)) (fun _ _ _ _ _ => pts_one (pt_cmpR op_notIn_seq (pv 5) (pv 2) (by rfl))) (fun _ _ _ _ _ => pv 5)) pe_int (fun _ _ => rfl)) pa_nil))))))
    (pss_one (ps_ret (pv 2)))), ?_⟩
  refine ⟨(by show 0 ≤ sizeLine; exact Nat.zero_le _), fun L hL => ?_⟩
  obtain ⟨nL1, nL2⟩ := hs.out hL
  have gL := same_new hL (.lst [])
  refine ⟨_, rfl, (m : Int), rfl, by omega, by omega, for_range (lo := 0) (n := m) (fun i σ' H' => ∃ (ns : List Str) (b' : Int) (u v : Option V), σ' = [some (.ref st), some (.int m), some (.ref L), u, v, none, none] ∧ H' L = some (.lst (ns.map V.str)) ∧ ns.length = i ∧ (∀ z ∈ ns, okNm z) ∧ b ≤ b' ∧ b' ≤ b + 9 * i ∧ Spr H' st q b' ∧ SX st q H H')
    ⟨[], b, _, _, rfl, upd_same, rfl, (fun z hz => by cases hz), by omega, by omega, hs.same gL, .of gL⟩ ?_ ?_⟩
  · rintro i σ' H1 hi ⟨ns, b1, u, v, rfl, hl1, hn, hnok, hb2, hb3, hs1, gx1⟩
    refine ⟨_, rfl, st, q, b1, rfl, hs1, by omega, by omega, fun nm b2 H2 hnmk hb4 hb5 hs2 g2 => ?_⟩
    have hl2 := g2 _ _ nL1 nL2 hl1
    have hnm := hnmk.2.2
    refine ⟨_, rfl, .inl ⟨rfl, _, SqL.of hl2⟩, ?_⟩
    refine ⟨_, rfl, (by show 1 ≤ sizeLine; decide), fun t1 ht1 => ?_⟩
    have k1 := same_new ht1 (.lst [.str nm])
    refine ⟨abch, rfl, fun D hD => ?_⟩
    refine lc_it (walk_str (z := abch)) (InvZz (upd H2 t1 (.lst [.str nm])) D nm) ⟨upd_same, same_new hD _⟩ (fun _ _ _ _ => trivial) ?_ ?_
    · rintro j y H3 H4 hj ⟨hd, g3⟩ ⟨rfl, c, hc, rfl⟩
      refine ⟨rfl, kept ?_⟩
      have e2 : ("zz" : Str).length = 2 := by decide +kernel
      have hz := cutS_le nm none (some 5)
      refine ⟨_, rfl, _, _, rfl, rfl, (by rw [e2]; show 2 + 1 ≤ sizeLine; decide), _, rfl, 5, rfl, nm, rfl, Nat.le_trans hnm (by decide), _, _, rfl, rfl, ?_, ?_⟩
      · have e3 : (("zz" : Str) ++ (⟨#[c]⟩ : Str)).length = 3 := by
          rw [len_tl, tl_append, List.length_append, ← len_tl, e2] <;> rfl
        rw [e3]
        exact Nat.le_trans (Nat.add_le_add_left (Nat.le_trans hz hnm) 3) (by decide)
      · have hc2 : abch.cps.toList[j]? = some c := by rw [Array.getElem?_toList]; exact hc
        refine ⟨_, hd, ?_, ?_, same_over g3 hD _⟩
        · rw [List.length_map]
          unfold cands
          rw [List.length_map, List.length_take]
          have e8 : abch.cps.toList.length = 8 := by decide +kernel
          exact small1000 (by omega)
        · rw [upd_same]
          unfold cands
          rw [List.take_succ, hc2, List.map_append, List.map_append] <;> rfl
    · rintro H3 ⟨hd, g3⟩
      have ht3 := g3 _ _ (upd_same (H := H2) (a := t1) (o := .lst [.str nm]))
      have e8 : abch.cps.size = 8 := by decide +kernel
      refine ⟨t1, D, _, _, rfl, rfl, ht3, hd, ?_, fun p hp => ?_⟩
      · rw [List.length_map]
        unfold cands
        rw [List.length_map, List.length_take]
        have e8 : abch.cps.toList.length = 8 := by decide +kernel
        exact Nat.le_trans (show _ ≤ 10 by simp only [List.length_cons, List.length_nil]; omega) (by decide)
      have l9 : (nm :: cands nm abch.cps.size).length ≤ 9 := by
        unfold cands
        rw [List.length_cons, List.length_map, List.length_take]
        have e8 : abch.cps.toList.length = 8 := by decide +kernel
        omega
      obtain ⟨i0, hi0, hout⟩ := pig (ns := ns) (by omega) (fun i => zz (97 + i) (cutS nm none (some 5))) (fun i j _ _ e => by have := zz_ne e; omega)
      have hat : (nm :: cands nm abch.cps.size)[i0 + 1]? = some (zz (97 + i0) (cutS nm none (some 5))) := by
        rw [List.getElem?_cons_succ]
        unfold cands
        have e9 : abch.cps.toList[i0]? = some (97 + i0) := by rw [Array.getElem?_toList]; exact abch_at i0 hi0
        rw [List.getElem?_map, List.getElem?_take, if_pos (by omega), e9] <;> rfl
      have gp := same_new hp (.lst ([V.str nm] ++ (cands nm abch.cps.size).map V.str))
      have gA : Same H2 (upd H3 p (.lst ([V.str nm] ++ (cands nm abch.cps.size).map V.str))) := (k1.trans g3).trans gp
      have hcs : upd H3 p (.lst ([V.str nm] ++ (cands nm abch.cps.size).map V.str)) p = some (.lst ((nm :: cands nm abch.cps.size).map V.str)) := upd_same
      generalize upd H3 p (.lst ([V.str nm] ++ (cands nm abch.cps.size).map V.str)) = H5 at gA hcs
      have hcok : ∀ z ∈ nm :: cands nm abch.cps.size, okNm z := by
        intro z hz
        rcases List.mem_cons.mp hz with rfl | hz
        · exact hnmk
        · unfold cands at hz
          obtain ⟨c, hc, rfl⟩ := List.mem_map.mp hz
          obtain ⟨c1, c2⟩ := (show ∀ c ∈ abch.cps.toList, 97 ≤ c ∧ c ≤ 122 by decide +kernel) c (List.mem_of_mem_take hc)
          exact low_zz c1 c2 hnmk
      generalize nm :: cands nm abch.cps.size = cs at hcs l9 hat hcok
      have hl5 := gA _ _ hl2
      refine ⟨p, rfl, ⟨_, SqL.of hcs⟩, fun E' hE => ?_⟩
      refine lc_list (InvF H5 E' cs ns) ⟨[], upd_same, Nat.le_refl _, (fun z hz => by cases hz), fun j z hj => absurd hj (Nat.not_lt_zero _), same_new hE _⟩ (fun j H6 _ ⟨_, _, _, _, _, g6⟩ => Same.seq g6 (SqL.of hcs)) ?_ ?_
      · rintro j y H6 hy ⟨acc, hd6, hle, hmm, hne, g6⟩
        rw [List.getElem?_map] at hy
        cases ez : cs[j]? with
        | none => rw [ez] at hy; cases hy
        | some z =>
          rw [ez] at hy
          cases hy
          refine ⟨rfl, ?_⟩
          refine ⟨_, rfl, _, rfl, L, _, rfl, .inl (SqL.of (g6 _ _ hl5)), rfl, flat_strs' ns, _, rfl, ?_⟩
          have hj9 : j < cs.length := (List.getElem?_eq_some_iff.mp ez).1
          have ein := in_strs z ns
          refine ite2 (fun ct => ?_) (fun ct => ?_)
          · refine ⟨_, rfl, _, hd6, by rw [List.length_map]; exact small1000 (by omega), acc ++ [z], by rw [upd_same, List.map_append] <;> rfl, by rw [List.length_append]; exact Nat.succ_le_succ hle, (fun z' hz' => (List.mem_append.mp hz').elim (hmm z') (fun h => by cases List.mem_singleton.mp h; exact List.mem_of_getElem? ez)), fun j' z' _ _ _ e => ?_, same_over g6 hE _⟩
            exact absurd e (by simp)
          · have hin : z ∈ ns := by
              have z2 : (!inV (.str z) (ns.map V.str)) = false := Bool.eq_false_iff.mpr ct
              rw [ein] at z2
              simpa using z2
            refine ⟨acc, hd6, by omega, hmm, fun j' z' hj' ez' hz' => ?_, g6⟩
            by_cases ejj : j' = j
            · subst ejj
              rw [ez] at ez'
              cases ez'
              exact absurd hin hz'
            · exact hne j' z' (by omega) ez' hz'
      · rintro H6 ⟨acc, hd6, hle, hmm, hne, g6⟩
        rw [List.length_map] at hne
        have hacc := hne (i0 + 1) _ (List.getElem?_eq_some_iff.mp hat).1 hat hout
        cases acc with
        | nil => exact absurd rfl hacc
        | cons z0 r0 =>
          have hl6 := g6 _ _ hl5
          have gAll : Same H2 H6 := gA.trans g6
          refine ⟨E', _, 0, .str z0, rfl, rfl, SqL.of hd6, atI_nat (j := 0) rfl, ?_⟩
          refine ⟨L, _, .str z0, rfl, rfl, hl6, by rw [List.length_map]; exact small1000 (by omega), ?_⟩
          refine ⟨ns ++ [z0], b2, _, _, rfl, by rw [upd_same, List.map_append] <;> rfl, by rw [List.length_append, hn] <;> rfl, (fun z hz => (List.mem_append.mp hz).elim (hnok z) (fun h => by cases List.mem_singleton.mp h; exact hcok _ (hmm _ (List.mem_cons_self ..)))), by omega, by omega, (hs2.same gAll).upd nL1 nL2, ?_⟩
          exact (gx1.trans (g2.trans (.of gAll))).upd_out hL
  · rintro σ' H1 ⟨ns, b1, u, v, rfl, hl1, hn, hnok, hb2, hb3, hs1, gx1⟩
    exact ⟨_, rfl, k L ns b1 H1 hn hnok hb2 hb3 hs1 gx1 hl1 hL⟩
end
end Lw
namespace Lw
open PySem L2 OwB TL
abbrev sOwn : Stmt := topS 99
theorem PairAt.tk {K : PySem.W.Frag} {H H' : Hp} {v : V} {p : Str × List Str} (g : TK K H H') : PairAt K H v p → PairAt K H' v p
  | ⟨a, t, e, h1, h2⟩ => ⟨a, t, e, g _ _ h1, g _ _ h2⟩
theorem PairsAt.tk {K : PySem.W.Frag} {H H' : Hp} (g : TK K H H') : ∀ {vs : List V} {ps : List (Str × List Str)}, PairsAt K H vs ps → PairsAt K H' vs ps
  | _, _, .nil => .nil
  | _, _, .cons h t => .cons (h.tk g) (PairsAt.tk g t)
theorem all_strs (ls : List Str) : ∀ v ∈ ls.map V.str, ∃ z, v = .str z := fun v h => by
  obtain ⟨z, _, e⟩ := List.mem_map.mp h
  exact ⟨z, e.symm⟩
def okP (p : Str × List Str) : Prop := (p.2.Nodup ∧ p.2.length ≤ 3) ∧ okNm p.1 ∧ ∀ z ∈ p.2, okL z
section
variable {P : Program} {w : World} {K : PySem.W.Frag} {mg : Str → Option Value} {base : Heap} {f g g1 g2 g3 g4 : Addr} {fd gd gd1 gd2 gd3 gd4 : FuncData}
def spOwn (K : PySem.W.Frag) : Sp := fun vs H Q _ => ∃ (st q : Addr) (b : Int) (m : Nat), vs = [.ref st, .int m] ∧ m ≤ 4 ∧ Spr H st q b ∧ 0 ≤ b ∧ b ≤ 700 ∧
  ∀ (r : Addr) (us : List V) (ps : List (Str × List Str)) (b' : Int) (H' : Hp), us.length = m → PairsAt K H' us ps → (∀ p ∈ ps, okP p) → b ≤ b' → b' ≤ b + 64 → Spr H' st q b' → SX st q H H' → H' r = some (.lst us) → H r = none → Q (.ref r) H'
abbrev namesO : List Str := ["_law_stream", "_law_many", "_law_letters_here", "_law_names_here", "_law_own", "_law_word", "_law_name_here"]
theorem scO : FnScope namesO ["_law_stream", "_law_many"] (defScope sOwn) := ⟨rfl, rfl, rfl, by decide +kernel, rfl, by decide +kernel, by decide +kernel⟩
theorem ok_own (F : Fun K "_law_own_accesses" "_law_own_accesses" sOwn f fd) (B : Bt mg)
    (G : FnOk P w K mg base CX0 1 g gd ["_law_stream", "_law_many"] spDraw) (bG : Binds K gd ["_law_stream", "_law_many"] []) (kG : PySem.W.keepIn K (.ref g) = true) (mG : mg "_law_draw" = some (.ref g))
    (GP : FnOk P w K mg base CX0 2 g1 gd1 ["_law_stream", "_law_some"] (spPick K)) (bP : Binds K gd1 ["_law_stream", "_law_some"] []) (kP : PySem.W.keepIn K (.ref g1) = true) (mP : mg "_law_pick" = some (.ref g1))
    (GM : FnOk P w K mg base CX0 2 g2 gd2 ["_law_stream", "_law_some"] spMixed) (bM : Binds K gd2 ["_law_stream", "_law_some"] []) (kM : PySem.W.keepIn K (.ref g2) = true) (mM : mg "_law_mixed" = some (.ref g2))
    (GL : FnOk P w K mg base CX0 2 g3 gd3 ["_law_stream", "_law_many"] spLet) (bL : Binds K gd3 ["_law_stream", "_law_many"] []) (kL : PySem.W.keepIn K (.ref g3) = true) (mL : mg "_law_letters" = some (.ref g3))
    (GN : FnOk P w K mg base CX0 4 g4 gd4 ["_law_stream", "_law_many"] spNames) (bN : Binds K gd4 ["_law_stream", "_law_many"] []) (kN : PySem.W.keepIn K (.ref g4) = true) (mN : mg "_law_names" = some (.ref g4)) :
    FnOk P w K mg base CX0 5 f fd ["_law_stream", "_law_many"] (spOwn K) := by
  refine F.ok scO (fun vs H Q E h => ?_) (fun cdv A outer s H vs Q E hr h => ?_)
  · obtain ⟨st, q, b, m, rfl, _⟩ := h
    rfl
  obtain ⟨st, q, b, m, rfl, hm4, hs, hb0, hb1, k⟩ := h
  have hr1 := hr.mono (show 1 ≤ 4 by decide)
  have hr2 := hr.mono (show 2 ≤ 4 by decide)
  refine ⟨_, pss_cons (ps_par3 (i := 2) (j := 3) (l := 4) rfl scO.nd rfl rfl rfl (by decide) (by decide) (by decide) rfl rfl rfl (pa_cons (pe_call GL hr2 rfl mL kL bL .nil pass0 (pa_cons (pv 0) (pa_cons pe_int pa_nil))) (pa_cons (pe_call GN hr rfl mN kN bN .nil pass0 (pa_cons (pv 0) (pa_cons pe_int pa_nil))) (pa_cons (pe_lst pa_nil) pa_nil))) (by rfl))
    (pss_cons (ps_set (i := 5) scO.nd rfl (Or.inl rfl) (pe_call GP hr2 rfl mP kP bP .nil pass0 (pa_cons (pv 0) (pa_cons (pe_lst (pa_cons pe_str (pa_cons pe_str (pa_cons pe_str (pa_cons pe_str (pa_cons pe_str (pa_cons pe_str (pa_cons pe_str (pa_cons pe_str (pa_cons pe_str pa_nil)))))))))) pa_nil))))
    (C8.pss_cut (ps_if (PW.pt (pw_and (pt_cmpR op_notIn_seq (pv 5) (pv 3) (by rfl)) (pw_and1 (pt_cmpR op_eq (pe_call G hr1 rfl mG kG bG .nil pass0 (pa_cons (pv 0) (pa_cons pe_int pa_nil))) pe_int (nomark _))))) (pss_one (ps_asg (pv 5) (pg_sub (pv 3) pe_int set_list))) pss_nil)
    (pss_cons (ps_for PassesOwn.never rfl (pi_list (pe_slice sl_list (pv 3) po_none (po_some (pv 1)))) (pg_name (i := 6) scO.nd rfl (Or.inl rfl))
      (pss_one (ps_expr (pe_bm PySem.F.plainAttrs_list PySem.F.slot_list_append PySem.F.type_list_append mt_append (pv 4) (pa_cons (pe_tup (pa_cons (pv 6) (pa_cons
        (pe_callTy call_tuple_of (by rfl) B.tup (by decide +kernel) (pa_cons (pe_slice sl_list (pe_call GM hr2 rfl mM kM bM .nil pass0 (pa_cons (pv 0) (pa_cons (pv 2) pa_nil))) po_none (po_some (pe_call G hr1 rfl mG kG bG .nil pass0 (pa_cons (pv 0) (pa_cons pe_int pa_nil))))) pa_nil)) pa_nil))) pa_nil)))))
    (pss_one (ps_ret (pv 4)))))), ?_⟩
  refine ⟨_, rfl, st, q, b, 4, rfl, hs, hb0, by omega, by decide, fun L ls H1 nd lab e4 hs1 g1 hl1 hL => ?_⟩
  refine ⟨_, rfl, st, q, _, 4, rfl, hs1, by omega, by omega, by decide, fun N ns b2 H2 e5 nok hb2 hb3 hs2 g2 hn2 hN => ?_⟩
  refine ⟨(by show 0 ≤ sizeLine; exact Nat.zero_le _), fun O hO => ?_⟩
  obtain ⟨nL1, nL2⟩ := hs.out hL
  obtain ⟨nN1, nN2⟩ := hs1.out hN
  obtain ⟨nO1, nO2⟩ := hs2.out hO
  have hL2 := g2 _ _ nL1 nL2 hl1
  have nNL : N ≠ L := (ne_of_none hl1 hN).symm
  have nOL : O ≠ L := (ne_of_none hL2 hO).symm
  have nON : O ≠ N := (ne_of_none hn2 hO).symm
  have gO := same_new hO (.lst [])
  have outN : H N = none := by
    cases e : H N with
    | none => rfl
    | some o => exact absurd ((g1 _ _ nN1 nN2 e).symm.trans hN) (by simp)
  have outO : H O = none := by
    cases e : H O with
    | none => rfl
    | some o => exact absurd ((g2 _ _ nO1 nO2 (g1 _ _ nO1 nO2 e)).symm.trans hO) (by simp)
  have gx0 : SX st q H (upd H2 O (.lst [])) := (g1.trans g2).upd_out outO
  refine ⟨_, _, _, rfl, ?_⟩
  refine ⟨_, rfl, (by show 9 ≤ sizeLine; decide), fun p hp => ?_⟩
  have gp := same_new hp (.lst [.str "below", .str "equal", .str "greater", .str "lesser", .str "unequal", .str "absolute", .str "all", .str "none", .str "add"])
  obtain ⟨np1, np2⟩ := (hs2.same gO).out hp
  refine ⟨st, q, p, b2, _, rfl, (hs2.same gO).same gp, by omega, by omega, upd_same, np1, np2, by show 0 < 9; decide, by show 9 ≤ 1000; decide, fun v H3 hv hs3 g3 => ?_⟩
  obtain ⟨wd, rfl, wdk⟩ : ∃ wd, v = .str wd ∧ okNm wd := by
    obtain ⟨z, hz, e⟩ := List.mem_map.mp (show v ∈ (["below", "equal", "greater", "lesser", "unequal", "absolute", "all", "none", "add"] : List Str).map V.str from hv)
    exact ⟨z, e.symm, (show ∀ z ∈ (["below", "equal", "greater", "lesser", "unequal", "absolute", "all", "none", "add"] : List Str), (∀ c ∈ tl z, 97 ≤ c ∧ c ≤ 122) ∧ 1 ≤ z.length ∧ z.length ≤ 8 by decide +kernel) z hz⟩
  have hN3 := g3 _ _ nN1 nN2 (gp _ _ (gO _ _ hn2))
  have hL3 := g3 _ _ nL1 nL2 (gp _ _ (gO _ _ hL2))
  have hO3 := g3 _ _ nO1 nO2 (gp _ _ (upd_same (H := H2) (a := O) (o := .lst [])))
  have gx3 : SX st q H H3 := (gx0.trans (.of gp)).trans g3
  refine ⟨fun σ' H' => σ' = [some (.ref st), some (.int m), some (.ref L), some (.ref N), some (.ref O), some (.str wd), none] ∧ ∃ (ns' : List Str) (b' : Int), H' N = some (.lst (ns'.map V.str)) ∧ ns'.length = 4 ∧ (∀ z ∈ ns', okNm z) ∧ H' L = some (.lst (ls.map V.str)) ∧ H' O = some (.lst []) ∧ Spr H' st q b' ∧ b ≤ b' ∧ b' ≤ b + 44 ∧ SX st q H H', ?_, ?_⟩
  · refine ⟨_, rfl, _, rfl, N, _, rfl, .inl (SqL.of hN3), rfl, flat_strs' ns, _, rfl, ?_⟩
    refine ite2 (fun _ => ?_) (fun _ => ?_)
    · refine ⟨_, rfl, st, q, _, 3, rfl, hs3, by omega, by omega, by decide, by decide, fun r H4 r0 r1 hs4 g4 => ?_⟩
      have hN4 := g4 _ _ nN1 nN2 hN3
      have hL4 := g4 _ _ nL1 nL2 hL3
      have hO4 := g4 _ _ nO1 nO2 hO3
      refine ⟨rfl, _, rfl, ite2 (fun _ => ?_) (fun _ => ⟨rfl, ns, _, hN4, e5, nok, hL4, hO4, hs4, by omega, by omega, gx3.trans g4⟩)⟩
      refine ⟨_, rfl, _, rfl, N, _, 0, 0, rfl, rfl, hN4, by rw [List.length_map, e5] <;> rfl, ?_⟩
      refine ⟨rfl, ns.set 0 wd, _, by rw [upd_same, List.map_set], by rw [List.length_set, e5], (fun z hz => (List.mem_or_eq_of_mem_set hz).elim (nok z) (fun e => by rw [e]; exact wdk)), by rw [upd_ne nNL.symm]; exact hL4, by rw [upd_ne nON]; exact hO4, hs4.upd nN1 nN2, by omega, by omega, (gx3.trans g4).upd_out outN⟩
    · exact ⟨rfl, ns, _, hN3, e5, nok, hL3, hO3, hs3, by omega, by omega, gx3⟩
  · rintro σ' H4 ⟨rfl, ns', b4, hN4, e6, nok4, hL4, hO4, hs4, hb4, hb5, gx4⟩
    refine ⟨_, rfl, _, rfl, (m : Int), rfl, N, _, rfl, SqL.of hN4, fun p2 hp2 => ?_⟩
    have gp2 := same_new hp2 (.lst (cutV (ns'.map V.str) none (some (m : Int))))
    have ecut : cutV (ns'.map V.str) none (some (m : Int)) = (ns'.take m).map V.str := by
      rw [cut_take _ _ (by rw [List.length_map]; omega), List.map_take]
    rw [ecut] at gp2 ⊢
    obtain ⟨nq1, nq2⟩ := hs4.out hp2
    refine ⟨p2, rfl, ⟨_, SqL.of upd_same⟩, for_list (fun i σ' H' => ∃ (us : List V) (ps : List (Str × List Str)) (b' : Int) (u : Option V), σ' = [some (.ref st), some (.int m), some (.ref L), some (.ref N), some (.ref O), some (.str wd), u] ∧ H' O = some (.lst us) ∧ us.length = i ∧ PairsAt K H' us ps ∧ (∀ p ∈ ps, okP p) ∧ H' L = some (.lst (ls.map V.str)) ∧ H' p2 = some (.lst ((ns'.take m).map V.str)) ∧ b ≤ b' ∧ b' ≤ b + 44 + 5 * i ∧ Spr H' st q b' ∧ SX st q H H')
      ⟨[], [], b4, _, rfl, gp2 _ _ hO4, rfl, PairsAt.nil, (fun p h => by cases h), gp2 _ _ hL4, upd_same, hb4, by omega, hs4.same gp2, gx4.trans (.of gp2)⟩ (fun i σ' H' _ ⟨_, _, _, _, _, _, _, _, _, _, h, _⟩ => SqL.of h) ?_ ?_⟩
    · rintro i x σ' H5 hx ⟨us, ps, b5, u, rfl, hO5, hlen, hps, hok, hL5, hp5, hb6, hb7, hs5, gx5⟩
      have hi2 : i < m := by
        have z := (List.getElem?_eq_some_iff.mp hx).1
        rw [List.length_map, List.length_take] at z
        omega
      rw [List.getElem?_map] at hx
      cases ez : (ns'.take m)[i]? with
      | none => rw [ez] at hx; cases hx
      | some nm =>
        rw [ez] at hx
        cases hx
        refine ⟨_, rfl, .inl ⟨rfl, _, SqL.of hO5⟩, _, rfl, _, rfl, _, rfl, st, q, L, b5, ls, rfl, hs5, by omega, by omega, hL5, by omega, fun r os H6 perm hs6 g6 hr6 hr0 => ?_⟩
        have hlo : os.length = 4 := perm.length_eq.trans e4
        refine ⟨_, rfl, st, q, _, 4, rfl, hs6, by omega, by omega, by decide, by decide, fun d H7 d0 d1 hs7 g7 => ?_⟩
        obtain ⟨nr1, nr2⟩ := hs5.out hr0
        refine ⟨d, rfl, r, _, rfl, SqL.of (g7 _ _ nr1 nr2 hr6), fun c hc => ?_⟩
        have ecd : cutV (os.map V.str) none (some d) = (os.take d.toNat).map V.str := by
          rw [show (d : Int) = ((d.toNat : Nat) : Int) by omega, cut_take _ _ (by rw [List.length_map]; omega), List.map_take]
          rfl
        rw [ecd]
        have gc := same_new hc (.lst ((os.take d.toNat).map V.str))
        refine ⟨c, _, rfl, .inl ⟨SqL.of upd_same, fun t ht => ?_⟩⟩
        have gt := same_new ht (.tup ((os.take d.toNat).map V.str))
        refine ⟨(by show 2 ≤ sizeLine; decide), fun tp htp => ?_⟩
        have gtp := same_new htp (.tup [.str nm, .ref t])
        have g8 := (gc.trans gt).trans gtp
        have htt : SqT K (upd (upd (upd H7 c (.lst ((os.take d.toNat).map V.str))) t (.tup ((os.take d.toNat).map V.str))) tp (.tup [.str nm, .ref t])) t ((os.take d.toNat).map V.str) := seqT gtp (SqT.of upd_same)
        have htu : SqT K (upd (upd (upd H7 c (.lst ((os.take d.toNat).map V.str))) t (.tup ((os.take d.toNat).map V.str))) tp (.tup [.str nm, .ref t])) tp [.str nm, .ref t] := SqT.of upd_same
        generalize upd (upd (upd H7 c (.lst ((os.take d.toNat).map V.str))) t (.tup ((os.take d.toNat).map V.str))) tp (.tup [.str nm, .ref t]) = H8 at g8 htt htu
        have hO8 := g8 _ _ (g7 _ _ nO1 nO2 (g6 _ _ nO1 nO2 hO5))
        have hL8 := g8 _ _ (g7 _ _ nL1 nL2 (g6 _ _ nL1 nL2 hL5))
        have hp8 := g8 _ _ (g7 _ _ nq1 nq2 (g6 _ _ nq1 nq2 hp5))
        have nOp : O ≠ p2 := ne_of_none hO4 hp2
        refine ⟨O, us, .ref tp, rfl, rfl, hO8, small1000 (by omega), ?_⟩
        refine ⟨us ++ [.ref tp], ps ++ [(nm, os.take d.toNat)], b5 + ls.length + 1, _, rfl, upd_same, by rw [List.length_append, hlen] <;> rfl, ?_, ?_, by rw [upd_ne nOL.symm]; exact hL8, by rw [upd_ne nOp.symm]; exact hp8, by omega, by omega, (hs7.same g8).upd nO1 nO2, ?_⟩
        · have tk := (TK.sx hs5 (g6.trans (g7.trans (.of g8)))).trans (TK.lst (K := K) (ys := us ++ [.ref tp]) hO8)
          exact (hps.tk tk).app (.cons ⟨tp, t, rfl, TK.lst hO8 _ _ htu, TK.lst hO8 _ _ htt⟩ .nil)
        · intro p hp
          rcases List.mem_append.mp hp with hp | hp
          · exact hok p hp
          · cases List.mem_singleton.mp hp
            exact ⟨⟨List.Nodup.sublist (List.take_sublist _ _) (perm.nodup_iff.mpr nd), by show (os.take d.toNat).length ≤ 3; rw [List.length_take]; omega⟩, nok4 _ (List.mem_of_mem_take (List.mem_of_getElem? ez)), fun z hz => abc_okL (lab z (perm.mem_iff.mp (List.mem_of_mem_take hz)))⟩
        · exact (gx5.trans (g6.trans (g7.trans (.of g8)))).upd_out outO
    · rintro σ' H5 ⟨us, ps, b5, u, rfl, hO5, hlen, hps, hok, hL5, hp5, hb6, hb7, hs5, gx5⟩
      have e2 : ((ns'.take m).map V.str).length = m := by rw [List.length_map, List.length_take]; omega
      rw [e2] at hlen hb7
      exact ⟨_, rfl, k O us ps b5 H5 hlen hps hok hb6 (by omega) hs5 gx5 hO5 outO⟩
end
end Lw
/-! except clauses, each with a name or without -/
namespace Lw
open PySem PySem.Spec PyProof.Rows L2
/-- a clause: what it catches, the slot of its name, what its suite reads as -/
structure Clause where
  c : Value
  i : Option Nat
  ts : Addr → Value → Option Addr → TS
/-- behind the suite the name is gone -/
def goneD (i : Nat) (D : Ends) : Ends := { nx := fun σ H => D.nx (σ.set i none) H, rt := D.rt, bk := fun σ H => D.bk (σ.set i none) H, ct := fun σ H => D.ct (σ.set i none) H }
def suiteW (k : Clause) (a : Addr) (cls : Value) (d : Option Addr) (D : Ends) (σ : L2.St) (H : Hp) : Prop := match k.i with
  | none => k.ts a cls d D σ H
  | some i => k.ts a cls d (goneD i D) (σ.set i (some (.ref a))) H
/-- what the clauses wish of an exception, one after the other -/
def wishC (K : PySem.W.Frag) (Wout : WX) (D : Ends) : List Clause → WX
  | [] => Wout
  | k :: r => fun cls d σ H => ∃ b, PySem.W.exmOne K cls k.c = some b ∧ (b = true → ∀ a, H a = none → suiteW k a cls d D σ H) ∧ (b = false → wishC K Wout D r cls d σ H)
/-- the clauses of the text, read so -/
inductive ClauseOk (X : Cx) : List ExceptHandler → List Clause → Prop
  | nil : ClauseOk X [] []
  | bare {x : Str} {c : Value} {ts : Addr → Value → Option Addr → TS} {b₀ : Stmt} {suite : List Stmt} {np p : Pos} {hs : List ExceptHandler} {l : List Clause} (hc : Names X x c)
      (hsu : ∀ (a : Addr) (oe : Obj) (cls : Value) (d : Option Addr) (pn : List (Addr × Obj)), Zc cls d oe → (∃ vs, oe.data = .fields vs) → PSs (X.suite a ((a, oe) :: pn)) (b₀ :: suite) (ts a cls d)) (r : ClauseOk X hs l) :
      ClauseOk X (.ExceptHandler (some (.Name x np)) none (b₀ :: suite) p :: hs) (⟨c, none, ts⟩ :: l)
  | named {x n : Str} {c : Value} {i : Nat} {ts : Addr → Value → Option Addr → TS} {b₀ : Stmt} {suite : List Stmt} {np p : Pos} {hs : List ExceptHandler} {l : List Clause} (hN : X.N.Nodup) (hi : X.N[i]? = some n) (hl : X.env.kindOf n = some .local) (hc : Names X x c)
      (hsu : ∀ (a : Addr) (oe : Obj) (cls : Value) (d : Option Addr) (pn : List (Addr × Obj)), Zc cls d oe → (∃ vs, oe.data = .fields vs) → PSs (X.suite a ((a, oe) :: pn)) (b₀ :: suite) (ts a cls d)) (r : ClauseOk X hs l) :
      ClauseOk X (.ExceptHandler (some (.Name x np)) (some n) (b₀ :: suite) p :: hs) (⟨c, some i, ts⟩ :: l)
section
variable {X : Cx} {body : List Stmt} {h₀ : ExceptHandler} {hs : List ExceptHandler} {l : List Clause} {pos : Pos} {tb : WX → TS} {Wout : WX}
theorem ps_clauses (hst : X.stack = X.env :: X.outer) (hf : X.env.frame = some X.env.locals) (tk : Takes X Wout)
    (hb : ∀ (W : WX) (pn : List (Addr × Obj)) (xe : Value → Shared → Prop), Takes (X.tr pn xe) W → PassesOwn (model X.prog X.w) X.A X.env xe → PSs (X.tr pn xe) body (tb W))
    (hh : ClauseOk X (h₀ :: hs) l) : PS X (.Try body (h₀ :: hs) [] [] pos) (fun D σ H => tb (wishC X.K Wout D l) D σ H) := by
  refine ⟨fun pins s σ H D I h => ?_⟩
  have ok := I.ok
  have hfr : X.A.frames = some (X.env :: X.outer) := by rw [ok.frames, hst]
  -- an exception e of the body: noted here, then the clauses
  let catch_ : Value → Shared → Prop := fun e s₁ => wpAny (model X.prog X.w) X.A (noteFrame e X.env) (fun _ s₂ => wpAny (model X.prog X.w) X.A (setFlight e none) (fun _ s₃ =>
    wpAny (model X.prog X.w) X.A (handleBy e X.env (h₀ :: hs)) (SP X pins D) X.xe s₃) X.xe s₂) X.xe s₁
  have caught : Takes (X.tr (X.pn ++ pins) catch_) (wishC X.K Wout D l) := by
    rintro u s' ⟨a, B, sI, pins', σ', H', cls, d, rfl, J', nb, up, sky, na, os, ag, w⟩
    have J : Inv X pins σ' H' sI := J'.ofTry ok
    have sky' : Sky B (X.env :: X.outer) a (Zc cls d) X.env.locals s'.heap := by rw [← hst]; exact sky
    show wpAny (model X.prog X.w) X.A (noteFrame (.ref a) X.env) _ _ _
    refine Sky.land Zc.steady hfr hf sky' fun h3 fl3 up3 => ?_
    obtain ⟨oe3, vs3, he3, hz3, hd3⟩ := fl3.there
    -- the exception is none of the frames
    have off : a ∉ frs (X.env :: X.outer) := fun hm => by
      obtain ⟨_, o', e', hnf⟩ := fl3.2.2.1.mem hm
      rw [he3] at e'
      cases e'
      exact hnf _ hd3
    have nL : a ≠ X.env.locals := fun z => off (List.mem_filterMap.mpr ⟨X.env, List.mem_cons_self, by rw [hf, z]⟩)
    have nF : a ∉ X.fs := fun hm => by
      obtain ⟨e, he, q⟩ := List.mem_filterMap.mp hm
      exact off (List.mem_filterMap.mpr ⟨e, List.mem_cons_of_mem _ he, q⟩)
    have J3 : Inv X pins σ' H' { s' with heap := h3 } := J.landed nb fl3.1 (up.trans up3) os ag
    have S3 := J3.suite he3 hd3 na nL nF
    have LT : PySem.W.Looks (model X.prog X.w) h3 (typeOf (.ref a)) cls := fun A Q E s k q => wpAny_typeOf_ref (k _ _ he3) (by rw [hz3.1]; exact q)
    have asks : ∀ {x : Str} {c : Value} {np : Pos} {Q E : Value → Shared → Prop}, Names X x c → Q c { s' with heap := h3 } → wpAny (model X.prog X.w) (X.A.mark (some (.ref a))) (eval (.Name x np) X.env) Q E { s' with heap := h3 } := fun {x c np Q E} hc q => by
      obtain ⟨hg, hdbg, hm | ⟨hm, hv, hnn⟩⟩ := hc
      · exact ld_glob (X := X.suite a ((a, oe3) :: (X.pn ++ pins))) S3 hg hm q hdbg
      · exact ld_blt (X := X.suite a ((a, oe3) :: (X.pn ++ pins))) S3 hg hm hv q hnn hdbg
    -- back in the air, where no clause fits
    have on : Wout cls d σ' H' → wpAny (model X.prog X.w) X.A (handleBy (.ref a) X.env []) (SP X pins D) X.xe { s' with heap := h3 } := fun w => by
      refine wpAny_handleBy_nil ?_
      obtain ⟨_, _, _, oe, vs, Tb, oT, ts', he, hz, hd, h1, hr⟩ := id fl3
      unfold PySem.passOn
      refine wpAny_bind (wpAny_field he hd h1 ?_)
      rw [if_neg (show ¬ ((Value.ref Tb == Value.none) = true) from by simp)]
      have fin : wpAny (model X.prog X.w) X.A (setFlight (.ref a) X.env.frame) (fun _ s4 => wpAny (model X.prog X.w) X.A (throw (.ref a) : Sem Flow) (SP X pins D) X.xe s4) X.xe { s' with heap := h3 } := by
        rw [hf]
        refine HandSPX.setFlight_upZ fl3 fun h4 hh4 up4 => wpAny_throw (tk _ _ ?_)
        exact ⟨a, B, sI, pins, σ', H', cls, d, rfl, J, nb, (up.trans up3).trans up4, .inr (.inr (by rw [hst]; exact hh4)), na, os, ag, w⟩
      first
        | exact wpAny_bind (wpAny_pure (wpAny_bind fin))
        | exact wpAny_bind fin
    have go : ∀ {ks : List ExceptHandler} {l' : List Clause}, ClauseOk X ks l' → wishC X.K Wout D l' cls d σ' H' → wpAny (model X.prog X.w) X.A (handleBy (.ref a) X.env ks) (SP X pins D) X.xe { s' with heap := h3 } := fun hk => by
      induction hk with
      | nil => exact on
      | bare hc hsu r ih =>
        rintro ⟨b, hb1, hyes, hno⟩
        refine wpAny_handleBy_cons (codeAny_handlers_test (asks hc ((PySem.W.exm_one (M := model X.prog X.w) J3.kIn LT hb1).here ?_))) (by intro q; cases q)
        cases b with
        | false => exact ih (hno rfl)
        | true =>
          refine codeAny_handlers_suite (HandSPX.lands_againZ fl3 fun h4 fl4 up4 => ?_)
          obtain ⟨oe4, vs4, he4, hz4, hd4⟩ := fl4.there
          have J4 : Inv X pins σ' H' { s' with heap := h4 } := J.landed nb fl4.1 ((up.trans up3).trans up4) os ag
          have S4 := J4.suite he4 hd4 na nL nF
          refine wpAny_mono ((hsu a oe4 cls d (X.pn ++ pins) hz4 ⟨_, hd4⟩).run [] _ _ H' _ S4 (hyes rfl a na)) (fun f s6 z => ?_) (fun _ _ z => False.elim z)
          cases f with
          | next => obtain ⟨σ6, H6, S6, q6⟩ := z; exact ⟨_, _, S6.unsuite ok, q6⟩
          | brk => obtain ⟨σ6, H6, S6, q6⟩ := z; exact ⟨_, _, S6.unsuite ok, q6⟩
          | cont => obtain ⟨σ6, H6, S6, q6⟩ := z; exact ⟨_, _, S6.unsuite ok, q6⟩
          | ret u => obtain ⟨v6, σ6, H6, S6, r6, q6⟩ := z; exact ⟨_, _, _, S6.unsuite ok, r6, q6⟩
      | @named x n c i ts b₀ suite np p hs' l' hN hi hl hc hsu r ih =>
        rintro ⟨b, hb1, hyes, hno⟩
        refine wpAny_handleBy_cons (codeAny_handlers_test (asks hc ((PySem.W.exm_one (M := model X.prog X.w) J3.kIn LT hb1).here ?_))) (by intro q; cases q)
        cases b with
        | false => exact ih (hno rfl)
        | true =>
          refine codeAny_handlers_suite_as (HandSPX.lands_againZ fl3 fun h4 fl4 up4 => ?_)
          obtain ⟨oe4, vs4, he4, hz4, hd4⟩ := fl4.there
          have J4 : Inv X pins σ' H' { s' with heap := h4 } := J.landed nb fl4.1 ((up.trans up3).trans up4) os ag
          have S4 := J4.suite he4 hd4 na nL nF
          refine store_ok (X := X.suite a ((a, oe4) :: (X.pn ++ pins))) (v := .ref a) S4 hN hi (.inl hl) rfl (fun s5 S5 => ?_) (.inr hl)
          refine wpAny_mono ((hsu a oe4 cls d (X.pn ++ pins) hz4 ⟨_, hd4⟩).run [] s5 _ H' _ S5 (hyes rfl a na)) (fun f s6 z => ?_) (fun _ _ z => False.elim z)
          have gone : ∀ {σ6 : L2.St} {H6 : Hp} {Q : Shared → Prop}, Inv (X.suite a ((a, oe4) :: (X.pn ++ pins))) [] σ6 H6 s6 → (∀ s7, Inv X pins (σ6.set i none) H6 s7 → Q s7) →
              wpAny (model X.prog X.w) X.A (do bindName X.env n .none; unbindBehindTheSuite X.env n p) (fun _ s7 => Q s7) X.xe s6 := fun S6 hq => gone_ok (S6.unsuite ok) hN hi hl hq
          cases f with
          | next => obtain ⟨σ6, H6, S6, q6⟩ := z; exact gone S6 fun s7 J7 => ⟨_, _, J7, q6⟩
          | brk => obtain ⟨σ6, H6, S6, q6⟩ := z; exact gone S6 fun s7 J7 => ⟨_, _, J7, q6⟩
          | cont => obtain ⟨σ6, H6, S6, q6⟩ := z; exact gone S6 fun s7 J7 => ⟨_, _, J7, q6⟩
          | ret u => obtain ⟨v6, σ6, H6, S6, r6, q6⟩ := z; exact gone S6 fun s7 J7 => ⟨_, _, _, J7, r6, q6⟩
    exact go hh w
  refine wpAny_Try_except (wpAny_mono ((hb _ _ catch_ caught PassesOwn.looking).run [] s σ H D (I.toTry _) h) (fun f s1 z => ?_) fun e s1 he => he)
  cases f with
  | next => obtain ⟨σ', H', J', q⟩ := z; exact wpAny_execs_nil ⟨σ', H', J'.ofTry ok, q⟩
  | brk => obtain ⟨σ', H', J', q⟩ := z; exact ⟨σ', H', J'.ofTry ok, q⟩
  | cont => obtain ⟨σ', H', J', q⟩ := z; exact ⟨σ', H', J'.ofTry ok, q⟩
  | ret u => obtain ⟨v, σ', H', J', r, q⟩ := z; exact ⟨v, σ', H', J'.ofTry ok, r, q⟩
end
end Lw
/-! lambdas without parameters, kept as values: the cells that they captured stay known when their maker has ended -/
namespace ClX
open PySem PySem.Spec PyProof.Rows L2 LamX NdefX
/-- the object at f is a lambda; F tells its names, cells, code (its body's statements are none), b its body -/
def LamO (f : Addr) (F : NF) (b : Expr) : HO := .ext fun h => ∃ pm ctv : Value, h.get? f = some (PySem.W.kla_obj "<lambda>" F.qual F.params b F.scope F.cl pm F.c ctv)
/-- the cell at c holds v -/
def CellO (c : Addr) (v : V) : HO := .ext fun h => ∃ u, L2.RelV v u ∧ h.IsCell c (some u)
theorem lamO_at {P : Program} {w : World} {H : Hp} {h : Heap} {f : Addr} {F : NF} {b : Expr} (k : HOk P w H h) (e : H f = some (LamO f F b)) : ∃ pm ctv : Value, h.get? f = some (PySem.W.kla_obj "<lambda>" F.qual F.params b F.scope F.cl pm F.c ctv) := (k f _ e).1
theorem cellO_at {P : Program} {w : World} {H : Hp} {h : Heap} {c : Addr} {v : V} (k : HOk P w H h) (e : H c = some (CellO c v)) : ∃ u, L2.RelV v u ∧ h.IsCell c (some u) := (k c _ e).1
/-- a cell is tracked from now on -/
theorem track {P : Program} {w : World} {H : Hp} {h : Heap} {c : Addr} {v : V} (k : HOk P w H h) (n : H c = none) (z : ∃ u, L2.RelV v u ∧ h.IsCell c (some u)) : HOk P w (upd H c (CellO c v)) h := fun b o e => by
  by_cases hb : b = c
  · subst hb
    rw [upd_same] at e
    cases e
    obtain ⟨u, r, ob, ho, hd⟩ := z
    exact ⟨⟨u, r, ob, ho, hd⟩, ⟨ob, ho⟩, fun h1 h2 ⟨u, r, ob, ho, hd⟩ st => ⟨u, r, ob, st _ ho, hd⟩⟩
  · rw [upd_ne hb] at e
    exact (k b o e).stay (fun _ _ _ q => q) (fun d q => by rw [upd_ne (ne_of_none q n)]; exact q) fun d xs q => by rw [upd_ne (ne_of_none q n)]; exact q
section
variable {X : Cx} {pins : List (Addr × Obj)} {σ : L2.St} {H : Hp} {s : Shared}
/-! ### the making -/
theorem lam_lay {T : List (Addr × Str)} {c P : Addr} {params : Arguments} {b : Expr} {scope : Scope} {pos : Pos} {E : Value → Shared → Prop} {Q : Value → Shared → Prop} (I : Inv X pins σ H s) (TB : TabB X.base X.mg c P) (hc0 : X.env.code = .ref c)
    (mT : (P, X.env.qual ++ "<lambda>") ∈ T) (uT : ∀ p ∈ T, p.1 = P → p.2 = X.env.qual ++ "<lambda>") (tT : Tabs T H) (hd : defaultsOf params X.env = ([], [])) (hf : ∀ y ∈ scope.names, y.2 = .free → ∃ c, X.env.cells.lookup y.1 = some c)
    (k : ∀ (f c' : Addr) (H1 : Hp) (s' : Shared), Inv X pins σ H1 s' → ExtN H H1 → Tabs T H1 → H f = none → H1 f = some (LamO f ⟨"<lambda>", X.env.qual ++ "<lambda>", params, [], scope, cloFrom X.env.cells scope.names [], c'⟩ b) → H1 c' = some (CodeO c' (X.env.qual ++ "<lambda>")) → Q (.ref f) s') :
    wpAny (model X.prog X.w) X.A (eval (.Lambda params b scope pos) X.env) Q E s := by
  obtain ⟨ps, tP, tO, tA⟩ := tT _ mT
  have bA : s.heap.BuiltinsAt X.mg P := TB.bm.keeps I.bk
  have oP : s.heap.get? P = some { cls := .none, data := .fields ps } := I.hok P _ tP
  -- the object itself, laid on top of a heap in which the code object is known
  have lay : ∀ (c' : Addr) (H2 : Hp) (h2 : Heap) (tk : Nat) (pm ctv : Value), Inv X pins σ H2 { s with heap := h2, toks := tk } → ExtN H H2 → Tabs T H2 → (∀ b, H2 b = Option.none → H b = Option.none) → H2 c' = some (CodeO c' (X.env.qual ++ "<lambda>")) →
      Q (.ref h2.objs.size) { s with heap := h2.push (PySem.W.kla_obj "<lambda>" (X.env.qual ++ "<lambda>") params b scope (cloFrom X.env.cells scope.names []) pm c' ctv), toks := tk } := fun c' H2 h2 tk pm ctv I2 e2 T2 n2 hc2 => by
    have nF := I2.hok.fresh (Nat.le_refl _)
    have oF : (h2.push (PySem.W.kla_obj "<lambda>" (X.env.qual ++ "<lambda>") params b scope (cloFrom X.env.cells scope.names []) pm c' ctv)).get? h2.objs.size = some (PySem.W.kla_obj "<lambda>" (X.env.qual ++ "<lambda>") params b scope (cloFrom X.env.cells scope.names []) pm c' ctv) := Heap.get?_push_size _ rfl
    have I3 := I2.laid (a := h2.objs.size) (t' := tk) (o := LamO h2.objs.size ⟨"<lambda>", X.env.qual ++ "<lambda>", params, [], scope, cloFrom X.env.cells scope.names [], c'⟩ b) (fun d u e => Heap.get?_push_of_some _ e) (Nat.le_refl _) ⟨⟨pm, ctv, oF⟩, ⟨_, oF⟩, fun h1 h2 ⟨p, t, z⟩ st => ⟨p, t, st _ z⟩⟩
    have ne : ∀ d o, H2 d = some o → upd H2 h2.objs.size (LamO h2.objs.size ⟨"<lambda>", X.env.qual ++ "<lambda>", params, [], scope, cloFrom X.env.cells scope.names [], c'⟩ b) d = some o := fun d o e => (upd_ne (ne_of_none e nF)).trans e
    exact k _ c' _ _ I3 (fun d o e n => ne d o (e2 d o e n)) (T2.ext ne) (n2 _ nF) upd_same (ne _ _ hc2)
  refine PySem.W.kla_eval hd (by
    cases hca : codeAmong pos ps.toList with
    | some cv =>
      obtain ⟨c', e, hco⟩ := tA pos cv hca
      subst e
      exact PySem.W.kla_makeFunctionHit (mg := X.mg) (c := c) (P := P) (ps := ps) (closure_ok hf) I.ok.glob (I.mod.glob.keeps I.bk) hc0 (TB.code.keeps I.bk) oP tO hca bA fun ctv h' tk hx hsz => lay c' H h' tk _ ctv (I.kept hx) (ExtN.refl H) tT (fun _ z => z) hco
    | none =>
      refine PySem.W.kla_makeFunction (mg := X.mg) (c := c) (P := P) (ps := ps) (closure_ok hf) I.ok.glob (I.mod.glob.keeps I.bk) hc0 (TB.code.keeps I.bk) oP tO hca TB.gP bA fun c' ctv h' tk hx hge hlt hrec htb => ?_
      obtain ⟨c2, oc, vs, t, e2, hoc, hdt, hv⟩ := hrec
      cases e2
      have nC : H c' = none := I.hok.fresh hge
      have I2 := inv_table (t' := tk) (more := #[rawInt pos.line, rawInt pos.col, .ref c']) (h' := h') I tP (fun b o hb e => hx b o hb e) htb hge ⟨oc, vs, t, hoc, hdt, hv⟩
      have xN : ExtN H (upd (upd H P (.tbl (ps ++ #[rawInt pos.line, rawInt pos.col, .ref c']))) c' (CodeO c' (X.env.qual ++ "<lambda>"))) := fun d o e n => by
        rw [upd_ne (ne_of_none e nC), upd_ne (fun z => n ps (Option.some.inj (e.symm.trans (by rw [z]; exact tP))))]
        exact e
      refine lay c' _ h' tk _ ctv I2 xN (fun p hp => ?_) (fun d z => upd_none (upd_none z)) upd_same
      by_cases hb : p.1 = P
      · have eL : (ps ++ #[rawInt pos.line, rawInt pos.col, .ref c']).toList = ps.toList ++ [rawInt pos.line, rawInt pos.col, .ref c'] := by simp
        rw [uT p hp hb, hb]
        refine ⟨_, (upd_ne (ne_of_none tP nC)).trans upd_same, by rw [eL]; exact PySem.TriplesOk_snoc _ _ _ _ tO, fun p' cv hcv => ?_⟩
        rw [eL] at hcv
        exact (among_app _ tO hcv).elim (fun z => (tA p' cv z).imp fun c0 q => ⟨q.1, xN _ _ q.2 codeO_ne⟩) fun z => ⟨c', z, upd_same⟩
      · obtain ⟨ps', a1, a2, a3⟩ := tT p hp
        exact ⟨ps', (upd_ne (ne_of_none a1 nC)).trans ((upd_ne hb).trans a1), a2, fun p' cv hcv => (a3 p' cv hcv).imp fun c0 q => ⟨q.1, xN _ _ q.2 codeO_ne⟩⟩)
end
/-- the reading of a lambda as a value -/
def tLamV (T : List (Addr × Str)) (mk : Addr → NF) (b : Expr) : TE := fun σ H Q => Tabs T H ∧ ∀ (f c' : Addr) (H1 : Hp), ExtN H H1 → Tabs T H1 → H f = none → H1 f = some (LamO f (mk c') b) → H1 c' = some (CodeO c' (mk c').qual) → Q (.ref f) H1
section
variable {X : Cx}
theorem pe_lamV {T : List (Addr × Str)} {c P : Addr} {params : Arguments} {b : Expr} {scope : Scope} {pos : Pos} (TB : TabB X.base X.mg c P) (hc0 : X.env.code = .ref c) (mT : (P, X.env.qual ++ "<lambda>") ∈ T) (uT : ∀ p ∈ T, p.1 = P → p.2 = X.env.qual ++ "<lambda>") (L : LamS X.env.scope scope) (hd : defaultsOf params X.env = ([], [])) :
    PE X (.Lambda params b scope pos) (tLamV T (fun c' => ⟨"<lambda>", X.env.qual ++ "<lambda>", params, [], scope, cloFrom X.env.cells scope.names [], c'⟩) b) :=
  ⟨fun pins s σ H Q I ⟨tT, h⟩ => lam_lay I TB hc0 mT uT tT hd (L.has I.ok) fun f c' H1 s' I1 e1 T1 f0 f1 c1 => ⟨.ref f, H1, I1, rfl, h f c' H1 e1 T1 f0 f1 c1⟩⟩
/-! ### statements that end with a return; the names' values are told -/
structure PR (X : Cx) (st : List Stmt) (t : L2.St → Hp → (V → L2.St → Hp → Prop) → Prop) : Prop where
  run : ∀ (pins : List (Addr × Obj)) (s : Shared) (σ : L2.St) (H : Hp) (R : V → L2.St → Hp → Prop), Inv X pins σ H s → t σ H R →
    wpAny (model X.prog X.w) X.A (execs st X.env) (fun fl s' => ∃ u v σ' H', fl = .ret u ∧ Inv X pins σ' H' s' ∧ L2.RelV v u ∧ R v σ' H') X.xe s
theorem pr_ret {e : Expr} {te : TE} {pos : Pos} (he : PE X e te) : PR X [.Return (some e) pos] (fun σ H R => te σ H fun v H' => R v σ H') :=
  ⟨fun pins s σ H R I h => wpAny_execs_cons (thn (wpAny_Return_some (Q := fun fl s' => ∃ u v σ' H', fl = .ret u ∧ Inv X pins σ' H' s' ∧ L2.RelV v u ∧ R v σ' H') (thn (he.run pins s σ H _ I h) fun v s1 ⟨x, H1, I1, r1, q1⟩ => ⟨v, x, σ, H1, rfl, I1, r1, q1⟩)) fun fl s' h' => by
    obtain ⟨u, v, σ', H', rfl, q⟩ := h'
    exact ⟨u, v, σ', H', rfl, q⟩)⟩
theorem pr_cons {st : Stmt} {rest : List Stmt} {ts : TS} {u : L2.St → Hp → (V → L2.St → Hp → Prop) → Prop} (h1 : PS X st ts) (h2 : PR X rest u) : PR X (st :: rest) (fun σ H R => ts { nx := fun σ' H' => u σ' H' R, rt := fun _ _ => False } σ H) :=
  ⟨fun pins s σ H R I h => wpAny_execs_cons (thn (h1.run pins s σ H _ I h) fun f s1 q => by
    cases f with
    | next =>
      obtain ⟨σ', H', I', q⟩ := q
      exact h2.run pins s1 σ' H' R I' q
    | ret v =>
      obtain ⟨_, _, _, _, _, q⟩ := q
      exact (show False from q).elim
    | brk =>
      obtain ⟨_, _, _, q⟩ := q
      exact (show False from q).elim
    | cont =>
      obtain ⟨_, _, _, q⟩ := q
      exact (show False from q).elim)⟩
theorem pr_if {c : Expr} {a rest : List Stmt} {tc : TT} {pos : Pos} {t u : L2.St → Hp → (V → L2.St → Hp → Prop) → Prop} (hc : PT X c tc) (ha : PR X a t) (hb : PR X rest u) :
    PR X (.If c a [] pos :: rest) (fun σ H R => tc σ H fun d H1 => if d = true then t σ H1 R else u σ H1 R) :=
  ⟨fun pins s σ H R I h => wpAny_execs_cons (wpAny_If (thn (hc.run pins s σ H _ I h) fun d s1 ⟨H1, I1, q1⟩ => by
    cases d with
    | true =>
      refine thn (ha.run pins s1 σ H1 R I1 q1) fun fl s' h' => ?_
      obtain ⟨u, v, σ', H', rfl, q⟩ := h'
      exact ⟨u, v, σ', H', rfl, q⟩
    | false => exact wpAny_execs_nil (hb.run pins s1 σ H1 R I1 q1)))⟩
end
/-! ### a def that returns such a lambda -/
/-- the cells of the names fr hold the values that σ tells (σ by the names N) -/
def CellsK (cells : List (Str × Addr)) (N fr : List Str) (σ : L2.St) (H : Hp) : Prop := ∀ (y : Str) (i : Nat) (v : V), y ∈ fr → N[i]? = some y → σ[i]? = some (some v) → ∃ c, cells.lookup y = some c ∧ H c = some (CellO c v)
theorem release {X : Cx} {pins : List (Addr × Obj)} {σ : L2.St} {H : Hp} {s : Shared} (I : Inv X pins σ H s) (hN : X.N.Nodup) (hfn : ∀ y, X.fn y = true) : ∀ (fr : List Str), fr.Nodup → (∀ y ∈ fr, X.env.scope.names.lookup y = some .cell) →
    ∃ H' : Hp, HOk X.prog X.w H' s.heap ∧ Un X.fs X.ex X.H_0 H' X.s_0.heap s.heap ∧ (∀ b o, H b = some o → H' b = some o) ∧ (∀ b, H' b ≠ H b → ∃ y ∈ fr, X.env.cells.lookup y = some b) ∧ CellsK X.env.cells X.N fr σ H'
  | [], _, _ => ⟨H, I.hok, I.base, fun _ _ e => e, fun b n => absurd rfl n, fun y i v hy => by cases hy⟩
  | y :: fr, nd, hk => by
    obtain ⟨H', k1, u1, e1, n1, c1⟩ := release I hN hfn fr (List.nodup_cons.mp nd).2 fun z hz => hk z (List.mem_cons_of_mem _ hz)
    have ky : X.env.scope.names.lookup y = some .cell := hk y List.mem_cons_self
    obtain ⟨c, hc⟩ := I.ok.has y (.inl ky)
    have hcN := I.freeC y c hc
    have hn : H' c = none := by
      by_cases e : H' c = H c
      · exact e.trans hcN
      · obtain ⟨z, hz, ez⟩ := n1 c e
        have := I.ok.inj z y c ez hc
        subst this
        exact absurd hz (List.nodup_cons.mp nd).1
    by_cases hv : ∃ (i : Nat) (v : V), X.N[i]? = some y ∧ σ[i]? = some (some v)
    · obtain ⟨i, v, ei, ev⟩ := hv
      obtain ⟨m, hn0, hl⟩ := I.loc
      obtain ⟨u, ru, l⟩ := hl i y v ei ev (.inr (.inl ky))
      have hcell : ∃ u, L2.RelV v u ∧ s.heap.IsCell c (some u) := by
        rcases l with ⟨z, _⟩ | ⟨_, c', hc', z⟩
        · have z : X.env.scope.names.lookup y = some .local := z
          rw [ky] at z
          cases z
        · rw [hc] at hc'
          cases hc'
          exact ⟨u, ru, z⟩
      have ne : ∀ b o, H' b = some o → upd H' c (CellO c v) b = some o := fun b o e => (upd_ne (ne_of_none e hn)).trans e
      refine ⟨upd H' c (CellO c v), track k1 hn hcell, ⟨u1.keep, u1.slot, fun b o e n hx => ?_, u1.there, fun b xs e => ne _ _ (u1.tups b xs e), fun b o x e => ne _ _ (u1.frzs b o x e), fun b ps e => (u1.tbls b ps e).imp fun mr z => ne _ _ z⟩, fun b o e => ne b o (e1 b o e), fun b n => ?_, fun z j w hz ej ew => ?_⟩
      · rw [upd_ne]
        · exact u1.free b o e n hx
        · intro z
          have q := I.ok.cab y c (hfn y) hc
          rw [z] at e
          exact absurd (Nat.lt_of_lt_of_le (Heap.lt_size e) q) (Nat.lt_irrefl _)
      · by_cases hb : b = c
        · exact ⟨y, List.mem_cons_self, by rw [hb]; exact hc⟩
        · rw [upd_ne hb] at n
          exact (n1 b n).imp fun z q => ⟨List.mem_cons_of_mem _ q.1, q.2⟩
      · rcases List.mem_cons.mp hz with rfl | hz
        · have eij := nodup_ix hN ej ei
          subst eij
          rw [ev] at ew
          cases ew
          exact ⟨c, hc, upd_same⟩
        · obtain ⟨d, hd, ed⟩ := c1 z j w hz ej ew
          exact ⟨d, hd, ne _ _ ed⟩
    · refine ⟨H', k1, u1, e1, fun b n => (n1 b n).imp fun z q => ⟨List.mem_cons_of_mem _ q.1, q.2⟩, fun z j w hz ej ew => ?_⟩
      rcases List.mem_cons.mp hz with rfl | hz
      · exact absurd ⟨j, w, ej, ew⟩ hv
      · exact c1 z j w hz ej ew
/-- THE RULE: a def whose value may hold lambdas: behind the return the cells of fr are known -/
theorem fn_ofR {CX : CXT} {P : Program} {w : World} {K : PySem.W.Frag} {mg : Str → Option Value} {base : Heap} {k : Nat} {f : Addr} {name qual : Str} {params : Arguments} {body : List Stmt} {scope : Scope} {dV kV doc pm cdv ct oc : Value} {an od : Option Addr}
    {osl : Array (Option Value)} {N ps fr : List Str} {sp : Sp} (lk : K.lookup f = some ⟨oc, od, .func (PySem.W.fnOf name qual params body scope dV kV doc pm an cdv ct), osl⟩) (hcd : PySem.W.codeIn K cdv qual = true) (S : FnScope N ps scope) (nf : fr.Nodup) (hfr : ∀ y ∈ fr, scope.names.lookup y = some .cell)
    (len : ∀ vs H Q E, sp vs H Q E → vs.length = ps.length)
    (hbody : ∀ (A : Around) (outer : List Env) (s : Shared) (H : Hp) (vs : List V) (Q : VK) (E : XK), Room k (A.deeper (envOfC qual scope s.heap.objs.size f cdv)) → sp vs H Q E →
      ∃ t, PR (cxOf CX P w K mg base N qual scope f cdv A outer s H E) body t ∧ t (L2.start N vs) H fun v σ' H' => (∀ x y c, (cellsFrom (s.heap.objs.size + 1) scope.names []).lookup x = some c → (cellsFrom (s.heap.objs.size + 1) scope.names []).lookup y = some c → x = y) → ∀ H'' : Hp, (∀ b o, H' b = some o → H'' b = some o) → CellsK (cellsFrom (s.heap.objs.size + 1) scope.names []) N fr σ' H'' → Q v H'') :
    FnOk P w K mg base CX (k + 1) f (PySem.W.fnOf name qual params body scope dV kV doc pm an cdv ct) ps sp := by
  refine ⟨len, fun A outer s H args us vs Q E hr e0 hb r hsp => ?_⟩
  have kx : K.In s.heap := e0.mod.kin.keeps fun b o e => (e0.bs b o e).1
  have nl : s.heap.NoLimit := e0.mod.nolimit.keeps fun b o e => (e0.bs b o e).1
  refine codeAny_call_function hr.depth (kx _ _ lk) rfl S.co S.gen rfl (PySem.W.codeRec_of kx hcd) (hb _ _ _ _ (wpAny_newFunctionEnv_cells S.kind (fun ⟨n, v⟩ hy => (S.par n (List.of_mem_zip hy).1).elim .inl fun q => .inr ⟨q, PySem.W.cellsFrom_some _ _ _ (.inl q)⟩) fun env he s1 x => ?_))
  subst he
  obtain ⟨t, ht, hq⟩ := hbody A outer s H vs Q E (hr.deeper _) hsp
  have I : Inv (cxOf CX P w K mg base N qual scope f cdv A outer s H E) [] (L2.start N vs) H s1 := inv_start S hr.hd e0 (len _ _ _ _ hsp) r x
  refine ⟨nl.keeps x.toInCall.keep, codeAny_func (wpAny_mono (ht.run [] s1 (L2.start N vs) H _ I hq) (fun fl s' hs => ?_) fun e s' hs => hs)⟩
  obtain ⟨u, v, σ', H', rfl, J, rv, q⟩ := hs
  obtain ⟨H'', k1, u1, e1, _, c1⟩ := release J S.nd (fun _ => rfl) fr nf hfr
  exact ⟨v, H'', J.os, J.bare, u1, k1, rv, q J.ok.inj H'' e1 c1⟩
/-! ### the call of a kept lambda -/
/-- the kept lambda at f: its body b; fr: the names that it captured; vs: what they hold -/
structure Kept (H : Hp) (f : Addr) (F : NF) (b : Expr) (fr : List Str) (vs : List V) : Prop where
  fn : H f = some (LamO f F b)
  code : H F.c = some (CodeO F.c F.qual)
  inj : ∀ x y c, F.cl.lookup x = some c → F.cl.lookup y = some c → x = y
  all : ∀ y c, F.cl.lookup y = some c → y ∈ fr
  len : vs.length = fr.length
  has : ∀ (i : Nat) (y : Str) (v : V), fr[i]? = some y → vs[i]? = some v → ∃ c, F.cl.lookup y = some c ∧ H c = some (CellO c v)
open Classical in
/-- the heap without the lambda's cells -/
noncomputable def less (F : NF) (H : Hp) : Hp := fun b => if ∃ y, F.cl.lookup y = some b then none else H b
theorem Kept.ext {H H' : Hp} {f : Addr} {F : NF} {b : Expr} {fr : List Str} {vs : List V} (h : Kept H f F b fr vs) (g : ∀ c o, H c = some o → (∀ ps, o ≠ .tbl ps) → (∀ xs, o ≠ .lst xs) → H' c = some o) : Kept H' f F b fr vs :=
  ⟨g _ _ h.fn (fun ps z => by unfold LamO at z; cases z) fun xs z => (by unfold LamO at z; cases z), g _ _ h.code (fun ps z => codeO_ne ps z) fun xs z => (by unfold CodeO at z; cases z), h.inj, h.all, h.len, fun i y v e1 e2 => (h.has i y v e1 e2).imp fun c q => ⟨q.1, g _ _ q.2 (fun ps z => by unfold CellO at z; cases z) fun xs z => (by unfold CellO at z; cases z)⟩⟩
theorem Kept.cell {H : Hp} {f : Addr} {F : NF} {b : Expr} {fr : List Str} {vs : List V} (h : Kept H f F b fr vs) {y : Str} {c : Addr} (e : F.cl.lookup y = some c) : ∃ v, H c = some (CellO c v) := by
  obtain ⟨i, hi⟩ := List.mem_iff_getElem?.mp (h.all y c e)
  have hl : i < vs.length := by
    rw [h.len]
    exact (List.getElem?_eq_some_iff.mp hi).1
  obtain ⟨c', e', z⟩ := h.has i y _ hi (List.getElem?_eq_getElem hl)
  rw [e] at e'
  cases e'
  exact ⟨_, z⟩
theorem less_of {F : NF} {H : Hp} {b : Addr} {o : HO} (h : ∀ y c, F.cl.lookup y = some c → ∃ v, H c = some (CellO c v)) (e : H b = some o) (n : ∀ v, o ≠ CellO b v) : less F H b = some o := by
  unfold less
  rw [if_neg]
  · exact e
  · rintro ⟨y, ey⟩
    obtain ⟨v, z⟩ := h y b ey
    rw [e] at z
    exact n v (Option.some.inj z)
theorem less_none {F : NF} {H : Hp} {b : Addr} (e : H b = none) : less F H b = none := by
  unfold less
  split
  · rfl
  · exact e
theorem less_some {F : NF} {H : Hp} {b : Addr} {o : HO} (e : less F H b = some o) : H b = some o := by
  unfold less at e
  split at e
  · cases e
  · exact e
theorem inv_less {X : Cx} {pins : List (Addr × Obj)} {σ : L2.St} {H : Hp} {s : Shared} {F : NF} (I : Inv X pins σ H s) (h : ∀ y c, F.cl.lookup y = some c → ∃ v, H c = some (CellO c v)) : Inv X pins σ (less F H) s := by
  refine ⟨I.ok, I.os, I.bare, ⟨I.base.keep, I.base.slot, fun b o e n hx => less_none (I.base.free b o e n hx), I.base.there, fun b xs e => less_of h (I.base.tups b xs e) (fun v z => by unfold CellO at z; cases z), fun b o x e => less_of h (I.base.frzs b o x e) (fun v z => by unfold CellO at z; cases z), fun b ps e => (I.base.tbls b ps e).imp fun mr z => less_of h z (fun v z => by unfold CellO at z; cases z)⟩, I.loc, I.cell, less_none I.free, fun x c e => less_none (I.freeC x c e), fun p hp => ?_, fun b o e => ?_, I.len⟩
  · obtain ⟨p1, p2, p3⟩ := I.pin p hp
    exact ⟨p1, less_none p2, p3⟩
  · exact (I.hok b o (less_some e)).stay (fun _ _ _ q => q) (fun d q => less_of h q (fun v z => by unfold CellO at z; cases z)) fun d xs q => less_of h q (fun v z => by unfold CellO at z; cases z)
/-- x() where the name x holds a kept lambda -/
theorem pe_kept {Z : Cx} {W : WX} {E : XK} {fr : List Str} {b : Expr} {f : Addr} {F : NF} {k i : Nat} {a : Str} {tb : TE} {p1 p2 : Pos} (Sc : NScope fr [] fr F.scope) (hbind : ∀ (cl : List (Str × Addr)) (pm cv ctv : Value), bindArgs (PySem.W.kla_fn "<lambda>" F.qual F.params b F.scope cl pm cv ctv) ⟨[], []⟩ = pure [])
    (tk : Takes Z W) (hW : ∀ cls d σ' H', E cls d H' → W cls d σ' H') (hr : Room (k + 1) Z.A)
    (hbody : ∀ (A : Around) (outer : List Env) (s : Shared) (H : Hp), Room k (A.deeper (envF F f s.heap.objs.size)) → PE (ncx (L2.CX Z.prog Z.w) Z.prog Z.w Z.K Z.mg Z.base fr F f A outer s H E) b tb)
    (hN : Z.N[i]? = some a) (hv : Vis Z.env.scope a) (hd : (a == ("__debug__" : Str)) = false := by decide) (hcd : (a == ("__classdict__" : Str)) = false := by decide) :
    PE Z (.Call (.Name a p1) [] [] p2) (fun σZ HZ Q => σZ[i]? = some (some (.ref f)) ∧ ∃ vs, Kept HZ f F b fr vs ∧ tb (vs.map some) (less F HZ) Q) := by
  refine ⟨fun pins s σ H Q I h => ?_⟩
  obtain ⟨hs, vs, hk, ht⟩ := h
  refine wpAny_Call_Name_kw (thn ((pe_var (pos := p1) (i := i) hN hv hd hcd).run pins s σ H (fun v H1 => v = .ref f ∧ H1 = H) I ⟨.ref f, hs, rfl, rfl⟩) fun u s1 ⟨v, H1, I1, r1, ev, eH⟩ => ?_)
  subst ev
  rw [eH] at I1
  obtain rfl : u = Value.ref f := r1
  obtain ⟨pm, ctv, of1⟩ := lamO_at I1.hok hk.fn
  have hrec := codeO_at I1.hok hk.code
  have I2 := inv_less (F := F) I1 fun y c e => hk.cell e
  have C : CellsAt F.cl fr (vs.map some) s1.heap (less F H) := by
    refine ⟨by rw [List.length_map]; exact hk.len, fun y c e => ⟨?_, ?_⟩, hk.inj, fun j y e => ?_⟩
    · unfold less
      rw [if_pos ⟨y, e⟩]
    · obtain ⟨v, z⟩ := hk.cell e
      obtain ⟨u, _, z⟩ := cellO_at I1.hok z
      exact ⟨_, z⟩
    · have hl : j < vs.length := by
        rw [hk.len]
        exact (List.getElem?_eq_some_iff.mp e).1
      obtain ⟨c, e2, z⟩ := hk.has j y _ e (List.getElem?_eq_getElem hl)
      refine ⟨c, e2, fun v ev => ?_⟩
      rw [List.getElem?_map, List.getElem?_eq_getElem hl] at ev
      cases ev
      exact cellO_at I1.hok z
  refine PySem.W.callWith_F0 ⟨_, _, _, _, of1⟩ ?_
  have rc : codeAny (model Z.prog Z.w) Z.A (.call (.ref f) ⟨[], []⟩) (CR (L2.CX Z.prog Z.w) Z.stack Z.prog Z.w (less F H) s1 Q E) s1 := by
    refine PySem.W.kla_callFunE hr.depth of1 rfl Sc.co Sc.gen rfl hrec ?_
    rw [hbind]
    refine wpAny_pure (wpAny_newFunctionEnv Sc.nocell (fun y hy => absurd hy (by simp)) (fun h₁ hns hsb => ⟨I2.nolimit.fresh _ hsb, ?_⟩) Sc.kind)
    show codeAny _ _ (.expr b (envF F f s1.heap.objs.size)) _ _
    have kp : ∀ b o, s1.heap.get? b = some o → h₁.get? b = some o := fun b o e => hsb.extBut b o (Nat.ne_of_lt (Heap.lt_size e)) (Heap.get?_push_of_some _ e)
    have J : Inv (ncx (L2.CX Z.prog Z.w) Z.prog Z.w Z.K Z.mg Z.base fr F f Z.A Z.stack s1 (less F H) E) [] (startF fr [] (vs.map some)) (less F H) { s1 with heap := h₁, toks := s1.toks + ([] : List (Str × Value)).length } := inv_startN (us := []) Sc hr.hd I2.env0 rfl .nil C hns kp
    have es : startF fr [] (vs.map some) = vs.map some := by
      unfold startF
      rw [List.length_map, hk.len]
      simp
    rw [es] at J
    refine PySem.W.kla_codeExpr (wpAny_mono ((hbody _ _ s1 (less F H) (hr.deeper _)).run [] _ _ (less F H) Q J ht) (fun v s' hq => ?_) fun e s' hq => hq)
    obtain ⟨w', H', J', rv, q⟩ := hq
    exact ⟨w', H', J'.os, J'.bare, J'.base, J'.hok, rv, q⟩
  have hx : Passes (L2.CX Z.prog Z.w) Z E := passes_call tk hW
  refine wpAny_call (codeAny_mono rc fun r s' hq => ?_)
  cases r with
  | error e => exact hx pins σ (less F H) s1 e s' I2 hq
  | ok fl =>
    cases fl with
    | ret u => exact I2.after hq
    | next => exact False.elim hq
    | brk => exact False.elim hq
    | cont => exact False.elim hq
section
variable {X : Cx}
/-- g(y), g a def that calls what it gets (GivesTo), y a name that holds a kept lambda -/
theorem pe_giveK {TT : (XK → Hp → VK → Prop) → Hp → VK → Prop} {x a y q : Str} {g : Addr} {k i : Nat} {pg : Arguments} {bg : List Stmt} {sg : Scope} {dV kV doc pm cdv ct oc : Value} {an od : Option Addr} {osl : Array (Option Value)} {Ng fr : List Str} {b : Expr} {mkF : List (Str × Addr) → Addr → NF} {tb : XK → TE} {p1 p2 pos : Pos}
    (hg : Gl X x) (hm : X.mg x = some (.ref g)) (hk : PySem.W.keepIn X.K (.ref g) = true) (lk : X.K.lookup g = some ⟨oc, od, .func (PySem.W.fnOf x x pg bg sg dV kV doc pm an cdv ct), osl⟩) (hcg : PySem.W.codeIn X.K cdv x = true) (hb : L2.Binds X.K (PySem.W.fnOf x x pg bg sg dV kV doc pm an cdv ct) [a] []) (Sg : FnScope Ng [a] sg) (hNg : Ng[0]? = some a) (hva : Vis sg a)
    (hG : GivesTo X Ng x sg g cdv bg a q TT) (hr : Room (k + 2) X.A) (hq : ∀ cl c, (mkF cl c).qual = q) (hc : ∀ cl c, (mkF cl c).c = c) (Sc : ∀ cl c, NScope fr [] fr (mkF cl c).scope) (hbind : ∀ (cl' : List (Str × Addr)) (c' : Addr) (cl : List (Str × Addr)) (pm cv ctv : Value), bindArgs (PySem.W.kla_fn "<lambda>" (mkF cl' c').qual (mkF cl' c').params b (mkF cl' c').scope cl pm cv ctv) ⟨[], []⟩ = pure [])
    (hbody : ∀ (cl : List (Str × Addr)) (c f : Addr) (A : Around) (outer : List Env) (s : Shared) (H : Hp) (E : XK), Room k (A.deeper (envF (mkF cl c) f s.heap.objs.size)) → PE (ncx (L2.CX X.prog X.w) X.prog X.w X.K X.mg X.base fr (mkF cl c) f A outer s H E) b (tb E))
    (hN : X.N[i]? = some y) (hv : Vis X.env.scope y) (hdb : (x == ("__debug__" : Str)) = false := by decide) (hdy : (y == ("__debug__" : Str)) = false := by decide) (hcy : (y == ("__classdict__" : Str)) = false := by decide) (hda : (a == ("__debug__" : Str)) = false := by decide) (hca : (a == ("__classdict__" : Str)) = false := by decide) :
    PE X (.Call (.Name x p1) [.Name y p2] [] pos) (fun σ H Q => ∃ (f c : Addr) (cl : List (Str × Addr)) (vs : List V), σ[i]? = some (some (.ref f)) ∧ Kept H f (mkF cl c) b fr vs ∧ TT (fun E H' Q' => Kept H' f (mkF cl c) b fr vs ∧ tb E (vs.map some) (less (mkF cl c) H') Q') H Q) := by
  refine ⟨fun pins s σ H Q I h => ?_⟩
  obtain ⟨f, c, cl, vs, hs, hK, hT⟩ := h
  refine wpAny_Call_Name_kw (ld_glob I hg hm (PySem.W.callWith_K (h₀ := X.base) I.ok.mod.kin hk ?_ (by rfl) (by rfl)) hdb)
  show wpAny _ _ (spliced ((false, eval (.Name y p2) X.env) :: backTo pos (starEach [] X.env))) _ _ s
  refine Calls.spliced_cons (thn ((pe_var (pos := p2) (i := i) hN hv hdy hcy).run pins s σ H (fun v H1 => v = .ref f ∧ H1 = H) I ⟨.ref f, hs, rfl, rfl⟩) fun u s1 ⟨v, H1, I1, r1, ev, eH⟩ => ?_)
  subst ev
  rw [eH] at I1
  obtain rfl : u = Value.ref f := r1
  refine Calls.spliced_nil ⟨I1.kIn, ?_⟩
  have rc : codeAny (model X.prog X.w) X.A (.call (.ref g) ⟨[.ref f], []⟩) (CR C8.CX0 X.stack X.prog X.w H s1 Q C8.E0) s1 := by
    refine run_ofS (N := Ng) (ps := [a]) (us := [.ref f]) (vs := [.ref f]) lk hcg Sg hr I1.env0 (hb s1 [.ref f] I1.kIn rfl) (.cons rfl .nil) rfl fun hr' => ?_
    have hcode : H c = some (CodeO c q) := by
      have z := hK.code
      rw [hc, hq] at z
      exact z
    refine (hG f c s1 H Q (fun E H' Q' => Kept H' f (mkF cl c) b fr vs ∧ tb E (vs.map some) (less (mkF cl c) H') Q') (fun W pn xe E p1 p2 tk hW => ?_) hcode hT).imp fun t' z => ⟨z.1.nox, z.2⟩
    have z := pe_kept (Z := (cxOf C8.CX0 X.prog X.w X.K X.mg X.base Ng x sg g cdv X.A X.stack s1 H C8.E0).tr pn xe) (W := W) (E := E) (f := f) (F := mkF cl c) (b := b) (fr := fr) (k := k) (i := 0) (a := a) (tb := tb E) (p1 := p1) (p2 := p2) (Sc cl c) (hbind cl c) tk hW hr' (fun A outer s H hr2 => hbody cl c f A outer s H E hr2) hNg hva hda hca
    exact ⟨fun pinsZ sZ σZ HZ QZ IZ ⟨a1, a2, a3, a4⟩ => z.run pinsZ sZ σZ HZ QZ IZ ⟨a1, vs, a3, a4⟩⟩
  refine wpAny_call (codeAny_mono rc fun r s2 hq => ?_)
  cases r with
  | error e => exact (show False from hq).elim
  | ok fl =>
    cases fl with
    | ret u => exact I1.after hq
    | next => exact False.elim hq
    | brk => exact False.elim hq
    | cont => exact False.elim hq
end
end ClX
namespace L2
open PySem PySem.Spec PyProof.Rows
/-- raise C(): an own class without an __init__ of its own -/
theorem pmk_own0 {X : Cx} {C : Addr} {bmB : List Value} {B newId initId : String} {x : Str} {p pos : Pos} (F : ExcBaseFacts B newId initId bmB) (q : PySem.W.excIn X.K C bmB newId = true) (gC : X.mg x = some (.ref C))
    (kC : PySem.W.keepIn X.K (.ref C) = true) (r : Raises X (.ref C)) (hg : Gl X x) (hdb : (x == ("__debug__" : Str)) = false := by decide) : PMk X (.Call (.Name x p) [] [] pos) (fun _ H Q => Q (.ref C) none H) := by
  intro pins s σ H Q I h
  refine wpAny_Call_Name_kw (ld_glob I hg gC ?_ hdb)
  refine PySem.W.callWith_KW0 (h₀ := X.base) (kws := []) I.ok.mod.kin kC rfl ?_ rfl
  refine wpAny_evalAll_nil ⟨I.kIn, ?_⟩
  show wpAny _ _ (call (.ref C) []) _ _ _
  obtain ⟨bm, N, nm, qn, bs, hdct, sn, sub, ab, col, dd, k0, k1, k2, k3, k5, mN, hC, hN, hni, T⟩ := exc_obj I.kIn q
  refine wpAny_call_exc_subT F T hC hN hni (fun h' e hm => ?_) (by show 0 ≤ sizeLine; decide)
  exact mk_of I hm r h (I.hok.gone hm.new)
end L2
namespace Lw
open PySem L2 OwB
/-! a gain or a loss as an operand: refused -/
abbrev veB : List Value := [.type "ValueError", .type "Exception", .type "BaseException", .type "object"]
/-- an own error class without a field -/
structure Ez (K : PySem.W.Frag) (mg : Str → Option Value) (C : Addr) (x : Str) : Prop where
  m : mg x = some (.ref C)
  xB : PySem.W.excIn K C veB "ValueError.__new__" = true
  kB : PySem.W.keepIn K (.ref C) = true
  rB : PySem.W.subIn K (.ref C) (.type "BaseException") = some true
  tB : PySem.W.typeIn K (.ref C) = some (.type "type")
/-- a def of the text, by its promise; one that may raise -/
structure Ca (P : Program) (w : World) (K : PySem.W.Frag) (mg : Str → Option Value) (base : Heap) (n : Nat) (x : Str) (ps : List Str) (sp : Sp) : Prop where
  ex : ∃ (g : Addr) (gd : FuncData), FnOk P w K mg base CX0 n g gd ps sp ∧ Binds K gd ps [] ∧ PySem.W.keepIn K (.ref g) = true ∧ mg x = some (.ref g)
structure CaX (P : Program) (w : World) (K : PySem.W.Frag) (mg : Str → Option Value) (base : Heap) (n : Nat) (x : Str) (ps : List Str) (sp : Sp) : Prop where
  ex : ∃ (g : Addr) (gd : FuncData), FnOk P w K mg base (L2.CX P w) n g gd ps sp ∧ Binds K gd ps [] ∧ PySem.W.keepIn K (.ref g) = true ∧ mg x = some (.ref g)
section
variable {X : Cx} {k j : Nat} {x : Str} {ps : List Str} {sp : Sp} {p pos : Pos} {e : Expr} {es : List Expr} {t : TA} {E : XK}
theorem pca (c : Ca X.prog X.w X.K X.mg X.base k x ps sp) (hr : Room j X.A) (hk : k ≤ j) (hg : Gl X x) (ha : PA X (e :: es) t)
    (hdb : (x == ("__debug__" : Str)) = false := by decide) (he : starEach (e :: es) X.env = (false, eval e X.env) :: starEach es X.env := by rfl) (hpl : (backTo pos (starEach es X.env)).any (·.1) = false := by rfl) :
    PE X (.Call (.Name x p) (e :: es) [] pos) (tCall sp [] E0 t) := by
  obtain ⟨f, fd, F, b, kp, hm⟩ := c.ex
  exact pe_call F (hr.mono hk) hg hm kp b .nil pass0 ha hdb he hpl
theorem pcaX (c : CaX X.prog X.w X.K X.mg X.base k x ps sp) (hr : Room j X.A) (hk : k ≤ j) (hg : Gl X x) (hx : Passes (L2.CX X.prog X.w) X E) (ha : PA X (e :: es) t)
    (hdb : (x == ("__debug__" : Str)) = false := by decide) (he : starEach (e :: es) X.env = (false, eval e X.env) :: starEach es X.env := by rfl) (hpl : (backTo pos (starEach es X.env)).any (·.1) = false := by rfl) :
    PE X (.Call (.Name x p) (e :: es) [] pos) (tCall sp [] E t) := by
  obtain ⟨f, fd, F, b, kp, hm⟩ := c.ex
  exact pe_call F (hr.mono hk) hg hm kp b .nil hx ha hdb he hpl
end
/-- what stands at p has the kind k -/
def HasK (K : PySem.W.Frag) (X : Addr) (H : Hp) (k : Str) (p : Addr) : Prop := ∃ vs as m, HdE K X H p k vs as m
theorem HasK.same {K : PySem.W.Frag} {X : Addr} {H H' : Hp} {k : Str} {p : Addr} (g : Same H H') : HasK K X H k p → HasK K X H' k p
  | ⟨vs, as, m, h⟩ => ⟨vs, as, m, h.same g⟩
theorem HasK.inst {K : PySem.W.Frag} {X p : Addr} {H : Hp} {k : Str} : HasK K X H k p → ∃ dx fs, H p = some (.ins X dx fs)
  | ⟨_, _, _, dx, tp, ta, tl, us, ys, h1, _⟩ => ⟨dx, _, h1⟩
theorem HasK.of {K : PySem.W.Frag} {X p : Addr} {H : Hp} {e : Ex} (h : ExAt K X H e p) : HasK K X H e.kind p := by
  obtain ⟨vs, z⟩ := h.hd
  exact ⟨vs, _, _, z⟩
/-- a gain or a loss -/
def Gn (K : PySem.W.Frag) (X : Addr) (H : Hp) (v : V) : Prop := ∃ (p : Addr) (k : Str), v = .ref p ∧ HasK K X H k p ∧ (k = "gain" ∨ k = "loss")
theorem Gn.same {K : PySem.W.Frag} {X : Addr} {H H' : Hp} {v : V} (g : Same H H') : Gn K X H v → Gn K X H' v
  | ⟨p, k, e, h, hk⟩ => ⟨p, k, e, h.same g, hk⟩
section
variable {P : Program} {w : World} {K : PySem.W.Frag} {mg : Str → Option Value} {base : Heap} {f g X fI NE NA : Addr} {fd gd dI : FuncData}
def spCeX (K : PySem.W.Frag) (X NE : Addr) : Sp := fun vs H _ E => ∃ v : V, vs = [v] ∧ Gn K X H v ∧ E (.ref NE) none H
theorem ok_ceX {AK : Addr} (F : Fun K "check_expression" "check_expression" sChkE f fd) (T : Xc K mg X fI) (Kx : Kc K mg AK) (Z : Ez K mg NE "NotAnExpression") : FnOk P w K mg base (L2.CX P w) 2 f fd ["x"] (spCeX K X NE) := by
  refine F.okX scCE (fun vs H Q E h => ?_) (fun cdv A outer s H vs Q E hr h => ?_)
  · obtain ⟨p, rfl, _⟩ := h
    rfl
  obtain ⟨v, rfl, ⟨p, kd, rfl, ⟨vs, as, m, he⟩, hk⟩, k⟩ := h
  refine ⟨_, pss_one (ps_if (pt_cmpR (r := rIn K false) op_in_seq (pe_fld (pv 0) rfl) (pe_glob (v := .ref AK) (by rfl) Kx.mA rfl) (by rfl)) (pss_one (ps_raise rfl (takes_of rfl rfl rfl rfl) (pmk_own0 PySem.F.excBase_ValueError Z.xB Z.m Z.kB (raises_own Z.rB Z.tB) (by rfl)))) pss_nil), ?_⟩
  obtain ⟨dx, _, _, _, _, _, hp, _⟩ := he
  refine ⟨_, rfl, p, X, dx, _, _, rfl, hp, T.ic.cl, T.nK, fE_k, AK, _, rfl, .inr (Kx.tA H), rfl, rfl, _, rfl, ?_⟩
  have z : inV (.str kd) [.str "gain", .str "loss"] = true := by
    rcases hk with rfl | rfl <;> decide +kernel
  exact iteC (c := inV (.str kd) [.str "gain", .str "loss"]) z k
def spOpX (K : PySem.W.Frag) (X NE : Addr) : Sp := fun vs H _ E => ∃ v : V, vs = [v] ∧ Gn K X H v ∧ E (.ref NE) none H
theorem ok_opX (F : Fun K "operand_of" "operand_of" sOpd f fd) (T : Xc K mg X fI) (B : Bt mg) (cW : Ca P w K mg base 1 "is_whole" ["n"] (spWh X)) (cE : CaX P w K mg base 2 "check_expression" ["x"] (spCeX K X NE)) : FnOk P w K mg base (L2.CX P w) 3 f fd ["x"] (spOpX K X NE) := by
  refine F.okX scOp (fun vs H Q E h => ?_) (fun cdv A outer s H vs Q E hr h => ?_)
  · obtain ⟨v, rfl, _⟩ := h
    rfl
  obtain ⟨v, rfl, ⟨p, kd, rfl, hk, hg⟩, q⟩ := h
  refine ⟨_, pss_cons (ps_if (pt_val (pca cW hr (by decide) rfl (pa_cons (pv 0) pa_nil))) (pss_one ps_never) pss_nil)
    (pss_cons (ps_if (pt_not (pt_val (pe_callB (C8.call_isC T.ic) (by rfl) B.isi (by decide +kernel) (pa_cons (pv 0) (pa_cons (pe_glob (v := .ref X) (by rfl) T.mC rfl) pa_nil))))) (pss_one ps_never) pss_nil)
    (pss_cons (ps_expr (pcaX (E := E) cE hr (by decide) rfl (passes_call (takes_of rfl rfl rfl rfl) (fun _ _ _ _ h => h)) (pa_cons (pv 0) pa_nil))) (pss_one ps_never))), ?_⟩
  obtain ⟨dx, fs, hp⟩ := hk.inst
  refine ⟨_, rfl, _, rfl, .inr ⟨p, dx, _, rfl, hp, _, rfl, iteF ?_⟩⟩
  refine ⟨_, rfl, p, dx, _, rfl, hp, _, rfl, iteF ?_⟩
  exact ⟨_, rfl, _, rfl, ⟨p, kd, rfl, hk, hg⟩, q⟩
/-- one of two operands is a gain or a loss -/
def JX (K : PySem.W.Frag) (X NE : Addr) (H : Hp) (v u : V) (E : XK) : Prop := (Gn K X H v ∨ ((∃ x, OpV K X H v x) ∧ Gn K X H u)) ∧ ∀ H' : Hp, Same H H' → E (.ref NE) none H'
def spJnX (K : PySem.W.Frag) (X NE : Addr) : Sp := fun vs H _ E => ∃ (k : Str) (v u : V), vs = [.str k, v, u] ∧ JX K X NE H v u E
theorem ok_jnX (F : Fun K "joined" "joined" sJoin f fd) (T : Xc K mg X fI) (FI : XI P w K mg base X fI dI) (bI : Binds K dI ["self", "kind", "parts"] []) (cO : Ca P w K mg base 5 "operand_of_expressions" ["x"] (spOpd K X)) (cX : CaX P w K mg base 3 "operand_of_expressions" ["x"] (spOpX K X NE)) : FnOk P w K mg base (L2.CX P w) 6 f fd ["kind", "x", "y"] (spJnX K X NE) := by
  refine F.okX scJ (fun vs H Q E h => ?_) (fun cdv A outer s H vs Q E hr h => ?_)
  · obtain ⟨k, v, u, rfl, _⟩ := h
    rfl
  obtain ⟨k, v, u, rfl, hv | ⟨⟨x, hv⟩, hu⟩, q⟩ := h
  · refine ⟨_, pss_one (ps_ret (pe_make T.mkC FI (hr.mono (by decide)) (by rfl) T.mC bI .nil pass0 (pa_cons (pv 0) (pa_cons (pe_tup (pa_cons (pcaX (E := E) cX hr (by decide) rfl (passes_call (takes_of rfl rfl rfl rfl) (fun _ _ _ _ h => h)) (pa_cons (pv 1) pa_nil)) (pa_cons (pca cO hr (by decide) rfl (pa_cons (pv 2) pa_nil)) pa_nil))) pa_nil)))), ?_⟩
    exact ⟨_, rfl, _, rfl, v, rfl, hv, q H (Same.refl H)⟩
  · refine ⟨_, pss_one (ps_ret (pe_make T.mkC FI (hr.mono (by decide)) (by rfl) T.mC bI .nil pass0 (pa_cons (pv 0) (pa_cons (pe_tup (pa_cons (pca cO hr (by decide) rfl (pa_cons (pv 1) pa_nil)) (pa_cons (pcaX (E := E) cX hr (by decide) rfl (passes_call (takes_of rfl rfl rfl rfl) (fun _ _ _ _ h => h)) (pa_cons (pv 2) pa_nil)) pa_nil))) pa_nil)))), ?_⟩
    refine ⟨_, rfl, _, rfl, v, x, rfl, hv, fun a H1 g1 ha => ?_⟩
    exact ⟨_, rfl, u, rfl, hu.same g1, q H1 g1⟩
def spNbX (K : PySem.W.Frag) (X NE : Addr) : Sp := fun vs H _ E => ∃ (k : Str) (v : V) (n : Int), vs = [.str k, v, .int n] ∧ okN k n ∧ Gn K X H v ∧ E (.ref NE) none H
theorem ok_nbX (F : Fun K "numbered" "numbered" sNbd f fd) (T : Xc K mg X fI) (FI : XI P w K mg base X fI dI) (bI : Binds K dI ["self", "kind", "parts"] []) (cW : Ca P w K mg base 1 "is_whole" ["n"] (spWh X)) (cA : Ca P w K mg base 1 "is_allowed" ["kind", "n"] spAlw) (cX : CaX P w K mg base 3 "operand_of_expressions" ["x"] (spOpX K X NE)) : FnOk P w K mg base (L2.CX P w) 6 f fd ["kind", "x", "n"] (spNbX K X NE) := by
  refine F.okX scNb (fun vs H Q E h => ?_) (fun cdv A outer s H vs Q E hr h => ?_)
  · obtain ⟨k, v, n, rfl, _⟩ := h
    rfl
  obtain ⟨k, v, n, rfl, hk, hv, q⟩ := h
  refine ⟨_, pss_cons (ps_if (pt_not (pt_val (pca cW hr (by decide) rfl (pa_cons (pv 2) pa_nil)))) pss_never pss_nil)
    (pss_cons (ps_if (pt_not (pt_val (pca cA hr (by decide) rfl (pa_cons (pv 0) (pa_cons (pv 2) pa_nil))))) pss_never pss_nil)
    (pss_one (ps_ret (pe_make T.mkC FI (hr.mono (by decide)) (by rfl) T.mC bI .nil pass0 (pa_cons (pv 0) (pa_cons (pe_tup (pa_cons (pcaX (E := E) cX hr (by decide) rfl (passes_call (takes_of rfl rfl rfl rfl) (fun _ _ _ _ h => h)) (pa_cons (pv 1) pa_nil)) (pa_cons (pv 2) pa_nil))) pa_nil)))))), ?_⟩
  refine ⟨_, rfl, _, rfl, .inl ⟨n, rfl, _, rfl, iteF ?_⟩⟩
  refine ⟨_, rfl, _, rfl, k, n, rfl, hk, _, rfl, iteF ?_⟩
  exact ⟨_, rfl, _, rfl, v, rfl, hv, q⟩
end
end Lw
namespace Lw
open PySem L2 OwB
section
variable {P : Program} {w : World} {K : PySem.W.Frag} {mg : Str → Option Value} {base : Heap} {f g X fI NE NA : Addr} {fd gd dI : FuncData}
def spJx (K : PySem.W.Frag) (X NE : Addr) : Sp := fun vs H _ E => ∃ v u : V, vs = [v, u] ∧ JX K X NE H v u E
def spJr (K : PySem.W.Frag) (X NE : Addr) : Sp := fun vs H _ E => ∃ v u : V, vs = [v, u] ∧ JX K X NE H u v E
def spNx (K : PySem.W.Frag) (X NE : Addr) (k : Str) : Sp := fun vs H _ E => ∃ (v : V) (n : Int), vs = [v, .int n] ∧ okN k n ∧ Gn K X H v ∧ E (.ref NE) none H
def spUx (K : PySem.W.Frag) (X NE : Addr) : Sp := fun vs H _ E => ∃ v : V, vs = [v] ∧ Gn K X H v ∧ E (.ref NE) none H
theorem sx_add : FnScope ["self", "other"] ["self", "other"] (defScope s_add) := ⟨rfl, rfl, rfl, by decide +kernel, rfl, by decide +kernel, by decide +kernel⟩
theorem okx_add (F : Fun K "__add__" "Expression.__add__" s_add f fd) (cX : CaX P w K mg base 6 "joined" ["kind", "x", "y"] (spJnX K X NE)) : FnOk P w K mg base (L2.CX P w) 7 f fd ["self", "other"] (spJx K X NE) := by
  refine F.okX sx_add (fun vs H Q E h => ?_) (fun cdv A outer s H vs Q E hr h => ?_)
  · obtain ⟨v, u, rfl, _⟩ := h
    rfl
  obtain ⟨v, u, rfl, q⟩ := h
  exact ⟨_, pss_one (ps_ret (pcaX (E := E) cX hr (by decide) rfl (passes_call (takes_of rfl rfl rfl rfl) (fun _ _ _ _ h => h)) (pa_cons pe_str (pa_cons (pv 0) (pa_cons (pv 1) pa_nil))))), ⟨_, rfl, _, rfl, _, _, _, rfl, q⟩⟩
theorem sx_sub : FnScope ["self", "other"] ["self", "other"] (defScope s_sub) := ⟨rfl, rfl, rfl, by decide +kernel, rfl, by decide +kernel, by decide +kernel⟩
theorem okx_sub (F : Fun K "__sub__" "Expression.__sub__" s_sub f fd) (cX : CaX P w K mg base 6 "joined" ["kind", "x", "y"] (spJnX K X NE)) : FnOk P w K mg base (L2.CX P w) 7 f fd ["self", "other"] (spJx K X NE) := by
  refine F.okX sx_sub (fun vs H Q E h => ?_) (fun cdv A outer s H vs Q E hr h => ?_)
  · obtain ⟨v, u, rfl, _⟩ := h
    rfl
  obtain ⟨v, u, rfl, q⟩ := h
  exact ⟨_, pss_one (ps_ret (pcaX (E := E) cX hr (by decide) rfl (passes_call (takes_of rfl rfl rfl rfl) (fun _ _ _ _ h => h)) (pa_cons pe_str (pa_cons (pv 0) (pa_cons (pv 1) pa_nil))))), ⟨_, rfl, _, rfl, _, _, _, rfl, q⟩⟩
theorem sx_rmul : FnScope ["self", "other"] ["self", "other"] (defScope s_rmul) := ⟨rfl, rfl, rfl, by decide +kernel, rfl, by decide +kernel, by decide +kernel⟩
theorem okx_rmul (F : Fun K "__rmul__" "Expression.__rmul__" s_rmul f fd) (cX : CaX P w K mg base 6 "joined" ["kind", "x", "y"] (spJnX K X NE)) : FnOk P w K mg base (L2.CX P w) 7 f fd ["self", "other"] (spJr K X NE) := by
  refine F.okX sx_rmul (fun vs H Q E h => ?_) (fun cdv A outer s H vs Q E hr h => ?_)
  · obtain ⟨v, u, rfl, _⟩ := h
    rfl
  obtain ⟨v, u, rfl, q⟩ := h
  exact ⟨_, pss_one (ps_ret (pcaX (E := E) cX hr (by decide) rfl (passes_call (takes_of rfl rfl rfl rfl) (fun _ _ _ _ h => h)) (pa_cons pe_str (pa_cons (pv 1) (pa_cons (pv 0) pa_nil))))), ⟨_, rfl, _, rfl, _, _, _, rfl, q⟩⟩
theorem sx_and : FnScope ["self", "other"] ["self", "other"] (defScope s_and) := ⟨rfl, rfl, rfl, by decide +kernel, rfl, by decide +kernel, by decide +kernel⟩
theorem okx_and (F : Fun K "__and__" "Expression.__and__" s_and f fd) (cX : CaX P w K mg base 6 "joined" ["kind", "x", "y"] (spJnX K X NE)) : FnOk P w K mg base (L2.CX P w) 7 f fd ["self", "other"] (spJx K X NE) := by
  refine F.okX sx_and (fun vs H Q E h => ?_) (fun cdv A outer s H vs Q E hr h => ?_)
  · obtain ⟨v, u, rfl, _⟩ := h
    rfl
  obtain ⟨v, u, rfl, q⟩ := h
  exact ⟨_, pss_one (ps_ret (pcaX (E := E) cX hr (by decide) rfl (passes_call (takes_of rfl rfl rfl rfl) (fun _ _ _ _ h => h)) (pa_cons pe_str (pa_cons (pv 0) (pa_cons (pv 1) pa_nil))))), ⟨_, rfl, _, rfl, _, _, _, rfl, q⟩⟩
theorem sx_or : FnScope ["self", "other"] ["self", "other"] (defScope s_or) := ⟨rfl, rfl, rfl, by decide +kernel, rfl, by decide +kernel, by decide +kernel⟩
theorem okx_or (F : Fun K "__or__" "Expression.__or__" s_or f fd) (cX : CaX P w K mg base 6 "joined" ["kind", "x", "y"] (spJnX K X NE)) : FnOk P w K mg base (L2.CX P w) 7 f fd ["self", "other"] (spJx K X NE) := by
  refine F.okX sx_or (fun vs H Q E h => ?_) (fun cdv A outer s H vs Q E hr h => ?_)
  · obtain ⟨v, u, rfl, _⟩ := h
    rfl
  obtain ⟨v, u, rfl, q⟩ := h
  exact ⟨_, pss_one (ps_ret (pcaX (E := E) cX hr (by decide) rfl (passes_call (takes_of rfl rfl rfl rfl) (fun _ _ _ _ h => h)) (pa_cons pe_str (pa_cons (pv 0) (pa_cons (pv 1) pa_nil))))), ⟨_, rfl, _, rfl, _, _, _, rfl, q⟩⟩
theorem sx_rxor : FnScope ["self", "other"] ["self", "other"] (defScope s_rxor) := ⟨rfl, rfl, rfl, by decide +kernel, rfl, by decide +kernel, by decide +kernel⟩
theorem okx_rxor (F : Fun K "__rxor__" "Expression.__rxor__" s_rxor f fd) (cX : CaX P w K mg base 6 "joined" ["kind", "x", "y"] (spJnX K X NE)) : FnOk P w K mg base (L2.CX P w) 7 f fd ["self", "other"] (spJr K X NE) := by
  refine F.okX sx_rxor (fun vs H Q E h => ?_) (fun cdv A outer s H vs Q E hr h => ?_)
  · obtain ⟨v, u, rfl, _⟩ := h
    rfl
  obtain ⟨v, u, rfl, q⟩ := h
  exact ⟨_, pss_one (ps_ret (pcaX (E := E) cX hr (by decide) rfl (passes_call (takes_of rfl rfl rfl rfl) (fun _ _ _ _ h => h)) (pa_cons pe_str (pa_cons (pv 1) (pa_cons (pv 0) pa_nil))))), ⟨_, rfl, _, rfl, _, _, _, rfl, q⟩⟩
theorem sx_greater : FnScope ["x", "y"] ["x", "y"] (defScope s_greater) := ⟨rfl, rfl, rfl, by decide +kernel, rfl, by decide +kernel, by decide +kernel⟩
theorem okx_greater (F : Fun K "greater" "greater" s_greater f fd) (cX : CaX P w K mg base 6 "joined" ["kind", "x", "y"] (spJnX K X NE)) : FnOk P w K mg base (L2.CX P w) 7 f fd ["x", "y"] (spJx K X NE) := by
  refine F.okX sx_greater (fun vs H Q E h => ?_) (fun cdv A outer s H vs Q E hr h => ?_)
  · obtain ⟨v, u, rfl, _⟩ := h
    rfl
  obtain ⟨v, u, rfl, q⟩ := h
  exact ⟨_, pss_one (ps_ret (pcaX (E := E) cX hr (by decide) rfl (passes_call (takes_of rfl rfl rfl rfl) (fun _ _ _ _ h => h)) (pa_cons pe_str (pa_cons (pv 0) (pa_cons (pv 1) pa_nil))))), ⟨_, rfl, _, rfl, _, _, _, rfl, q⟩⟩
theorem sx_lesser : FnScope ["x", "y"] ["x", "y"] (defScope s_lesser) := ⟨rfl, rfl, rfl, by decide +kernel, rfl, by decide +kernel, by decide +kernel⟩
theorem okx_lesser (F : Fun K "lesser" "lesser" s_lesser f fd) (cX : CaX P w K mg base 6 "joined" ["kind", "x", "y"] (spJnX K X NE)) : FnOk P w K mg base (L2.CX P w) 7 f fd ["x", "y"] (spJx K X NE) := by
  refine F.okX sx_lesser (fun vs H Q E h => ?_) (fun cdv A outer s H vs Q E hr h => ?_)
  · obtain ⟨v, u, rfl, _⟩ := h
    rfl
  obtain ⟨v, u, rfl, q⟩ := h
  exact ⟨_, pss_one (ps_ret (pcaX (E := E) cX hr (by decide) rfl (passes_call (takes_of rfl rfl rfl rfl) (fun _ _ _ _ h => h)) (pa_cons pe_str (pa_cons (pv 0) (pa_cons (pv 1) pa_nil))))), ⟨_, rfl, _, rfl, _, _, _, rfl, q⟩⟩
theorem sx_below : FnScope ["x", "y"] ["x", "y"] (defScope s_below) := ⟨rfl, rfl, rfl, by decide +kernel, rfl, by decide +kernel, by decide +kernel⟩
theorem okx_below (F : Fun K "below" "below" s_below f fd) (cX : CaX P w K mg base 6 "joined" ["kind", "x", "y"] (spJnX K X NE)) : FnOk P w K mg base (L2.CX P w) 7 f fd ["x", "y"] (spJx K X NE) := by
  refine F.okX sx_below (fun vs H Q E h => ?_) (fun cdv A outer s H vs Q E hr h => ?_)
  · obtain ⟨v, u, rfl, _⟩ := h
    rfl
  obtain ⟨v, u, rfl, q⟩ := h
  exact ⟨_, pss_one (ps_ret (pcaX (E := E) cX hr (by decide) rfl (passes_call (takes_of rfl rfl rfl rfl) (fun _ _ _ _ h => h)) (pa_cons pe_str (pa_cons (pv 0) (pa_cons (pv 1) pa_nil))))), ⟨_, rfl, _, rfl, _, _, _, rfl, q⟩⟩
theorem sx_at_most : FnScope ["x", "y"] ["x", "y"] (defScope s_at_most) := ⟨rfl, rfl, rfl, by decide +kernel, rfl, by decide +kernel, by decide +kernel⟩
theorem okx_at_most (F : Fun K "at_most" "at_most" s_at_most f fd) (cX : CaX P w K mg base 6 "joined" ["kind", "x", "y"] (spJnX K X NE)) : FnOk P w K mg base (L2.CX P w) 7 f fd ["x", "y"] (spJx K X NE) := by
  refine F.okX sx_at_most (fun vs H Q E h => ?_) (fun cdv A outer s H vs Q E hr h => ?_)
  · obtain ⟨v, u, rfl, _⟩ := h
    rfl
  obtain ⟨v, u, rfl, q⟩ := h
  exact ⟨_, pss_one (ps_ret (pcaX (E := E) cX hr (by decide) rfl (passes_call (takes_of rfl rfl rfl rfl) (fun _ _ _ _ h => h)) (pa_cons pe_str (pa_cons (pv 0) (pa_cons (pv 1) pa_nil))))), ⟨_, rfl, _, rfl, _, _, _, rfl, q⟩⟩
theorem sx_equal : FnScope ["x", "y"] ["x", "y"] (defScope s_equal) := ⟨rfl, rfl, rfl, by decide +kernel, rfl, by decide +kernel, by decide +kernel⟩
theorem okx_equal (F : Fun K "equal" "equal" s_equal f fd) (cX : CaX P w K mg base 6 "joined" ["kind", "x", "y"] (spJnX K X NE)) : FnOk P w K mg base (L2.CX P w) 7 f fd ["x", "y"] (spJx K X NE) := by
  refine F.okX sx_equal (fun vs H Q E h => ?_) (fun cdv A outer s H vs Q E hr h => ?_)
  · obtain ⟨v, u, rfl, _⟩ := h
    rfl
  obtain ⟨v, u, rfl, q⟩ := h
  exact ⟨_, pss_one (ps_ret (pcaX (E := E) cX hr (by decide) rfl (passes_call (takes_of rfl rfl rfl rfl) (fun _ _ _ _ h => h)) (pa_cons pe_str (pa_cons (pv 0) (pa_cons (pv 1) pa_nil))))), ⟨_, rfl, _, rfl, _, _, _, rfl, q⟩⟩
theorem sx_unequal : FnScope ["x", "y"] ["x", "y"] (defScope s_unequal) := ⟨rfl, rfl, rfl, by decide +kernel, rfl, by decide +kernel, by decide +kernel⟩
theorem okx_unequal (F : Fun K "unequal" "unequal" s_unequal f fd) (cX : CaX P w K mg base 6 "joined" ["kind", "x", "y"] (spJnX K X NE)) : FnOk P w K mg base (L2.CX P w) 7 f fd ["x", "y"] (spJx K X NE) := by
  refine F.okX sx_unequal (fun vs H Q E h => ?_) (fun cdv A outer s H vs Q E hr h => ?_)
  · obtain ⟨v, u, rfl, _⟩ := h
    rfl
  obtain ⟨v, u, rfl, q⟩ := h
  exact ⟨_, pss_one (ps_ret (pcaX (E := E) cX hr (by decide) rfl (passes_call (takes_of rfl rfl rfl rfl) (fun _ _ _ _ h => h)) (pa_cons pe_str (pa_cons (pv 0) (pa_cons (pv 1) pa_nil))))), ⟨_, rfl, _, rfl, _, _, _, rfl, q⟩⟩
theorem sx_floordiv : FnScope ["self", "other"] ["self", "other"] (defScope s_floordiv) := ⟨rfl, rfl, rfl, by decide +kernel, rfl, by decide +kernel, by decide +kernel⟩
theorem okx_floordiv (F : Fun K "__floordiv__" "Expression.__floordiv__" s_floordiv f fd) (cX : CaX P w K mg base 6 "numbered" ["kind", "x", "n"] (spNbX K X NE)) : FnOk P w K mg base (L2.CX P w) 7 f fd ["self", "other"] (spNx K X NE "quotient") := by
  refine F.okX sx_floordiv (fun vs H Q E h => ?_) (fun cdv A outer s H vs Q E hr h => ?_)
  · obtain ⟨v, n, rfl, _⟩ := h
    rfl
  obtain ⟨v, n, rfl, q⟩ := h
  exact ⟨_, pss_one (ps_ret (pcaX (E := E) cX hr (by decide) rfl (passes_call (takes_of rfl rfl rfl rfl) (fun _ _ _ _ h => h)) (pa_cons pe_str (pa_cons (pv 0) (pa_cons (pv 1) pa_nil))))), ⟨_, rfl, _, rfl, _, _, _, rfl, q⟩⟩
theorem sx_pow : FnScope ["self", "other"] ["self", "other"] (defScope s_pow) := ⟨rfl, rfl, rfl, by decide +kernel, rfl, by decide +kernel, by decide +kernel⟩
theorem okx_pow (F : Fun K "__pow__" "Expression.__pow__" s_pow f fd) (cX : CaX P w K mg base 6 "numbered" ["kind", "x", "n"] (spNbX K X NE)) : FnOk P w K mg base (L2.CX P w) 7 f fd ["self", "other"] (spNx K X NE "power") := by
  refine F.okX sx_pow (fun vs H Q E h => ?_) (fun cdv A outer s H vs Q E hr h => ?_)
  · obtain ⟨v, n, rfl, _⟩ := h
    rfl
  obtain ⟨v, n, rfl, q⟩ := h
  exact ⟨_, pss_one (ps_ret (pcaX (E := E) cX hr (by decide) rfl (passes_call (takes_of rfl rfl rfl rfl) (fun _ _ _ _ h => h)) (pa_cons pe_str (pa_cons (pv 0) (pa_cons (pv 1) pa_nil))))), ⟨_, rfl, _, rfl, _, _, _, rfl, q⟩⟩
theorem sx_lshift : FnScope ["self", "other"] ["self", "other"] (defScope s_lshift) := ⟨rfl, rfl, rfl, by decide +kernel, rfl, by decide +kernel, by decide +kernel⟩
theorem okx_lshift (F : Fun K "__lshift__" "Expression.__lshift__" s_lshift f fd) (cX : CaX P w K mg base 6 "numbered" ["kind", "x", "n"] (spNbX K X NE)) : FnOk P w K mg base (L2.CX P w) 7 f fd ["self", "other"] (spNx K X NE "left") := by
  refine F.okX sx_lshift (fun vs H Q E h => ?_) (fun cdv A outer s H vs Q E hr h => ?_)
  · obtain ⟨v, n, rfl, _⟩ := h
    rfl
  obtain ⟨v, n, rfl, q⟩ := h
  exact ⟨_, pss_one (ps_ret (pcaX (E := E) cX hr (by decide) rfl (passes_call (takes_of rfl rfl rfl rfl) (fun _ _ _ _ h => h)) (pa_cons pe_str (pa_cons (pv 0) (pa_cons (pv 1) pa_nil))))), ⟨_, rfl, _, rfl, _, _, _, rfl, q⟩⟩
theorem sx_rshift : FnScope ["self", "other"] ["self", "other"] (defScope s_rshift) := ⟨rfl, rfl, rfl, by decide +kernel, rfl, by decide +kernel, by decide +kernel⟩
theorem okx_rshift (F : Fun K "__rshift__" "Expression.__rshift__" s_rshift f fd) (cX : CaX P w K mg base 6 "numbered" ["kind", "x", "n"] (spNbX K X NE)) : FnOk P w K mg base (L2.CX P w) 7 f fd ["self", "other"] (spNx K X NE "right") := by
  refine F.okX sx_rshift (fun vs H Q E h => ?_) (fun cdv A outer s H vs Q E hr h => ?_)
  · obtain ⟨v, n, rfl, _⟩ := h
    rfl
  obtain ⟨v, n, rfl, q⟩ := h
  exact ⟨_, pss_one (ps_ret (pcaX (E := E) cX hr (by decide) rfl (passes_call (takes_of rfl rfl rfl rfl) (fun _ _ _ _ h => h)) (pa_cons pe_str (pa_cons (pv 0) (pa_cons (pv 1) pa_nil))))), ⟨_, rfl, _, rfl, _, _, _, rfl, q⟩⟩
theorem sx_neg : FnScope ["self"] ["self"] (defScope s_neg) := ⟨rfl, rfl, rfl, by decide +kernel, rfl, by decide +kernel, by decide +kernel⟩
theorem okx_neg (F : Fun K "__neg__" "Expression.__neg__" s_neg f fd) (T : Xc K mg X fI) (FI : XI P w K mg base X fI dI) (bI : Binds K dI ["self", "kind", "parts"] []) (cX : CaX P w K mg base 3 "operand_of_expressions" ["x"] (spOpX K X NE)) : FnOk P w K mg base (L2.CX P w) 6 f fd ["self"] (spUx K X NE) := by
  refine F.okX sx_neg (fun vs H Q E h => ?_) (fun cdv A outer s H vs Q E hr h => ?_)
  · obtain ⟨v, rfl, _⟩ := h
    rfl
  obtain ⟨v, rfl, q⟩ := h
  exact ⟨_, pss_one (ps_ret (pe_make T.mkC FI (hr.mono (by decide)) (by rfl) T.mC bI .nil pass0 (pa_cons pe_str (pa_cons (pe_tup (pa_cons (pcaX (E := E) cX hr (by decide) rfl (passes_call (takes_of rfl rfl rfl rfl) (fun _ _ _ _ h => h)) (pa_cons (pv 0) pa_nil)) pa_nil)) pa_nil)))), ⟨_, rfl, v, rfl, q⟩⟩
theorem sx_invert : FnScope ["self"] ["self"] (defScope s_invert) := ⟨rfl, rfl, rfl, by decide +kernel, rfl, by decide +kernel, by decide +kernel⟩
theorem okx_invert (F : Fun K "__invert__" "Expression.__invert__" s_invert f fd) (T : Xc K mg X fI) (FI : XI P w K mg base X fI dI) (bI : Binds K dI ["self", "kind", "parts"] []) (cX : CaX P w K mg base 3 "operand_of_expressions" ["x"] (spOpX K X NE)) : FnOk P w K mg base (L2.CX P w) 6 f fd ["self"] (spUx K X NE) := by
  refine F.okX sx_invert (fun vs H Q E h => ?_) (fun cdv A outer s H vs Q E hr h => ?_)
  · obtain ⟨v, rfl, _⟩ := h
    rfl
  obtain ⟨v, rfl, q⟩ := h
  exact ⟨_, pss_one (ps_ret (pe_make T.mkC FI (hr.mono (by decide)) (by rfl) T.mC bI .nil pass0 (pa_cons pe_str (pa_cons (pe_tup (pa_cons (pcaX (E := E) cX hr (by decide) rfl (passes_call (takes_of rfl rfl rfl rfl) (fun _ _ _ _ h => h)) (pa_cons (pv 0) pa_nil)) pa_nil)) pa_nil)))), ⟨_, rfl, v, rfl, q⟩⟩
theorem sx_abs : FnScope ["self"] ["self"] (defScope s_abs) := ⟨rfl, rfl, rfl, by decide +kernel, rfl, by decide +kernel, by decide +kernel⟩
theorem okx_abs (F : Fun K "__abs__" "Expression.__abs__" s_abs f fd) (T : Xc K mg X fI) (FI : XI P w K mg base X fI dI) (bI : Binds K dI ["self", "kind", "parts"] []) (cX : CaX P w K mg base 3 "operand_of_expressions" ["x"] (spOpX K X NE)) : FnOk P w K mg base (L2.CX P w) 6 f fd ["self"] (spUx K X NE) := by
  refine F.okX sx_abs (fun vs H Q E h => ?_) (fun cdv A outer s H vs Q E hr h => ?_)
  · obtain ⟨v, rfl, _⟩ := h
    rfl
  obtain ⟨v, rfl, q⟩ := h
  exact ⟨_, pss_one (ps_ret (pe_make T.mkC FI (hr.mono (by decide)) (by rfl) T.mC bI .nil pass0 (pa_cons pe_str (pa_cons (pe_tup (pa_cons (pcaX (E := E) cX hr (by decide) rfl (passes_call (takes_of rfl rfl rfl rfl) (fun _ _ _ _ h => h)) (pa_cons (pv 0) pa_nil)) pa_nil)) pa_nil)))), ⟨_, rfl, v, rfl, q⟩⟩
theorem sx_pos : FnScope ["self"] ["self"] (defScope s_pos) := ⟨rfl, rfl, rfl, by decide +kernel, rfl, by decide +kernel, by decide +kernel⟩
theorem okx_pos (F : Fun K "__pos__" "Expression.__pos__" s_pos f fd) (cX : CaX P w K mg base 3 "operand_of_expressions" ["x"] (spOpX K X NE)) : FnOk P w K mg base (L2.CX P w) 6 f fd ["self"] (spUx K X NE) := by
  refine F.okX sx_pos (fun vs H Q E h => ?_) (fun cdv A outer s H vs Q E hr h => ?_)
  · obtain ⟨v, rfl, _⟩ := h
    rfl
  obtain ⟨v, rfl, q⟩ := h
  exact ⟨_, pss_one (ps_ret (pcaX (E := E) cX hr (by decide) rfl (passes_call (takes_of rfl rfl rfl rfl) (fun _ _ _ _ h => h)) (pa_cons (pv 0) pa_nil))), ⟨_, rfl, v, rfl, q⟩⟩
end
end Lw
namespace Lw
open PySem L2 OwB
/-! the doors: is_access, Add, Statement, Program, Block, polynomial, active, value_of -/
def tNevE : TE := fun _ _ _ => False
theorem pe_nev {X : Cx} {e : Expr} : PE X e tNevE := ⟨fun _ _ _ _ _ _ h => h.elim⟩
abbrev s_is_access : Stmt := topS 42
theorem sc_is_access : FnScope ["x"] ["x"] (defScope s_is_access) := ⟨rfl, rfl, rfl, by decide +kernel, rfl, by decide +kernel, by decide +kernel⟩
abbrev s_ad : Stmt := inClass (topS 79) 0
theorem sc_ad : FnScope ["self", "expression"] ["self", "expression"] (defScope s_ad) := ⟨rfl, rfl, rfl, by decide +kernel, rfl, by decide +kernel, by decide +kernel⟩
abbrev s_stm : Stmt := inClass (topS 69) 0
abbrev n_stm : List Str := ["self", "target", "expression", "sign"]
theorem sc_stm : FnScope n_stm n_stm (defScope s_stm) := ⟨rfl, rfl, rfl, by decide +kernel, rfl, by decide +kernel, by decide +kernel⟩
abbrev s_prog : Stmt := inClass (topS 80) 0
abbrev n_prog : List Str := ["self", "target", "uses", "node", "use", "letter"]
theorem sc_prog : FnScope n_prog ["self", "target", "uses", "node"] (defScope s_prog) := ⟨rfl, rfl, rfl, by decide +kernel, rfl, by decide +kernel, by decide +kernel⟩
abbrev s_blk : Stmt := inClass (topS 78) 0
theorem sc_blk : FnScope ["self", "nodes"] ["self", "nodes"] (defScope s_blk) := ⟨rfl, rfl, rfl, by decide +kernel, rfl, by decide +kernel, by decide +kernel⟩
abbrev sFrozen : Stmt := topS 2
theorem scF : FnScope ["worth", "part"] ["worth"] (defScope sFrozen) := ⟨rfl, rfl, rfl, by decide +kernel, rfl, by decide +kernel, by decide +kernel⟩
abbrev s_polynomial : Stmt := topS 89
abbrev n_polynomial : List Str := ["expression", "parts", "part", "action"]
theorem sc_polynomial : FnScope n_polynomial ["expression"] (defScope s_polynomial) := ⟨rfl, rfl, rfl, by decide +kernel, rfl, by decide +kernel, by decide +kernel⟩
abbrev s_active : Stmt := topS 97
abbrev n_active : List Str := ["expression", "living", "pair"]
theorem sc_active : FnScope n_active ["expression", "living"] (defScope s_active) := ⟨rfl, rfl, rfl, by decide +kernel, rfl, by decide +kernel, by decide +kernel⟩
abbrev s_value_of : Stmt := topS 53
abbrev n_value_of : List Str := ["expression", "values", "worths", "part", "action"]
theorem sc_value_of : FnScope n_value_of ["expression", "values"] (defScope s_value_of) := ⟨rfl, rfl, rfl, by decide +kernel, rfl, by decide +kernel, by decide +kernel⟩
section
variable {P : Program} {w : World} {K : PySem.W.Frag} {mg : Str → Option Value} {base : Heap} {f g X AD PG BL fI NE NA : Addr} {fd gd dI : FuncData}
def spIsA (K : PySem.W.Frag) (X : Addr) : Sp := fun vs H Q _ => ∃ (p : Addr) (k : Str), vs = [.ref p] ∧ HasK K X H k p ∧ Q (.bl (decide (k = "access"))) H
theorem ok_isA (F : Fun K "is_access" "is_access" s_is_access f fd) (T : Xc K mg X fI) (B : Bt mg) : FnOk P w K mg base CX0 1 f fd ["x"] (spIsA K X) := by
  refine F.ok sc_is_access (fun vs H Q E h => ?_) (fun cdv A outer s H vs Q E hr h => ?_)
  · obtain ⟨p, k, rfl, _⟩ := h
    rfl
  obtain ⟨p, k, rfl, ⟨vs, as, m, he⟩, q⟩ := h
  obtain ⟨dx, _, _, _, _, _, hp, _⟩ := he
  refine ⟨_, pss_one (ps_ret (pe_and (pe_callB (C8.call_isC T.ic) (by rfl) B.isi (by decide +kernel) (pa_cons (pv 0) (pa_cons (pe_glob (v := .ref X) (by rfl) T.mC rfl) pa_nil))) (pe_one (pe_cmpR op_eq (pe_fld (pv 0) rfl) pe_str (nomark _))))), ?_⟩
  refine ⟨_, rfl, p, dx, _, rfl, hp, _, rfl, iteT ?_⟩
  refine ⟨_, rfl, p, X, dx, _, _, rfl, hp, T.ic.cl, T.nK, fE_k, rfl, ?_⟩
  by_cases hk : k = "access"
  · subst hk
    rw [decide_eq_true rfl] at q ⊢
    exact q
  · rw [decide_eq_false (fun z => hk (by cases z; rfl))]
    rw [decide_eq_false hk] at q
    exact q
def spAdX (K : PySem.W.Frag) (X AD NE : Addr) : Sp := fun vs H _ E => ∃ (p dx : Addr) (v : V), vs = [.ref p, v] ∧ H p = some (.ins AD dx []) ∧ Gn K X H v ∧ E (.ref NE) none H
theorem ok_adX (F : Fun K "__init__" "Add.__init__" s_ad f fd) (cE : CaX P w K mg base 2 "check_expression" ["x"] (spCeX K X NE)) : FnOk P w K mg base (L2.CX P w) 3 f fd ["self", "expression"] (spAdX K X AD NE) := by
  refine F.okX sc_ad (fun vs H Q E h => ?_) (fun cdv A outer s H vs Q E hr h => ?_)
  · obtain ⟨p, dx, x, rfl, _⟩ := h
    rfl
  obtain ⟨p, dx, x, rfl, hp, hx, q⟩ := h
  exact ⟨_, pss_cons (ps_expr (pcaX (E := E) cE hr (by decide) rfl (passes_call (takes_of rfl rfl rfl rfl) (fun _ _ _ _ h => h)) (pa_cons (pv 1) pa_nil))) pss_never, ⟨_, rfl, x, rfl, hx, q⟩⟩
def spG1 (K : PySem.W.Frag) (X NE : Addr) : Sp := fun vs H _ E => ∃ v : V, vs = [v] ∧ Gn K X H v ∧ E (.ref NE) none H
def spG2 (K : PySem.W.Frag) (X NE : Addr) : Sp := fun vs H _ E => ∃ v u : V, vs = [v, u] ∧ Gn K X H v ∧ E (.ref NE) none H
theorem ok_polX (F : Fun K "polynomial" "polynomial" s_polynomial f fd) (cE : CaX P w K mg base 2 "check_expression" ["x"] (spCeX K X NE)) : FnOk P w K mg base (L2.CX P w) 3 f fd ["expression"] (spG1 K X NE) := by
  refine F.okX sc_polynomial (fun vs H Q E h => ?_) (fun cdv A outer s H vs Q E hr h => ?_)
  · obtain ⟨x, rfl, _⟩ := h
    rfl
  obtain ⟨x, rfl, hx, q⟩ := h
  exact ⟨_, pss_cons (ps_expr (pcaX (E := E) cE hr (by decide) rfl (passes_call (takes_of rfl rfl rfl rfl) (fun _ _ _ _ h => h)) (pa_cons (pv 0) pa_nil))) pss_never, ⟨_, rfl, x, rfl, hx, q⟩⟩
theorem ok_actX (F : Fun K "active" "active" s_active f fd) (cE : CaX P w K mg base 2 "check_expression" ["x"] (spCeX K X NE)) : FnOk P w K mg base (L2.CX P w) 3 f fd ["expression", "living"] (spG2 K X NE) := by
  refine F.okX sc_active (fun vs H Q E h => ?_) (fun cdv A outer s H vs Q E hr h => ?_)
  · obtain ⟨x, y, rfl, _⟩ := h
    rfl
  obtain ⟨x, y, rfl, hx, q⟩ := h
  exact ⟨_, pss_cons (ps_expr (pcaX (E := E) cE hr (by decide) rfl (passes_call (takes_of rfl rfl rfl rfl) (fun _ _ _ _ h => h)) (pa_cons (pv 0) pa_nil))) pss_never, ⟨_, rfl, x, rfl, hx, q⟩⟩
theorem ok_valX (F : Fun K "value_of" "value_of" s_value_of f fd) (cE : CaX P w K mg base 2 "check_expression" ["x"] (spCeX K X NE)) : FnOk P w K mg base (L2.CX P w) 3 f fd ["expression", "values"] (spG2 K X NE) := by
  refine F.okX sc_value_of (fun vs H Q E h => ?_) (fun cdv A outer s H vs Q E hr h => ?_)
  · obtain ⟨x, y, rfl, _⟩ := h
    rfl
  obtain ⟨x, y, rfl, hx, q⟩ := h
  exact ⟨_, pss_cons (ps_expr (pcaX (E := E) cE hr (by decide) rfl (passes_call (takes_of rfl rfl rfl rfl) (fun _ _ _ _ h => h)) (pa_cons (pv 0) pa_nil))) pss_never, ⟨_, rfl, x, rfl, hx, q⟩⟩
/-- a statement that is none -/
abbrev DSt (K : PySem.W.Frag) (f : Addr) (fd : FuncData) : Prop := FunD K "__init__" "Statement.__init__" (defArgs s_stm) (defBody s_stm) (defScope s_stm) [.str "="] [] f fd
theorem bindS (F : DSt K f fd) : ∃ ds, Vals [V.str "="] ds ∧ Binds K fd n_stm ds :=
  F.binds1 3 0 (by decide) rfl fun T kV doc pm an cdv ct us its h1 h2 => match us, h1, its, h2 with | [_, _, _], _, [_], _ => ⟨_, rfl, rfl⟩
def spStX (K : PySem.W.Frag) (X NA NE : Addr) : Sp := fun vs H _ E => ∃ (p g : Addr) (v z : V), vs = [.ref p, .ref g, v, z] ∧
  ((∃ k, HasK K X H k g ∧ k ≠ "access" ∧ E (.ref NA) none H) ∨ (HasK K X H "access" g ∧ Gn K X H v ∧ E (.ref NE) none H))
theorem ok_stX (F : DSt K f fd) (Z : Ez K mg NA "NotAnAccess") (cI : Ca P w K mg base 1 "is_access" ["x"] (spIsA K X)) (cE : CaX P w K mg base 2 "check_expression" ["x"] (spCeX K X NE)) : FnOk P w K mg base (L2.CX P w) 3 f fd n_stm (spStX K X NA NE) := by
  refine F.ok sc_stm (fun vs H Q E h => ?_) (fun cdv A outer s H vs Q E hr h => ?_)
  · obtain ⟨p, g, v, z, rfl, _⟩ := h
    rfl
  obtain ⟨p, g, v, z, rfl, ⟨k, hk, nk, q⟩ | ⟨hk, hv, q⟩⟩ := h
  · refine ⟨_, pss_cons (ps_if (pt_not (pt_val (pca cI hr (by decide) rfl (pa_cons (pv 1) pa_nil)))) (pss_one (ps_raise rfl (takes_of rfl rfl rfl rfl) (pmk_own0 PySem.F.excBase_ValueError Z.xB Z.m Z.kB (raises_own Z.rB Z.tB) (by rfl)))) pss_nil) pss_never, ?_⟩
    refine ⟨_, rfl, g, k, rfl, hk, ?_⟩
    rw [decide_eq_false nk]
    exact ⟨_, rfl, iteT q⟩
  · refine ⟨_, pss_cons (ps_if (pt_not (pt_val (pca cI hr (by decide) rfl (pa_cons (pv 1) pa_nil)))) (pss_one ps_never) pss_nil) (pss_cons (ps_expr (pcaX (E := E) cE hr (by decide) rfl (passes_call (takes_of rfl rfl rfl rfl) (fun _ _ _ _ h => h)) (pa_cons (pv 2) pa_nil))) pss_never), ?_⟩
    refine ⟨_, rfl, g, "access", rfl, hk, ?_⟩
    rw [decide_eq_true rfl]
    exact ⟨_, rfl, iteF ⟨_, rfl, v, rfl, hv, q⟩⟩
def spPiX (K : PySem.W.Frag) (X NA : Addr) : Sp := fun vs H _ E => ∃ (p g : Addr) (k : Str) (a b : V), vs = [.ref p, .ref g, a, b] ∧ HasK K X H k g ∧ k ≠ "access" ∧ E (.ref NA) none H
theorem ok_piX (F : Fun K "__init__" "Program.__init__" s_prog f fd) (Z : Ez K mg NA "NotAnAccess") (cI : Ca P w K mg base 1 "is_access" ["x"] (spIsA K X)) : FnOk P w K mg base (L2.CX P w) 2 f fd ["self", "target", "uses", "node"] (spPiX K X NA) := by
  refine F.okX sc_prog (fun vs H Q E h => ?_) (fun cdv A outer s H vs Q E hr h => ?_)
  · obtain ⟨p, g, k, a, b, rfl, _⟩ := h
    rfl
  obtain ⟨p, g, k, a, b, rfl, hg, nk, q⟩ := h
  refine ⟨_, pss_cons (ps_if (pt_not (pt_val (pca cI hr (by decide) rfl (pa_cons (pv 1) pa_nil)))) (pss_one (ps_raise rfl (takes_of rfl rfl rfl rfl) (pmk_own0 PySem.F.excBase_ValueError Z.xB Z.m Z.kB (raises_own Z.rB Z.tB) (by rfl)))) pss_nil) pss_never, ?_⟩
  refine ⟨_, rfl, g, k, rfl, hg, ?_⟩
  rw [decide_eq_false nk]
  exact ⟨_, rfl, iteT q⟩
/-- an empty block -/
structure Bk (K : PySem.W.Frag) (BL : Addr) : Prop where
  cl : Cls K BL
  nN : PySem.W.findIn K (.ref BL) "nodes" = some none
def spFr0 (K : PySem.W.Frag) : Sp := fun vs H Q _ => ∃ t : Addr, vs = [.ref t] ∧ SqT K H t [] ∧ ∀ (r : Addr) (H' : Hp), Same H H' → Q (.ref r) H'
theorem ok_fr0 (F : Fun K "frozen" "frozen" sFrozen f fd) (B : Bt mg) : FnOk P w K mg base CX0 1 f fd ["worth"] (spFr0 K) := by
  refine F.ok scF (fun vs H Q E h => ?_) (fun cdv A outer s H vs Q E hr h => ?_)
  · obtain ⟨t, rfl, _⟩ := h
    rfl
  obtain ⟨a, rfl, hS, q⟩ := h
  refine ⟨_, pss_cons (ps_if (pt_val (pe_callB call_isiT (by rfl) B.isi (by decide +kernel) (pa_cons (pv 0) (pa_cons (pe_tup (pa_cons (pe_bltn (v := .ty "list") (by rfl) B.lst (by decide +kernel) rfl) (pa_cons (pe_bltn (v := .ty "tuple") (by rfl) B.tup (by decide +kernel) rfl) pa_nil))) pa_nil))))
        (pss_one (ps_ret (pe_callTy call_tuple_of (by rfl) B.tup (by decide +kernel) (pa_cons (pe_lc (own := [("part", 1)]) (g := gName 1) (tt := tYes) (te := tNevE) rfl scF.nd (pi_tup (pv 0)) (blkOk_by (N := ["worth", "part"]) (sc := defScope sFrozen) (by decide +kernel))
          (fun _ _ _ _ _ => pg_name (i := 1) scF.nd rfl (Or.inl rfl)) (fun _ _ _ _ _ => pts_nil) (fun _ _ _ _ _ => pe_nev)) pa_nil)))) pss_nil)
      (pss_one ps_never), ?_⟩
  refine ⟨_, rfl, (by show 2 ≤ sizeLine; decide), fun t ht => ?_⟩
  have g1 : Same H (upd H t (.tup [.ty "list", .ty "tuple"])) := same_new ht _
  refine ⟨_, t, _, .type "tuple", [.type "list", .type "tuple"], true, rfl, upd_same, .cons (.ty _) (.cons (.ty _) .nil), tyT (seqT g1 hS), is_seq (by decide +kernel) (by decide +kernel), _, rfl, ?_⟩
  refine iteT ?_
  refine ⟨_, rfl, a, rfl, ⟨_, seqT g1 hS⟩, fun D hD => ?_⟩
  refine lc_tup (K := K) (a := a) (xs := []) (fun i H' => H' D = some (.lst []) ∧ Same H H') ⟨upd_same, same_over g1 (g1.free hD) _⟩ (fun i H' _ ⟨_, g⟩ => seqT g hS) (fun i x H' hx _ => by cases hx) ?_
  rintro H1 ⟨w1, g2⟩
  exact ⟨D, [], rfl, .inl ⟨SqL.of w1, fun l hl => q l _ (g2.trans (same_new hl _))⟩⟩
def spBk0 (K : PySem.W.Frag) (BL : Addr) : Sp := fun vs H Q _ => ∃ (p dx t : Addr), vs = [.ref p, .ref t] ∧ H p = some (.ins BL dx []) ∧ SqT K H t [] ∧ ∀ H' : Hp, Kp p H H' → Q .non H'
theorem ok_bk0 (F : Fun K "__init__" "Block.__init__" s_blk f fd) (T : Bk K BL) (cF : Ca P w K mg base 1 "frozen" ["worth"] (spFr0 K)) : FnOk P w K mg base CX0 2 f fd ["self", "nodes"] (spBk0 K BL) := by
  refine F.ok sc_blk (fun vs H Q E h => ?_) (fun cdv A outer s H vs Q E hr h => ?_)
  · obtain ⟨p, dx, t, rfl, _⟩ := h
    rfl
  obtain ⟨p, dx, t, rfl, hp, ht, q⟩ := h
  refine ⟨_, pss_one (ps_fld (pv 0) (pca cF hr (by decide) rfl (pa_cons (pv 1) pa_nil)) rfl), ?_⟩
  refine ⟨_, rfl, t, rfl, ht, fun r H1 g1 => ?_⟩
  refine ⟨_, rfl, p, BL, dx, _, rfl, g1 _ _ hp, T.cl, T.nN, (by show 0 < 1000; decide), ?_⟩
  exact q _ fun b o n e => by rw [upd_ne n]; exact g1 _ _ e
end
end Lw
namespace Lw
open PySem L2 OwB
/-! gains and losses -/
abbrev s_assigned : Stmt := topS 49
theorem sc_assigned : FnScope ["kind", "x", "y"] ["kind", "x", "y"] (defScope s_assigned) := ⟨rfl, rfl, rfl, by decide +kernel, rfl, by decide +kernel, by decide +kernel⟩
abbrev s_iadd : Stmt := inClass (topS 38) 23
abbrev s_isub : Stmt := inClass (topS 38) 24
theorem sc_iadd : FnScope ["self", "other"] ["self", "other"] (defScope s_iadd) := ⟨rfl, rfl, rfl, by decide +kernel, rfl, by decide +kernel, by decide +kernel⟩
theorem sc_isub : FnScope ["self", "other"] ["self", "other"] (defScope s_isub) := ⟨rfl, rfl, rfl, by decide +kernel, rfl, by decide +kernel, by decide +kernel⟩
/-- the kind of a gain, of a loss -/
def gK : Bool → Str
  | true => "gain"
  | false => "loss"
theorem gK_na (g : Bool) : gK g ≠ "access" := by cases g <;> decide +kernel
theorem gK_ok (g : Bool) : gK g = "gain" ∨ gK g = "loss" := by cases g
                                                               · exact .inr rfl
                                                               · exact .inl rfl
/-- at q: the access at p, changed by x -/
def AsgAt (K : PySem.W.Frag) (C : Addr) (H : Hp) (g : Bool) (p : Addr) (nm : Str) (ls : List Str) (x : Ex) (q : Addr) : Prop :=
  ∃ (b : Addr) (as : List (Str × List Str)) (m : Int), HdE K C H q (gK g) [.ref p, .ref b] as m ∧ ExAt K C H (.acc nm ls) p ∧ ExAt K C H x b
theorem AsgAt.same {K : PySem.W.Frag} {C : Addr} {H H' : Hp} {g : Bool} {p : Addr} {nm : Str} {ls : List Str} {x : Ex} {q : Addr} (s : Same H H') : AsgAt K C H g p nm ls x q → AsgAt K C H' g p nm ls x q
  | ⟨b, as, m, h1, h2, h3⟩ => ⟨b, as, m, h1.same s, h2.same s, h3.same s⟩
theorem AsgAt.hask {K : PySem.W.Frag} {C : Addr} {H : Hp} {g : Bool} {p : Addr} {nm : Str} {ls : List Str} {x : Ex} {q : Addr} : AsgAt K C H g p nm ls x q → HasK K C H (gK g) q
  | ⟨b, as, m, h1, h2, h3⟩ => ⟨_, as, m, h1⟩
theorem AsgAt.gn {K : PySem.W.Frag} {C : Addr} {H : Hp} {g : Bool} {p : Addr} {nm : Str} {ls : List Str} {x : Ex} {q : Addr} (h : AsgAt K C H g p nm ls x q) : Gn K C H (.ref q) := ⟨q, gK g, rfl, h.hask, gK_ok g⟩
section
variable {P : Program} {w : World} {K : PySem.W.Frag} {mg : Str → Option Value} {base : Heap} {f g C fI NE NA gi gs : Addr} {fd gd dI di ds : FuncData}
/-- what comes out of x += v, x -= v -/
def AsgG (K : PySem.W.Frag) (C : Addr) (H : Hp) (k : Bool) (x v : V) (Q : VK) : Prop := ∃ (p : Addr) (nm : Str) (ls : List Str) (e : Ex), x = .ref p ∧ ExAt K C H (.acc nm ls) p ∧ OpV K C H v e ∧ ls.length ≤ 20 ∧ e.accs.length ≤ 1 ∧ (lts e.accs).length ≤ 20 ∧ ∀ (q : Addr) (H' : Hp), Same H H' → AsgAt K C H' k p nm ls e q → Q (.ref q) H'
def spAsg (K : PySem.W.Frag) (C : Addr) : Sp := fun vs H Q _ => ∃ (k : Bool) (x v : V), vs = [.str (gK k), x, v] ∧ AsgG K C H k x v Q
theorem ok_assigned (F : Fun K "assigned" "assigned" s_assigned f fd) (T : Xc K mg C fI) (FI : XI P w K mg base C fI dI) (bI : Binds K dI ["self", "kind", "parts"] []) (cI : Ca P w K mg base 1 "is_access" ["x"] (spIsA K C)) (cO : Ca P w K mg base 5 "operand_of_expressions" ["x"] (spOpd K C)) : FnOk P w K mg base CX0 6 f fd ["kind", "x", "y"] (spAsg K C) := by
  refine F.ok sc_assigned (fun vs H Q E h => ?_) (fun cdv A outer s H vs Q E hr h => ?_)
  · obtain ⟨k, x, v, rfl, _⟩ := h
    rfl
  obtain ⟨k, _, v, rfl, p, nm, ls, x, rfl, hp, hv, hl, xa, xl, q⟩ := h
  refine ⟨_, (pss_cons (ps_if (pt_not (pt_val (pca cI hr (by decide) rfl (pa_cons (pv 1) pa_nil))))
(pss_one ps_never) pss_nil)
(pss_one (ps_ret (pe_make T.mkC FI (hr.mono (by decide)) (by rfl) T.mC bI .nil pass0 (pa_cons (pv 0) (pa_cons (pe_tup (pa_cons (pv 1) (pa_cons (pca cO hr (by decide) rfl (pa_cons (pv 2) pa_nil)) pa_nil))) pa_nil)))))), ?_⟩
  refine ⟨_, rfl, p, "access", rfl, HasK.of hp, ?_⟩
  rw [decide_eq_true rfl]
  refine ⟨_, rfl, iteF ?_⟩
  refine ⟨_, rfl, _, rfl, _, rfl, v, x, rfl, hv, fun b H2 g2 hb => ?_⟩
  refine ⟨(by show 2 ≤ sizeLine; decide), fun tp htp => ?_⟩
  have g3 := same_new htp (.tup [.ref p, .ref b])
  intro o dx ho hd _
  have ea : (accsOf (opsOf [some (Ex.acc nm ls), some x])) = (nm, ls) :: (x.accs ++ []) := rfl
  refine newEx (os := [some (.acc nm ls), some x]) (own := []) (as := (nm, ls) :: x.accs) (SqT.of upd_same) (.cons ⟨p, rfl, hp.same (g2.trans g3)⟩ (.cons ⟨b, rfl, hb.same g3⟩ .nil)) (by show 2 ≤ 10; decide) (.inr ⟨gK_na k, rfl⟩) (by rw [ea]; simp) ?_ ?_ ho hd (fun H' g h => ⟨rfl, q o H' ((g2.trans g3).trans g) ⟨b, _, _, h, (hp.same (g2.trans g3)).same g, (hb.same g3).same g⟩⟩)
  · rw [List.length_cons]
    omega
  · have e : lts ((nm, ls) :: x.accs) = ls ++ lts x.accs := by
      unfold lts
      rw [List.map_cons, List.flatten_cons]
    rw [e, List.length_append]
    omega
/-- what is no access; a gain as the other operand -/
def AsgX (K : PySem.W.Frag) (C NA NE : Addr) (H : Hp) (x v : V) (E : XK) : Prop := ∃ p : Addr, x = .ref p ∧ ((∃ k, HasK K C H k p ∧ k ≠ "access" ∧ E (.ref NA) none H) ∨ (HasK K C H "access" p ∧ Gn K C H v ∧ E (.ref NE) none H))
def spAsX (K : PySem.W.Frag) (C NA NE : Addr) : Sp := fun vs H _ E => ∃ (k : Str) (x v : V), vs = [.str k, x, v] ∧ AsgX K C NA NE H x v E
theorem ok_asX (F : Fun K "assigned" "assigned" s_assigned f fd) (T : Xc K mg C fI) (FI : XI P w K mg base C fI dI) (bI : Binds K dI ["self", "kind", "parts"] []) (Z : Ez K mg NA "NotAnAccess") (cI : Ca P w K mg base 1 "is_access" ["x"] (spIsA K C)) (cX : CaX P w K mg base 3 "operand_of_expressions" ["x"] (spOpX K C NE)) : FnOk P w K mg base (L2.CX P w) 4 f fd ["kind", "x", "y"] (spAsX K C NA NE) := by
  refine F.okX sc_assigned (fun vs H Q E h => ?_) (fun cdv A outer s H vs Q E hr h => ?_)
  · obtain ⟨k, x, v, rfl, _⟩ := h
    rfl
  obtain ⟨k, _, v, rfl, p, rfl, ⟨kd, hk, nk, q⟩ | ⟨hk, hv, q⟩⟩ := h
  · refine ⟨_, pss_cons (ps_if (pt_not (pt_val (pca cI hr (by decide) rfl (pa_cons (pv 1) pa_nil)))) (pss_one (ps_raise rfl (takes_of rfl rfl rfl rfl) (pmk_own0 PySem.F.excBase_ValueError Z.xB Z.m Z.kB (raises_own Z.rB Z.tB) (by rfl)))) pss_nil) pss_never, ?_⟩
    refine ⟨_, rfl, p, kd, rfl, hk, ?_⟩
    rw [decide_eq_false nk]
    exact ⟨_, rfl, iteT q⟩
  · refine ⟨_, (pss_cons (ps_if (pt_not (pt_val (pca cI hr (by decide) rfl (pa_cons (pv 1) pa_nil))))
(pss_one ps_never) pss_nil)
(pss_one (ps_ret (pe_make T.mkC FI (hr.mono (by decide)) (by rfl) T.mC bI .nil pass0 (pa_cons (pv 0) (pa_cons (pe_tup (pa_cons (pv 1) (pa_cons (pcaX (E := E) cX hr (by decide) rfl (passes_call (takes_of rfl rfl rfl rfl) (fun _ _ _ _ h => h)) (pa_cons (pv 2) pa_nil)) pa_nil))) pa_nil)))))), ?_⟩
    refine ⟨_, rfl, p, "access", rfl, hk, ?_⟩
    rw [decide_eq_true rfl]
    exact ⟨_, rfl, iteF ⟨_, rfl, _, rfl, _, rfl, v, rfl, hv, q⟩⟩
/-- __iadd__, __isub__ -/
def spIop (K : PySem.W.Frag) (C : Addr) (k : Bool) : Sp := fun vs H Q _ => ∃ x v : V, vs = [x, v] ∧ AsgG K C H k x v Q
def spIoX (K : PySem.W.Frag) (C NA NE : Addr) : Sp := fun vs H _ E => ∃ x v : V, vs = [x, v] ∧ AsgX K C NA NE H x v E
theorem ok_iadd (F : Fun K "__iadd__" "Expression.__iadd__" s_iadd f fd) (cA : Ca P w K mg base 6 "assigned" ["kind", "x", "y"] (spAsg K C)) : FnOk P w K mg base CX0 7 f fd ["self", "other"] (spIop K C true) := by
  refine F.ok sc_iadd (fun vs H Q E h => ?_) (fun cdv A outer s H vs Q E hr h => ?_)
  · obtain ⟨p, v, rfl, _⟩ := h
    rfl
  obtain ⟨p, v, rfl, h⟩ := h
  exact ⟨_, pss_one (ps_ret (pca cA hr (by decide) rfl (pa_cons pe_str (pa_cons (pv 0) (pa_cons (pv 1) pa_nil))))), ⟨_, rfl, _, rfl, true, _, _, rfl, h⟩⟩
theorem ok_isub (F : Fun K "__isub__" "Expression.__isub__" s_isub f fd) (cA : Ca P w K mg base 6 "assigned" ["kind", "x", "y"] (spAsg K C)) : FnOk P w K mg base CX0 7 f fd ["self", "other"] (spIop K C false) := by
  refine F.ok sc_isub (fun vs H Q E h => ?_) (fun cdv A outer s H vs Q E hr h => ?_)
  · obtain ⟨p, v, rfl, _⟩ := h
    rfl
  obtain ⟨p, v, rfl, h⟩ := h
  exact ⟨_, pss_one (ps_ret (pca cA hr (by decide) rfl (pa_cons pe_str (pa_cons (pv 0) (pa_cons (pv 1) pa_nil))))), ⟨_, rfl, _, rfl, false, _, _, rfl, h⟩⟩
theorem okx_iadd (F : Fun K "__iadd__" "Expression.__iadd__" s_iadd f fd) (cA : CaX P w K mg base 4 "assigned" ["kind", "x", "y"] (spAsX K C NA NE)) : FnOk P w K mg base (L2.CX P w) 7 f fd ["self", "other"] (spIoX K C NA NE) := by
  refine F.okX sc_iadd (fun vs H Q E h => ?_) (fun cdv A outer s H vs Q E hr h => ?_)
  · obtain ⟨p, v, rfl, _⟩ := h
    rfl
  obtain ⟨p, v, rfl, h⟩ := h
  exact ⟨_, pss_one (ps_ret (pcaX (E := E) cA hr (by decide) rfl (passes_call (takes_of rfl rfl rfl rfl) (fun _ _ _ _ h => h)) (pa_cons pe_str (pa_cons (pv 0) (pa_cons (pv 1) pa_nil))))), ⟨_, rfl, _, rfl, _, _, _, rfl, h⟩⟩
theorem okx_isub (F : Fun K "__isub__" "Expression.__isub__" s_isub f fd) (cA : CaX P w K mg base 4 "assigned" ["kind", "x", "y"] (spAsX K C NA NE)) : FnOk P w K mg base (L2.CX P w) 7 f fd ["self", "other"] (spIoX K C NA NE) := by
  refine F.okX sc_isub (fun vs H Q E h => ?_) (fun cdv A outer s H vs Q E hr h => ?_)
  · obtain ⟨p, v, rfl, _⟩ := h
    rfl
  obtain ⟨p, v, rfl, h⟩ := h
  exact ⟨_, pss_one (ps_ret (pcaX (E := E) cA hr (by decide) rfl (passes_call (takes_of rfl rfl rfl rfl) (fun _ _ _ _ h => h)) (pa_cons pe_str (pa_cons (pv 0) (pa_cons (pv 1) pa_nil))))), ⟨_, rfl, _, rfl, _, _, _, rfl, h⟩⟩
/-- _law_grown -/
abbrev s_l_grown : Stmt := topS 110
abbrev n_l_grown : List Str := ["_law_x", "_law_y", "_law_is_gain"]
theorem sc_l_grown : FnScope n_l_grown n_l_grown (defScope s_l_grown) := ⟨rfl, rfl, rfl, by decide +kernel, rfl, by decide +kernel, by decide +kernel⟩
/-- an operator in place, as it comes through and as it raises -/
structure Io (P : Program) (w : World) (K : PySem.W.Frag) (mg : Str → Option Value) (base : Heap) (C NA NE : Addr) (dn : Str) (k : Bool) : Prop where
  ex : ∃ (g : Addr) (gd : FuncData), OpD K C g dn ∧ FnOk P w K mg base CX0 7 g gd ["self", "other"] (spIop K C k) ∧ FnOk P w K mg base (L2.CX P w) 7 g gd ["self", "other"] (spIoX K C NA NE) ∧ Binds K gd ["self", "other"] []
theorem inst_of' {H : Hp} {e : Ex} {p : Addr} (h : ExAt K C H e p) : ∃ dx fs, H p = some (.ins C dx fs) := (HasK.of h).inst
def spGrw (K : PySem.W.Frag) (C : Addr) : Sp := fun vs H Q _ => ∃ (k : Bool) (x v : V), vs = [x, v, .bl k] ∧ AsgG K C H k x v Q
theorem ok_grown (F : Fun K "_law_grown" "_law_grown" s_l_grown f fd) (sf : PySem.W.selfFirst K C = true) (I1 : Io P w K mg base C NA NE "__iadd__" true) (I2 : Io P w K mg base C NA NE "__isub__" false) : FnOk P w K mg base CX0 8 f fd n_l_grown (spGrw K C) := by
  refine F.ok sc_l_grown (fun vs H Q E h => ?_) (fun cdv A outer s H vs Q E hr h => ?_)
  · obtain ⟨k, x, v, rfl, _⟩ := h
    rfl
  obtain ⟨gi, di, Oi, Fi, _, bi⟩ := I1.ex
  obtain ⟨gs, ds, Os, Fs, _, bs⟩ := I2.ex
  obtain ⟨k, _, v, rfl, p, nm, ls, e, rfl, hp, hv, hl, xa, xl, q⟩ := h
  obtain ⟨dx, fs, hi⟩ := inst_of' hp
  refine ⟨_, (pss_cons (ps_if (pt_val (pv 2))
(pss_one (ps_aug (i := 0) (op := .Add) sc_l_grown.nd rfl (Or.inl rfl) (pv 1) (op_ownA sf Oi Fi (hr.mono (by decide)) bi pass0))) (pss_one (ps_aug (i := 0) (op := .Sub) sc_l_grown.nd rfl (Or.inl rfl) (pv 1) (op_ownA sf Os Fs (hr.mono (by decide)) bs pass0))))
(pss_one (ps_ret (pv 0)))), ?_⟩
  refine ⟨_, rfl, _, rfl, ?_⟩
  cases k with
  | true =>
    refine iteT ⟨_, rfl, _, rfl, p, dx, fs, rfl, hi, _, _, rfl, p, nm, ls, e, rfl, hp, hv, hl, xa, xl, fun o H' g h => ⟨_, rfl, q o H' g h⟩⟩
  | false =>
    refine iteF ⟨_, rfl, _, rfl, p, dx, fs, rfl, hi, _, _, rfl, p, nm, ls, e, rfl, hp, hv, hl, xa, xl, fun o H' g h => ⟨_, rfl, q o H' g h⟩⟩
def spGrX (K : PySem.W.Frag) (C NA NE : Addr) : Sp := fun vs H _ E => ∃ (k : Bool) (x v : V), vs = [x, v, .bl k] ∧ AsgX K C NA NE H x v E
theorem okx_grown (F : Fun K "_law_grown" "_law_grown" s_l_grown f fd) (sf : PySem.W.selfFirst K C = true) (I1 : Io P w K mg base C NA NE "__iadd__" true) (I2 : Io P w K mg base C NA NE "__isub__" false) : FnOk P w K mg base (L2.CX P w) 8 f fd n_l_grown (spGrX K C NA NE) := by
  refine F.okX sc_l_grown (fun vs H Q E h => ?_) (fun cdv A outer s H vs Q E hr h => ?_)
  · obtain ⟨k, x, v, rfl, _⟩ := h
    rfl
  obtain ⟨gi, di, Oi, _, Fi, bi⟩ := I1.ex
  obtain ⟨gs, ds, Os, _, Fs, bs⟩ := I2.ex
  obtain ⟨k, x, v, rfl, p, rfl, q⟩ := h
  have hi : ∃ dx fs, H p = some (.ins C dx fs) := by
    rcases q with ⟨kd, hk, _⟩ | ⟨hk, _⟩
    · exact hk.inst
    · exact hk.inst
  obtain ⟨dx, fs, hi⟩ := hi
  refine ⟨_, (pss_cons (ps_if (pt_val (pv 2))
(pss_one (ps_aug (i := 0) (op := .Add) sc_l_grown.nd rfl (Or.inl rfl) (pv 1) (op_ownA (E := E) sf Oi Fi (hr.mono (by decide)) bi (passes_call (takes_of rfl rfl rfl rfl) (fun _ _ _ _ h => h))))) (pss_one (ps_aug (i := 0) (op := .Sub) sc_l_grown.nd rfl (Or.inl rfl) (pv 1) (op_ownA (E := E) sf Os Fs (hr.mono (by decide)) bs (passes_call (takes_of rfl rfl rfl rfl) (fun _ _ _ _ h => h))))))
(pss_one (ps_ret (pv 0)))), ?_⟩
  refine ⟨_, rfl, _, rfl, ?_⟩
  cases k with
  | true => exact iteT ⟨_, rfl, _, rfl, p, dx, fs, rfl, hi, _, _, rfl, p, rfl, q⟩
  | false => exact iteF ⟨_, rfl, _, rfl, p, dx, fs, rfl, hi, _, _, rfl, p, rfl, q⟩
end
end Lw
namespace Lw
open PySem L2 OwB LamX
/-! _law_end -/
abbrev s_l_end : Stmt := topS 109
abbrev n_l_end : List Str := ["_law_deed", "_law_found"]
theorem sc_l_end : FnScope n_l_end ["_law_deed"] (defScope s_l_end) := ⟨rfl, rfl, rfl, by decide +kernel, rfl, by decide +kernel, by decide +kernel⟩
structure En (K : PySem.W.Frag) (mg : Str → Option Value) (NA NE WE : Addr) : Prop where
  mA : mg "NotAnAccess" = some (.ref NA)
  mE : mg "NotAnExpression" = some (.ref NE)
  mW : mg "WalkError" = some (.ref WE)
  aa : PySem.W.exmOne K (.ref NA) (.ref NA) = some true
  ea : PySem.W.exmOne K (.ref NE) (.ref NA) = some false
  ee : PySem.W.exmOne K (.ref NE) (.ref NE) = some true
/-- a word alone comes out -/
def OneW (z : Str) (R : V → Hp → Prop) (H : Hp) : Prop := ∀ t, H t = none → R (.ref t) (upd H t (.tup [.str z]))
/-- what _law_end makes of its deed's reading -/
def EtE (NA NE : Addr) (Q : VK) : XK := fun cls _ H' => (cls = .ref NA ∧ OneW "NotAnAccess" Q H') ∨ (cls = .ref NE ∧ OneW "NotAnExpression" Q H')
def TTe (NA NE : Addr) : (XK → Hp → VK → Prop) → Hp → VK → Prop := fun tl H Q => ∀ H1, Same H H1 → tl (EtE NA NE Q) H1 (fun _ _ => False)
theorem takes_len {X : Cx} {W : WX} (t : Takes X W) : Takes X (fun cls d σ H => σ.length = X.N.length → W cls d σ H) := fun u s' ⟨a, B, sI, pins, σ, H, cls, d, e, I, nb, up, sky, na, os, ag, w⟩ =>
  t u s' ⟨a, B, sI, pins, σ, H, cls, d, e, I, nb, up, sky, na, os, ag, w I.len⟩
section
variable {X : Cx} {NA NE WE g : Addr} {cdg : Value} {q : Str}
theorem end_gives (R : En X.K X.mg NA NE WE) : GivesTo X n_l_end "_law_end" (defScope s_l_end) g cdg (defBody s_l_end) "_law_deed" q (TTe NA NE) := by
  intro f c' s H Q tl act hc h
  refine ⟨_, pss_cons (ps_set (i := 1) sc_l_end.nd rfl (Or.inl rfl) (pe_tup (pa_cons pe_str pa_nil))) (pss_cons (ps_clauses (X := (cxOf C8.CX0 X.prog X.w X.K X.mg X.base n_l_end "_law_end" (defScope s_l_end) g cdg X.A X.stack s H C8.E0).nox)
      (l := [⟨.ref NA, none, fun _ cls _ D σ H => OneW "NotAnAccess" (fun v H' => D.nx (σ.set 1 (some v)) H') H⟩,
        ⟨.ref NE, none, fun _ cls _ D σ H => OneW "NotAnExpression" (fun v H' => D.nx (σ.set 1 (some v)) H') H⟩,
        ⟨.ref WE, none, fun _ _ _ _ _ _ => False⟩])
      (tb := fun W D σ H => ∃ Ech : XK, (∀ cls d σ' H', σ'.length = 2 → Ech cls d H' → W cls d σ' H') ∧ σ[0]? = some (some (.ref f)) ∧ H c' = some (CodeO c' q) ∧ tl Ech H (fun _ _ => False))
      rfl rfl L2.takes0 (fun W pn xe tk _ => ?_) ?_) (pss_one (ps_ret (pv 1)))), ?_⟩
  · refine ⟨fun pins s' σ H' D I h' => ?_⟩
    obtain ⟨Ech, hW, h1, h2, h3⟩ := h'
    exact (pss_cons (ps_expr (act (fun cls d σ' H' => σ'.length = 2 → W cls d σ' H') pn xe Ech _ _ (takes_len tk) (fun cls d σ' H' e l => hW cls d σ' H' l e))) (pss_one ps_never)).run pins s' σ H' D I ⟨h1, h2, h3⟩
  · refine .bare ⟨rfl, by decide, .inl R.mA⟩ (fun a oe cls d pn hz hf => ?_) (.bare ⟨rfl, by decide, .inl R.mE⟩ (fun a oe cls d pn hz hf => ?_) (.bare ⟨rfl, by decide, .inl R.mW⟩ (fun a oe cls d pn hz hf => pss_never) .nil))
    · exact ⟨fun pins s' σ H' D I h' => (pss_one (ps_set (i := 1) (X := ((cxOf C8.CX0 X.prog X.w X.K X.mg X.base n_l_end "_law_end" (defScope s_l_end) g cdg X.A X.stack s H C8.E0).nox).suite a ((a, oe) :: pn)) sc_l_end.nd rfl (Or.inl rfl) (pe_tup (pa_cons pe_str pa_nil)))).run pins s' σ H' D I ⟨(by show 1 ≤ sizeLine; decide), fun t ht => h' t ht⟩⟩
    · exact ⟨fun pins s' σ H' D I h' => (pss_one (ps_set (i := 1) (X := ((cxOf C8.CX0 X.prog X.w X.K X.mg X.base n_l_end "_law_end" (defScope s_l_end) g cdg X.A X.stack s H C8.E0).nox).suite a ((a, oe) :: pn)) sc_l_end.nd rfl (Or.inl rfl) (pe_tup (pa_cons pe_str pa_nil)))).run pins s' σ H' D I ⟨(by show 1 ≤ sizeLine; decide), fun t ht => h' t ht⟩⟩
  · refine ⟨(by show 1 ≤ sizeLine; decide), fun t0 ht0 => ?_⟩
    have g0 := same_new ht0 (.tup [.str "other"])
    refine ⟨EtE NA NE Q, fun cls d σ' H' hl hE => ?_, rfl, g0 _ _ hc, h _ g0⟩
    match σ', hl with
    | [x0, x1], _ =>
      rcases hE with ⟨rfl, h5⟩ | ⟨rfl, h5⟩
      · exact ⟨true, R.aa, fun _ a _ => fun t ht => ⟨_, rfl, h5 t ht⟩, fun z => by cases z⟩
      · exact ⟨false, R.ea, (fun z => by cases z), fun _ => ⟨true, R.ee, fun _ a _ => fun t ht => ⟨_, rfl, h5 t ht⟩, fun z => by cases z⟩⟩
end
end Lw
/-! g(e), e a lambda that is kept among others: what the others captured stays known -/
namespace ClX
open PySem PySem.Spec PyProof.Rows L2 LamX NdefX
open Classical in
/-- the lambda's cells, as they were -/
noncomputable def more (F : NF) (H H' : Hp) : Hp := fun b => if ∃ y, F.cl.lookup y = some b then H b else H' b
theorem more_in {F : NF} {H H' : Hp} {b : Addr} (h : ∃ y, F.cl.lookup y = some b) : more F H H' b = H b := by
  unfold more
  rw [if_pos h]
theorem more_out {F : NF} {H H' : Hp} {b : Addr} (h : ¬ ∃ y, F.cl.lookup y = some b) : more F H H' b = H' b := by
  unfold more
  rw [if_neg h]
theorem less_out {F : NF} {H : Hp} {b : Addr} (h : ¬ ∃ y, F.cl.lookup y = some b) : less F H b = H b := by
  unfold less
  rw [if_neg h]
theorem less_in {F : NF} {H : Hp} {b : Addr} (h : ∃ y, F.cl.lookup y = some b) : less F H b = none := by
  unfold less
  rw [if_pos h]
/-- what stays over the call stays -/
theorem more_same {F : NF} {H H' : Hp} (g : ∀ b o, less F H b = some o → H' b = some o) : ∀ b o, H b = some o → more F H H' b = some o := fun b o e => by
  by_cases h : ∃ y, F.cl.lookup y = some b
  · rw [more_in h]
    exact e
  · rw [more_out h]
    exact g b o ((less_out h).trans e)
/-- behind the call: the cells are tracked again -/
theorem back_in {outer : List Env} {P : Program} {w : World} {H H' : Hp} {s s' : Shared} {F : NF} (hc : ∀ y c, F.cl.lookup y = some c → ∃ v, H c = some (CellO c v)) (k0 : HOk P w H s.heap) (nf : ∀ b ∈ frs outer, H b = none)
    (u : Un (frs outer) [] (less F H) H' s.heap s'.heap) (k : HOk P w H' s'.heap) : Un (frs outer) [] H (more F H H') s.heap s'.heap ∧ HOk P w (more F H H') s'.heap ∧ ∀ b, (∃ y, F.cl.lookup y = some b) → H' b = none := by
  have nE : ∀ b : Addr, b ∉ ([] : List Addr) := fun b => by simp
  have cell : ∀ b, (∃ y, F.cl.lookup y = some b) → ∃ v, H b = some (CellO b v) := fun b ⟨y, e⟩ => hc y b e
  have at_ : ∀ b, (∃ y, F.cl.lookup y = some b) → H' b = none ∧ ∃ v x, H b = some (CellO b v) ∧ L2.RelV v x ∧ s'.heap.IsCell b (some x) := fun b hb => by
    obtain ⟨v, e⟩ := cell b hb
    obtain ⟨x, r, ob, ho, hd⟩ := cellO_at k0 e
    have n := less_in (H := H) hb
    have hb2 : b ∉ frs outer := fun hm => by rw [nf b hm] at e; cases e
    exact ⟨u.free b ob ho n (nE b), v, x, e, r, ob, u.keep b ob ho n hb2 (nE b), hd⟩
  refine ⟨⟨fun b o e n h1 h2 => u.keep b o e (less_none n) h1 h2, fun b o e n h1 h2 => u.slot b o e (less_none n) h1 h2, fun b o e n h2 => ?_, u.there, fun b xs e => ?_, fun b o x e => ?_, fun b ps e => ?_⟩, fun b o e => ?_, fun b hb => (at_ b hb).1⟩
  · have hb : ¬ ∃ y, F.cl.lookup y = some b := fun hb => by
      obtain ⟨v, z⟩ := cell b hb
      rw [n] at z
      cases z
    rw [more_out hb]
    exact u.free b o e (less_none n) h2
  · have hb : ¬ ∃ y, F.cl.lookup y = some b := fun hb => by
      obtain ⟨v, z⟩ := cell b hb
      rw [e] at z
      unfold CellO at z
      cases z
    rw [more_out hb]
    exact u.tups b xs ((less_out hb).trans e)
  · have hb : ¬ ∃ y, F.cl.lookup y = some b := fun hb => by
      obtain ⟨v, z⟩ := cell b hb
      rw [e] at z
      unfold CellO at z
      cases z
    rw [more_out hb]
    exact u.frzs b o x ((less_out hb).trans e)
  · have hb : ¬ ∃ y, F.cl.lookup y = some b := fun hb => by
      obtain ⟨v, z⟩ := cell b hb
      rw [e] at z
      unfold CellO at z
      cases z
    rw [more_out hb]
    exact u.tbls b ps ((less_out hb).trans e)
  · by_cases hb : ∃ y, F.cl.lookup y = some b
    · rw [more_in hb] at e
      obtain ⟨_, v, x, e2, r, ob, ho, hd⟩ := at_ b hb
      rw [e2] at e
      cases e
      exact ⟨⟨x, r, ob, ho, hd⟩, ⟨ob, ho⟩, fun h1 h2 ⟨x, r, ob, ho, hd⟩ st => ⟨x, r, ob, st _ ho, hd⟩⟩
    · rw [more_out hb] at e
      have kp : ∀ d o, H' d = some o → more F H H' d = some o := fun d o q => by
        have hd : ¬ ∃ y, F.cl.lookup y = some d := fun hd => by
          rw [(at_ d hd).1] at q
          cases q
        rw [more_out hd]
        exact q
      exact (k b o e).stay (fun _ _ _ q => q) (fun d q => kp d _ q) fun d xs q => kp d _ q
/-- what a call of the lambda finds, from its cells' objects alone -/
structure Bnd (h0 : Heap) (H0 : Hp) (fs : List Addr) (F : NF) (fr : List Str) (vs : List V) : Prop where
  inj : ∀ x y c, F.cl.lookup x = some c → F.cl.lookup y = some c → x = y
  all : ∀ y c, F.cl.lookup y = some c → y ∈ fr
  len : vs.length = fr.length
  has : ∀ (i : Nat) (y : Str) (v : V), fr[i]? = some y → vs[i]? = some v → ∃ c x, F.cl.lookup y = some c ∧ L2.RelV v x ∧ h0.IsCell c (some x)
  off : ∀ y c, F.cl.lookup y = some c → H0 c = none ∧ c ∉ fs
theorem Kept.bnd {P : Program} {w : World} {H : Hp} {h : Heap} {f : Addr} {F : NF} {b : Expr} {fr : List Str} {vs : List V} {fs : List Addr} (K : Kept H f F b fr vs) (k : HOk P w H h) (nf : ∀ b ∈ fs, H b = none) : Bnd h (less F H) fs F fr vs :=
  ⟨K.inj, K.all, K.len, fun i y v e1 e2 => by
    obtain ⟨c, e3, e4⟩ := K.has i y v e1 e2
    obtain ⟨x, r, z⟩ := cellO_at k e4
    exact ⟨c, x, e3, r, z⟩, fun y c e => ⟨less_in ⟨y, e⟩, fun hm => by
    obtain ⟨v, z⟩ := K.cell e
    rw [nf c hm] at z
    cases z⟩⟩
section
variable {X : Cx}
/-- x() where the name x holds such a lambda, its cells not tracked -/
theorem pe_bound {Z : Cx} {W : WX} {E : XK} {fr : List Str} {b : Expr} {f : Addr} {F : NF} {vs : List V} {k i : Nat} {a : Str} {tb : TE} {p1 p2 : Pos} (Sc : NScope fr [] fr F.scope) (hbind : ∀ (cl : List (Str × Addr)) (pm cv ctv : Value), bindArgs (PySem.W.kla_fn "<lambda>" F.qual F.params b F.scope cl pm cv ctv) ⟨[], []⟩ = pure [])
    (B : Bnd Z.s_0.heap Z.H_0 Z.fs F fr vs) (hex : Z.ex = [])
    (tk : Takes Z W) (hW : ∀ cls d σ' H', E cls d H' → W cls d σ' H') (hr : Room (k + 1) Z.A)
    (hbody : ∀ (A : Around) (outer : List Env) (s : Shared) (H : Hp), Room k (A.deeper (envF F f s.heap.objs.size)) → PE (ncx (L2.CX Z.prog Z.w) Z.prog Z.w Z.K Z.mg Z.base fr F f A outer s H E) b tb)
    (hN : Z.N[i]? = some a) (hv : Vis Z.env.scope a) (hd : (a == ("__debug__" : Str)) = false := by decide) (hcd : (a == ("__classdict__" : Str)) = false := by decide) :
    PE Z (.Call (.Name a p1) [] [] p2) (fun σZ HZ Q => σZ[i]? = some (some (.ref f)) ∧ HZ f = some (LamO f F b) ∧ HZ F.c = some (CodeO F.c F.qual) ∧ tb (vs.map some) HZ Q) := by
  refine ⟨fun pins s σ H Q I h => ?_⟩
  obtain ⟨hs, hf, hcode, ht⟩ := h
  refine wpAny_Call_Name_kw (thn ((pe_var (pos := p1) (i := i) hN hv hd hcd).run pins s σ H (fun v H1 => v = .ref f ∧ H1 = H) I ⟨.ref f, hs, rfl, rfl⟩) fun u s1 ⟨v, H1, I1, r1, ev, eH⟩ => ?_)
  subst ev
  rw [eH] at I1
  obtain rfl : u = Value.ref f := r1
  obtain ⟨pm, ctv, of1⟩ := lamO_at I1.hok hf
  have hrec := codeO_at I1.hok hcode
  have nE : ∀ b : Addr, b ∉ Z.ex := fun b => by rw [hex]; simp
  have fnd : ∀ {c : Addr} {x : Value}, Z.s_0.heap.IsCell c (some x) → Z.H_0 c = none → c ∉ Z.fs → H c = none ∧ s1.heap.IsCell c (some x) := fun {c x} ⟨ob, ho, hd⟩ n1 n2 => ⟨I1.base.free c ob ho n1 (nE c), ob, I1.base.keep c ob ho n1 n2 (nE c), hd⟩
  have C : CellsAt F.cl fr (vs.map some) s1.heap H := by
    have each : ∀ y c, F.cl.lookup y = some c → ∃ j v x, fr[j]? = some y ∧ vs[j]? = some v ∧ L2.RelV v x ∧ H c = none ∧ s1.heap.IsCell c (some x) := fun y c e => by
      obtain ⟨j, hj⟩ := List.mem_iff_getElem?.mp (B.all y c e)
      have hl : j < vs.length := by
        rw [B.len]
        exact (List.getElem?_eq_some_iff.mp hj).1
      obtain ⟨c', x, e', r, z⟩ := B.has j y _ hj (List.getElem?_eq_getElem hl)
      rw [e] at e'
      cases e'
      obtain ⟨n1, n2⟩ := B.off y c e
      exact ⟨j, _, x, hj, List.getElem?_eq_getElem hl, r, fnd z n1 n2⟩
    refine ⟨by rw [List.length_map]; exact B.len, fun y c e => ?_, B.inj, fun j y e => ?_⟩
    · obtain ⟨j, v, x, _, _, _, h1, h2⟩ := each y c e
      exact ⟨h1, _, h2⟩
    · have hl : j < vs.length := by
        rw [B.len]
        exact (List.getElem?_eq_some_iff.mp e).1
      obtain ⟨c, x, e2, r, z⟩ := B.has j y _ e (List.getElem?_eq_getElem hl)
      obtain ⟨n1, n2⟩ := B.off y c e2
      refine ⟨c, e2, fun v ev => ?_⟩
      rw [List.getElem?_map, List.getElem?_eq_getElem hl] at ev
      cases ev
      exact ⟨x, r, (fnd z n1 n2).2⟩
  refine PySem.W.callWith_F0 ⟨_, _, _, _, of1⟩ ?_
  have rc : codeAny (model Z.prog Z.w) Z.A (.call (.ref f) ⟨[], []⟩) (CR (L2.CX Z.prog Z.w) Z.stack Z.prog Z.w H s1 Q E) s1 := by
    refine PySem.W.kla_callFunE hr.depth of1 rfl Sc.co Sc.gen rfl hrec ?_
    rw [hbind]
    refine wpAny_pure (wpAny_newFunctionEnv Sc.nocell (fun y hy => absurd hy (by simp)) (fun h₁ hns hsb => ⟨I1.nolimit.fresh _ hsb, ?_⟩) Sc.kind)
    show codeAny _ _ (.expr b (envF F f s1.heap.objs.size)) _ _
    have kp : ∀ b o, s1.heap.get? b = some o → h₁.get? b = some o := fun b o e => hsb.extBut b o (Nat.ne_of_lt (Heap.lt_size e)) (Heap.get?_push_of_some _ e)
    have J : Inv (ncx (L2.CX Z.prog Z.w) Z.prog Z.w Z.K Z.mg Z.base fr F f Z.A Z.stack s1 H E) [] (startF fr [] (vs.map some)) H { s1 with heap := h₁, toks := s1.toks + ([] : List (Str × Value)).length } := inv_startN (us := []) Sc hr.hd I1.env0 rfl .nil C hns kp
    have es : startF fr [] (vs.map some) = vs.map some := by
      unfold startF
      rw [List.length_map, B.len]
      simp
    rw [es] at J
    refine PySem.W.kla_codeExpr (wpAny_mono ((hbody _ _ s1 H (hr.deeper _)).run [] _ _ H Q J ht) (fun v s' hq => ?_) fun e s' hq => hq)
    obtain ⟨w', H', J', rv, q⟩ := hq
    exact ⟨w', H', J'.os, J'.bare, J'.base, J'.hok, rv, q⟩
  have hx : Passes (L2.CX Z.prog Z.w) Z E := passes_call tk hW
  refine wpAny_call (codeAny_mono rc fun r s' hq => ?_)
  cases r with
  | error e => exact hx pins σ H s1 e s' I1 hq
  | ok fl =>
    cases fl with
    | ret u => exact I1.after hq
    | next => exact False.elim hq
    | brk => exact False.elim hq
    | cont => exact False.elim hq
/-- g(e), g a def that calls what it gets (GivesTo), e told as one of some kept lambdas -/
theorem pe_giveE {ι : Type} {TT : (XK → Hp → VK → Prop) → Hp → VK → Prop} {x a q : Str} {g : Addr} {k : Nat} {pg : Arguments} {bg : List Stmt} {sg : Scope} {dV kV doc pm cdv ct oc : Value} {an od : Option Addr} {osl : Array (Option Value)} {Ng : List Str} {fr : ι → List Str} {b : ι → Expr} {mkF : ι → List (Str × Addr) → Addr → NF} {tb : ι → XK → TE} {e : Expr} {te : TE} {p1 pos : Pos}
    (hg : Gl X x) (hm : X.mg x = some (.ref g)) (hk : PySem.W.keepIn X.K (.ref g) = true) (lk : X.K.lookup g = some ⟨oc, od, .func (PySem.W.fnOf x x pg bg sg dV kV doc pm an cdv ct), osl⟩) (hcg : PySem.W.codeIn X.K cdv x = true) (hb : L2.Binds X.K (PySem.W.fnOf x x pg bg sg dV kV doc pm an cdv ct) [a] []) (Sg : FnScope Ng [a] sg) (hNg : Ng[0]? = some a) (hva : Vis sg a)
    (hG : GivesTo X Ng x sg g cdv bg a q TT) (hr : Room (k + 2) X.A) (hq : ∀ i cl c, (mkF i cl c).qual = q) (hc : ∀ i cl c, (mkF i cl c).c = c) (Sc : ∀ i cl c, NScope (fr i) [] (fr i) (mkF i cl c).scope) (hbind : ∀ (i : ι) (cl' : List (Str × Addr)) (c' : Addr) (cl : List (Str × Addr)) (pm cv ctv : Value), bindArgs (PySem.W.kla_fn "<lambda>" (mkF i cl' c').qual (mkF i cl' c').params (b i) (mkF i cl' c').scope cl pm cv ctv) ⟨[], []⟩ = pure [])
    (hbody : ∀ (i : ι) (cl : List (Str × Addr)) (c f : Addr) (A : Around) (outer : List Env) (s : Shared) (H : Hp) (E : XK), Room k (A.deeper (envF (mkF i cl c) f s.heap.objs.size)) → PE (ncx (L2.CX X.prog X.w) X.prog X.w X.K X.mg X.base (fr i) (mkF i cl c) f A outer s H E) (b i) (tb i E))
    (he : PE X e te) (hdb : (x == ("__debug__" : Str)) = false := by decide) (hda : (a == ("__debug__" : Str)) = false := by decide) (hca : (a == ("__classdict__" : Str)) = false := by decide) (hst : starEach [e] X.env = (false, eval e X.env) :: starEach [] X.env := by rfl) :
    PE X (.Call (.Name x p1) [e] [] pos) (fun σ H Q => te σ H fun v H1 => ∃ (i : ι) (f c : Addr) (cl : List (Str × Addr)) (vs : List V), v = .ref f ∧ Kept H1 f (mkF i cl c) (b i) (fr i) vs ∧ (less (mkF i cl c) H1 f = some (LamO f (mkF i cl c) (b i)) → TT (fun E H' Q' => H' f = some (LamO f (mkF i cl c) (b i)) ∧ tb i E (vs.map some) H' Q') (less (mkF i cl c) H1) (fun v H' => (∀ b, (∃ y, (mkF i cl c).cl.lookup y = some b) → H' b = none) → Q v (more (mkF i cl c) H1 H')))) := by
  refine ⟨fun pins s σ H Q I h => ?_⟩
  refine wpAny_Call_Name_kw (ld_glob I hg hm (PySem.W.callWith_K (h₀ := X.base) I.ok.mod.kin hk ?_ hst (by rfl)) hdb)
  rw [hst]
  show wpAny _ _ (spliced ((false, eval e X.env) :: backTo pos (starEach [] X.env))) _ _ s
  refine Calls.spliced_cons (thn (he.run pins s σ H _ I h) fun u s1 ⟨v, H1, I1, r1, i, f, c, cl, vs, ev, hK, hT⟩ => ?_)
  subst ev
  obtain rfl : u = Value.ref f := r1
  refine Calls.spliced_nil ⟨I1.kIn, ?_⟩
  have hcell : ∀ y d, (mkF i cl c).cl.lookup y = some d → ∃ v, H1 d = some (CellO d v) := fun y d e => hK.cell e
  have I2 := inv_less (F := mkF i cl c) I1 hcell
  have rc : codeAny (model X.prog X.w) X.A (.call (.ref g) ⟨[.ref f], []⟩) (CR C8.CX0 X.stack X.prog X.w (less (mkF i cl c) H1) s1 (fun v H' => (∀ b, (∃ y, (mkF i cl c).cl.lookup y = some b) → H' b = none) → Q v (more (mkF i cl c) H1 H')) C8.E0) s1 := by
    refine run_ofS (N := Ng) (ps := [a]) (us := [.ref f]) (vs := [.ref f]) lk hcg Sg hr I2.env0 (hb s1 [.ref f] I1.kIn rfl) (.cons rfl .nil) rfl fun hr' => ?_
    have hcode : less (mkF i cl c) H1 c = some (CodeO c q) := by
      have z := hK.code
      rw [hc, hq] at z
      have n : ¬ ∃ y, (mkF i cl c).cl.lookup y = some c := fun ⟨y, ey⟩ => by
        obtain ⟨v, e2⟩ := hcell y c ey
        obtain ⟨x, _, ob, ho, hd⟩ := cellO_at I1.hok e2
        obtain ⟨c2, oc, vs, t, ec2, ho2, hd2, _⟩ := codeO_at I1.hok z
        cases ec2
        rw [ho] at ho2
        cases ho2
        rw [hd] at hd2
        cases hd2
      rw [less_out n]
      exact z
    have hlam : less (mkF i cl c) H1 f = some (LamO f (mkF i cl c) (b i)) := by
      have n : ¬ ∃ y, (mkF i cl c).cl.lookup y = some f := fun ⟨y, ey⟩ => by
        obtain ⟨v, e2⟩ := hcell y f ey
        obtain ⟨x, _, ob, ho, hd⟩ := cellO_at I1.hok e2
        obtain ⟨pm, ctv, z⟩ := lamO_at I1.hok hK.fn
        rw [ho] at z
        cases z
        cases hd
      rw [less_out n]
      exact hK.fn
    refine (hG f c s1 (less (mkF i cl c) H1) (fun v H' => (∀ b, (∃ y, (mkF i cl c).cl.lookup y = some b) → H' b = none) → Q v (more (mkF i cl c) H1 H')) (fun E H' Q' => H' f = some (LamO f (mkF i cl c) (b i)) ∧ tb i E (vs.map some) H' Q') (fun W pn xe E p1 p2 tk hW => ?_) hcode (hT hlam)).imp fun t' z => ⟨z.1.nox, z.2⟩
    have Bd : Bnd s1.heap (less (mkF i cl c) H1) (frs X.stack) (mkF i cl c) (fr i) vs := hK.bnd I1.hok I1.env0.frf
    have z := pe_bound (Z := (cxOf C8.CX0 X.prog X.w X.K X.mg X.base Ng x sg g cdv X.A X.stack s1 (less (mkF i cl c) H1) C8.E0).tr pn xe) (W := W) (E := E) (f := f) (F := mkF i cl c) (b := b i) (fr := fr i) (vs := vs) (k := k) (i := 0) (a := a) (tb := tb i E) (p1 := p1) (p2 := p2) (Sc i cl c) (hbind i cl c) Bd rfl tk hW hr' (fun A outer s H hr2 => hbody i cl c f A outer s H E hr2) hNg hva hda hca
    exact ⟨fun pinsZ sZ σZ HZ QZ IZ ⟨a1, a2, a3, a4⟩ => z.run pinsZ sZ σZ HZ QZ IZ ⟨a1, a3, by rw [hc, hq]; exact a2, a4⟩⟩
  refine wpAny_call (codeAny_mono rc fun r s2 hq => ?_)
  cases r with
  | error e => exact (show False from hq).elim
  | ok fl =>
    cases fl with
    | ret u =>
      obtain ⟨v, H', h1, h2, h3, h4, h5, h6⟩ := hq
      obtain ⟨b1, b2, b3⟩ := back_in hcell I1.hok I1.env0.frf h3 h4
      exact I1.after ⟨v, _, h1, h2, b1, b2, h5, h6 b3⟩
    | next => exact False.elim hq
    | brk => exact False.elim hq
    | cont => exact False.elim hq
end
end ClX
namespace Lw
open PySem L2 OwB LamX ClX
/-! the deeds: lambdas that hand a gain or a loss to an operator or a function -/
abbrev s_l_deeds : Stmt := topS 111
abbrev n_l_deeds : List Str := ["_law_gain", "_law_x", "_law_deeds_here"]
theorem sc_l_deeds : FnScope n_l_deeds ["_law_gain", "_law_x"] (defScope s_l_deeds) := ⟨rfl, rfl, rfl, by decide +kernel, rfl, by decide +kernel, by decide +kernel⟩
def lmB : Expr → Expr
  | .Lambda _ b _ _ => b
  | e => e
def lmP : Expr → Arguments
  | .Lambda p _ _ _ => p
  | _ => ⟨[], [], none, [], [], none, []⟩
def lmS : Expr → Scope
  | .Lambda _ _ s _ => s
  | _ => default
def stLam : Stmt → Expr
  | .Assign _ (.List (e :: _) _) _ => e
  | .Expr (.Call _ (e :: _) _ _) _ => e
  | _ => .Constant .none 0 ⟨0, 0, 0, 0⟩
def deedE (j : Nat) : Expr := match (defBody s_l_deeds)[j]? with
  | some st => stLam st
  | none => .Constant .none 0 ⟨0, 0, 0, 0⟩
abbrev qDeed : Str := "_law_deeds.<locals>." ++ "<lambda>"
def mkL (e : Expr) (cl : List (Str × Addr)) (c' : Addr) : NdefX.NF := ⟨"<lambda>", qDeed, lmP e, [], lmS e, cl, c'⟩
def bothD (j : Nat) : Bool := j == 0 || j == 1 || j == 4 || j == 15 || j == 17 || j == 19
def frD (j : Nat) : List Str := if bothD j = true then ["_law_gain", "_law_x"] else ["_law_gain"]
theorem nscD_all : ∀ j : Fin 26, NdefX.nscB (frD j.val) [] (frD j.val) (lmS (deedE j.val)) = true := by decide +kernel
theorem nscD (j : Fin 26) (cl : List (Str × Addr)) (c : Addr) : NdefX.NScope (frD j.val) [] (frD j.val) (mkL (deedE j.val) cl c).scope := NdefX.nscope_by (nscD_all j)
/-- an operator of the package, as it raises -/
structure Ox2 (P : Program) (w : World) (K : PySem.W.Frag) (mg : Str → Option Value) (base : Heap) (C : Addr) (dn : Str) (sp : Sp) : Prop where
  ex : ∃ (g : Addr) (gd : FuncData), OpD K C g dn ∧ FnOk P w K mg base (L2.CX P w) 7 g gd ["self", "other"] sp ∧ Binds K gd ["self", "other"] []
structure Ox1 (P : Program) (w : World) (K : PySem.W.Frag) (mg : Str → Option Value) (base : Heap) (C : Addr) (dn : Str) (sp : Sp) : Prop where
  ex : ∃ (g : Addr) (gd : FuncData), OpD K C g dn ∧ FnOk P w K mg base (L2.CX P w) 6 g gd ["self"] sp ∧ Binds K gd ["self"] []
theorem fnR_of {P : Program} {w : World} {K : PySem.W.Frag} {mg : Str → Option Value} {base : Heap} {CX : CXT} {k : Nat} {f : Addr} {fd : FuncData} {ps : List Str} {sp : Sp} (F : FnOk P w K mg base CX k f fd ps sp) (hb : Binds K fd ps []) : FnR P w K mg base CX k f sp := by
  intro A outer s H us vs Q E hr e0 r hsp
  have KX : K.In s.heap := e0.mod.kin.keeps fun b o e => (e0.bs b o e).1
  have hl : us.length = ps.length := by rw [← r.length]; exact F.len _ _ _ _ hsp
  have hb2 := hb s us KX (by rw [List.append_nil]; exact hl)
  rw [List.append_nil] at hb2
  exact F.run A outer s H ⟨us, []⟩ us vs Q E hr e0 hb2 r hsp
structure MkX (P : Program) (w : World) (K : PySem.W.Frag) (mg : Str → Option Value) (base : Heap) (C : Addr) (x : Str) (k : Nat) (ps : List Str) (dv : List V) (sp : Sp) : Prop where
  ex : ∃ (f : Addr) (d : FuncData) (ds : List Value), Mk K C f ∧ FnOk P w K mg base (L2.CX P w) k f d ps sp ∧ Vals dv ds ∧ Binds K d ps ds ∧ mg x = some (.ref C)
/-- what the deeds lean on -/
structure DE (P : Program) (w : World) (K : PySem.W.Frag) (mg : Str → Option Value) (base : Heap) (C NE NA AD ST : Addr) : Prop where
  sf : PySem.W.selfFirst K C = true
  sub : PySem.W.subIn K (.type "int") (.ref C) = some false
  subR : PySem.W.subIn K (.ref C) (.type "int") = some false
  add : Ox2 P w K mg base C "__add__" (spJx K C NE)
  sub_ : Ox2 P w K mg base C "__sub__" (spJx K C NE)
  or_ : Ox2 P w K mg base C "__or__" (spJx K C NE)
  and_ : Ox2 P w K mg base C "__and__" (spJx K C NE)
  rmul : Ox2 P w K mg base C "__rmul__" (spJr K C NE)
  rxor : Ox2 P w K mg base C "__rxor__" (spJr K C NE)
  mul0 : ∃ g, OpD K C g "__mul__"
  xor0 : ∃ g, OpD K C g "__xor__"
  fdiv : Ox2 P w K mg base C "__floordiv__" (spNx K C NE "quotient")
  pow : Ox2 P w K mg base C "__pow__" (spNx K C NE "power")
  lsh : Ox2 P w K mg base C "__lshift__" (spNx K C NE "left")
  rsh : Ox2 P w K mg base C "__rshift__" (spNx K C NE "right")
  rand : ∃ g : Addr, PySem.W.findIn K (.ref C) "__rand__" = some (some (.ref g))
  rfdiv : PySem.W.findIn K (.ref C) "__rfloordiv__" = some none
  rpow : PySem.W.findIn K (.ref C) "__rpow__" = some none
  rlsh : PySem.W.findIn K (.ref C) "__rlshift__" = some none
  rrsh : PySem.W.findIn K (.ref C) "__rrshift__" = some none
  neg : Ox1 P w K mg base C "__neg__" (spUx K C NE)
  pos : Ox1 P w K mg base C "__pos__" (spUx K C NE)
  inv : Ox1 P w K mg base C "__invert__" (spUx K C NE)
  abs : Ox1 P w K mg base C "__abs__" (spUx K C NE)
  mAbs : mg "abs" = none
  greater : CaX P w K mg base 7 "greater" ["x", "y"] (spJx K C NE)
  lesser : CaX P w K mg base 7 "lesser" ["x", "y"] (spJx K C NE)
  below : CaX P w K mg base 7 "below" ["x", "y"] (spJx K C NE)
  at_most : CaX P w K mg base 7 "at_most" ["x", "y"] (spJx K C NE)
  equal : CaX P w K mg base 7 "equal" ["x", "y"] (spJx K C NE)
  unequal : CaX P w K mg base 7 "unequal" ["x", "y"] (spJx K C NE)
  ad : MkX P w K mg base AD "Add" 3 ["self", "expression"] [] (spAdX K C AD NE)
  pol : CaX P w K mg base 3 "polynomial" ["expression"] (spG1 K C NE)
  act : CaX P w K mg base 3 "active" ["expression", "living"] (spG2 K C NE)
  val : CaX P w K mg base 3 "value_of" ["expression", "values"] (spG2 K C NE)
  st : MkX P w K mg base ST "Statement" 3 n_stm [.str "="] (spStX K C NA NE)
  acc : ∃ g : Addr, FnR P w K mg base CX0 4 g (spAcc K C) ∧ PySem.W.keepIn K (.ref g) = true ∧ mg "access" = some (.ref g)
  gr : CaX P w K mg base 8 "_law_grown" n_l_grown (spGrX K C NA NE)
/-- what a deed finds -/
def DedAt (K : PySem.W.Frag) (C : Addr) (H : Hp) (j : Nat) (vs : List V) : Prop := ∃ gp : Addr, Gn K C H (.ref gp) ∧ ((bothD j = false ∧ vs = [.ref gp]) ∨ ∃ (xp : Addr) (nm : Str) (ls : List Str), vs = [.ref gp, .ref xp] ∧ bothD j = true ∧ ExAt K C H (.acc nm ls) xp)
def tbD (K : PySem.W.Frag) (C NE : Addr) (j : Nat) (E : XK) : TE := fun σ H _ => ∃ vs : List V, σ = vs.map some ∧ DedAt K C H j vs ∧ ∀ H' : Hp, Same H H' → E (.ref NE) none H'
theorem Gn.inst {K : PySem.W.Frag} {C gp : Addr} {H : Hp} (h : Gn K C H (.ref gp)) : ∃ dx fs, H gp = some (.ins C dx fs) := by
  obtain ⟨p, k, e, h, _⟩ := h
  cases e
  exact h.inst
theorem fi_and (K : PySem.W.Frag) : PySem.W.findIn K (.type "int") (PySem.dunder "and") = some (some (.builtin "int.__and__")) := by kernel_rfl
theorem fr_and (K : PySem.W.Frag) : PySem.W.findIn K (.type "int") (PySem.dunderR "and") = some (some (.builtin "int.__rand__")) := by kernel_rfl
theorem fi_floordiv (K : PySem.W.Frag) : PySem.W.findIn K (.type "int") (PySem.dunder "floordiv") = some (some (.builtin "int.__floordiv__")) := by kernel_rfl
theorem fr_floordiv (K : PySem.W.Frag) : PySem.W.findIn K (.type "int") (PySem.dunderR "floordiv") = some (some (.builtin "int.__rfloordiv__")) := by kernel_rfl
theorem fi_pow (K : PySem.W.Frag) : PySem.W.findIn K (.type "int") (PySem.dunder "pow") = some (some (.builtin "int.__pow__")) := by kernel_rfl
theorem fr_pow (K : PySem.W.Frag) : PySem.W.findIn K (.type "int") (PySem.dunderR "pow") = some (some (.builtin "int.__rpow__")) := by kernel_rfl
theorem fi_lshift (K : PySem.W.Frag) : PySem.W.findIn K (.type "int") (PySem.dunder "lshift") = some (some (.builtin "int.__lshift__")) := by kernel_rfl
theorem fr_lshift (K : PySem.W.Frag) : PySem.W.findIn K (.type "int") (PySem.dunderR "lshift") = some (some (.builtin "int.__rlshift__")) := by kernel_rfl
theorem fi_rshift (K : PySem.W.Frag) : PySem.W.findIn K (.type "int") (PySem.dunder "rshift") = some (some (.builtin "int.__rshift__")) := by kernel_rfl
theorem fr_rshift (K : PySem.W.Frag) : PySem.W.findIn K (.type "int") (PySem.dunderR "rshift") = some (some (.builtin "int.__rrshift__")) := by kernel_rfl
section
variable {P : Program} {w : World} {K : PySem.W.Frag} {mg : Str → Option Value} {base : Heap} {C NE NA AD ST : Addr}
abbrev XD (P : Program) (w : World) (K : PySem.W.Frag) (mg : Str → Option Value) (base : Heap) (j : Nat) (cl : List (Str × Addr)) (c f : Addr) (A : Around) (outer : List Env) (s : Shared) (H : Hp) (E : XK) : Cx := NdefX.ncx (L2.CX P w) P w K mg base (frD j) (mkL (deedE j) cl c) f A outer s H E
abbrev RoomD (j : Nat) (cl : List (Str × Addr)) (c f : Addr) (A : Around) (s : Shared) : Prop := Room 13 (A.deeper (NdefX.envF (mkL (deedE j) cl c) f s.heap.objs.size))
theorem body_0 (D : DE P w K mg base C NE NA AD ST) (cl : List (Str × Addr)) (c f : Addr) (A : Around) (outer : List Env) (s : Shared) (H : Hp) (E : XK) (hr : RoomD 0 cl c f A s) : PE (XD P w K mg base 0 cl c f A outer s H E) (lmB (deedE 0)) (tbD K C NE 0 E) := by
  obtain ⟨g, gd, O, F, b⟩ := D.add.ex
  have z : PE (XD P w K mg base 0 cl c f A outer s H E) (lmB (deedE 0)) _ := pe_op (op_ownB (op := .Add) (E := E) D.sf O F (hr.mono (by decide)) b (passes_call (takes_of rfl rfl rfl rfl) (fun _ _ _ _ h => h))) (pv 0) (pv 1)
  refine ⟨fun pins s' σ H' Q I h => z.run pins s' σ H' Q I ?_⟩
  obtain ⟨vs, rfl, ⟨gp, hg, ⟨hb, _⟩ | ⟨xp, nm, ls, rfl, _, hx⟩⟩, q⟩ := h
  · exact absurd hb (by decide)
  obtain ⟨dx, fs, hgi⟩ := hg.inst
  obtain ⟨dy, gs, hxi⟩ := inst_of' hx
  exact ⟨_, rfl, _, rfl, gp, xp, dx, dy, fs, gs, rfl, rfl, hgi, hxi, _, _, rfl, .inl hg, q⟩
theorem body_1 (D : DE P w K mg base C NE NA AD ST) (cl : List (Str × Addr)) (c f : Addr) (A : Around) (outer : List Env) (s : Shared) (H : Hp) (E : XK) (hr : RoomD 1 cl c f A s) : PE (XD P w K mg base 1 cl c f A outer s H E) (lmB (deedE 1)) (tbD K C NE 1 E) := by
  obtain ⟨g, gd, O, F, b⟩ := D.sub_.ex
  have z : PE (XD P w K mg base 1 cl c f A outer s H E) (lmB (deedE 1)) _ := pe_op (op_ownB (op := .Sub) (E := E) D.sf O F (hr.mono (by decide)) b (passes_call (takes_of rfl rfl rfl rfl) (fun _ _ _ _ h => h))) (pv 1) (pv 0)
  refine ⟨fun pins s' σ H' Q I h => z.run pins s' σ H' Q I ?_⟩
  obtain ⟨vs, rfl, ⟨gp, hg, ⟨hb, _⟩ | ⟨xp, nm, ls, rfl, _, hx⟩⟩, q⟩ := h
  · exact absurd hb (by decide)
  obtain ⟨dx, fs, hgi⟩ := hg.inst
  obtain ⟨dy, gs, hxi⟩ := inst_of' hx
  exact ⟨_, rfl, _, rfl, xp, gp, dy, dx, gs, fs, rfl, rfl, hxi, hgi, _, _, rfl, .inr ⟨⟨_, .inr ⟨xp, rfl, hx⟩⟩, hg⟩, q⟩
theorem body_2 (D : DE P w K mg base C NE NA AD ST) (cl : List (Str × Addr)) (c f : Addr) (A : Around) (outer : List Env) (s : Shared) (H : Hp) (E : XK) (hr : RoomD 2 cl c f A s) : PE (XD P w K mg base 2 cl c f A outer s H E) (lmB (deedE 2)) (tbD K C NE 2 E) := by
  obtain ⟨g, gd, O, F, b⟩ := D.rmul.ex
  obtain ⟨g0, O0⟩ := D.mul0
  have z : PE (XD P w K mg base 2 cl c f A outer s H E) (lmB (deedE 2)) _ := pe_op (op_ownR (op := .Mult) (E := E) iMul D.sf O0 O D.subR F (hr.mono (by decide)) b (passes_call (takes_of rfl rfl rfl rfl) (fun _ _ _ _ h => h))) pe_int (pv 0)
  refine ⟨fun pins s' σ H' Q I h => z.run pins s' σ H' Q I ?_⟩
  obtain ⟨vs, rfl, ⟨gp, hg, ⟨_, rfl⟩ | ⟨xp, nm, ls, _, hb, _⟩⟩, q⟩ := h
  rotate_left
  · exact absurd hb (by decide)
  obtain ⟨dx, fs, hgi⟩ := hg.inst
  exact ⟨_, rfl, gp, dx, fs, 2, rfl, rfl, hgi, _, _, rfl, .inr ⟨⟨_, .inl ⟨2, rfl, rfl⟩⟩, hg⟩, q⟩
theorem body_3 (D : DE P w K mg base C NE NA AD ST) (cl : List (Str × Addr)) (c f : Addr) (A : Around) (outer : List Env) (s : Shared) (H : Hp) (E : XK) (hr : RoomD 3 cl c f A s) : PE (XD P w K mg base 3 cl c f A outer s H E) (lmB (deedE 3)) (tbD K C NE 3 E) := by
  obtain ⟨g, gd, O, F, b⟩ := D.and_.ex
  obtain ⟨ra, hra⟩ := D.rand
  have z : PE (XD P w K mg base 3 cl c f A outer s H E) (lmB (deedE 3)) _ := pe_op (op_ownN (op := .BitAnd) (E := E) D.sf O hra (.inr ⟨_, rfl⟩) (fi_and K) (fr_and K) D.sub F (hr.mono (by decide)) b (passes_call (takes_of rfl rfl rfl rfl) (fun _ _ _ _ h => h))) (pv 0) pe_int
  refine ⟨fun pins s' σ H' Q I h => z.run pins s' σ H' Q I ?_⟩
  obtain ⟨vs, rfl, ⟨gp, hg, ⟨_, rfl⟩ | ⟨xp, nm, ls, _, hb, _⟩⟩, q⟩ := h
  rotate_left
  · exact absurd hb (by decide)
  obtain ⟨dx, fs, hgi⟩ := hg.inst
  exact ⟨_, rfl, gp, dx, fs, 1, rfl, rfl, hgi, _, _, rfl, .inl hg, q⟩
theorem body_4 (D : DE P w K mg base C NE NA AD ST) (cl : List (Str × Addr)) (c f : Addr) (A : Around) (outer : List Env) (s : Shared) (H : Hp) (E : XK) (hr : RoomD 4 cl c f A s) : PE (XD P w K mg base 4 cl c f A outer s H E) (lmB (deedE 4)) (tbD K C NE 4 E) := by
  obtain ⟨g, gd, O, F, b⟩ := D.or_.ex
  have z : PE (XD P w K mg base 4 cl c f A outer s H E) (lmB (deedE 4)) _ := pe_op (op_ownB (op := .BitOr) (E := E) D.sf O F (hr.mono (by decide)) b (passes_call (takes_of rfl rfl rfl rfl) (fun _ _ _ _ h => h))) (pv 1) (pv 0)
  refine ⟨fun pins s' σ H' Q I h => z.run pins s' σ H' Q I ?_⟩
  obtain ⟨vs, rfl, ⟨gp, hg, ⟨hb, _⟩ | ⟨xp, nm, ls, rfl, _, hx⟩⟩, q⟩ := h
  · exact absurd hb (by decide)
  obtain ⟨dx, fs, hgi⟩ := hg.inst
  obtain ⟨dy, gs, hxi⟩ := inst_of' hx
  exact ⟨_, rfl, _, rfl, xp, gp, dy, dx, gs, fs, rfl, rfl, hxi, hgi, _, _, rfl, .inr ⟨⟨_, .inr ⟨xp, rfl, hx⟩⟩, hg⟩, q⟩
theorem body_5 (D : DE P w K mg base C NE NA AD ST) (cl : List (Str × Addr)) (c f : Addr) (A : Around) (outer : List Env) (s : Shared) (H : Hp) (E : XK) (hr : RoomD 5 cl c f A s) : PE (XD P w K mg base 5 cl c f A outer s H E) (lmB (deedE 5)) (tbD K C NE 5 E) := by
  obtain ⟨g, gd, O, F, b⟩ := D.rxor.ex
  obtain ⟨g0, O0⟩ := D.xor0
  have z : PE (XD P w K mg base 5 cl c f A outer s H E) (lmB (deedE 5)) _ := pe_op (op_ownR (op := .BitXor) (E := E) iXor D.sf O0 O D.subR F (hr.mono (by decide)) b (passes_call (takes_of rfl rfl rfl rfl) (fun _ _ _ _ h => h))) pe_int (pv 0)
  refine ⟨fun pins s' σ H' Q I h => z.run pins s' σ H' Q I ?_⟩
  obtain ⟨vs, rfl, ⟨gp, hg, ⟨_, rfl⟩ | ⟨xp, nm, ls, _, hb, _⟩⟩, q⟩ := h
  rotate_left
  · exact absurd hb (by decide)
  obtain ⟨dx, fs, hgi⟩ := hg.inst
  exact ⟨_, rfl, gp, dx, fs, 3, rfl, rfl, hgi, _, _, rfl, .inr ⟨⟨_, .inl ⟨3, rfl, rfl⟩⟩, hg⟩, q⟩
theorem body_6 (D : DE P w K mg base C NE NA AD ST) (cl : List (Str × Addr)) (c f : Addr) (A : Around) (outer : List Env) (s : Shared) (H : Hp) (E : XK) (hr : RoomD 6 cl c f A s) : PE (XD P w K mg base 6 cl c f A outer s H E) (lmB (deedE 6)) (tbD K C NE 6 E) := by
  obtain ⟨g, gd, O, F, b⟩ := D.fdiv.ex
  have z : PE (XD P w K mg base 6 cl c f A outer s H E) (lmB (deedE 6)) _ := pe_op (op_ownN (op := .FloorDiv) (E := E) D.sf O D.rfdiv (.inl rfl) (fi_floordiv K) (fr_floordiv K) D.sub F (hr.mono (by decide)) b (passes_call (takes_of rfl rfl rfl rfl) (fun _ _ _ _ h => h))) (pv 0) pe_int
  refine ⟨fun pins s' σ H' Q I h => z.run pins s' σ H' Q I ?_⟩
  obtain ⟨vs, rfl, ⟨gp, hg, ⟨_, rfl⟩ | ⟨xp, nm, ls, _, hb, _⟩⟩, q⟩ := h
  rotate_left
  · exact absurd hb (by decide)
  obtain ⟨dx, fs, hgi⟩ := hg.inst
  exact ⟨_, rfl, gp, dx, fs, 2, rfl, rfl, hgi, _, 2, rfl, .inl ⟨rfl, by decide⟩, hg, q _ (Same.refl _)⟩
theorem body_7 (D : DE P w K mg base C NE NA AD ST) (cl : List (Str × Addr)) (c f : Addr) (A : Around) (outer : List Env) (s : Shared) (H : Hp) (E : XK) (hr : RoomD 7 cl c f A s) : PE (XD P w K mg base 7 cl c f A outer s H E) (lmB (deedE 7)) (tbD K C NE 7 E) := by
  obtain ⟨g, gd, O, F, b⟩ := D.pow.ex
  have z : PE (XD P w K mg base 7 cl c f A outer s H E) (lmB (deedE 7)) _ := pe_op (op_ownN (op := .Pow) (E := E) D.sf O D.rpow (.inl rfl) (fi_pow K) (fr_pow K) D.sub F (hr.mono (by decide)) b (passes_call (takes_of rfl rfl rfl rfl) (fun _ _ _ _ h => h))) (pv 0) pe_int
  refine ⟨fun pins s' σ H' Q I h => z.run pins s' σ H' Q I ?_⟩
  obtain ⟨vs, rfl, ⟨gp, hg, ⟨_, rfl⟩ | ⟨xp, nm, ls, _, hb, _⟩⟩, q⟩ := h
  rotate_left
  · exact absurd hb (by decide)
  obtain ⟨dx, fs, hgi⟩ := hg.inst
  exact ⟨_, rfl, gp, dx, fs, 2, rfl, rfl, hgi, _, 2, rfl, .inr ⟨.inl rfl, by decide +kernel, by decide +kernel⟩, hg, q _ (Same.refl _)⟩
theorem body_8 (D : DE P w K mg base C NE NA AD ST) (cl : List (Str × Addr)) (c f : Addr) (A : Around) (outer : List Env) (s : Shared) (H : Hp) (E : XK) (hr : RoomD 8 cl c f A s) : PE (XD P w K mg base 8 cl c f A outer s H E) (lmB (deedE 8)) (tbD K C NE 8 E) := by
  obtain ⟨g, gd, O, F, b⟩ := D.lsh.ex
  have z : PE (XD P w K mg base 8 cl c f A outer s H E) (lmB (deedE 8)) _ := pe_op (op_ownN (op := .LShift) (E := E) D.sf O D.rlsh (.inl rfl) (fi_lshift K) (fr_lshift K) D.sub F (hr.mono (by decide)) b (passes_call (takes_of rfl rfl rfl rfl) (fun _ _ _ _ h => h))) (pv 0) pe_int
  refine ⟨fun pins s' σ H' Q I h => z.run pins s' σ H' Q I ?_⟩
  obtain ⟨vs, rfl, ⟨gp, hg, ⟨_, rfl⟩ | ⟨xp, nm, ls, _, hb, _⟩⟩, q⟩ := h
  rotate_left
  · exact absurd hb (by decide)
  obtain ⟨dx, fs, hgi⟩ := hg.inst
  exact ⟨_, rfl, gp, dx, fs, 1, rfl, rfl, hgi, _, 1, rfl, .inr ⟨.inr (.inl rfl), by decide +kernel, by decide +kernel⟩, hg, q _ (Same.refl _)⟩
theorem body_9 (D : DE P w K mg base C NE NA AD ST) (cl : List (Str × Addr)) (c f : Addr) (A : Around) (outer : List Env) (s : Shared) (H : Hp) (E : XK) (hr : RoomD 9 cl c f A s) : PE (XD P w K mg base 9 cl c f A outer s H E) (lmB (deedE 9)) (tbD K C NE 9 E) := by
  obtain ⟨g, gd, O, F, b⟩ := D.rsh.ex
  have z : PE (XD P w K mg base 9 cl c f A outer s H E) (lmB (deedE 9)) _ := pe_op (op_ownN (op := .RShift) (E := E) D.sf O D.rrsh (.inl rfl) (fi_rshift K) (fr_rshift K) D.sub F (hr.mono (by decide)) b (passes_call (takes_of rfl rfl rfl rfl) (fun _ _ _ _ h => h))) (pv 0) pe_int
  refine ⟨fun pins s' σ H' Q I h => z.run pins s' σ H' Q I ?_⟩
  obtain ⟨vs, rfl, ⟨gp, hg, ⟨_, rfl⟩ | ⟨xp, nm, ls, _, hb, _⟩⟩, q⟩ := h
  rotate_left
  · exact absurd hb (by decide)
  obtain ⟨dx, fs, hgi⟩ := hg.inst
  exact ⟨_, rfl, gp, dx, fs, 0, rfl, rfl, hgi, _, 0, rfl, .inr ⟨.inr (.inr rfl), by decide +kernel, by decide +kernel⟩, hg, q _ (Same.refl _)⟩
theorem body_10 (D : DE P w K mg base C NE NA AD ST) (cl : List (Str × Addr)) (c f : Addr) (A : Around) (outer : List Env) (s : Shared) (H : Hp) (E : XK) (hr : RoomD 10 cl c f A s) : PE (XD P w K mg base 10 cl c f A outer s H E) (lmB (deedE 10)) (tbD K C NE 10 E) := by
  obtain ⟨g, gd, O, F, b⟩ := D.neg.ex
  have z : PE (XD P w K mg base 10 cl c f A outer s H E) (lmB (deedE 10)) _ := pe_un (un_own_neg (E := E) O F (hr.mono (by decide)) b (passes_call (takes_of rfl rfl rfl rfl) (fun _ _ _ _ h => h))) (pv 0)
  refine ⟨fun pins s' σ H' Q I h => z.run pins s' σ H' Q I ?_⟩
  obtain ⟨vs, rfl, ⟨gp, hg, ⟨_, rfl⟩ | ⟨xp, nm, ls, _, hb, _⟩⟩, q⟩ := h
  rotate_left
  · exact absurd hb (by decide)
  obtain ⟨dx, fs, hgi⟩ := hg.inst
  exact ⟨_, rfl, gp, dx, fs, rfl, hgi, _, rfl, hg, q _ (Same.refl _)⟩
theorem body_11 (D : DE P w K mg base C NE NA AD ST) (cl : List (Str × Addr)) (c f : Addr) (A : Around) (outer : List Env) (s : Shared) (H : Hp) (E : XK) (hr : RoomD 11 cl c f A s) : PE (XD P w K mg base 11 cl c f A outer s H E) (lmB (deedE 11)) (tbD K C NE 11 E) := by
  obtain ⟨g, gd, O, F, b⟩ := D.pos.ex
  have z : PE (XD P w K mg base 11 cl c f A outer s H E) (lmB (deedE 11)) _ := pe_un (un_own_pos (E := E) O F (hr.mono (by decide)) b (passes_call (takes_of rfl rfl rfl rfl) (fun _ _ _ _ h => h))) (pv 0)
  refine ⟨fun pins s' σ H' Q I h => z.run pins s' σ H' Q I ?_⟩
  obtain ⟨vs, rfl, ⟨gp, hg, ⟨_, rfl⟩ | ⟨xp, nm, ls, _, hb, _⟩⟩, q⟩ := h
  rotate_left
  · exact absurd hb (by decide)
  obtain ⟨dx, fs, hgi⟩ := hg.inst
  exact ⟨_, rfl, gp, dx, fs, rfl, hgi, _, rfl, hg, q _ (Same.refl _)⟩
theorem body_12 (D : DE P w K mg base C NE NA AD ST) (cl : List (Str × Addr)) (c f : Addr) (A : Around) (outer : List Env) (s : Shared) (H : Hp) (E : XK) (hr : RoomD 12 cl c f A s) : PE (XD P w K mg base 12 cl c f A outer s H E) (lmB (deedE 12)) (tbD K C NE 12 E) := by
  obtain ⟨g, gd, O, F, b⟩ := D.inv.ex
  have z : PE (XD P w K mg base 12 cl c f A outer s H E) (lmB (deedE 12)) _ := pe_un (un_own_inv (E := E) O F (hr.mono (by decide)) b (passes_call (takes_of rfl rfl rfl rfl) (fun _ _ _ _ h => h))) (pv 0)
  refine ⟨fun pins s' σ H' Q I h => z.run pins s' σ H' Q I ?_⟩
  obtain ⟨vs, rfl, ⟨gp, hg, ⟨_, rfl⟩ | ⟨xp, nm, ls, _, hb, _⟩⟩, q⟩ := h
  rotate_left
  · exact absurd hb (by decide)
  obtain ⟨dx, fs, hgi⟩ := hg.inst
  exact ⟨_, rfl, gp, dx, fs, rfl, hgi, _, rfl, hg, q _ (Same.refl _)⟩
theorem body_13 (D : DE P w K mg base C NE NA AD ST) (cl : List (Str × Addr)) (c f : Addr) (A : Around) (outer : List Env) (s : Shared) (H : Hp) (E : XK) (hr : RoomD 13 cl c f A s) : PE (XD P w K mg base 13 cl c f A outer s H E) (lmB (deedE 13)) (tbD K C NE 13 E) := by
  obtain ⟨g, gd, O, F, b⟩ := D.abs.ex
  have z : PE (XD P w K mg base 13 cl c f A outer s H E) (lmB (deedE 13)) _ := pe_callB (call_absO (E := E) O (fnR_of F b) (hr.mono (by decide)) (passes_call (takes_of rfl rfl rfl rfl) (fun _ _ _ _ h => h))) (by rfl) D.mAbs (by decide +kernel) (pa_cons (pv 0) pa_nil)
  refine ⟨fun pins s' σ H' Q I h => z.run pins s' σ H' Q I ?_⟩
  obtain ⟨vs, rfl, ⟨gp, hg, ⟨_, rfl⟩ | ⟨xp, nm, ls, _, hb, _⟩⟩, q⟩ := h
  rotate_left
  · exact absurd hb (by decide)
  obtain ⟨dx, fs, hgi⟩ := hg.inst
  exact ⟨_, rfl, gp, dx, fs, rfl, hgi, _, rfl, hg, q _ (Same.refl _)⟩
theorem body_14 (D : DE P w K mg base C NE NA AD ST) (cl : List (Str × Addr)) (c f : Addr) (A : Around) (outer : List Env) (s : Shared) (H : Hp) (E : XK) (hr : RoomD 14 cl c f A s) : PE (XD P w K mg base 14 cl c f A outer s H E) (lmB (deedE 14)) (tbD K C NE 14 E) := by
  have z : PE (XD P w K mg base 14 cl c f A outer s H E) (lmB (deedE 14)) _ := pcaX (E := E) D.greater hr (by decide) rfl (passes_call (takes_of rfl rfl rfl rfl) (fun _ _ _ _ h => h)) (pa_cons (pv 0) (pa_cons pe_int pa_nil))
  refine ⟨fun pins s' σ H' Q I h => z.run pins s' σ H' Q I ?_⟩
  obtain ⟨vs, rfl, ⟨gp, hg, ⟨_, rfl⟩ | ⟨xp, nm, ls, _, hb, _⟩⟩, q⟩ := h
  rotate_left
  · exact absurd hb (by decide)
  obtain ⟨dx, fs, hgi⟩ := hg.inst
  exact ⟨_, rfl, _, _, rfl, .inl hg, q⟩
theorem body_15 (D : DE P w K mg base C NE NA AD ST) (cl : List (Str × Addr)) (c f : Addr) (A : Around) (outer : List Env) (s : Shared) (H : Hp) (E : XK) (hr : RoomD 15 cl c f A s) : PE (XD P w K mg base 15 cl c f A outer s H E) (lmB (deedE 15)) (tbD K C NE 15 E) := by
  have z : PE (XD P w K mg base 15 cl c f A outer s H E) (lmB (deedE 15)) _ := pcaX (E := E) D.lesser hr (by decide) rfl (passes_call (takes_of rfl rfl rfl rfl) (fun _ _ _ _ h => h)) (pa_cons (pv 1) (pa_cons (pv 0) pa_nil))
  refine ⟨fun pins s' σ H' Q I h => z.run pins s' σ H' Q I ?_⟩
  obtain ⟨vs, rfl, ⟨gp, hg, ⟨hb, _⟩ | ⟨xp, nm, ls, rfl, _, hx⟩⟩, q⟩ := h
  · exact absurd hb (by decide)
  obtain ⟨dx, fs, hgi⟩ := hg.inst
  obtain ⟨dy, gs, hxi⟩ := inst_of' hx
  exact ⟨_, rfl, _, rfl, _, _, rfl, .inr ⟨⟨_, .inr ⟨xp, rfl, hx⟩⟩, hg⟩, q⟩
theorem body_16 (D : DE P w K mg base C NE NA AD ST) (cl : List (Str × Addr)) (c f : Addr) (A : Around) (outer : List Env) (s : Shared) (H : Hp) (E : XK) (hr : RoomD 16 cl c f A s) : PE (XD P w K mg base 16 cl c f A outer s H E) (lmB (deedE 16)) (tbD K C NE 16 E) := by
  have z : PE (XD P w K mg base 16 cl c f A outer s H E) (lmB (deedE 16)) _ := pcaX (E := E) D.below hr (by decide) rfl (passes_call (takes_of rfl rfl rfl rfl) (fun _ _ _ _ h => h)) (pa_cons pe_int (pa_cons (pv 0) pa_nil))
  refine ⟨fun pins s' σ H' Q I h => z.run pins s' σ H' Q I ?_⟩
  obtain ⟨vs, rfl, ⟨gp, hg, ⟨_, rfl⟩ | ⟨xp, nm, ls, _, hb, _⟩⟩, q⟩ := h
  rotate_left
  · exact absurd hb (by decide)
  obtain ⟨dx, fs, hgi⟩ := hg.inst
  exact ⟨_, rfl, _, _, rfl, .inr ⟨⟨_, .inl ⟨2, rfl, rfl⟩⟩, hg⟩, q⟩
theorem body_17 (D : DE P w K mg base C NE NA AD ST) (cl : List (Str × Addr)) (c f : Addr) (A : Around) (outer : List Env) (s : Shared) (H : Hp) (E : XK) (hr : RoomD 17 cl c f A s) : PE (XD P w K mg base 17 cl c f A outer s H E) (lmB (deedE 17)) (tbD K C NE 17 E) := by
  have z : PE (XD P w K mg base 17 cl c f A outer s H E) (lmB (deedE 17)) _ := pcaX (E := E) D.at_most hr (by decide) rfl (passes_call (takes_of rfl rfl rfl rfl) (fun _ _ _ _ h => h)) (pa_cons (pv 0) (pa_cons (pv 1) pa_nil))
  refine ⟨fun pins s' σ H' Q I h => z.run pins s' σ H' Q I ?_⟩
  obtain ⟨vs, rfl, ⟨gp, hg, ⟨hb, _⟩ | ⟨xp, nm, ls, rfl, _, hx⟩⟩, q⟩ := h
  · exact absurd hb (by decide)
  obtain ⟨dx, fs, hgi⟩ := hg.inst
  obtain ⟨dy, gs, hxi⟩ := inst_of' hx
  exact ⟨_, rfl, _, rfl, _, _, rfl, .inl hg, q⟩
theorem body_18 (D : DE P w K mg base C NE NA AD ST) (cl : List (Str × Addr)) (c f : Addr) (A : Around) (outer : List Env) (s : Shared) (H : Hp) (E : XK) (hr : RoomD 18 cl c f A s) : PE (XD P w K mg base 18 cl c f A outer s H E) (lmB (deedE 18)) (tbD K C NE 18 E) := by
  have z : PE (XD P w K mg base 18 cl c f A outer s H E) (lmB (deedE 18)) _ := pcaX (E := E) D.equal hr (by decide) rfl (passes_call (takes_of rfl rfl rfl rfl) (fun _ _ _ _ h => h)) (pa_cons (pv 0) (pa_cons (pv 0) pa_nil))
  refine ⟨fun pins s' σ H' Q I h => z.run pins s' σ H' Q I ?_⟩
  obtain ⟨vs, rfl, ⟨gp, hg, ⟨_, rfl⟩ | ⟨xp, nm, ls, _, hb, _⟩⟩, q⟩ := h
  rotate_left
  · exact absurd hb (by decide)
  obtain ⟨dx, fs, hgi⟩ := hg.inst
  exact ⟨_, rfl, _, rfl, _, _, rfl, .inl hg, q⟩
theorem body_19 (D : DE P w K mg base C NE NA AD ST) (cl : List (Str × Addr)) (c f : Addr) (A : Around) (outer : List Env) (s : Shared) (H : Hp) (E : XK) (hr : RoomD 19 cl c f A s) : PE (XD P w K mg base 19 cl c f A outer s H E) (lmB (deedE 19)) (tbD K C NE 19 E) := by
  have z : PE (XD P w K mg base 19 cl c f A outer s H E) (lmB (deedE 19)) _ := pcaX (E := E) D.unequal hr (by decide) rfl (passes_call (takes_of rfl rfl rfl rfl) (fun _ _ _ _ h => h)) (pa_cons (pv 1) (pa_cons (pv 0) pa_nil))
  refine ⟨fun pins s' σ H' Q I h => z.run pins s' σ H' Q I ?_⟩
  obtain ⟨vs, rfl, ⟨gp, hg, ⟨hb, _⟩ | ⟨xp, nm, ls, rfl, _, hx⟩⟩, q⟩ := h
  · exact absurd hb (by decide)
  obtain ⟨dx, fs, hgi⟩ := hg.inst
  obtain ⟨dy, gs, hxi⟩ := inst_of' hx
  exact ⟨_, rfl, _, rfl, _, _, rfl, .inr ⟨⟨_, .inr ⟨xp, rfl, hx⟩⟩, hg⟩, q⟩
theorem body_20 (D : DE P w K mg base C NE NA AD ST) (cl : List (Str × Addr)) (c f : Addr) (A : Around) (outer : List Env) (s : Shared) (H : Hp) (E : XK) (hr : RoomD 20 cl c f A s) : PE (XD P w K mg base 20 cl c f A outer s H E) (lmB (deedE 20)) (tbD K C NE 20 E) := by
  obtain ⟨fA, dA, ds, M, F, dv, b, mA⟩ := D.ad.ex
  have z : PE (XD P w K mg base 20 cl c f A outer s H E) (lmB (deedE 20)) _ := pe_make (E := E) M F (hr.mono (by decide)) (by rfl) mA b dv (passes_call (takes_of rfl rfl rfl rfl) (fun _ _ _ _ h => h)) (pa_cons (pv 0) pa_nil)
  refine ⟨fun pins s' σ H' Q I h => z.run pins s' σ H' Q I ?_⟩
  obtain ⟨vs, rfl, ⟨gp, hg, ⟨_, rfl⟩ | ⟨xp, nm, ls, _, hb, _⟩⟩, q⟩ := h
  rotate_left
  · exact absurd hb (by decide)
  obtain ⟨dx, fs, hgi⟩ := hg.inst
  exact ⟨_, rfl, fun x dy nx ndx _ => ⟨x, dy, _, rfl, upd_same, hg.same (same2 nx ndx _ _), q _ (same2 nx ndx _ _)⟩⟩
theorem body_21 (D : DE P w K mg base C NE NA AD ST) (cl : List (Str × Addr)) (c f : Addr) (A : Around) (outer : List Env) (s : Shared) (H : Hp) (E : XK) (hr : RoomD 21 cl c f A s) : PE (XD P w K mg base 21 cl c f A outer s H E) (lmB (deedE 21)) (tbD K C NE 21 E) := by
  have z : PE (XD P w K mg base 21 cl c f A outer s H E) (lmB (deedE 21)) _ := pcaX (E := E) D.pol hr (by decide) rfl (passes_call (takes_of rfl rfl rfl rfl) (fun _ _ _ _ h => h)) (pa_cons (pv 0) pa_nil)
  refine ⟨fun pins s' σ H' Q I h => z.run pins s' σ H' Q I ?_⟩
  obtain ⟨vs, rfl, ⟨gp, hg, ⟨_, rfl⟩ | ⟨xp, nm, ls, _, hb, _⟩⟩, q⟩ := h
  rotate_left
  · exact absurd hb (by decide)
  obtain ⟨dx, fs, hgi⟩ := hg.inst
  exact ⟨_, rfl, _, rfl, hg, q _ (Same.refl _)⟩
theorem body_22 (D : DE P w K mg base C NE NA AD ST) (cl : List (Str × Addr)) (c f : Addr) (A : Around) (outer : List Env) (s : Shared) (H : Hp) (E : XK) (hr : RoomD 22 cl c f A s) : PE (XD P w K mg base 22 cl c f A outer s H E) (lmB (deedE 22)) (tbD K C NE 22 E) := by
  have z : PE (XD P w K mg base 22 cl c f A outer s H E) (lmB (deedE 22)) _ := pcaX (E := E) D.act hr (by decide) rfl (passes_call (takes_of rfl rfl rfl rfl) (fun _ _ _ _ h => h)) (pa_cons (pv 0) (pa_cons (pe_tup pa_nil) pa_nil))
  refine ⟨fun pins s' σ H' Q I h => z.run pins s' σ H' Q I ?_⟩
  obtain ⟨vs, rfl, ⟨gp, hg, ⟨_, rfl⟩ | ⟨xp, nm, ls, _, hb, _⟩⟩, q⟩ := h
  rotate_left
  · exact absurd hb (by decide)
  obtain ⟨dx, fs, hgi⟩ := hg.inst
  exact ⟨_, rfl, (by show 0 ≤ sizeLine; decide), fun t ht => ⟨_, _, rfl, hg.same (same_new ht _), q _ (same_new ht _)⟩⟩
theorem body_23 (D : DE P w K mg base C NE NA AD ST) (cl : List (Str × Addr)) (c f : Addr) (A : Around) (outer : List Env) (s : Shared) (H : Hp) (E : XK) (hr : RoomD 23 cl c f A s) : PE (XD P w K mg base 23 cl c f A outer s H E) (lmB (deedE 23)) (tbD K C NE 23 E) := by
  have z : PE (XD P w K mg base 23 cl c f A outer s H E) (lmB (deedE 23)) _ := pcaX (E := E) D.val hr (by decide) rfl (passes_call (takes_of rfl rfl rfl rfl) (fun _ _ _ _ h => h)) (pa_cons (pv 0) (pa_cons pe_dnewK pa_nil))
  refine ⟨fun pins s' σ H' Q I h => z.run pins s' σ H' Q I ?_⟩
  obtain ⟨vs, rfl, ⟨gp, hg, ⟨_, rfl⟩ | ⟨xp, nm, ls, _, hb, _⟩⟩, q⟩ := h
  rotate_left
  · exact absurd hb (by decide)
  obtain ⟨dx, fs, hgi⟩ := hg.inst
  exact ⟨_, rfl, fun t ht => ⟨_, _, rfl, hg.same (same_new ht _), q _ (same_new ht _)⟩⟩
theorem body_24 (D : DE P w K mg base C NE NA AD ST) (cl : List (Str × Addr)) (c f : Addr) (A : Around) (outer : List Env) (s : Shared) (H : Hp) (E : XK) (hr : RoomD 24 cl c f A s) : PE (XD P w K mg base 24 cl c f A outer s H E) (lmB (deedE 24)) (tbD K C NE 24 E) := by
  obtain ⟨fS, dS, ds, M, F, dv, b, mS⟩ := D.st.ex
  obtain ⟨gA, GA, kA, mA⟩ := D.acc
  have z : PE (XD P w K mg base 24 cl c f A outer s H E) (lmB (deedE 24)) _ := pe_make (E := E) M F (hr.mono (by decide)) (by rfl) mS b dv (passes_call (takes_of rfl rfl rfl rfl) (fun _ _ _ _ h => h)) (pa_cons (pe_callR GA (hr.mono (show 4 ≤ 13 by decide)) rfl mA kA pass0 (pa_cons pe_str pa_nil)) (pa_cons (pv 0) pa_nil))
  refine ⟨fun pins s' σ H' Q I h => z.run pins s' σ H' Q I ?_⟩
  obtain ⟨vs, rfl, ⟨gp, hg, ⟨_, rfl⟩ | ⟨xp, nm, ls, _, hb, _⟩⟩, q⟩ := h
  rotate_left
  · exact absurd hb (by decide)
  obtain ⟨dx, fs, hgi⟩ := hg.inst
  exact ⟨"c", [], rfl, by decide, List.nodup_nil, fun p H2 g2 hp => ⟨_, rfl, fun x dy nx ndx _ => ⟨x, p, _, _, rfl, .inr ⟨HasK.of (hp.same (same2 nx ndx _ _)), (hg.same g2).same (same2 nx ndx _ _), q _ (g2.trans (same2 nx ndx _ _))⟩⟩⟩⟩
theorem body_25 (D : DE P w K mg base C NE NA AD ST) (cl : List (Str × Addr)) (c f : Addr) (A : Around) (outer : List Env) (s : Shared) (H : Hp) (E : XK) (hr : RoomD 25 cl c f A s) : PE (XD P w K mg base 25 cl c f A outer s H E) (lmB (deedE 25)) (tbD K C NE 25 E) := by
  obtain ⟨gA, GA, kA, mA⟩ := D.acc
  have z : PE (XD P w K mg base 25 cl c f A outer s H E) (lmB (deedE 25)) _ := pcaX (E := E) D.gr hr (by decide) rfl (passes_call (takes_of rfl rfl rfl rfl) (fun _ _ _ _ h => h)) (pa_cons (pe_callR GA (hr.mono (show 4 ≤ 13 by decide)) rfl mA kA pass0 (pa_cons pe_str pa_nil)) (pa_cons (pv 0) (pa_cons pe_bl pa_nil)))
  refine ⟨fun pins s' σ H' Q I h => z.run pins s' σ H' Q I ?_⟩
  obtain ⟨vs, rfl, ⟨gp, hg, ⟨_, rfl⟩ | ⟨xp, nm, ls, _, hb, _⟩⟩, q⟩ := h
  rotate_left
  · exact absurd hb (by decide)
  obtain ⟨dx, fs, hgi⟩ := hg.inst
  exact ⟨"c", [], rfl, by decide, List.nodup_nil, fun p H2 g2 hp => ⟨_, rfl, true, _, _, rfl, p, rfl, .inr ⟨HasK.of hp, hg.same g2, q _ g2⟩⟩⟩
theorem body_all (D : DE P w K mg base C NE NA AD ST) : ∀ (i : Fin 26) (cl : List (Str × Addr)) (c f : Addr) (A : Around) (outer : List Env) (s : Shared) (H : Hp) (E : XK) (hr : RoomD i.val cl c f A s), PE (XD P w K mg base i.val cl c f A outer s H E) (lmB (deedE i.val)) (tbD K C NE i.val E)
  | ⟨0, _⟩, cl, c, f, A, outer, s, H, E, hr => body_0 D cl c f A outer s H E hr
  | ⟨1, _⟩, cl, c, f, A, outer, s, H, E, hr => body_1 D cl c f A outer s H E hr
  | ⟨2, _⟩, cl, c, f, A, outer, s, H, E, hr => body_2 D cl c f A outer s H E hr
  | ⟨3, _⟩, cl, c, f, A, outer, s, H, E, hr => body_3 D cl c f A outer s H E hr
  | ⟨4, _⟩, cl, c, f, A, outer, s, H, E, hr => body_4 D cl c f A outer s H E hr
  | ⟨5, _⟩, cl, c, f, A, outer, s, H, E, hr => body_5 D cl c f A outer s H E hr
  | ⟨6, _⟩, cl, c, f, A, outer, s, H, E, hr => body_6 D cl c f A outer s H E hr
  | ⟨7, _⟩, cl, c, f, A, outer, s, H, E, hr => body_7 D cl c f A outer s H E hr
  | ⟨8, _⟩, cl, c, f, A, outer, s, H, E, hr => body_8 D cl c f A outer s H E hr
  | ⟨9, _⟩, cl, c, f, A, outer, s, H, E, hr => body_9 D cl c f A outer s H E hr
  | ⟨10, _⟩, cl, c, f, A, outer, s, H, E, hr => body_10 D cl c f A outer s H E hr
  | ⟨11, _⟩, cl, c, f, A, outer, s, H, E, hr => body_11 D cl c f A outer s H E hr
  | ⟨12, _⟩, cl, c, f, A, outer, s, H, E, hr => body_12 D cl c f A outer s H E hr
  | ⟨13, _⟩, cl, c, f, A, outer, s, H, E, hr => body_13 D cl c f A outer s H E hr
  | ⟨14, _⟩, cl, c, f, A, outer, s, H, E, hr => body_14 D cl c f A outer s H E hr
  | ⟨15, _⟩, cl, c, f, A, outer, s, H, E, hr => body_15 D cl c f A outer s H E hr
  | ⟨16, _⟩, cl, c, f, A, outer, s, H, E, hr => body_16 D cl c f A outer s H E hr
  | ⟨17, _⟩, cl, c, f, A, outer, s, H, E, hr => body_17 D cl c f A outer s H E hr
  | ⟨18, _⟩, cl, c, f, A, outer, s, H, E, hr => body_18 D cl c f A outer s H E hr
  | ⟨19, _⟩, cl, c, f, A, outer, s, H, E, hr => body_19 D cl c f A outer s H E hr
  | ⟨20, _⟩, cl, c, f, A, outer, s, H, E, hr => body_20 D cl c f A outer s H E hr
  | ⟨21, _⟩, cl, c, f, A, outer, s, H, E, hr => body_21 D cl c f A outer s H E hr
  | ⟨22, _⟩, cl, c, f, A, outer, s, H, E, hr => body_22 D cl c f A outer s H E hr
  | ⟨23, _⟩, cl, c, f, A, outer, s, H, E, hr => body_23 D cl c f A outer s H E hr
  | ⟨24, _⟩, cl, c, f, A, outer, s, H, E, hr => body_24 D cl c f A outer s H E hr
  | ⟨25, _⟩, cl, c, f, A, outer, s, H, E, hr => body_25 D cl c f A outer s H E hr
  | ⟨n + 26, h⟩, _, _, _, _, _, _, _, _, _ => absurd h (by omega)
theorem bindD_all : ∀ (i : Fin 26) (cl' : List (Str × Addr)) (c' : Addr) (cl : List (Str × Addr)) (pm cv ctv : Value), bindArgs (PySem.W.kla_fn "<lambda>" (mkL (deedE i.val) cl' c').qual (mkL (deedE i.val) cl' c').params (lmB (deedE i.val)) (mkL (deedE i.val) cl' c').scope cl pm cv ctv) ⟨[], []⟩ = pure []
  | ⟨0, _⟩, _, _, _, _, _, _ => rfl
  | ⟨1, _⟩, _, _, _, _, _, _ => rfl
  | ⟨2, _⟩, _, _, _, _, _, _ => rfl
  | ⟨3, _⟩, _, _, _, _, _, _ => rfl
  | ⟨4, _⟩, _, _, _, _, _, _ => rfl
  | ⟨5, _⟩, _, _, _, _, _, _ => rfl
  | ⟨6, _⟩, _, _, _, _, _, _ => rfl
  | ⟨7, _⟩, _, _, _, _, _, _ => rfl
  | ⟨8, _⟩, _, _, _, _, _, _ => rfl
  | ⟨9, _⟩, _, _, _, _, _, _ => rfl
  | ⟨10, _⟩, _, _, _, _, _, _ => rfl
  | ⟨11, _⟩, _, _, _, _, _, _ => rfl
  | ⟨12, _⟩, _, _, _, _, _, _ => rfl
  | ⟨13, _⟩, _, _, _, _, _, _ => rfl
  | ⟨14, _⟩, _, _, _, _, _, _ => rfl
  | ⟨15, _⟩, _, _, _, _, _, _ => rfl
  | ⟨16, _⟩, _, _, _, _, _, _ => rfl
  | ⟨17, _⟩, _, _, _, _, _, _ => rfl
  | ⟨18, _⟩, _, _, _, _, _, _ => rfl
  | ⟨19, _⟩, _, _, _, _, _, _ => rfl
  | ⟨20, _⟩, _, _, _, _, _, _ => rfl
  | ⟨21, _⟩, _, _, _, _, _, _ => rfl
  | ⟨22, _⟩, _, _, _, _, _, _ => rfl
  | ⟨23, _⟩, _, _, _, _, _, _ => rfl
  | ⟨24, _⟩, _, _, _, _, _, _ => rfl
  | ⟨25, _⟩, _, _, _, _, _, _ => rfl
  | ⟨n + 26, h⟩, _, _, _, _, _, _ => absurd h (by omega)
end
end Lw
namespace Lw
open PySem L2 OwB LamX ClX
theorem kept_of {cells : List (Str × Addr)} {N fr frR : List Str} {σ : St} {H : Hp} {f c' : Addr} {e b : Expr} {vs : List V} (Sc : NdefX.NScope fr [] fr (lmS e)) (hsub : ∀ y ∈ fr, y ∈ frR) (inj : ∀ x y c, cells.lookup x = some c → cells.lookup y = some c → x = y) (C : CellsK cells N frR σ H) (hl : vs.length = fr.length)
    (hv : ∀ (i : Nat) (y : Str) (v : V), fr[i]? = some y → vs[i]? = some v → ∃ j : Nat, N[j]? = some y ∧ σ[j]? = some (some v)) (hf : H f = some (LamO f (mkL e (cloFrom cells (lmS e).names []) c') b)) (hc : H c' = some (CodeO c' qDeed)) : Kept H f (mkL e (cloFrom cells (lmS e).names []) c') b fr vs := by
  have hat : ∀ (i : Nat) (y : Str) (v : V), fr[i]? = some y → vs[i]? = some v → ∃ c, cells.lookup y = some c ∧ H c = some (CellO c v) := fun i y v e1 e2 => by
    obtain ⟨j, e3, e4⟩ := hv i y v e1 e2
    exact C y j v (hsub y (List.mem_of_getElem? e1)) e3 e4
  have hfree : ∀ y ∈ (lmS e).names, y.2 = .free → ∃ c, cells.lookup y.1 = some c := fun y hy z => by
    obtain ⟨i, hi⟩ := List.mem_iff_getElem?.mp (Sc.free y hy z)
    have hil : i < vs.length := by
      rw [hl]
      exact (List.getElem?_eq_some_iff.mp hi).1
    exact (hat i y.1 _ hi (List.getElem?_eq_getElem hil)).imp fun c q => q.1
  refine ⟨hf, hc, fun x y c e1 e2 => inj x y c (NdefX.clo_cm hfree e1) (NdefX.clo_cm hfree e2), fun y c e1 => ?_, hl, fun i y v e1 e2 => ?_⟩
  · rcases cloFrom_mem (PySem.mem_of_lookup e1) with hm | ⟨h1, _⟩
    · cases hm
    · exact Sc.free _ h1 rfl
  · obtain ⟨c, z1, z2⟩ := hat i y v e1 e2
    exact ⟨c, NdefX.clo_has hfree (PySem.mem_of_lookup (Sc.frk y (List.mem_of_getElem? e1))) z1, z2⟩
/-- the first j lambdas are made -/
def DInv (T : List (Addr × Str)) (cells : List (Str × Addr)) (H0 : Hp) (L : Addr) (j : Nat) (H : Hp) : Prop := ∃ fs : List Addr, H L = some (.lst (fs.map V.ref)) ∧ fs.length = j ∧ Tabs T H ∧ ExtN H0 H ∧
  ∀ (i : Nat) (f : Addr), fs[i]? = some f → ∃ c' : Addr, H f = some (LamO f (mkL (deedE i) (cloFrom cells (lmS (deedE i)).names []) c') (lmB (deedE i))) ∧ H c' = some (CodeO c' qDeed)
theorem lamO_nt {f : Addr} {F : NdefX.NF} {b : Expr} : ∀ ps, LamO f F b ≠ .tbl ps := fun ps z => by unfold LamO at z; cases z
theorem lamO_nl {f : Addr} {F : NdefX.NF} {b : Expr} : ∀ ps, LamO f F b ≠ .lst ps := fun ps z => by unfold LamO at z; cases z
theorem codeO_nl {c : Addr} {q : Str} : ∀ ps, CodeO c q ≠ .lst ps := fun ps z => by unfold CodeO at z; cases z
theorem tabs_lst {T : List (Addr × Str)} {H : Hp} {D : Addr} {xs : List V} {o : HO} (h : H D = some (.lst xs)) (t : Tabs T H) : Tabs T (upd H D o) := fun p hp => by
  obtain ⟨ps, h1, h2, h3⟩ := t p hp
  exact ⟨ps, (upd_ne (fun z => by rw [z, h] at h1; cases h1)).trans h1, h2, fun pos cv hc => (h3 pos cv hc).imp fun c z => ⟨z.1, (upd_ne (fun y => by rw [y, h] at z; unfold CodeO at z; cases z.2)).trans z.2⟩⟩
/-- free, or a table -/
def Fr (H : Hp) (L : Addr) : Prop := ∀ o, H L = some o → ∃ ps, o = .tbl ps
theorem extn_upd {H0 H : Hp} {L : Addr} {o : HO} (g : ExtN H0 H) (n : Fr H0 L) : ExtN H0 (upd H L o) := fun b u e nt => by
  rw [upd_ne (fun z => by rw [z] at e; obtain ⟨ps, e2⟩ := n u e; exact nt ps e2)]
  exact g b u e nt
/-- one more -/
theorem app_step {K : PySem.W.Frag} {T : List (Addr × Str)} {cells : List (Str × Addr)} {H0 : Hp} {L : Addr} {j : Nat} {σ : St} {H : Hp} {mk : Addr → NdefX.NF} {b : Expr} {R : Hp → Prop} (hL0 : Fr H0 L) (hj : j < 26) (hσ : σ[2]? = some (some (.ref L)))
    (hmk : ∀ c', mk c' = mkL (deedE j) (cloFrom cells (lmS (deedE j)).names []) c') (hb : b = lmB (deedE j)) (inv : DInv T cells H0 L j H) (k : ∀ H', DInv T cells H0 L (j + 1) H' → R H') :
    tBM K "list" rAppend (tVar 2) (tCons (tLamV T mk b) tNil) σ H (fun _ H' => R H') := by
  obtain ⟨fs, hL, hl, hT, e0, hall⟩ := inv
  refine ⟨_, hσ, .inl ⟨rfl, _, SqL.of hL⟩, hT, fun f c' H1 e1 T1 _ hf hc => ?_⟩
  rw [hmk, hb] at hf
  have hc : H1 c' = some (CodeO c' qDeed) := by
    rw [hmk] at hc
    exact hc
  have hL1 := e1 _ _ hL (fun ps z => by cases z)
  refine ⟨L, _, _, rfl, rfl, hL1, small1000 (by rw [List.length_map]; omega), k _ ⟨fs ++ [f], by rw [upd_same, List.map_append] <;> rfl, by rw [List.length_append, hl] <;> rfl, tabs_lst hL1 T1, extn_upd (e0.trans e1) hL0, fun i f' ef => ?_⟩⟩
  have nl : ∀ {c : Addr} {o : HO}, H1 c = some o → (∀ ps, o ≠ .lst ps) → c ≠ L := fun {c o} e n z => by
    rw [z, hL1] at e
    exact n _ (Option.some.inj e).symm
  rcases Nat.lt_or_ge i fs.length with hi | hi
  · rw [List.getElem?_append_left hi] at ef
    obtain ⟨c2, h1, h2⟩ := hall i f' ef
    have h1' := e1 _ _ h1 lamO_nt
    have h2' := e1 _ _ h2 (fun ps z => codeO_ne ps z)
    exact ⟨c2, (upd_ne (nl h1' lamO_nl)).trans h1', (upd_ne (nl h2' codeO_nl)).trans h2'⟩
  · have hij : i = fs.length := by
      have := (List.getElem?_eq_some_iff.mp ef).1
      rw [List.length_append] at this
      have h1 : ([f] : List Addr).length = 1 := rfl
      omega
    subst hij
    rw [List.getElem?_append_right (Nat.le_refl _), Nat.sub_self] at ef
    cases ef
    rw [hl]
    exact ⟨c', (upd_ne (nl hf lamO_nl)).trans hf, (upd_ne (nl hc codeO_nl)).trans hc⟩
def vsD (j : Nat) (g x : V) : List V := if bothD j = true then [g, x] else [g]
def spDeeds (T : List (Addr × Str)) : Sp := fun vs H Q _ => ∃ g x : V, vs = [g, x] ∧ Tabs T H ∧ ∀ (L : Addr) (fs : List Addr) (H' : Hp), ExtN H H' → Tabs T H' → H' L = some (.lst (fs.map V.ref)) → Fr H L → fs.length = 26 →
  (∀ (i : Fin 26) (f : Addr), fs[i.val]? = some f → ∃ (cl : List (Str × Addr)) (c : Addr), Kept H' f (mkL (deedE i.val) cl c) (lmB (deedE i.val)) (frD i.val) (vsD i.val g x)) → Q (.ref L) H'
section
variable {P : Program} {w : World} {K : PySem.W.Frag} {mg : Str → Option Value} {base : Heap} {f cB PB : Addr}
theorem ok_deeds {oc od kV doc pm an ct osl} {T : List (Addr × Str)} (lk : K.lookup f = some ⟨oc, od, .func (PySem.W.fnOf "_law_deeds" "_law_deeds" (defArgs s_l_deeds) (defBody s_l_deeds) (defScope s_l_deeds) .none kV doc pm an (.ref cB) ct), osl⟩) (hcd : PySem.W.codeIn K (.ref cB) "_law_deeds" = true)
    (TB : TabB base mg cB PB) (mT : (PB, qDeed) ∈ T) (uT : ∀ p ∈ T, p.1 = PB → p.2 = qDeed) :
    FnOk P w K mg base CX0 1 f (PySem.W.fnOf "_law_deeds" "_law_deeds" (defArgs s_l_deeds) (defBody s_l_deeds) (defScope s_l_deeds) .none kV doc pm an (.ref cB) ct) ["_law_gain", "_law_x"] (spDeeds T) := by
  refine fn_ofR (fr := ["_law_gain", "_law_x"]) lk hcd sc_l_deeds (by decide +kernel) (by decide +kernel) (fun vs H Q E h => ?_) (fun A outer s H vs Q E hr h => ?_)
  · obtain ⟨g, x, rfl, _⟩ := h
    rfl
  obtain ⟨g, x, rfl, hT, k⟩ := h
  refine ⟨_, (pr_cons (ps_set (i := 2) sc_l_deeds.nd rfl (Or.inl rfl) (pe_lst (pa_cons (pe_lamV TB rfl mT uT (lamS_by (sc := defScope s_l_deeds) (by decide +kernel)) rfl) pa_nil)))
(pr_cons (ps_expr (pe_bm PySem.F.plainAttrs_list PySem.F.slot_list_append PySem.F.type_list_append mt_append (pv 2) (pa_cons (pe_lamV TB rfl mT uT (lamS_by (sc := defScope s_l_deeds) (by decide +kernel)) rfl) pa_nil)))
(pr_cons (ps_expr (pe_bm PySem.F.plainAttrs_list PySem.F.slot_list_append PySem.F.type_list_append mt_append (pv 2) (pa_cons (pe_lamV TB rfl mT uT (lamS_by (sc := defScope s_l_deeds) (by decide +kernel)) rfl) pa_nil)))
(pr_cons (ps_expr (pe_bm PySem.F.plainAttrs_list PySem.F.slot_list_append PySem.F.type_list_append mt_append (pv 2) (pa_cons (pe_lamV TB rfl mT uT (lamS_by (sc := defScope s_l_deeds) (by decide +kernel)) rfl) pa_nil)))
(pr_cons (ps_expr (pe_bm PySem.F.plainAttrs_list PySem.F.slot_list_append PySem.F.type_list_append mt_append (pv 2) (pa_cons (pe_lamV TB rfl mT uT (lamS_by (sc := defScope s_l_deeds) (by decide +kernel)) rfl) pa_nil)))
(pr_cons (ps_expr (pe_bm PySem.F.plainAttrs_list PySem.F.slot_list_append PySem.F.type_list_append mt_append (pv 2) (pa_cons (pe_lamV TB rfl mT uT (lamS_by (sc := defScope s_l_deeds) (by decide +kernel)) rfl) pa_nil)))
(pr_cons (ps_expr (pe_bm PySem.F.plainAttrs_list PySem.F.slot_list_append PySem.F.type_list_append mt_append (pv 2) (pa_cons (pe_lamV TB rfl mT uT (lamS_by (sc := defScope s_l_deeds) (by decide +kernel)) rfl) pa_nil)))
(pr_cons (ps_expr (pe_bm PySem.F.plainAttrs_list PySem.F.slot_list_append PySem.F.type_list_append mt_append (pv 2) (pa_cons (pe_lamV TB rfl mT uT (lamS_by (sc := defScope s_l_deeds) (by decide +kernel)) rfl) pa_nil)))
(pr_cons (ps_expr (pe_bm PySem.F.plainAttrs_list PySem.F.slot_list_append PySem.F.type_list_append mt_append (pv 2) (pa_cons (pe_lamV TB rfl mT uT (lamS_by (sc := defScope s_l_deeds) (by decide +kernel)) rfl) pa_nil)))
(pr_cons (ps_expr (pe_bm PySem.F.plainAttrs_list PySem.F.slot_list_append PySem.F.type_list_append mt_append (pv 2) (pa_cons (pe_lamV TB rfl mT uT (lamS_by (sc := defScope s_l_deeds) (by decide +kernel)) rfl) pa_nil)))
(pr_cons (ps_expr (pe_bm PySem.F.plainAttrs_list PySem.F.slot_list_append PySem.F.type_list_append mt_append (pv 2) (pa_cons (pe_lamV TB rfl mT uT (lamS_by (sc := defScope s_l_deeds) (by decide +kernel)) rfl) pa_nil)))
(pr_cons (ps_expr (pe_bm PySem.F.plainAttrs_list PySem.F.slot_list_append PySem.F.type_list_append mt_append (pv 2) (pa_cons (pe_lamV TB rfl mT uT (lamS_by (sc := defScope s_l_deeds) (by decide +kernel)) rfl) pa_nil)))
(pr_cons (ps_expr (pe_bm PySem.F.plainAttrs_list PySem.F.slot_list_append PySem.F.type_list_append mt_append (pv 2) (pa_cons (pe_lamV TB rfl mT uT (lamS_by (sc := defScope s_l_deeds) (by decide +kernel)) rfl) pa_nil)))
(pr_cons (ps_expr (pe_bm PySem.F.plainAttrs_list PySem.F.slot_list_append PySem.F.type_list_append mt_append (pv 2) (pa_cons (pe_lamV TB rfl mT uT (lamS_by (sc := defScope s_l_deeds) (by decide +kernel)) rfl) pa_nil)))
(pr_cons (ps_expr (pe_bm PySem.F.plainAttrs_list PySem.F.slot_list_append PySem.F.type_list_append mt_append (pv 2) (pa_cons (pe_lamV TB rfl mT uT (lamS_by (sc := defScope s_l_deeds) (by decide +kernel)) rfl) pa_nil)))
(pr_cons (ps_expr (pe_bm PySem.F.plainAttrs_list PySem.F.slot_list_append PySem.F.type_list_append mt_append (pv 2) (pa_cons (pe_lamV TB rfl mT uT (lamS_by (sc := defScope s_l_deeds) (by decide +kernel)) rfl) pa_nil)))
(pr_cons (ps_expr (pe_bm PySem.F.plainAttrs_list PySem.F.slot_list_append PySem.F.type_list_append mt_append (pv 2) (pa_cons (pe_lamV TB rfl mT uT (lamS_by (sc := defScope s_l_deeds) (by decide +kernel)) rfl) pa_nil)))
(pr_cons (ps_expr (pe_bm PySem.F.plainAttrs_list PySem.F.slot_list_append PySem.F.type_list_append mt_append (pv 2) (pa_cons (pe_lamV TB rfl mT uT (lamS_by (sc := defScope s_l_deeds) (by decide +kernel)) rfl) pa_nil)))
(pr_cons (ps_expr (pe_bm PySem.F.plainAttrs_list PySem.F.slot_list_append PySem.F.type_list_append mt_append (pv 2) (pa_cons (pe_lamV TB rfl mT uT (lamS_by (sc := defScope s_l_deeds) (by decide +kernel)) rfl) pa_nil)))
(pr_cons (ps_expr (pe_bm PySem.F.plainAttrs_list PySem.F.slot_list_append PySem.F.type_list_append mt_append (pv 2) (pa_cons (pe_lamV TB rfl mT uT (lamS_by (sc := defScope s_l_deeds) (by decide +kernel)) rfl) pa_nil)))
(pr_cons (ps_expr (pe_bm PySem.F.plainAttrs_list PySem.F.slot_list_append PySem.F.type_list_append mt_append (pv 2) (pa_cons (pe_lamV TB rfl mT uT (lamS_by (sc := defScope s_l_deeds) (by decide +kernel)) rfl) pa_nil)))
(pr_cons (ps_expr (pe_bm PySem.F.plainAttrs_list PySem.F.slot_list_append PySem.F.type_list_append mt_append (pv 2) (pa_cons (pe_lamV TB rfl mT uT (lamS_by (sc := defScope s_l_deeds) (by decide +kernel)) rfl) pa_nil)))
(pr_cons (ps_expr (pe_bm PySem.F.plainAttrs_list PySem.F.slot_list_append PySem.F.type_list_append mt_append (pv 2) (pa_cons (pe_lamV TB rfl mT uT (lamS_by (sc := defScope s_l_deeds) (by decide +kernel)) rfl) pa_nil)))
(pr_cons (ps_expr (pe_bm PySem.F.plainAttrs_list PySem.F.slot_list_append PySem.F.type_list_append mt_append (pv 2) (pa_cons (pe_lamV TB rfl mT uT (lamS_by (sc := defScope s_l_deeds) (by decide +kernel)) rfl) pa_nil)))
(pr_cons (ps_expr (pe_bm PySem.F.plainAttrs_list PySem.F.slot_list_append PySem.F.type_list_append mt_append (pv 2) (pa_cons (pe_lamV TB rfl mT uT (lamS_by (sc := defScope s_l_deeds) (by decide +kernel)) rfl) pa_nil)))
(pr_cons (ps_expr (pe_bm PySem.F.plainAttrs_list PySem.F.slot_list_append PySem.F.type_list_append mt_append (pv 2) (pa_cons (pe_lamV TB rfl mT uT (lamS_by (sc := defScope s_l_deeds) (by decide +kernel)) rfl) pa_nil)))
(pr_ret (pv 2)))))))))))))))))))))))))))), ?_⟩
  refine ⟨hT, fun f0 c0 H1 e1 T1 _ hf0 hc0 => ⟨(by show 1 ≤ sizeLine; decide), fun L hL => ?_⟩⟩
  have hL0 : Fr H L := fun o z => by
    refine Classical.byContradiction fun hn => ?_
    have := e1 L o z fun ps e => hn ⟨ps, e⟩
    rw [hL] at this
    cases this
  have gL := same_new hL (.lst [V.ref f0])
  have i1 : DInv T (cellsFrom (s.heap.objs.size + 1) (defScope s_l_deeds).names []) H L 1 (upd H1 L (.lst [V.ref f0])) := by
    refine ⟨[f0], upd_same, rfl, T1.ext gL, extn_upd e1 hL0, fun i f' ef => ?_⟩
    match i with
    | 0 =>
      cases ef
      exact ⟨c0, gL _ _ hf0, gL _ _ hc0⟩
    | i + 1 => cases ef
  clear hf0 hc0
  revert i1
  generalize upd H1 L (.lst [V.ref f0]) = HA
  intro i1
  refine app_step (j := 1) (cells := cellsFrom (s.heap.objs.size + 1) (defScope s_l_deeds).names []) hL0 (by decide) rfl (fun _ => rfl) rfl i1 fun H1 i2 => ?_
  clear i1
  refine app_step (j := 2) (cells := cellsFrom (s.heap.objs.size + 1) (defScope s_l_deeds).names []) hL0 (by decide) rfl (fun _ => rfl) rfl i2 fun H2 i3 => ?_
  clear i2
  refine app_step (j := 3) (cells := cellsFrom (s.heap.objs.size + 1) (defScope s_l_deeds).names []) hL0 (by decide) rfl (fun _ => rfl) rfl i3 fun H3 i4 => ?_
  clear i3
  refine app_step (j := 4) (cells := cellsFrom (s.heap.objs.size + 1) (defScope s_l_deeds).names []) hL0 (by decide) rfl (fun _ => rfl) rfl i4 fun H4 i5 => ?_
  clear i4
  refine app_step (j := 5) (cells := cellsFrom (s.heap.objs.size + 1) (defScope s_l_deeds).names []) hL0 (by decide) rfl (fun _ => rfl) rfl i5 fun H5 i6 => ?_
  clear i5
  refine app_step (j := 6) (cells := cellsFrom (s.heap.objs.size + 1) (defScope s_l_deeds).names []) hL0 (by decide) rfl (fun _ => rfl) rfl i6 fun H6 i7 => ?_
  clear i6
  refine app_step (j := 7) (cells := cellsFrom (s.heap.objs.size + 1) (defScope s_l_deeds).names []) hL0 (by decide) rfl (fun _ => rfl) rfl i7 fun H7 i8 => ?_
  clear i7
  refine app_step (j := 8) (cells := cellsFrom (s.heap.objs.size + 1) (defScope s_l_deeds).names []) hL0 (by decide) rfl (fun _ => rfl) rfl i8 fun H8 i9 => ?_
  clear i8
  refine app_step (j := 9) (cells := cellsFrom (s.heap.objs.size + 1) (defScope s_l_deeds).names []) hL0 (by decide) rfl (fun _ => rfl) rfl i9 fun H9 i10 => ?_
  clear i9
  refine app_step (j := 10) (cells := cellsFrom (s.heap.objs.size + 1) (defScope s_l_deeds).names []) hL0 (by decide) rfl (fun _ => rfl) rfl i10 fun H10 i11 => ?_
  clear i10
  refine app_step (j := 11) (cells := cellsFrom (s.heap.objs.size + 1) (defScope s_l_deeds).names []) hL0 (by decide) rfl (fun _ => rfl) rfl i11 fun H11 i12 => ?_
  clear i11
  refine app_step (j := 12) (cells := cellsFrom (s.heap.objs.size + 1) (defScope s_l_deeds).names []) hL0 (by decide) rfl (fun _ => rfl) rfl i12 fun H12 i13 => ?_
  clear i12
  refine app_step (j := 13) (cells := cellsFrom (s.heap.objs.size + 1) (defScope s_l_deeds).names []) hL0 (by decide) rfl (fun _ => rfl) rfl i13 fun H13 i14 => ?_
  clear i13
  refine app_step (j := 14) (cells := cellsFrom (s.heap.objs.size + 1) (defScope s_l_deeds).names []) hL0 (by decide) rfl (fun _ => rfl) rfl i14 fun H14 i15 => ?_
  clear i14
  refine app_step (j := 15) (cells := cellsFrom (s.heap.objs.size + 1) (defScope s_l_deeds).names []) hL0 (by decide) rfl (fun _ => rfl) rfl i15 fun H15 i16 => ?_
  clear i15
  refine app_step (j := 16) (cells := cellsFrom (s.heap.objs.size + 1) (defScope s_l_deeds).names []) hL0 (by decide) rfl (fun _ => rfl) rfl i16 fun H16 i17 => ?_
  clear i16
  refine app_step (j := 17) (cells := cellsFrom (s.heap.objs.size + 1) (defScope s_l_deeds).names []) hL0 (by decide) rfl (fun _ => rfl) rfl i17 fun H17 i18 => ?_
  clear i17
  refine app_step (j := 18) (cells := cellsFrom (s.heap.objs.size + 1) (defScope s_l_deeds).names []) hL0 (by decide) rfl (fun _ => rfl) rfl i18 fun H18 i19 => ?_
  clear i18
  refine app_step (j := 19) (cells := cellsFrom (s.heap.objs.size + 1) (defScope s_l_deeds).names []) hL0 (by decide) rfl (fun _ => rfl) rfl i19 fun H19 i20 => ?_
  clear i19
  refine app_step (j := 20) (cells := cellsFrom (s.heap.objs.size + 1) (defScope s_l_deeds).names []) hL0 (by decide) rfl (fun _ => rfl) rfl i20 fun H20 i21 => ?_
  clear i20
  refine app_step (j := 21) (cells := cellsFrom (s.heap.objs.size + 1) (defScope s_l_deeds).names []) hL0 (by decide) rfl (fun _ => rfl) rfl i21 fun H21 i22 => ?_
  clear i21
  refine app_step (j := 22) (cells := cellsFrom (s.heap.objs.size + 1) (defScope s_l_deeds).names []) hL0 (by decide) rfl (fun _ => rfl) rfl i22 fun H22 i23 => ?_
  clear i22
  refine app_step (j := 23) (cells := cellsFrom (s.heap.objs.size + 1) (defScope s_l_deeds).names []) hL0 (by decide) rfl (fun _ => rfl) rfl i23 fun H23 i24 => ?_
  clear i23
  refine app_step (j := 24) (cells := cellsFrom (s.heap.objs.size + 1) (defScope s_l_deeds).names []) hL0 (by decide) rfl (fun _ => rfl) rfl i24 fun H24 i25 => ?_
  clear i24
  refine app_step (j := 25) (cells := cellsFrom (s.heap.objs.size + 1) (defScope s_l_deeds).names []) hL0 (by decide) rfl (fun _ => rfl) rfl i25 fun H25 i26 => ?_
  clear i25
  refine ⟨_, rfl, fun inj H'' ext hK => ?_⟩
  obtain ⟨fs, hLL, hl, hT2, e2, hall⟩ := i26
  refine k L fs H'' (e2.trans (ExtN.of ext)) (hT2.ext ext) (ext _ _ hLL) hL0 hl fun i f' ef => ?_
  obtain ⟨c2, h1, h2⟩ := hall i.val f' ef
  refine ⟨_, c2, kept_of (nscD i [] 0) (fun y hy => ?_) inj hK ?_ (fun m y v a1 a2 => ?_) (ext _ _ h1) (ext _ _ h2)⟩
  · unfold frD at hy
    split at hy
    · exact hy
    · exact List.mem_cons.mpr (.inl (List.mem_singleton.mp hy))
  · unfold vsD frD
    split <;> rfl
  · unfold frD at a1
    unfold vsD at a2
    split at a1
    · rename_i hb
      rw [if_pos hb] at a2
      match m with
      | 0 =>
        cases a1
        cases a2
        exact ⟨0, rfl, rfl⟩
      | 1 =>
        cases a1
        cases a2
        exact ⟨1, rfl, rfl⟩
      | m + 2 => cases a1
    · rename_i hb
      rw [if_neg hb] at a2
      match m with
      | 0 =>
        cases a1
        cases a2
        exact ⟨0, rfl, rfl⟩
      | m + 1 => cases a1
end
end Lw
namespace Lw
open PySem L2 OwB
abbrev sLacc : Stmt := topS 108
section
variable {P : Program} {w : World} {K : PySem.W.Frag} {mg : Str → Option Value} {base : Heap} {f g C fI : Addr} {fd gd : FuncData}
def spLacc (K : PySem.W.Frag) (C : Addr) : Sp := fun vs H Q _ => ∃ (nm : Str) (ls : List Str) (t : Addr), vs = [.str nm, .ref t] ∧ SqT K H t (ls.map V.str) ∧ ls.length ≤ 3 ∧ ls.Nodup ∧ ∀ (p : Addr) (H' : Hp), Same H H' → ExAt K C H' (.acc nm ls) p → Q (.ref p) H'
theorem scLacc : FnScope ["_law_name_here", "_law_letters_here"] ["_law_name_here", "_law_letters_here"] (defScope sLacc) := ⟨rfl, rfl, rfl, by decide +kernel, rfl, by decide +kernel, by decide +kernel⟩
theorem ok_lacc (F : Fun K "_law_access" "_law_access" sLacc f fd) (B : Bt mg) (G : FnR P w K mg base CX0 4 g (spAcc K C)) (kG : PySem.W.keepIn K (.ref g) = true) (mG : mg "access" = some (.ref g)) : FnOk P w K mg base CX0 5 f fd ["_law_name_here", "_law_letters_here"] (spLacc K C) := by
  refine F.ok scLacc (fun vs H Q E h => ?_) (fun cdv A outer s H vs Q E hr h => ?_)
  · obtain ⟨nm, ls, t, rfl, _⟩ := h
    rfl
  obtain ⟨nm, ls, t, rfl, ht, hl, nd, k⟩ := h
  refine ⟨_, pss_cons (ps_if (pt_cmpR op_eq (pe_callB call_len_seq (by rfl) B.len PySem.boot_len (pa_cons (pv 1) pa_nil)) pe_int (nomark _)) (pss_one (ps_ret (pe_callR G hr rfl mG kG pass0 (pa_cons (pv 0) pa_nil)))) pss_nil)
    (pss_cons (ps_if (pt_cmpR op_eq (pe_callB call_len_seq (by rfl) B.len PySem.boot_len (pa_cons (pv 1) pa_nil)) pe_int (nomark _)) (pss_one (ps_ret (pe_callR G hr rfl mG kG pass0 (pa_cons (pv 0) (pa_cons (pe_ix ix_tup (pv 1) pe_int (fun _ _ => rfl)) pa_nil))))) pss_nil)
    (pss_cons (ps_if (pt_cmpR op_eq (pe_callB call_len_seq (by rfl) B.len PySem.boot_len (pa_cons (pv 1) pa_nil)) pe_int (nomark _)) (pss_one (ps_ret (pe_callR G hr rfl mG kG pass0 (pa_cons (pv 0) (pa_cons (pe_ix ix_tup (pv 1) pe_int (fun _ _ => rfl)) (pa_cons (pe_ix ix_tup (pv 1) pe_int (fun _ _ => rfl)) pa_nil)))))) pss_nil)
    (pss_one (ps_ret (pe_callR G hr rfl mG kG pass0 (pa_cons (pv 0) (pa_cons (pe_ix ix_tup (pv 1) pe_int (fun _ _ => rfl)) (pa_cons (pe_ix ix_tup (pv 1) pe_int (fun _ _ => rfl)) (pa_cons (pe_ix ix_tup (pv 1) pe_int (fun _ _ => rfl)) pa_nil))))))))), ?_⟩
  have len : ∀ (n : Nat) (R : Bool → Hp → Prop), R (decide ((ls.length : Int) = n)) H → tTest (tOp rEq (tCB (fun xs H Q => ∃ p ys, xs = [.ref p] ∧ (SqL K H p ys ∨ SqT K H p ys) ∧ Q (.int ys.length) H) (tCons (tVar 1) tNil)) (tC (.int (n : Int)))) [some (.str nm), some (.ref t)] H R := fun n R h => by
    refine ⟨_, rfl, t, _, rfl, .inr ht, rfl, _, rfl, ?_⟩
    rw [List.length_map, dec_int]
    exact h
  have at_ : ∀ (i : Nat) (z : Str) (R : V → Hp → Prop), ls[i]? = some z → R (.str z) H → tOp (rIxT K) (tVar 1) (tC (.int (i : Int))) [some (.str nm), some (.ref t)] H R := fun i z R e h => by
    refine ⟨_, rfl, t, _, (i : Int), .str z, rfl, rfl, ht, atI_nat (by rw [List.getElem?_map, e] <;> rfl), h⟩
  refine len 0 _ (ite2 (fun c => ?_) (fun c => len 1 _ (ite2 (fun c1 => ?_) (fun c1 => len 2 _ (ite2 (fun c2 => ?_) (fun c2 => ?_))))))
  · have e : ls = [] := List.length_eq_zero_iff.mp (by have := of_decide_eq_true c; omega)
    subst e
    exact ⟨_, rfl, nm, [], rfl, by decide, nd, k⟩
  · have e1 : ls.length = 1 := by have := of_decide_eq_true c1; omega
    obtain ⟨a, rfl⟩ := List.length_eq_one_iff.mp e1
    refine ⟨_, rfl, at_ 0 a _ rfl ⟨nm, [a], rfl, (by show 1 ≤ 20; decide), nd, k⟩⟩
  · have e1 : ls.length = 2 := by have := of_decide_eq_true c2; omega
    match ls, e1, ht, at_, nd, k with
    | [a, b], _, ht, at_, nd, k => exact ⟨_, rfl, at_ 0 a _ rfl (at_ 1 b _ rfl ⟨nm, [a, b], rfl, (by show 2 ≤ 20; decide), nd, k⟩)⟩
  · have e1 : ls.length = 3 := by
      have h0 : ¬ (ls.length : Int) = 0 := fun e => c (decide_eq_true e)
      have h1 : ¬ (ls.length : Int) = 1 := fun e => c1 (decide_eq_true e)
      have h2 : ¬ (ls.length : Int) = 2 := fun e => c2 (decide_eq_true e)
      omega
    match ls, e1, ht, at_, nd, k with
    | [a, b, d], _, ht, at_, nd, k => exact ⟨_, rfl, at_ 0 a _ rfl (at_ 1 b _ rfl (at_ 2 d _ rfl ⟨nm, [a, b, d], rfl, (by show 3 ≤ 20; decide), nd, k⟩))⟩
end
end Lw
namespace Lw
open PySem L2 OwB LamX ClX
/-! what stays where the cells of a kept lambda are forgotten, and where lambdas are made -/
/-- all but known cells stay -/
def KC (H H' : Hp) : Prop := ∀ (b : Addr) (o : HO), (∀ (c : Addr) (v : V), o ≠ CellO c v) → H b = some o → H' b = some o
theorem KC.less {F : NdefX.NF} {H : Hp} (h : ∀ y c, F.cl.lookup y = some c → ∃ v, H c = some (CellO c v)) : KC H (less F H) := fun b o n e => less_of h e (n b)
theorem KC.tk {K : PySem.W.Frag} {H H' : Hp} (g : KC H H') : TK K H H' := fun t xs h => by
  rcases h with (h | ⟨o, h⟩) | h
  · exact .inl (.inl (g _ _ (fun _ _ z => by unfold CellO at z; cases z) h))
  · exact .inl (.inr ⟨o, g _ _ (fun _ _ z => by unfold CellO at z; cases z) h⟩)
  · exact .inr h
theorem KC.ins {H H' : Hp} (g : KC H H') {p C dx : Addr} {fs : List (Str × V)} (h : H p = some (.ins C dx fs)) : H' p = some (.ins C dx fs) := g _ _ (fun _ _ z => by unfold CellO at z; cases z) h
theorem pairs_tk {K : PySem.W.Frag} {H H' : Hp} (g : TK K H H') : ∀ {us : List V} {as : List (Str × List Str)}, PairsAt K H us as → PairsAt K H' us as
  | _, _, .nil => .nil
  | _, _, .cons ⟨a, t, e, h1, h2⟩ r => .cons ⟨a, t, e, g _ _ h1, g _ _ h2⟩ (pairs_tk g r)
/-- instances stay, tuples stay -/
structure TI (K : PySem.W.Frag) (H H' : Hp) : Prop where
  tk : TK K H H'
  ins : ∀ {p C dx : Addr} {fs : List (Str × V)}, H p = some (.ins C dx fs) → H' p = some (.ins C dx fs)
theorem TI.kc {K : PySem.W.Frag} {H H' : Hp} (g : KC H H') : TI K H H' := ⟨g.tk, fun h => g.ins h⟩
theorem TI.en {K : PySem.W.Frag} {H H' : Hp} (g : ExtN H H') : TI K H H' := ⟨fun t xs h => by
  rcases h with (h | ⟨o, h⟩) | h
  · exact .inl (.inl (g _ _ h (fun _ z => by cases z)))
  · exact .inl (.inr ⟨o, g _ _ h (fun _ z => by cases z)⟩)
  · exact .inr h, fun h => g _ _ h (fun _ z => by cases z)⟩
theorem TI.trans {K : PySem.W.Frag} {H H1 H2 : Hp} (g : TI K H H1) (g' : TI K H1 H2) : TI K H H2 := ⟨fun t xs h => g'.tk _ _ (g.tk _ _ h), fun h => g'.ins (g.ins h)⟩
theorem TI.sx {K : PySem.W.Frag} {st q : Addr} {b : Int} {H H' : Hp} (hs : Spr H st q b) (g : SX st q H H') : TI K H H' := by
  obtain ⟨ns, a, c, e1, e2, _⟩ := hs
  have at_ : ∀ {t : Addr} {o : HO}, H t = some o → (∀ xs, o ≠ .lst xs) → H' t = some o := fun {t o} e n => g t o (fun z => by rw [z, e1] at e; exact n _ (Option.some.inj e).symm) (fun z => by rw [z, e2] at e; exact n _ (Option.some.inj e).symm) e
  refine ⟨fun t xs h => ?_, fun h => at_ h (fun _ z => by cases z)⟩
  rcases h with (h | ⟨o, h⟩) | h
  · exact .inl (.inl (at_ h (fun _ z => by cases z)))
  · exact .inl (.inr ⟨o, at_ h (fun _ z => by cases z)⟩)
  · exact .inr h
theorem TI.same {K : PySem.W.Frag} {H H' : Hp} (g : Same H H') : TI K H H' := TI.kc (fun b o _ e => g b o e)
theorem hd_ti {K : PySem.W.Frag} {C p : Addr} {H H' : Hp} {k : Str} {vs : List V} {as : List (Str × List Str)} {m : Int} (g : TI K H H') : HdE K C H p k vs as m → HdE K C H' p k vs as m
  | ⟨dx, tp, ta, tl, us, ys, h1, h2, h3, h4, h5, h6⟩ => ⟨dx, tp, ta, tl, us, ys, g.ins h1, g.tk _ _ h2, g.tk _ _ h3, pairs_tk g.tk h4, g.tk _ _ h5, h6⟩
theorem acc_ti {K : PySem.W.Frag} {C p : Addr} {H H' : Hp} {nm : Str} {ls : List Str} (g : TI K H H') : ExAt K C H (.acc nm ls) p → ExAt K C H' (.acc nm ls) p
  | ⟨t, h1, h2⟩ => ⟨t, hd_ti g h1, g.tk _ _ h2⟩
theorem hask_ti {K : PySem.W.Frag} {C p : Addr} {H H' : Hp} {k : Str} (g : TI K H H') : HasK K C H k p → HasK K C H' k p
  | ⟨vs, as, m, h⟩ => ⟨vs, as, m, hd_ti g h⟩
theorem gn_ti {K : PySem.W.Frag} {C : Addr} {H H' : Hp} {v : V} (g : TI K H H') : Gn K C H v → Gn K C H' v
  | ⟨p, k, e, h, hk⟩ => ⟨p, k, e, hask_ti g h, hk⟩
theorem ded_ti {K : PySem.W.Frag} {C : Addr} {H H' : Hp} {j : Nat} {vs : List V} (g : TI K H H') : DedAt K C H j vs → DedAt K C H' j vs
  | ⟨gp, h1, .inl h2⟩ => ⟨gp, gn_ti g h1, .inl h2⟩
  | ⟨gp, h1, .inr ⟨xp, nm, ls, h2, h3, h4⟩⟩ => ⟨gp, gn_ti g h1, .inr ⟨xp, nm, ls, h2, h3, acc_ti g h4⟩⟩
theorem Spr.en {st q : Addr} {b : Int} {H H' : Hp} (g : ExtN H H') (s : Spr H st q b) : Spr H' st q b := by
  obtain ⟨ns, a, c, h1, h2, r⟩ := s
  exact ⟨ns, a, c, g _ _ h1 (fun _ z => by cases z), g _ _ h2 (fun _ z => by cases z), r⟩
theorem tabs_sx {T : List (Addr × Str)} {st q : Addr} {b : Int} {H H' : Hp} (hs : Spr H st q b) (g : SX st q H H') (t : Tabs T H) : Tabs T H' := fun p hp => by
  obtain ⟨ps, h1, h2, h3⟩ := t p hp
  obtain ⟨ns, a, c, e1, e2, _⟩ := hs
  have at_ : ∀ {t : Addr} {o : HO}, H t = some o → (∀ xs, o ≠ .lst xs) → H' t = some o := fun {t o} e n => g t o (fun z => by rw [z, e1] at e; exact n _ (Option.some.inj e).symm) (fun z => by rw [z, e2] at e; exact n _ (Option.some.inj e).symm) e
  exact ⟨ps, at_ h1 (fun zs z => by cases z), h2, fun pos cv hc => (h3 pos cv hc).imp fun c z => ⟨z.1, at_ z.2 codeO_nl⟩⟩
theorem Kept.sx {st q : Addr} {b : Int} {H H' : Hp} {f : Addr} {F : NdefX.NF} {e : Expr} {fr : List Str} {vs : List V} (hs : Spr H st q b) (g : SX st q H H') (h : Kept H f F e fr vs) : Kept H' f F e fr vs := by
  obtain ⟨ns, a, c, e1, e2, _⟩ := hs
  exact h.ext fun t o e _ n => g t o (fun z => by rw [z, e1] at e; exact n _ (Option.some.inj e).symm) (fun z => by rw [z, e2] at e; exact n _ (Option.some.inj e).symm) e
theorem Kept.same {H H' : Hp} {f : Addr} {F : NdefX.NF} {e : Expr} {fr : List Str} {vs : List V} (g : Same H H') (h : Kept H f F e fr vs) : Kept H' f F e fr vs := h.ext fun t o e _ _ => g t o e
/-- the 26 deeds, over the same gain and the same access -/
def Deeds (H : Hp) (L : Addr) (g x : V) : Prop := ∃ fs : List Addr, H L = some (.lst (fs.map V.ref)) ∧ fs.length = 26 ∧ ∀ (i : Fin 26) (f : Addr), fs[i.val]? = some f → ∃ (cl : List (Str × Addr)) (c : Addr), Kept H f (mkL (deedE i.val) cl c) (lmB (deedE i.val)) (frD i.val) (vsD i.val g x)
theorem Deeds.same {H H' : Hp} {L : Addr} {g x : V} (s : Same H H') : Deeds H L g x → Deeds H' L g x
  | ⟨fs, h1, h2, h3⟩ => ⟨fs, s _ _ h1, h2, fun i f e => by
    obtain ⟨cl, c, h⟩ := h3 i f e
    exact ⟨cl, c, Kept.same s h⟩⟩
theorem Deeds.sx {st q : Addr} {b : Int} {H H' : Hp} {L : Addr} {g x : V} (hs : Spr H st q b) (n1 : L ≠ st) (n2 : L ≠ q) (s : SX st q H H') : Deeds H L g x → Deeds H' L g x
  | ⟨fs, h1, h2, h3⟩ => ⟨fs, s _ _ n1 n2 h1, h2, fun i f e => by
    obtain ⟨cl, c, h⟩ := h3 i f e
    exact ⟨cl, c, Kept.sx hs s h⟩⟩
theorem ded_of {K : PySem.W.Frag} {C : Addr} {H : Hp} {j : Nat} {gp xp : Addr} {nm : Str} {ls : List Str} (hg : Gn K C H (.ref gp)) (hx : ExAt K C H (.acc nm ls) xp) : DedAt K C H j (vsD j (.ref gp) (.ref xp)) := by
  refine ⟨gp, hg, ?_⟩
  unfold vsD
  cases hb : bothD j with
  | true => exact .inr ⟨xp, nm, ls, rfl, rfl, hx⟩
  | false => exact .inl ⟨rfl, rfl⟩
theorem dp_one {K : PySem.W.Frag} {H : Hp} {t : Addr} {z : Str} (h : SqT K H t [.str z]) : Dp K H (.ref t) (.tuple [.str z]) := .tup h (.cons (.str _) .nil)
/-- an item of the inner loop: what is handed, what is due -/
def ItOk (K : PySem.W.Frag) (C : Addr) (H : Hp) (v u : V) (e : Ex) : Prop := OpV K C H v e ∧ e.accs.length ≤ 1 ∧ (lts e.accs).length ≤ 20 ∧
  ((∃ (nm : Str) (ls : List Str) (t D : Addr), e = .acc nm ls ∧ ls.length ≤ 20 ∧ u = .ref D ∧ SqT K H D [.str nm, .ref t] ∧ SqT K H t (ls.map V.str)) ∨ (∃ (n : Int) (D : Addr), e = .num n ∧ u = .ref D ∧ SqT K H D [.int n]) ∨ (e.kind = "plus" ∧ u = .non))
theorem ItOk.same {K : PySem.W.Frag} {C : Addr} {H H' : Hp} {v u : V} {e : Ex} (g : Same H H') : ItOk K C H v u e → ItOk K C H' v u e
  | ⟨h1, h2, h3, h4⟩ => ⟨h1.same g, h2, h3, h4.imp (fun ⟨nm, ls, t, D, a, b, c, d, f⟩ => ⟨nm, ls, t, D, a, b, c, seqT g d, seqT g f⟩) fun h => h.imp (fun ⟨n, D, a, b, c⟩ => ⟨n, D, a, b, seqT g c⟩) id⟩
theorem sm_strs {K : PySem.W.Frag} {H : Hp} {f : Nat} (ls : List Str) : SmAll K H (f + 1) (ls.map V.str) (ls.map V.str) := ⟨rfl, fun i x y e1 e2 => by
  rw [e1] at e2
  cases e2
  rw [List.getElem?_map] at e1
  cases ez : ls[i]? with
  | none => rw [ez] at e1; cases e1
  | some z =>
    rw [ez] at e1
    cases e1
    exact Sm.str _⟩
theorem or_cut {A B : TT} {σ : St} {H : Hp} {Q : Bool → Hp → Prop} (Ok : Hp → Prop) (h1 : ∀ M : Bool → Hp → Prop, (∀ H1, Ok H1 → M false H1) → A σ H M) (h2 : ∀ H1, Ok H1 → B σ H1 Q) : tOr A B σ H Q :=
  h1 _ fun H1 k => iteF (h2 H1 k)
end Lw
namespace Lw
open PySem L2 OwB LamX ClX
abbrev s_law : Stmt := topS 112
abbrev n_law : List Str := ["_law_script", "_law_stream", "_law_turn", "_law_name_here", "_law_letters_here", "_law_other", "_law_more", "_law_x", "_law_y", "_law_n", "_law_is_gain", "_law_handed", "_law_due", "_law_gain", "_law_deeds_here", "_law_k", "_law_wrong"]
theorem sc_law : FnScope n_law ["_law_script"] (defScope s_law) := ⟨rfl, rfl, rfl, by decide +kernel, rfl, by decide +kernel, by decide +kernel⟩
def qLam : Str := "law.<locals>." ++ "<lambda>"
abbrev tbls (PL PB : Addr) : List (Addr × Str) := [(PL, qLam), (PB, qDeed)]
def spLaw (K : PySem.W.Frag) (PL PB : Addr) : Sp := fun vs H Q _ => ∃ (a : Addr) (ns : List Int), vs = [.ref a] ∧ SqL K H a (ns.map V.int) ∧ ns.length ≤ 63 ∧ H PL = some (.tbl #[]) ∧ H PB = some (.tbl #[]) ∧ ∀ H', Q (.bl true) H'
/-- an own operator of the package that comes through -/
structure Mb (P : Program) (w : World) (K : PySem.W.Frag) (mg : Str → Option Value) (base : Heap) (C : Addr) (dn : Str) (k : Nat) (ps : List Str) (sp : Sp) : Prop where
  ex : ∃ (g : Addr) (gd : FuncData), OpD K C g dn ∧ FnOk P w K mg base CX0 k g gd ps sp ∧ Binds K gd ps []
structure Mkr (P : Program) (w : World) (K : PySem.W.Frag) (mg : Str → Option Value) (base : Heap) (C : Addr) (x : Str) (k : Nat) (ps : List Str) (sp : Sp) : Prop where
  ex : ∃ (f : Addr) (d : FuncData), Mk K C f ∧ FnOk P w K mg base CX0 k f d ps sp ∧ Binds K d ps [] ∧ mg x = some (.ref C)
theorem li_fi (K : PySem.W.Frag) : PySem.W.findIn K (.type "int") (PySem.dunder "add") = some (some (.builtin "int.__add__")) := by kernel_rfl
theorem li_fr (K : PySem.W.Frag) : PySem.W.findIn K (.type "int") (PySem.dunderR "add") = some (some (.builtin "int.__radd__")) := by kernel_rfl
/-- what stays over a turn -/
structure Bs (K : PySem.W.Frag) (C : Addr) (T : List (Addr × Str)) (st q px py t1 t2 : Addr) (p1 p2 : Str × List Str) (H : Hp) (b : Int) : Prop where
  tb : Tabs T H
  sp : Spr H st q b
  x : ExAt K C H (.acc p1.1 p1.2) px
  y : ExAt K C H (.acc p2.1 p2.2) py
  s1 : SqT K H t1 (p1.2.map V.str)
  s2 : SqT K H t2 (p2.2.map V.str)
section
variable {K : PySem.W.Frag} {C : Addr} {T : List (Addr × Str)} {st q px py t1 t2 : Addr} {p1 p2 : Str × List Str} {H H' : Hp} {b b' : Int}
theorem Bs.same (g : Same H H') (h : Bs K C T st q px py t1 t2 p1 p2 H b) : Bs K C T st q px py t1 t2 p1 p2 H' b := ⟨h.tb.ext g, h.sp.same g, h.x.same g, h.y.same g, seqT g h.s1, seqT g h.s2⟩
theorem Bs.draw (s : Spr H' st q b') (g : SX st q H H') (h : Bs K C T st q px py t1 t2 p1 p2 H b) : Bs K C T st q px py t1 t2 p1 p2 H' b' := by
  have t := TI.sx (K := K) h.sp g
  exact ⟨tabs_sx h.sp g h.tb, s, acc_ti t h.x, acc_ti t h.y, t.tk _ _ h.s1, t.tk _ _ h.s2⟩
theorem Bs.en (t' : Tabs T H') (g : ExtN H H') (h : Bs K C T st q px py t1 t2 p1 p2 H b) : Bs K C T st q px py t1 t2 p1 p2 H' b := by
  have t := TI.en (K := K) g
  exact ⟨t', Spr.en g h.sp, acc_ti t h.x, acc_ti t h.y, t.tk _ _ h.s1, t.tk _ _ h.s2⟩
end
section
variable {P : Program} {w : World} {K : PySem.W.Frag} {mg : Str → Option Value} {base : Heap} {C NE NA AD ST PG BL WE fI AK fL cL PL PB fRf gra : Addr}
theorem ok_law {oc od kV doc pm an ct osl} (lkL : K.lookup fL = some ⟨oc, od, .func (PySem.W.fnOf "law" "law" (defArgs s_law) (defBody s_law) (defScope s_law) .none kV doc pm an (.ref cL) ct), osl⟩) (hcL : PySem.W.codeIn K (.ref cL) "law" = true)
    (B : Bt mg) (ne : PL ≠ PB) (T : Xc K mg C fI) (D : DE P w K mg base C NE NA AD ST)
    (cS : Ca P w K mg base 1 "_law_start" ["_law_script"] (spStart K)) (cM : Ca P w K mg base 14 "_law_same" ["_law_found", "_law_due"] (spSame K 14)) (cD : Ca P w K mg base 1 "_law_draw" ["_law_stream", "_law_many"] spDraw) (cP : Ca P w K mg base 2 "_law_pick" ["_law_stream", "_law_some"] (spPick K))
    (cOw : Ca P w K mg base 5 "_law_own_accesses" ["_law_stream", "_law_many"] (spOwn K)) (cLa : Ca P w K mg base 5 "_law_access" ["_law_name_here", "_law_letters_here"] (spLacc K C)) (cN : Ca P w K mg base 4 "number" ["n"] (spNum K C)) (cG : Ca P w K mg base 8 "_law_grown" n_l_grown (spGrw K C)) (cDe : Ca P w K mg base 1 "_law_deeds" ["_law_gain", "_law_x"] (spDeeds (tbls PL PB)))
    (ADD : Mb P w K mg base C "__add__" 7 ["self", "other"] (spJ2 K C "plus")) (R_add : PySem.W.findIn K (.ref C) "__radd__" = some (some (.ref gra))) (NEG : Mb P w K mg base C "__neg__" 6 ["self"] (spU1 K C "negative")) (ABS : Mb P w K mg base C "__abs__" 6 ["self"] (spU1 K C "absolute"))
    (MB : Mkr P w K mg base BL "Block" 2 ["self", "nodes"] (spBk0 K BL)) (XP : MkX P w K mg base PG "Program" 2 ["self", "target", "uses", "node"] [] (spPiX K C NA))
    (R : En K mg NA NE WE)
    {oc' od' kV' doc' pm' an' cd' ct' osl'} (lkR : K.lookup fRf = some ⟨oc', od', .func (PySem.W.fnOf "_law_end" "_law_end" (defArgs s_l_end) (defBody s_l_end) (defScope s_l_end) .none kV' doc' pm' an' cd' ct'), osl'⟩) (hcR : PySem.W.codeIn K cd' "_law_end" = true)
    (bRf : Binds K (PySem.W.fnOf "_law_end" "_law_end" (defArgs s_l_end) (defBody s_l_end) (defScope s_l_end) .none kV' doc' pm' an' cd' ct') ["_law_deed"] []) (kRf : PySem.W.keepIn K (.ref fRf) = true) (mRf : mg "_law_end" = some (.ref fRf))
    (TB : TabB base mg cL PL) :
    FnOk P w K mg base CX0 16 fL (PySem.W.fnOf "law" "law" (defArgs s_law) (defBody s_law) (defScope s_law) .none kV doc pm an (.ref cL) ct) ["_law_script"] (spLaw K PL PB) := by
  refine fn_of lkL hcL sc_law (fun vs H Q E h => ?_) fun A outer s H vs Q E hr h => ?_
  · obtain ⟨a, ns, rfl, _⟩ := h
    rfl
  obtain ⟨g_add, d_add, D_add, F_add, b_add⟩ := ADD.ex
  obtain ⟨g_neg, d_neg, D_neg, F_neg, b_neg⟩ := NEG.ex
  obtain ⟨g_abs, d_abs, D_abs, F_abs, b_abs⟩ := ABS.ex
  obtain ⟨fS, dS, ds, MS, FS, dvS, bS, mS⟩ := D.st.ex
  obtain ⟨fB, dB, MBk, FB, bB, mB⟩ := MB.ex
  obtain ⟨fP, dP, dsP, MP, FP, dvP, bP, mP⟩ := XP.ex
  have fin : ∃ t, PSs (cxOf CX0 P w K mg base n_law "law" (defScope s_law) fL (.ref cL) A outer s H E).nox (defBody s_law) t ∧ t { nx := fun _ H' => Q .non H', rt := Q } (start n_law vs) H := by
    obtain ⟨a, ns, rfl, hS, hn, hPL, hPB, k⟩ := h
    have uL : ∀ p ∈ tbls PL PB, p.1 = PL → p.2 = qLam := fun p hp e => by
      rcases List.mem_cons.mp hp with rfl | hp
      · rfl
      · rw [List.mem_singleton.mp hp] at e
        exact absurd e.symm ne
    refine ⟨_, (pss_cons (ps_set (i := 1) sc_law.nd rfl (Or.inl rfl) (pca cS hr (by decide) rfl (pa_cons (pv 0) pa_nil)))
(pss_cons (ps_for PassesOwn.never rfl (pi_range1 (by rfl) B.range (pa_cons pe_int pa_nil)) (pg_name (i := 2) sc_law.nd rfl (Or.inl rfl))
(pss_cons (ps_asg (pca cOw hr (by decide) rfl (pa_cons (pv 1) (pa_cons pe_int pa_nil))) (pg_lst rfl (pgs_cons (pg_tup rfl (pgs_cons (pg_name (i := 3) sc_law.nd rfl (Or.inl rfl)) (pgs_cons (pg_name (i := 4) sc_law.nd rfl (Or.inl rfl)) pgs_nil))) (pgs_cons (pg_tup rfl (pgs_cons (pg_name (i := 5) sc_law.nd rfl (Or.inl rfl)) (pgs_cons (pg_name (i := 6) sc_law.nd rfl (Or.inl rfl)) pgs_nil))) pgs_nil))))
(pss_cons (ps_asg (pe_tup (pa_cons (pca cLa hr (by decide) rfl (pa_cons (pv 3) (pa_cons (pv 4) pa_nil))) (pa_cons (pca cLa hr (by decide) rfl (pa_cons (pv 5) (pa_cons (pv 6) pa_nil))) pa_nil))) (pg_tup rfl (pgs_cons (pg_name (i := 7) sc_law.nd rfl (Or.inr rfl)) (pgs_cons (pg_name (i := 8) sc_law.nd rfl (Or.inl rfl)) pgs_nil))))
(C8.pss_cut (ps_asg (pe_tup (pa_cons (pe_op op_sub (pca cD hr (by decide) rfl (pa_cons (pv 1) (pa_cons pe_int pa_nil))) pe_int) (pa_cons (pe_cmpR op_eq (pca cD hr (by decide) rfl (pa_cons (pv 1) (pa_cons pe_int pa_nil))) pe_int (nomark _)) pa_nil))) (pg_tup rfl (pgs_cons (pg_name (i := 9) sc_law.nd rfl (Or.inr rfl)) (pgs_cons (pg_name (i := 10) sc_law.nd rfl (Or.inr rfl)) pgs_nil))))
(C8.pss_cut (ps_for PassesOwn.never rfl (pi_tup (pe_tup (pa_cons (pe_tup (pa_cons (pv 8) (pa_cons (pe_tup (pa_cons (pv 5) (pa_cons (pv 6) pa_nil))) pa_nil))) (pa_cons (pe_tup (pa_cons (pv 9) (pa_cons (pe_tup (pa_cons (pv 9) pa_nil)) pa_nil))) (pa_cons (pe_tup (pa_cons (pe_op (op_ownN (op := .Add) D.sf D_add R_add (.inr ⟨_, rfl⟩) (li_fi K) (li_fr K) D.sub F_add (hr.mono (by decide)) b_add pass0) (pv 8) (pv 9)) (pa_cons pe_non pa_nil))) pa_nil))))) (pg_tup rfl (pgs_cons (pg_name (i := 11) sc_law.nd rfl (Or.inl rfl)) (pgs_cons (pg_name (i := 12) sc_law.nd rfl (Or.inl rfl)) pgs_nil)))
(pss_cons (ps_set (i := 13) sc_law.nd rfl (Or.inr rfl) (pca cG hr (by decide) rfl (pa_cons (pv 7) (pa_cons (pv 11) (pa_cons (pv 10) pa_nil)))))
(C8.pss_cut (ps_if (PW.pt (pw_or (pt_cmpR op_ne (pe_fld (pv 13) rfl) (pe_ifExp (pt_val (pv 10)) pe_str pe_str) (nomark _)) (pw_or1 (pt_not (pt_val (pca cM hr (by decide) rfl (pa_cons (pe_fld (pe_ix ix_tup (pe_fld (pv 13) rfl) pe_int (fun _ _ => rfl)) rfl) (pa_cons (pe_tup (pa_cons (pv 3) (pa_cons (pv 4) pa_nil))) pa_nil))))))))
(pss_one (ps_ret pe_bl)) pss_nil)
(C8.pss_cut (ps_if (PW.pt (pw_or (PW.pt (pw_and (pt_cmpR op_notN (pv 12) pe_non (nomark _)) (pw_and1 (pt_not (pt_val (pca cM hr (by decide) rfl (pa_cons (pe_fld (pe_ix ix_tup (pe_fld (pv 13) rfl) pe_int (fun _ _ => rfl)) rfl) (pa_cons (pv 12) pa_nil)))))))) (pw_or1 (pt_cmpR op_ne (pe_fld (pv 7) rfl) pe_str (nomark _)))))
(pss_one (ps_ret pe_bl)) pss_nil)
(pss_one (ps_if (PW.pt (pw_or (PW.pt (pw_and (pt_cmpR op_isN (pv 12) pe_non (nomark _)) (pw_and1 (pt_cmpR op_ne (pe_fld (pe_ix ix_tup (pe_fld (pv 13) rfl) pe_int (fun _ _ => rfl)) rfl) pe_str (nomark _))))) (pw_or1 (pt_cmpR op_ne (pe_callB call_len_seq (by rfl) B.len PySem.boot_len (pa_cons (pe_fld (pv 13) rfl) pa_nil)) pe_int (nomark _)))))
(pss_one (ps_ret pe_bl)) pss_nil))))))
(pss_cons (ps_set (i := 14) sc_law.nd rfl (Or.inl rfl) (pca cDe hr (by decide) rfl (pa_cons (pca cG hr (by decide) rfl (pa_cons (pv 7) (pa_cons (pv 8) (pa_cons (pv 10) pa_nil)))) (pa_cons (pv 8) pa_nil))))
(C8.pss_cut (ps_for PassesOwn.never rfl (pi_range1 (by rfl) B.range (pa_cons pe_int pa_nil)) (pg_name (i := 15) sc_law.nd rfl (Or.inl rfl))
(pss_one (ps_if (pt_cmpR (op_neD hr.units) (pe_giveE (ι := Fin 26) (TT := TTe NA NE) (q := qDeed) (k := 13) (a := "_law_deed") (Ng := n_l_end) (fr := fun i => frD i.val) (b := fun i => lmB (deedE i.val)) (mkF := fun i => mkL (deedE i.val)) (tb := fun i => tbD K C NE i.val) (by rfl) mRf kRf lkR hcR bRf sc_l_end rfl (Or.inl rfl) (end_gives R) (hr.mono (by decide)) (fun _ _ _ => rfl) (fun _ _ _ => rfl) nscD bindD_all (fun i cl c f A outer s H E hr2 => body_all D i cl c f A outer s H E hr2) (pca cP hr (by decide) rfl (pa_cons (pv 1) (pa_cons (pv 14) pa_nil)))) (pe_tup (pa_cons pe_str pa_nil)) (nomark _))
(pss_one (ps_ret pe_bl)) pss_nil)))
(pss_cons (ps_set (i := 13) sc_law.nd rfl (Or.inr rfl) (pca cG hr (by decide) rfl (pa_cons (pv 7) (pa_cons (pv 8) (pa_cons (pv 10) pa_nil)))))
(C8.pss_cut (ps_set (i := 16) sc_law.nd rfl (Or.inr rfl) (pca cP hr (by decide) rfl (pa_cons (pv 1) (pa_cons (pe_lst (pa_cons (pca cN hr (by decide) rfl (pa_cons (pv 9) pa_nil)) (pa_cons (pe_op (op_ownN (op := .Add) D.sf D_add R_add (.inr ⟨_, rfl⟩) (li_fi K) (li_fr K) D.sub F_add (hr.mono (by decide)) b_add pass0) (pv 7) pe_int) (pa_cons (pe_un (un_own_neg D_neg F_neg (hr.mono (by decide)) b_neg pass0) (pv 7)) (pa_cons (pe_callB (call_absO D_abs (fnR_of F_abs b_abs) (hr.mono (by decide)) pass0) (by rfl) D.mAbs (by decide +kernel) (pa_cons (pv 8) pa_nil)) (pa_cons (pv 13) pa_nil)))))) pa_nil))))
(C8.pss_cut (ps_if (pt_cmpR (op_neD hr.units) (pe_lamcall (t := fun E => tCall (spGrX K C NA NE) [] E (tCons (tVar 16) (tCons (tVar 9) (tCons (tVar 10) tNil)))) (T := tbls PL PB) (TT := TTe NA NE) (Ng := n_l_end) (k := 13) (a := "_law_deed") (by rfl) mRf kRf lkR hcR bRf sc_l_end rfl (Or.inl rfl) (end_gives R) TB rfl (List.mem_cons_self ..) uL (hr.mono (by decide)) (lamS_by (by show lamSB (defScope s_law) _ = true; decide +kernel)) rfl (fun _ _ _ _ _ => rfl) (fun A outer s H E f c' hr2 => pcaX (E := E) D.gr hr2 (by decide) rfl (passes_call (takes_of rfl rfl rfl rfl) (fun _ _ _ _ h => h)) (pa_cons (pv 16) (pa_cons (pv 9) (pa_cons (pv 10) pa_nil))))) (pe_tup (pa_cons pe_str pa_nil)) (nomark _))
(pss_one (ps_ret pe_bl)) pss_nil)
(C8.pss_cut (ps_if (pt_cmpR (op_neD hr.units) (pe_lamcall (t := fun E => tMake ST (spStX K C NA NE) [.str "="] E (tCons (tVar 13) (tCons (tVar 7) tNil))) (T := tbls PL PB) (TT := TTe NA NE) (Ng := n_l_end) (k := 13) (a := "_law_deed") (by rfl) mRf kRf lkR hcR bRf sc_l_end rfl (Or.inl rfl) (end_gives R) TB rfl (List.mem_cons_self ..) uL (hr.mono (by decide)) (lamS_by (by show lamSB (defScope s_law) _ = true; decide +kernel)) rfl (fun _ _ _ _ _ => rfl) (fun A outer s H E f c' hr2 => pe_make (E := E) MS FS (hr2.mono (by decide)) (by rfl) mS bS dvS (passes_call (takes_of rfl rfl rfl rfl) (fun _ _ _ _ h => h)) (pa_cons (pv 13) (pa_cons (pv 7) pa_nil)))) (pe_tup (pa_cons pe_str pa_nil)) (nomark _))
(pss_one (ps_ret pe_bl)) pss_nil)
(C8.pss_cut (ps_if (pt_cmpR (op_neD hr.units) (pe_lamcall (t := fun E => tMake PG (spPiX K C NA) [] E (tCons (tVar 13) (tCons (tTup tNil) (tCons (tMake BL (spBk0 K BL) [] E0 (tCons (tTup tNil) tNil)) tNil)))) (T := tbls PL PB) (TT := TTe NA NE) (Ng := n_l_end) (k := 13) (a := "_law_deed") (by rfl) mRf kRf lkR hcR bRf sc_l_end rfl (Or.inl rfl) (end_gives R) TB rfl (List.mem_cons_self ..) uL (hr.mono (by decide)) (lamS_by (by show lamSB (defScope s_law) _ = true; decide +kernel)) rfl (fun _ _ _ _ _ => rfl) (fun A outer s H E f c' hr2 => pe_make (E := E) MP FP (hr2.mono (by decide)) (by rfl) mP bP dvP (passes_call (takes_of rfl rfl rfl rfl) (fun _ _ _ _ h => h)) (pa_cons (pv 13) (pa_cons (pe_tup pa_nil) (pa_cons (pe_make MBk FB (hr2.mono (by decide)) (by rfl) mB bB .nil pass0 (pa_cons (pe_tup pa_nil) pa_nil)) pa_nil))))) (pe_tup (pa_cons pe_str pa_nil)) (nomark _))
(pss_one (ps_ret pe_bl)) pss_nil)
(pss_one (ps_if (pt_cmpR (op_neD hr.units) (pe_lamcall (t := fun E => tMake ST (spStX K C NA NE) [.str "="] E (tCons (tCall (spNum K C) [] E0 (tCons (tC (.int 1)) tNil)) (tCons (tVar 13) tNil))) (T := tbls PL PB) (TT := TTe NA NE) (Ng := n_l_end) (k := 13) (a := "_law_deed") (by rfl) mRf kRf lkR hcR bRf sc_l_end rfl (Or.inl rfl) (end_gives R) TB rfl (List.mem_cons_self ..) uL (hr.mono (by decide)) (lamS_by (by show lamSB (defScope s_law) _ = true; decide +kernel)) rfl (fun _ _ _ _ _ => rfl) (fun A outer s H E f c' hr2 => pe_make (E := E) MS FS (hr2.mono (by decide)) (by rfl) mS bS dvS (passes_call (takes_of rfl rfl rfl rfl) (fun _ _ _ _ h => h)) (pa_cons (pca cN hr2 (by decide) rfl (pa_cons pe_int pa_nil)) (pa_cons (pv 13) pa_nil)))) (pe_tup (pa_cons pe_str pa_nil)) (nomark _))
(pss_one (ps_ret pe_bl)) pss_nil))))))))))))))
(pss_one (ps_ret pe_bl)))), ?_⟩
    refine ⟨_, rfl, a, ns, rfl, hS, hn, fun st q H1 g1 hs1 => ?_⟩
    have hT1 : Tabs (tbls PL PB) H1 := fun p hp => by
      rcases List.mem_cons.mp hp with rfl | hp
      · exact TabS.nil (g1 _ _ hPL)
      · rw [List.mem_singleton.mp hp]
        exact TabS.nil (g1 _ _ hPB)
    refine ⟨5, rfl, by decide, by decide, for_range (lo := 0) (n := 5) (fun i σ' H' => ∃ (b : Int) (u2 u3 u4 u5 u6 u7 u8 u9 u10 u11 u12 u13 u14 u15 u16 : Option V), σ' = [some (.ref a), some (.ref st), u2, u3, u4, u5, u6, u7, u8, u9, u10, u11, u12, u13, u14, u15, u16] ∧ Tabs (tbls PL PB) H' ∧ Spr H' st q b ∧ 0 ≤ b ∧ b ≤ 80 * i)
      ⟨0, _, _, _, _, _, _, _, _, _, _, _, _, _, _, _, rfl, hT1, hs1, by decide, by decide⟩ ?_ (fun _ _ _ => k _)⟩
    rintro i σ' H2 hi ⟨b, u2, u3, u4, u5, u6, u7, u8, u9, u10, u11, u12, u13, u14, u15, u16, rfl, hT2, hs2, hb0, hb1⟩
    refine ⟨_, rfl, st, q, b, 2, rfl, by decide, hs2, hb0, by omega, fun r us ps b3 H3 hlen hps hok hb3 hb4 hs3 g3 hr3 hr0 => ?_⟩
    obtain ⟨v1, v2, rfl⟩ : ∃ x y, us = [x, y] := by
      match us, hlen with
      | [x, y], _ => exact ⟨x, y, rfl⟩
    cases hps with
    | cons h1 z1 =>
    cases z1 with
    | cons h2 z2 =>
    cases z2 with
    | nil =>
    rename_i p1 p2
    obtain ⟨a1, t1, rfl, ha1, ht1⟩ := h1
    obtain ⟨a2, t2, rfl, ha2, ht2⟩ := h2
    have ok1 := hok p1 (by simp)
    have ok2 := hok p2 (by simp)
    obtain ⟨⟨nd1, l1⟩, _⟩ := ok1
    obtain ⟨⟨nd2, l2⟩, _⟩ := ok2
    refine ⟨r, _, rfl, SqL.of hr3, rfl, _, _, rfl, a1, _, rfl, ha1, rfl, _, _, rfl, _, _, rfl, rfl, _, _, rfl, a2, _, rfl, ha2, rfl, _, _, rfl, _, _, rfl, rfl, rfl, ?_⟩
    refine ⟨_, rfl, _, rfl, p1.1, p1.2, t1, rfl, ht1, l1, nd1, fun px H4 g4 hx => ?_⟩
    refine ⟨_, rfl, _, rfl, p2.1, p2.2, t2, rfl, seqT g4 ht2, l2, nd2, fun py H5 g5 hy => ?_⟩
    refine ⟨(by show 2 ≤ sizeLine; decide), fun T5 hT5 => ?_⟩
    have g6 := same_new hT5 (.tup [.ref px, .ref py])
    refine ⟨T5, _, rfl, SqT.of upd_same, rfl, _, _, rfl, _, _, rfl, rfl, ?_⟩
    have B6 : Bs K C (tbls PL PB) st q px py t1 t2 p1 p2 (upd H5 T5 (.tup [.ref px, .ref py])) b3 := by
      have g46 := (g4.trans g5).trans g6
      exact ⟨(tabs_sx hs2 g3 hT2).ext g46, hs3.same g46, hx.same (g5.trans g6), hy.same g6, seqT g46 ht1, seqT g46 ht2⟩
    revert B6
    generalize upd H5 T5 (.tup [.ref px, .ref py]) = H6
    intro B6
    clear hT5 g6 hy g5 hx g4 ha1 ha2 ht1 ht2 hr3 hr0 g3 hs3
    have hb5 : 0 ≤ b3 := by omega
    have hb6 : b3 ≤ 80 * i + 64 := by omega
    have hi5 : (i : Int) ≤ 4 := by omega
    refine ⟨fun σ' H' => ∃ (n : Int) (g : Bool) (b' : Int), σ' = [some (.ref a), some (.ref st), some (.int (0 + (i : Int))), some (.str p1.1), some (.ref t1), some (.str p2.1), some (.ref t2), some (.ref px), some (.ref py), some (.int n), some (.bl g), u11, u12, u13, u14, u15, u16] ∧ Bs K C (tbls PL PB) st q px py t1 t2 p1 p2 H' b' ∧ b3 ≤ b' ∧ b' ≤ b3 + 2, ?_, ?_⟩
    · refine ⟨_, rfl, st, q, b3, 40, rfl, B6.sp, by omega, by omega, by decide, by decide, fun d H7 d0 d1 hs7 g7 => ?_⟩
      refine ⟨_, _, rfl, rfl, ?_⟩
      refine ⟨_, rfl, st, q, b3 + 1, 2, rfl, hs7, by omega, by omega, by decide, by decide, fun e H8 e0 e1 hs8 g8 => ?_⟩
      refine ⟨rfl, (by show 2 ≤ sizeLine; decide), fun T8 hT8 => ?_⟩
      have B8 := (B6.draw hs7 g7).draw hs8 g8
      exact ⟨T8, _, rfl, SqT.of upd_same, rfl, _, _, rfl, _, _, rfl, rfl, _, _, _, rfl, B8.same (same_new hT8 _), by omega, by omega⟩
    rintro σ' H7 ⟨n, g, b7, rfl, B7, hb7, hb8⟩
    have Bx := B7
    obtain ⟨dy, fy, hyi⟩ := inst_of' B7.y
    -- the inner loop
    refine ⟨fun σ' H' => ∃ (w11 w12 w13 : Option V), σ' = [some (.ref a), some (.ref st), some (.int (0 + (i : Int))), some (.str p1.1), some (.ref t1), some (.str p2.1), some (.ref t2), some (.ref px), some (.ref py), some (.int n), some (.bl g), w11, w12, w13, u14, u15, u16] ∧ Same H7 H', ?_, ?_⟩
    · refine ⟨_, rfl, _, rfl, _, rfl, (by show 2 ≤ sizeLine; decide), fun D1 hD1 => ⟨(by show 2 ≤ sizeLine; decide), fun T1 hT1 => ?_⟩⟩
      have k1 := same_new hD1 (.tup [.str p2.1, .ref t2])
      have k2 := same_new hT1 (.tup [.ref py, .ref D1])
      refine ⟨_, rfl, _, rfl, (by show 1 ≤ sizeLine; decide), fun D2 hD2 => ⟨(by show 2 ≤ sizeLine; decide), fun T2 hT2 => ?_⟩⟩
      have k3 := same_new hD2 (.tup [.int n])
      have k4 := same_new hT2 (.tup [.int n, .ref D2])
      have k14 := ((k1.trans k2).trans k3).trans k4
      have hy4 := B7.y.same k14
      have l2' : (lts (Ex.acc p2.1 p2.2).accs).length ≤ 3 := by
        show ((p2.2 ++ []) : List Str).length ≤ 3
        rw [List.append_nil]
        exact l2
      refine ⟨_, rfl, _, rfl, py, dy, fy, n, rfl, rfl, k14 _ _ hyi, _, _, rfl, "plus", _, _, .acc p2.1 p2.2, .num n, rfl, ⟨kne _ _, kne _ _, kne _ _, kne _ _⟩, .inr ⟨py, rfl, hy4⟩, .inl ⟨n, rfl, rfl⟩, ⟨by show 1 ≤ 400; decide, by omega⟩, ⟨by show 0 ≤ 400; decide, by show 0 ≤ 31; decide⟩, fun sm H8 k5 hsm => ?_⟩
      refine ⟨(by show 2 ≤ sizeLine; decide), fun T3 hT3 => ⟨(by show 3 ≤ sizeLine; decide), fun TT hTT => ?_⟩⟩
      have k6 := same_new hT3 (.tup [.ref sm, .non])
      have k7 := same_new hTT (.tup [.ref T1, .ref T2, .ref T3])
      have kA := ((k14.trans k5).trans k6).trans k7
      have kB : Same _ _ := (k5.trans k6).trans k7
      have i1 : ItOk K C (upd (upd H8 T3 (.tup [.ref sm, .non])) TT (.tup [.ref T1, .ref T2, .ref T3])) (.ref py) (.ref D1) (.acc p2.1 p2.2) := ⟨.inr ⟨py, rfl, hy4.same kB⟩, by show 1 ≤ 1; decide, by omega, .inl ⟨_, _, t2, D1, rfl, by omega, rfl, seqT ((((k2.trans k3).trans k4).trans kB)) (SqT.of upd_same), seqT (k14.trans kB) B7.s2⟩⟩
      have i2 : ItOk K C (upd (upd H8 T3 (.tup [.ref sm, .non])) TT (.tup [.ref T1, .ref T2, .ref T3])) (.int n) (.ref D2) (.num n) := ⟨.inl ⟨n, rfl, rfl⟩, by show 0 ≤ 1; decide, by show 0 ≤ 20; decide, .inr (.inl ⟨n, D2, rfl, rfl, seqT (k4.trans kB) (SqT.of upd_same)⟩)⟩
      have i3 : ItOk K C (upd (upd H8 T3 (.tup [.ref sm, .non])) TT (.tup [.ref T1, .ref T2, .ref T3])) (.ref sm) .non (.bi "plus" (.acc p2.1 p2.2) (.num n)) := ⟨.inr ⟨sm, rfl, hsm.same (k6.trans k7)⟩, by show 1 ≤ 1; decide, by show (lts ((Ex.acc p2.1 p2.2).accs ++ [])).length ≤ 20; rw [List.append_nil]; omega, .inr (.inr ⟨rfl, rfl⟩)⟩
      have hTu : SqT K (upd (upd H8 T3 (.tup [.ref sm, .non])) TT (.tup [.ref T1, .ref T2, .ref T3])) TT [.ref T1, .ref T2, .ref T3] := SqT.of upd_same
      have s1 : SqT K (upd (upd H8 T3 (.tup [.ref sm, .non])) TT (.tup [.ref T1, .ref T2, .ref T3])) T1 [.ref py, .ref D1] := seqT ((k3.trans k4).trans kB) (SqT.of upd_same)
      have s2 : SqT K (upd (upd H8 T3 (.tup [.ref sm, .non])) TT (.tup [.ref T1, .ref T2, .ref T3])) T2 [.int n, .ref D2] := seqT kB (SqT.of upd_same)
      have s3 : SqT K (upd (upd H8 T3 (.tup [.ref sm, .non])) TT (.tup [.ref T1, .ref T2, .ref T3])) T3 [.ref sm, .non] := seqT k7 (SqT.of upd_same)
      revert kA i1 i2 i3 hTu s1 s2 s3
      generalize upd (upd H8 T3 (.tup [.ref sm, .non])) TT (.tup [.ref T1, .ref T2, .ref T3]) = HX
      intro kA i1 i2 i3 hTu s1 s2 s3
      clear hD1 hT1 k1 k2 hD2 hT2 k3 k4 k14 hy4 k5 hsm hT3 hTT k6 k7 kB
      refine ⟨TT, rfl, ⟨_, hTu⟩, for_tup (K := K) (a := TT) (xs := [.ref T1, .ref T2, .ref T3]) (fun i' σ' H' => ∃ (w11 w12 w13 : Option V), σ' = [some (.ref a), some (.ref st), some (.int (0 + (i : Int))), some (.str p1.1), some (.ref t1), some (.str p2.1), some (.ref t2), some (.ref px), some (.ref py), some (.int n), some (.bl g), w11, w12, w13, u14, u15, u16] ∧ Same HX H') ⟨_, _, _, rfl, Same.refl _⟩ (fun i' σ' H' _ ⟨_, _, _, _, gg⟩ => seqT gg hTu) ?_ ?_⟩
      · rintro i' x σ' H9 hxi ⟨w11, w12, w13, rfl, g9⟩
        obtain ⟨Tx, v, u, e, rfl, hTx, hIt⟩ : ∃ (Tx : Addr) (v u : V) (e : Ex), x = .ref Tx ∧ SqT K H9 Tx [v, u] ∧ ItOk K C H9 v u e := by
          match i' with
          | 0 =>
            cases hxi
            exact ⟨_, _, _, _, rfl, seqT g9 s1, i1.same g9⟩
          | 1 =>
            cases hxi
            exact ⟨_, _, _, _, rfl, seqT g9 s2, i2.same g9⟩
          | 2 =>
            cases hxi
            exact ⟨_, _, _, _, rfl, seqT g9 s3, i3.same g9⟩
          | i' + 3 => cases hxi
        refine ⟨Tx, _, rfl, hTx, rfl, _, _, rfl, _, _, rfl, rfl, ?_⟩
        have B9 := B7.same (kA.trans g9)
        obtain ⟨hop, ea, el, hcase⟩ := hIt
        refine ⟨_, rfl, _, rfl, _, rfl, g, _, _, rfl, px, p1.1, p1.2, e, rfl, B9.x, hop, by omega, ea, el, fun o HA gA hA => ?_⟩
        obtain ⟨bb, as, m, ⟨dx, tp, ta, tl, us, ys, ho, htp, _⟩, hp, he⟩ := hA
        obtain ⟨t', ⟨dxp, tpp, _, _, _, _, hpx, htpp, _⟩, ht'⟩ := hp
        have c9 := seqT gA B9.s1
        have fin9 : ∀ H', Same HA H' → ∃ (w11 w12 w13 : Option V), [some (V.ref a), some (.ref st), some (.int (0 + (i : Int))), some (.str p1.1), some (.ref t1), some (.str p2.1), some (.ref t2), some (.ref px), some (.ref py), some (.int n), some (.bl g), some v, some u, some (.ref o), u14, u15, u16] = [some (.ref a), some (.ref st), some (.int (0 + (i : Int))), some (.str p1.1), some (.ref t1), some (.str p2.1), some (.ref t2), some (.ref px), some (.ref py), some (.int n), some (.bl g), w11, w12, w13, u14, u15, u16] ∧ Same HX H' := fun H' gg => ⟨_, _, _, rfl, (g9.trans gA).trans gg⟩
        -- the kind, the access
        refine ⟨fun σ' H' => σ' = [some (V.ref a), some (.ref st), some (.int (0 + (i : Int))), some (.str p1.1), some (.ref t1), some (.str p2.1), some (.ref t2), some (.ref px), some (.ref py), some (.int n), some (.bl g), some v, some u, some (.ref o), u14, u15, u16] ∧ Same HA H', ?_, ?_⟩
        · refine or_cut (fun H' => Same HA H') (fun M hM => ?_) (fun HC gC => ?_)
          · refine ⟨_, rfl, o, C, dx, _, _, rfl, ho, T.ic.cl, T.nK, fE_k, ?_⟩
            refine ⟨_, rfl, _, rfl, ?_⟩
            cases g with
            | true => exact iteT ⟨rfl, _, rfl, hM _ (Same.refl _)⟩
            | false => exact iteF ⟨rfl, _, rfl, hM _ (Same.refl _)⟩
          · refine ⟨_, rfl, o, C, dx, _, _, rfl, gC _ _ ho, T.ic.cl, T.nP, fE_p, ?_⟩
            refine ⟨tp, _, (0 : Int), .ref px, rfl, rfl, seqT gC htp, atI_nat (j := 0) rfl, ?_⟩
            refine ⟨px, C, dxp, _, _, rfl, gC _ _ hpx, T.ic.cl, T.nP, fE_p, ?_⟩
            refine ⟨_, rfl, _, rfl, (by show 2 ≤ sizeLine; decide), fun tt htt => ?_⟩
            have gt := same_new htt (.tup [.str p1.1, .ref t1])
            refine ⟨_, _, rfl, Sm.tup (n := 13) (seqT (gC.trans gt) htpp) (SqT.of upd_same) (by show 2 ≤ 1000; decide) (.cons (.str _) (.cons (.tup (n := 12) (seqT (gC.trans gt) ht') (seqT (gC.trans gt) c9) (by rw [List.length_map]; omega) (sm_strs _)) .nil)), fun HD gD => ?_⟩
            exact ⟨_, rfl, iteF ⟨rfl, (gC.trans gt).trans gD⟩⟩
        rintro σ' HC ⟨rfl, gC⟩
        -- what is due
        refine ⟨fun σ' H' => σ' = [some (V.ref a), some (.ref st), some (.int (0 + (i : Int))), some (.str p1.1), some (.ref t1), some (.str p2.1), some (.ref t2), some (.ref px), some (.ref py), some (.int n), some (.bl g), some v, some u, some (.ref o), u14, u15, u16] ∧ Same HA H', ?_, ?_⟩
        · refine or_cut (fun H' => Same HA H') (fun M hM => ?_) (fun HD gD => ?_)
          · rcases hcase with ⟨nm', ls', t3, D', rfl, hl3, rfl, hD', ht3⟩ | ⟨n', D', rfl, rfl, hD'⟩ | ⟨_, rfl⟩
            · have e1 : (!decide (V.ref D' = V.non)) = true := by simp
              refine ⟨_, rfl, rfl, _, rfl, iteC e1 ?_⟩
              refine ⟨_, rfl, o, C, dx, _, _, rfl, gC _ _ ho, T.ic.cl, T.nP, fE_p, ?_⟩
              refine ⟨tp, _, (1 : Int), .ref bb, rfl, rfl, seqT gC htp, atI_nat (j := 1) rfl, ?_⟩
              obtain ⟨t5, ⟨dxb, tpb, _, _, _, _, hbb, htpb, _⟩, ht5⟩ := he
              refine ⟨bb, C, dxb, _, _, rfl, gC _ _ hbb, T.ic.cl, T.nP, fE_p, ?_⟩
              refine ⟨_, rfl, _, _, rfl, Sm.tup (n := 13) (seqT gC htpb) (seqT (gA.trans gC) hD') (by show 2 ≤ 1000; decide) (.cons (.str _) (.cons (.tup (n := 12) (seqT gC ht5) (seqT (gA.trans gC) ht3) (by rw [List.length_map]; omega) (sm_strs _)) .nil)), fun HD gD => ?_⟩
              exact ⟨_, rfl, hM _ (gC.trans gD)⟩
            · have e1 : (!decide (V.ref D' = V.non)) = true := by simp
              refine ⟨_, rfl, rfl, _, rfl, iteC e1 ?_⟩
              refine ⟨_, rfl, o, C, dx, _, _, rfl, gC _ _ ho, T.ic.cl, T.nP, fE_p, ?_⟩
              refine ⟨tp, _, (1 : Int), .ref bb, rfl, rfl, seqT gC htp, atI_nat (j := 1) rfl, ?_⟩
              obtain ⟨dxb, tpb, _, _, _, _, hbb, htpb, _⟩ := he
              refine ⟨bb, C, dxb, _, _, rfl, gC _ _ hbb, T.ic.cl, T.nP, fE_p, ?_⟩
              refine ⟨_, rfl, _, _, rfl, Sm.tup (n := 13) (seqT gC htpb) (seqT (gA.trans gC) hD') (by show 1 ≤ 1000; decide) (.cons (.int _) .nil), fun HD gD => ?_⟩
              exact ⟨_, rfl, hM _ (gC.trans gD)⟩
            · have e1 : (!decide (V.non = V.non)) = false := by simp
              exact ⟨_, rfl, rfl, _, rfl, iteN e1 (hM _ gC)⟩
          · exact ⟨_, rfl, px, C, dxp, _, _, rfl, gD _ _ hpx, T.ic.cl, T.nK, fE_k, rfl, _, rfl, iteF ⟨rfl, gD⟩⟩
        rintro σ' HD ⟨rfl, gD⟩
        refine or_cut (fun H' => Same HA H') (fun M hM => ?_) (fun HE gE => ?_)
        · have nn : ∀ D' : Addr, decide (V.ref D' = V.non) = false := fun D' => by simp
          rcases hcase with ⟨nm', ls', t3, D', rfl, hl3, rfl, hD', ht3⟩ | ⟨n', D', rfl, rfl, hD'⟩ | ⟨ek, rfl⟩
          · exact ⟨_, rfl, rfl, _, rfl, iteN (nn D') (hM _ gD)⟩
          · exact ⟨_, rfl, rfl, _, rfl, iteN (nn D') (hM _ gD)⟩
          · have e1 : decide (V.non = V.non) = true := by simp
            refine ⟨_, rfl, rfl, _, rfl, iteC e1 ?_⟩
            refine ⟨_, rfl, o, C, dx, _, _, rfl, gD _ _ ho, T.ic.cl, T.nP, fE_p, ?_⟩
            refine ⟨tp, _, (1 : Int), .ref bb, rfl, rfl, seqT gD htp, atI_nat (j := 1) rfl, ?_⟩
            obtain ⟨_, dxb, tpb, _, _, _, _, hbb, htpb, _⟩ := he.hd
            rw [ek] at hbb
            exact ⟨bb, C, dxb, _, _, rfl, gD _ _ hbb, T.ic.cl, T.nK, fE_k, rfl, _, rfl, hM _ gD⟩
        · exact ⟨_, rfl, o, C, dx, _, _, rfl, gE _ _ ho, T.ic.cl, T.nP, fE_p, tp, _, rfl, .inr (seqT gE htp), rfl, _, rfl, iteF (fin9 _ gE)⟩
      · rintro σ' H9 ⟨w11, w12, w13, rfl, g9⟩
        exact ⟨_, _, _, rfl, kA.trans g9⟩
    rintro σ' H9 ⟨w11, w12, w13, rfl, g79⟩
    have B9 := B7.same g79
    clear Bx hyi B7 B6
    have l2' : (lts (Ex.acc p2.1 p2.2).accs).length ≤ 20 := by
      show ((p2.2 ++ []) : List Str).length ≤ 20
      rw [List.append_nil]
      omega
    -- the deeds
    refine ⟨_, rfl, _, rfl, _, rfl, g, _, _, rfl, px, p1.1, p1.2, .acc p2.1 p2.2, rfl, B9.x, .inr ⟨py, rfl, B9.y⟩, by omega, (by show 1 ≤ 1; decide), l2', fun o HA gA hA => ?_⟩
    have BA := B9.same gA
    refine ⟨_, rfl, _, _, rfl, BA.tb, fun L fs HB eB tB hL hLf hl26 hK => ?_⟩
    have BB := BA.en tB eB
    have hgo : Gn K C HB (.ref o) := gn_ti (TI.en eB) hA.gn
    have hDe : Deeds HB L (.ref o) (.ref py) := ⟨fs, hL, hl26, hK⟩
    have nL : L ≠ st ∧ L ≠ q := by
      obtain ⟨zs, za, zc, z1, z2, _⟩ := BA.sp
      exact ⟨(fun z => by obtain ⟨ps, e⟩ := hLf _ (by rw [z]; exact z1); cases e), (fun z => by obtain ⟨ps, e⟩ := hLf _ (by rw [z]; exact z2); cases e)⟩
    clear hLf hK hL eB tB
    refine ⟨fun σ' H' => ∃ (w15 : Option V), σ' = [some (.ref a), some (.ref st), some (.int (0 + (i : Int))), some (.str p1.1), some (.ref t1), some (.str p2.1), some (.ref t2), some (.ref px), some (.ref py), some (.int n), some (.bl g), w11, w12, w13, some (.ref L), w15, u16] ∧ Bs K C (tbls PL PB) st q px py t1 t2 p1 p2 H' (b7 + 6), ?_, ?_⟩
    · refine ⟨6, rfl, by decide, by decide, for_range (lo := 0) (n := 6) (fun j σ' H' => ∃ (w15 : Option V), σ' = [some (.ref a), some (.ref st), some (.int (0 + (i : Int))), some (.str p1.1), some (.ref t1), some (.str p2.1), some (.ref t2), some (.ref px), some (.ref py), some (.int n), some (.bl g), w11, w12, w13, some (.ref L), w15, u16] ∧ Bs K C (tbls PL PB) st q px py t1 t2 p1 p2 H' (b7 + j) ∧ Deeds H' L (.ref o) (.ref py) ∧ Gn K C H' (.ref o))
        ⟨_, rfl, by rw [show b7 + ((0 : Nat) : Int) = b7 from Int.add_zero b7]; exact BB, hDe, hgo⟩ ?_ (fun σ' H' ⟨w15, e1, e2, _⟩ => ⟨w15, e1, e2⟩)⟩
      rintro j σ' HC hj ⟨w15, rfl, BC, hDC, hgC⟩
      obtain ⟨fs, hLC, hlC, hKC⟩ := hDC
      refine ⟨_, rfl, _, rfl, st, q, L, b7 + j, _, rfl, BC.sp, by omega, by omega, hLC, nL.1, nL.2, by rw [List.length_map]; omega, by rw [List.length_map]; omega, fun v HD hv hsD gD => ?_⟩
      have BD := BC.draw hsD gD
      have hDD : Deeds HD L (.ref o) (.ref py) := Deeds.sx BC.sp nL.1 nL.2 gD ⟨fs, hLC, hlC, hKC⟩
      have hgD : Gn K C HD (.ref o) := gn_ti (TI.sx BC.sp gD) hgC
      obtain ⟨m, hm⟩ := List.mem_iff_getElem?.mp hv
      rw [List.getElem?_map] at hm
      cases ef : fs[m]? with
      | none => rw [ef] at hm; cases hm
      | some f =>
      rw [ef] at hm
      cases hm
      have hm26 : m < 26 := by
        have := (List.getElem?_eq_some_iff.mp ef).1
        omega
      obtain ⟨cl, c, hKf⟩ := hKC ⟨m, hm26⟩ f ef
      have hKD := Kept.sx BC.sp gD hKf
      refine ⟨⟨m, hm26⟩, f, c, cl, _, rfl, hKD, fun hlam => fun HE gE => ?_⟩
      have tE : TI K HD HE := (TI.kc (KC.less fun y d e => hKD.cell e)).trans (TI.same gE)
      refine ⟨gE _ _ hlam, _, rfl, ded_of (gn_ti tE hgD) (acc_ti tE BD.y), fun HF gF => .inr ⟨rfl, fun t ht hfree => ?_⟩⟩
      have gS := more_same (H' := upd HF t (.tup [.str "NotAnExpression"])) (fun b o e => (same_new ht (.tup [.str "NotAnExpression"])) b o (gF b o (gE b o e)))
      have ht' : more (mkL (deedE m) cl c) HD (upd HF t (.tup [.str "NotAnExpression"])) t = some (.tup [.str "NotAnExpression"]) := by
        rw [more_out (fun hb => by have z := hfree t hb; rw [upd_same] at z; cases z), upd_same]
      revert gS ht'
      show _ → _
      generalize more (mkL (deedE m) cl c) HD (upd HF t (.tup [.str "NotAnExpression"])) = HG
      intro gS ht'
      have gS : Same HD HG := gS
      refine ⟨(by show 1 ≤ sizeLine; decide), fun t4 ht4 => ?_⟩
      have gt4 := same_new ht4 (.tup [.str "NotAnExpression"])
      refine ⟨_, _, dp_one (SqT.of (gt4 _ _ ht')), dp_one (SqT.of upd_same), by decide +kernel, by decide +kernel, _, rfl, iteN (by decide +kernel) ⟨_, rfl, ?_, hDD.same (gS.trans gt4), hgD.same (gS.trans gt4)⟩⟩
      have z := BD.same (gS.trans gt4)
      rw [show b7 + ((j + 1 : Nat) : Int) = b7 + (j : Int) + 1 by omega]
      exact z
    rintro σ' HC ⟨w15, rfl, BC⟩
    clear hDe hgo BB BA hA gA B9
    -- what is no access
    refine ⟨_, rfl, _, rfl, _, rfl, g, _, _, rfl, px, p1.1, p1.2, .acc p2.1 p2.2, rfl, BC.x, .inr ⟨py, rfl, BC.y⟩, by omega, (by show 1 ≤ 1; decide), l2', fun o2 HD gD hA2 => ?_⟩
    have BD := BC.same gD
    have hk2 := hA2.hask
    have hn2 := gK_na g
    refine ⟨fun σ' H' => ∃ (wp : Addr) (kw : Str), σ' = [some (.ref a), some (.ref st), some (.int (0 + (i : Int))), some (.str p1.1), some (.ref t1), some (.str p2.1), some (.ref t2), some (.ref px), some (.ref py), some (.int n), some (.bl g), w11, w12, some (.ref o2), some (.ref L), w15, some (.ref wp)] ∧ Bs K C (tbls PL PB) st q px py t1 t2 p1 p2 H' (b7 + 6 + 1) ∧ HasK K C H' (gK g) o2 ∧ HasK K C H' kw wp ∧ kw ≠ "access", ?_, ?_⟩
    · have sx : Sm0 (Ex.acc p1.1 p1.2) := ⟨by show 1 ≤ 400; decide, by show ((p1.2 ++ []) : List Str).length ≤ 31; rw [List.append_nil]; omega⟩
      have sy : Sm0 (Ex.acc p2.1 p2.2) := ⟨by show 1 ≤ 400; decide, by show ((p2.2 ++ []) : List Str).length ≤ 31; rw [List.append_nil]; omega⟩
      refine ⟨_, rfl, _, rfl, n, rfl, fun q1 I1 k1 e1 => ?_⟩
      obtain ⟨dx1, fx1, hx1⟩ := inst_of' (BD.x.same k1)
      refine ⟨_, rfl, px, dx1, fx1, 1, rfl, rfl, hx1, _, _, rfl, "plus", _, _, .acc p1.1 p1.2, .num 1, rfl, ⟨kne _ _, kne _ _, kne _ _, kne _ _⟩, .inr ⟨px, rfl, BD.x.same k1⟩, .inl ⟨1, rfl, rfl⟩, sx, ⟨by show 0 ≤ 400; decide, by show 0 ≤ 31; decide⟩, fun q2 I2 k2 e2 => ?_⟩
      have hx2 := BD.x.same (k1.trans k2)
      obtain ⟨dx2, fx2, hx2i⟩ := inst_of' hx2
      refine ⟨_, rfl, px, dx2, fx2, rfl, hx2i, _, .acc p1.1 p1.2, rfl, .inr ⟨px, rfl, hx2⟩, sx, ⟨kne _ _, kne _ _, kne _ _, kne _ _⟩, fun q3 I3 k3 e3 => ?_⟩
      have hy3 := BD.y.same ((k1.trans k2).trans k3)
      obtain ⟨dy3, fy3, hy3i⟩ := inst_of' hy3
      refine ⟨_, rfl, py, dy3, fy3, rfl, hy3i, _, .acc p2.1 p2.2, rfl, .inr ⟨py, rfl, hy3⟩, sy, ⟨kne _ _, kne _ _, kne _ _, kne _ _⟩, fun q4 I4 k4 e4 => ?_⟩
      refine ⟨_, rfl, (by show 5 ≤ sizeLine; decide), fun W hW => ?_⟩
      have k5 := same_new hW (.lst [.ref q1, .ref q2, .ref q3, .ref q4, .ref o2])
      have kk := (((k1.trans k2).trans k3).trans k4).trans k5
      have BE := BD.same kk
      obtain ⟨nW1, nW2⟩ := (BD.sp.same (((k1.trans k2).trans k3).trans k4)).out hW
      refine ⟨st, q, W, b7 + 6, _, rfl, BE.sp, by omega, by omega, upd_same, nW1, nW2, (by show 0 < 5; decide), (by show 5 ≤ 1000; decide), fun v HE hv hsE gE => ?_⟩
      have TE := TI.sx (K := K) BE.sp gE
      have w1 : ∃ (p : Addr) (kd : Str), v = .ref p ∧ HasK K C HE kd p ∧ kd ≠ "access" := by
        simp only [List.mem_cons, List.not_mem_nil, or_false] at hv
        rcases hv with rfl | rfl | rfl | rfl | rfl
        · exact ⟨q1, _, rfl, hask_ti TE ((HasK.of e1).same (((k2.trans k3).trans k4).trans k5)), kne _ _⟩
        · exact ⟨q2, _, rfl, hask_ti TE ((HasK.of e2).same ((k3.trans k4).trans k5)), kne _ _⟩
        · exact ⟨q3, _, rfl, hask_ti TE ((HasK.of e3).same (k4.trans k5)), kne _ _⟩
        · exact ⟨q4, _, rfl, hask_ti TE ((HasK.of e4).same k5), kne _ _⟩
        · exact ⟨o2, _, rfl, hask_ti TE (hk2.same kk), hn2⟩
      obtain ⟨wp, kw, rfl, hw, nw⟩ := w1
      exact ⟨wp, kw, rfl, BE.draw hsE gE, hask_ti TE (hk2.same kk), hw, nw⟩
    rintro σ' HE ⟨wp, kw, rfl, BE, hkE, hwE, nwE⟩
    clear hk2 hA2 BD BC gD
    refine ⟨fun σ' H' => σ' = [some (.ref a), some (.ref st), some (.int (0 + (i : Int))), some (.str p1.1), some (.ref t1), some (.str p2.1), some (.ref t2), some (.ref px), some (.ref py), some (.int n), some (.bl g), w11, w12, some (.ref o2), some (.ref L), w15, some (.ref wp)] ∧ Bs K C (tbls PL PB) st q px py t1 t2 p1 p2 H' (b7 + 6 + 1) ∧ HasK K C H' (gK g) o2, ?_, ?_⟩
    · refine ⟨BE.tb, fun H10 e10 T10 => fun H11 g11 => ?_⟩
      have B11 := (BE.en T10 e10).same g11
      have x11 : TI K HE H11 := (TI.en e10).trans (TI.same g11)
      refine ⟨_, rfl, _, rfl, _, rfl, g, _, _, rfl, wp, rfl, .inl ⟨kw, hask_ti x11 hwE, nwE, .inl ⟨rfl, fun t ht => ?_⟩⟩⟩
      have gt := same_new ht (.tup [.str "NotAnAccess"])
      refine ⟨(by show 1 ≤ sizeLine; decide), fun t4 ht4 => ?_⟩
      have gt4 := same_new ht4 (.tup [.str "NotAnAccess"])
      exact ⟨_, _, dp_one (SqT.of (gt4 _ _ upd_same)), dp_one (SqT.of upd_same), by decide +kernel, by decide +kernel, _, rfl, iteN (by decide +kernel) ⟨rfl, B11.same (gt.trans gt4), (hask_ti x11 hkE).same (gt.trans gt4)⟩⟩
    rintro σ' HF ⟨rfl, BF, hkF⟩
    refine ⟨fun σ' H' => σ' = [some (.ref a), some (.ref st), some (.int (0 + (i : Int))), some (.str p1.1), some (.ref t1), some (.str p2.1), some (.ref t2), some (.ref px), some (.ref py), some (.int n), some (.bl g), w11, w12, some (.ref o2), some (.ref L), w15, some (.ref wp)] ∧ Bs K C (tbls PL PB) st q px py t1 t2 p1 p2 H' (b7 + 6 + 1) ∧ HasK K C H' (gK g) o2, ?_, ?_⟩
    · refine ⟨BF.tb, fun H10 e10 T10 => fun H11 g11 => ?_⟩
      have B11 := (BF.en T10 e10).same g11
      have x11 : TI K HF H11 := (TI.en e10).trans (TI.same g11)
      refine ⟨_, rfl, _, rfl, fun x dx nx ndx _ => ?_⟩
      have gx := same2 nx ndx (.own x) (.ins ST dx [])
      refine ⟨x, o2, _, _, rfl, .inl ⟨gK g, (hask_ti x11 hkF).same gx, hn2, .inl ⟨rfl, fun t ht => ?_⟩⟩⟩
      have gt := same_new ht (.tup [.str "NotAnAccess"])
      refine ⟨(by show 1 ≤ sizeLine; decide), fun t4 ht4 => ?_⟩
      have gt4 := same_new ht4 (.tup [.str "NotAnAccess"])
      exact ⟨_, _, dp_one (SqT.of (gt4 _ _ upd_same)), dp_one (SqT.of upd_same), by decide +kernel, by decide +kernel, _, rfl, iteN (by decide +kernel) ⟨rfl, B11.same ((gx.trans gt).trans gt4), (hask_ti x11 hkF).same ((gx.trans gt).trans gt4)⟩⟩
    rintro σ' HG ⟨rfl, BG, hkG⟩
    refine ⟨fun σ' H' => σ' = [some (.ref a), some (.ref st), some (.int (0 + (i : Int))), some (.str p1.1), some (.ref t1), some (.str p2.1), some (.ref t2), some (.ref px), some (.ref py), some (.int n), some (.bl g), w11, w12, some (.ref o2), some (.ref L), w15, some (.ref wp)] ∧ Bs K C (tbls PL PB) st q px py t1 t2 p1 p2 H' (b7 + 6 + 1) ∧ HasK K C H' (gK g) o2, ?_, ?_⟩
    · refine ⟨BG.tb, fun H10 e10 T10 => fun H11 g11 => ?_⟩
      have B11 := (BG.en T10 e10).same g11
      have x11 : TI K HG H11 := (TI.en e10).trans (TI.same g11)
      refine ⟨_, rfl, (by show 0 ≤ sizeLine; decide), fun ta hta => ⟨(by show 0 ≤ sizeLine; decide), fun tb htb => ?_⟩⟩
      have ga := same_new hta (.tup [])
      have gb := same_new htb (.tup [])
      intro y dy' ny ndy nyd
      have gy := same2 ny ndy (.own y) (.ins BL dy' [])
      refine ⟨y, dy', tb, rfl, upd_same, seqT gy (SqT.of upd_same), fun HH kH => ⟨rfl, fun x dx nx ndx _ => ?_⟩⟩
      have gH := made_same ny ndy kH
      have gx := same2 nx ndx (.own x) (.ins PG dx [])
      have gg := ((ga.trans gb).trans gH).trans gx
      refine ⟨x, o2, gK g, _, _, rfl, (hask_ti x11 hkG).same gg, hn2, .inl ⟨rfl, fun t ht => ?_⟩⟩
      have gt := same_new ht (.tup [.str "NotAnAccess"])
      refine ⟨(by show 1 ≤ sizeLine; decide), fun t4 ht4 => ?_⟩
      have gt4 := same_new ht4 (.tup [.str "NotAnAccess"])
      exact ⟨_, _, dp_one (SqT.of (gt4 _ _ upd_same)), dp_one (SqT.of upd_same), by decide +kernel, by decide +kernel, _, rfl, iteN (by decide +kernel) ⟨rfl, B11.same ((gg.trans gt).trans gt4), (hask_ti x11 hkG).same ((gg.trans gt).trans gt4)⟩⟩
    rintro σ' HH ⟨rfl, BH, hkH⟩
    refine ⟨BH.tb, fun H10 e10 T10 => fun H11 g11 => ?_⟩
    have B11 := (BH.en T10 e10).same g11
    refine ⟨1, rfl, fun p H12 g12 hp12 => ⟨_, rfl, fun x dx nx ndx _ => ?_⟩⟩
    have gx := same2 nx ndx (.own x) (.ins ST dx [])
    refine ⟨x, p, _, _, rfl, .inl ⟨"number", (HasK.of hp12).same gx, kne _ _, .inl ⟨rfl, fun t ht => ?_⟩⟩⟩
    have gt := same_new ht (.tup [.str "NotAnAccess"])
    refine ⟨(by show 1 ≤ sizeLine; decide), fun t4 ht4 => ?_⟩
    have gt4 := same_new ht4 (.tup [.str "NotAnAccess"])
    have B12 := B11.same (((g12.trans gx).trans gt).trans gt4)
    exact ⟨_, _, dp_one (SqT.of (gt4 _ _ upd_same)), dp_one (SqT.of upd_same), by decide +kernel, by decide +kernel, _, rfl, iteN (by decide +kernel) ⟨b7 + 6 + 1, _, _, _, _, _, _, _, _, _, _, _, _, _, _, _, rfl, B12.tb, B12.sp, by omega, by omega⟩⟩
  obtain ⟨t, ht, hq⟩ := fin
  exact ⟨t, ht.nox, hq⟩
end
end Lw
namespace Lw
open PySem L2 OwB TL LamX ClX
/-- a def of the text, as the top leaves it -/
structure Dx (K : PySem.W.Frag) (mg : Str → Option Value) (x : Str) (st : Stmt) (f : Addr) (fd : FuncData) : Prop where
  F : Fun K x x st f fd
  m : mg x = some (.ref f)
theorem dx_mk {K : PySem.W.Frag} {h : Heap} {mg : Str → Option Value} {x : Str} {st : Stmt} {f : Addr} (X : K.In h) (G : h.Ns mainGlobals mg) {od an : Option Addr} {sl : Array (Option Value)} {oc kV dc pm cd ct : Value}
    (a : PySem.W.nsIn K mainGlobals x = some (some (.ref f))) (l : K.lookup f = some ⟨oc, od, .func (PySem.W.fnOf x x (defArgs st) (defBody st) (defScope st) .none kV dc pm an cd ct), sl⟩) (c : PySem.W.codeIn K cd x = true) (k : PySem.W.keepIn K (.ref f) = true) :
    Dx K mg x st f (PySem.W.fnOf x x (defArgs st) (defBody st) (defScope st) .none kV dc pm an cd ct) := ⟨fun_mk l c k, PySem.W.mg_of X G a⟩
/-- a method of the class at C -/
structure Mx (K : PySem.W.Frag) (C : Addr) (x qual : Str) (st : Stmt) (f : Addr) (fd : FuncData) : Prop where
  F : Fun K x qual st f fd
  o : Meth K C x f
theorem mx_mk {K : PySem.W.Frag} {C : Addr} {x qual : Str} {st : Stmt} {f : Addr} {od an : Option Addr} {sl : Array (Option Value)} {oc kV dc pm cd ct : Value}
    (a : PySem.W.findIn K (.ref C) x = some (some (.ref f))) (i : PySem.W.isFn K (.ref f) = true) (l : K.lookup f = some ⟨oc, od, .func (PySem.W.fnOf x qual (defArgs st) (defBody st) (defScope st) .none kV dc pm an cd ct), sl⟩) (c : PySem.W.codeIn K cd qual = true) (k : PySem.W.keepIn K (.ref f) = true) :
    Mx K C x qual st f (PySem.W.fnOf x qual (defArgs st) (defBody st) (defScope st) .none kV dc pm an cd ct) := ⟨fun_mk l c k, ⟨a, i, k⟩⟩
theorem kit_me {K : PySem.W.Frag} {C : Addr} : PySem.W.kitOne K (.ref C) (.ref C) = some true := by
  unfold PySem.W.kitOne
  rw [if_pos (beq_self_eq_true _)]
theorem sq_const {K : PySem.W.Frag} {H : Hp} {a : Addr} {xs : List V} {od : Option Addr} {its : Array Value} {n : Nat} {sl : Array (Option Value)} (l : K.lookup a = some ⟨.type "tuple", od, .seq its n, sl⟩) (h : its.size ≤ sizeLine) (v : Vals xs its.toList) : SqT K H a xs :=
  .inr ⟨_, its, n, l, rfl, rfl, h, v⟩
theorem kit_noR {K : PySem.W.Frag} {n : String} {C : Addr} (h1 : PySem.W.isClsIn K C = true) (h2 : PySem.W.typeIn K (.ref C) = some (.type "type")) (h3 : PySem.W.subIn K (.type n) (.ref C) = some false) : PySem.W.kitOne K (.type n) (.ref C) = some false := by
  unfold PySem.W.kitOne
  rw [if_neg (by intro e; cases (beq_iff_eq.mp e))]
  show (if ((PySem.W.clsIn K C).isSome && PySem.W.typeIn K (.ref C) == some (.type "type")) = true then PySem.W.subIn K (.type n) (.ref C) else none) = _
  have c1 : (PySem.W.clsIn K C).isSome = true := h1
  rw [if_pos (by rw [c1, h2] <;> rfl)]
  exact h3
theorem kit_noT {K : PySem.W.Frag} {C : Addr} {T : String} (h1 : PySem.W.kitMeta T = true) (h3 : PySem.W.subIn K (.ref C) (.type T) = some false) : PySem.W.kitOne K (.ref C) (.type T) = some false := by
  unfold PySem.W.kitOne
  rw [if_neg (by intro e; cases (beq_iff_eq.mp e))]
  show (if PySem.W.kitMeta T = true then PySem.W.subIn K (.ref C) (.type T) else none) = _
  rw [if_pos h1]
  exact h3
theorem fsubS (K : PySem.W.Frag) (C : Addr) : PySem.W.subIn K (.type "str") (.ref C) = some false := by kernel_rfl
theorem fsubT (K : PySem.W.Frag) (C : Addr) : PySem.W.subIn K (.type "tuple") (.ref C) = some false := by kernel_rfl
theorem fsub (K : PySem.W.Frag) (C : Addr) : PySem.W.subIn K (.type "int") (.ref C) = some false := by kernel_rfl
theorem ok_sames {P : Program} {w : World} {K : PySem.W.Frag} {mg : Str → Option Value} {base : Heap} {f : Addr} {fd : FuncData} (F : Fun K "_law_same" "_law_same" sSame f fd) (bF : Binds K fd ["_law_found", "_law_due"] []) (mF : mg "_law_same" = some (.ref f)) (B : Bt mg) :
    ∀ n : Nat, FnOk P w K mg base CX0 n f fd ["_law_found", "_law_due"] (spSame K n)
  | 0 => none_left fun vs H Q E ⟨_, _, _, h, _⟩ => h
  | n + 1 => ok_same F (ok_sames F bF mF B n) bF F.kp mF B
theorem ca_of {P : Program} {w : World} {K : PySem.W.Frag} {mg : Str → Option Value} {base : Heap} {x : Str} {s : Stmt} {f : Addr} {fd : FuncData} {n : Nat} {ps : List Str} {sp : Sp} (D : Dx K mg x s f fd) (b : Binds K fd ps []) (G : FnOk P w K mg base CX0 n f fd ps sp) : Ca P w K mg base n x ps sp := ⟨f, fd, G, b, D.F.kp, D.m⟩
theorem cx_of {P : Program} {w : World} {K : PySem.W.Frag} {mg : Str → Option Value} {base : Heap} {x : Str} {s : Stmt} {f : Addr} {fd : FuncData} {n : Nat} {ps : List Str} {sp : Sp} (D : Dx K mg x s f fd) (b : Binds K fd ps []) (G : FnOk P w K mg base (L2.CX P w) n f fd ps sp) : CaX P w K mg base n x ps sp := ⟨f, fd, G, b, D.F.kp, D.m⟩
theorem all_mk {l : PySem.W.OpenLaw} {w : World} {K : PySem.W.Frag} {h : Heap} {mg : Str → Option Value} {fa : Addr} (X : K.In h) (G : h.Ns mainGlobals mg) (hfa : mg "law" = some (.ref fa))
    {fL cL PL fB0 cB PB fE0 fOp NA NE WE XC fXC AD fAD PG fPG BL fBL ST fST dfl AK LT TA1 TA2 TA3 gra grn g0mul g0xor f_is_whole f_ascending f_access f_number f_check_letters f_check_expression f_joined f_is_allowed f_numbered f_assigned f_is_access f_frozen f_polynomial f_active f_value_of f_greater f_lesser f_below f_at_most f_equal f_unequal f__law_draw f__law_start f__law_pick f__law_mixed f__law_same f__law_name f__law_names f__law_letters f__law_own_accesses f__law_access f__law_grown o_add o_sub o_rmul o_and o_or o_rxor o_floordiv o_pow o_lshift o_rshift o_neg o_pos o_invert o_abs o_iadd o_isub : Addr} {d_is_whole d_ascending d_access d_number d_check_letters d_check_expression d_joined d_is_allowed d_numbered d_assigned d_is_access d_frozen d_polynomial d_active d_value_of d_greater d_lesser d_below d_at_most d_equal d_unequal d__law_draw d__law_start d__law_pick d__law_mixed d__law_same d__law_name d__law_names d__law_letters d__law_own_accesses d__law_access d__law_grown p_add p_sub p_rmul p_and p_or p_rxor p_floordiv p_pow p_lshift p_rshift p_neg p_pos p_invert p_abs p_iadd p_isub : FuncData} {cd_e cd_f cd_g cd_h cd_i cd_j cd_k ct_a ct_c ct_e ct_f ct_g ct_h ct_i ct_j ct_k dc_a dc_c dc_e dc_f dc_g dc_h dc_i dc_j dc_k kV_a kV_c kV_e kV_f kV_g kV_h kV_i kV_j kV_k oc_a oc_b oc_c oc_d oc_e oc_f oc_g oc_h oc_i oc_j oc_k pm_a pm_c pm_e pm_f pm_g pm_h pm_i pm_j pm_k : Value} {an_a an_c an_e an_f an_g an_h an_i an_j an_k od_a od_b od_c od_d od_e od_f od_g od_h od_i od_j od_k od_l od_m ot1 ot2 ot3 : Option Addr} {sl_a sl_b sl_c sl_d sl_e sl_f sl_g sl_h sl_i sl_j sl_k sl_l sl_m st1 st2 st3 : Array (Option Value)} {vs_b vs_d its_l its_m it1 it2 it3 : Array Value} {nn_l nn_m nt1 nt2 nt3 en : Nat} {es : Array DictEntry}
    (lA : PySem.W.nsIn K mainGlobals "law" = some (some (.ref fL)))
    (lL : K.lookup fL = some ⟨oc_a, od_a, .func (PySem.W.fnOf "law" "law" (defArgs s_law) (defBody s_law) (defScope s_law) .none kV_a dc_a pm_a an_a (.ref cL) ct_a), sl_a⟩)
    (lC : PySem.W.codeIn K (.ref cL) "law" = true)
    (lk : PySem.W.keepIn K (.ref fL) = true)
    (lo : K.lookup cL = some ⟨oc_b, od_b, .fields vs_b, sl_b⟩)
    (lp : vs_b[11]? = some (.ref PL))
    (lq : PySem.W.codeHdIn K cL PL = true)
    (lr : K.lookup PL = none)
    (ls : h.get? PL = some { cls := .none, data := .fields #[] })
    (bA : PySem.W.nsIn K mainGlobals "_law_deeds" = some (some (.ref fB0)))
    (bL : K.lookup fB0 = some ⟨oc_c, od_c, .func (PySem.W.fnOf "_law_deeds" "_law_deeds" (defArgs s_l_deeds) (defBody s_l_deeds) (defScope s_l_deeds) .none kV_c dc_c pm_c an_c (.ref cB) ct_c), sl_c⟩)
    (bC : PySem.W.codeIn K (.ref cB) "_law_deeds" = true)
    (bk : PySem.W.keepIn K (.ref fB0) = true)
    (bo : K.lookup cB = some ⟨oc_d, od_d, .fields vs_d, sl_d⟩)
    (bp : vs_d[11]? = some (.ref PB))
    (bq : PySem.W.codeHdIn K cB PB = true)
    (br : K.lookup PB = none)
    (bs : h.get? PB = some { cls := .none, data := .fields #[] })
    (ne0 : PL ≠ PB)
    (eA : PySem.W.nsIn K mainGlobals "_law_end" = some (some (.ref fE0)))
    (eL : K.lookup fE0 = some ⟨oc_e, od_e, .func (PySem.W.fnOf "_law_end" "_law_end" (defArgs s_l_end) (defBody s_l_end) (defScope s_l_end) .none kV_e dc_e pm_e an_e cd_e ct_e), sl_e⟩)
    (eC : PySem.W.codeIn K cd_e "_law_end" = true)
    (ek : PySem.W.keepIn K (.ref fE0) = true)
    (oA : PySem.W.nsIn K mainGlobals "operand_of_expressions" = some (some (.ref fOp)))
    (oL : K.lookup fOp = some ⟨oc_f, od_f, .func (PySem.W.fnOf "operand_of" "operand_of" (defArgs sOpd) (defBody sOpd) (defScope sOpd) .none kV_f dc_f pm_f an_f cd_f ct_f), sl_f⟩)
    (oC : PySem.W.codeIn K cd_f "operand_of" = true)
    (ok : PySem.W.keepIn K (.ref fOp) = true)
    (rNAA : PySem.W.nsIn K mainGlobals "NotAnAccess" = some (some (.ref NA)))
    (rNAx : PySem.W.excIn K NA [.type "ValueError", .type "Exception", .type "BaseException", .type "object"] "ValueError.__new__" = true)
    (rNAk : PySem.W.keepIn K (.ref NA) = true)
    (rNAr : PySem.W.subIn K (.ref NA) (.type "BaseException") = some true)
    (rNAt : PySem.W.typeIn K (.ref NA) = some (.type "type"))
    (rNEA : PySem.W.nsIn K mainGlobals "NotAnExpression" = some (some (.ref NE)))
    (rNEx : PySem.W.excIn K NE [.type "ValueError", .type "Exception", .type "BaseException", .type "object"] "ValueError.__new__" = true)
    (rNEk : PySem.W.keepIn K (.ref NE) = true)
    (rNEr : PySem.W.subIn K (.ref NE) (.type "BaseException") = some true)
    (rNEt : PySem.W.typeIn K (.ref NE) = some (.type "type"))
    (rWE : PySem.W.nsIn K mainGlobals "WalkError" = some (some (.ref WE)))
    (hNA : PySem.W.hasDictIn K NA = true)
    (hNE : PySem.W.hasDictIn K NE = true)
    (sNANA : PySem.W.subIn K (.ref NA) (.ref NA) = some true)
    (sNENA : PySem.W.subIn K (.ref NE) (.ref NA) = some false)
    (sNENE : PySem.W.subIn K (.ref NE) (.ref NE) = some true)
    (xA : PySem.W.nsIn K mainGlobals "Expression" = some (some (.ref XC)))
    (x1 : PySem.W.findIn K (.ref XC) "__init__" = some (some (.ref fXC)))
    (x2 : PySem.W.isFn K (.ref fXC) = true)
    (xiL : K.lookup fXC = some ⟨oc_g, od_g, .func (PySem.W.fnOf "__init__" "Expression.__init__" (defArgs sXini) (defBody sXini) (defScope sXini) .none kV_g dc_g pm_g an_g cd_g ct_g), sl_g⟩)
    (xiC : PySem.W.codeIn K cd_g "Expression.__init__" = true)
    (xik : PySem.W.keepIn K (.ref fXC) = true)
    (xmk : PySem.W.makesIn K XC = true)
    (xk : PySem.W.keepIn K (.ref XC) = true)
    (xpg : PySem.W.plainGet K XC Str.empty = true)
    (xhd : PySem.W.hasDictIn K XC = true)
    (xpo : PySem.W.plainOver K XC = true)
    (xsa : PySem.W.findIn K (.ref XC) "__setattr__" = some (some (.builtin "object.__setattr__")))
    (xnK : PySem.W.findIn K (.ref XC) "kind" = some none)
    (xnP : PySem.W.findIn K (.ref XC) "parts" = some none)
    (xnN : PySem.W.findIn K (.ref XC) "node_count" = some none)
    (xnA : PySem.W.findIn K (.ref XC) "accesses" = some none)
    (xnL : PySem.W.findIn K (.ref XC) "letters" = some none)
    (dA : PySem.W.nsIn K mainGlobals "Add" = some (some (.ref AD)))
    (d1 : PySem.W.findIn K (.ref AD) "__init__" = some (some (.ref fAD)))
    (d2 : PySem.W.isFn K (.ref fAD) = true)
    (diL : K.lookup fAD = some ⟨oc_h, od_h, .func (PySem.W.fnOf "__init__" "Add.__init__" (defArgs s_ad) (defBody s_ad) (defScope s_ad) .none kV_h dc_h pm_h an_h cd_h ct_h), sl_h⟩)
    (diC : PySem.W.codeIn K cd_h "Add.__init__" = true)
    (dik : PySem.W.keepIn K (.ref fAD) = true)
    (dmk : PySem.W.makesIn K AD = true)
    (dk : PySem.W.keepIn K (.ref AD) = true)
    (pA : PySem.W.nsIn K mainGlobals "Program" = some (some (.ref PG)))
    (p1 : PySem.W.findIn K (.ref PG) "__init__" = some (some (.ref fPG)))
    (p2 : PySem.W.isFn K (.ref fPG) = true)
    (piL : K.lookup fPG = some ⟨oc_i, od_i, .func (PySem.W.fnOf "__init__" "Program.__init__" (defArgs s_prog) (defBody s_prog) (defScope s_prog) .none kV_i dc_i pm_i an_i cd_i ct_i), sl_i⟩)
    (piC : PySem.W.codeIn K cd_i "Program.__init__" = true)
    (pik : PySem.W.keepIn K (.ref fPG) = true)
    (pmk : PySem.W.makesIn K PG = true)
    (pk : PySem.W.keepIn K (.ref PG) = true)
    (uA : PySem.W.nsIn K mainGlobals "Block" = some (some (.ref BL)))
    (u1 : PySem.W.findIn K (.ref BL) "__init__" = some (some (.ref fBL)))
    (u2 : PySem.W.isFn K (.ref fBL) = true)
    (uiL : K.lookup fBL = some ⟨oc_j, od_j, .func (PySem.W.fnOf "__init__" "Block.__init__" (defArgs s_blk) (defBody s_blk) (defScope s_blk) .none kV_j dc_j pm_j an_j cd_j ct_j), sl_j⟩)
    (uiC : PySem.W.codeIn K cd_j "Block.__init__" = true)
    (uik : PySem.W.keepIn K (.ref fBL) = true)
    (umk : PySem.W.makesIn K BL = true)
    (uk : PySem.W.keepIn K (.ref BL) = true)
    (upg : PySem.W.plainGet K BL Str.empty = true)
    (uhd : PySem.W.hasDictIn K BL = true)
    (upo : PySem.W.plainOver K BL = true)
    (usa : PySem.W.findIn K (.ref BL) "__setattr__" = some (some (.builtin "object.__setattr__")))
    (unN : PySem.W.findIn K (.ref BL) "nodes" = some none)
    (tA : PySem.W.nsIn K mainGlobals "Statement" = some (some (.ref ST)))
    (t1 : PySem.W.findIn K (.ref ST) "__init__" = some (some (.ref fST)))
    (t2 : PySem.W.isFn K (.ref fST) = true)
    (tiL : K.lookup fST = some ⟨oc_k, od_k, .func (PySem.W.fnOf "__init__" "Statement.__init__" (defArgs s_stm) (defBody s_stm) (defScope s_stm) (.ref dfl) kV_k dc_k pm_k an_k cd_k ct_k), sl_k⟩)
    (tiC : PySem.W.codeIn K cd_k "Statement.__init__" = true)
    (tik : PySem.W.keepIn K (.ref fST) = true)
    (tmk : PySem.W.makesIn K ST = true)
    (tk : PySem.W.keepIn K (.ref ST) = true)
    (dl : K.lookup dfl = some ⟨.type "tuple", od_l, .seq its_l nn_l, sl_l⟩)
    (dz : its_l.size ≤ sizeLine)
    (dv : Vals [V.str "="] its_l.toList)
    (xe4 : PySem.W.findIn K (.ref XC) "__class__" = some (some (.builtin "object.__class__")))
    (xe5 : PySem.W.specialIn K (.builtin "object.__class__") "__get__" = some (some (.builtin "getset_descriptor.__get__")))
    (xe6 : PySem.W.takesIn K (.builtin "object.__class__") = some true)
    (xe7 : PySem.W.mroIn K XC (.type "object") = some true)
    (xic : PySem.W.isClsIn K XC = true)
    (xty : PySem.W.typeIn K (.ref XC) = some (.type "type"))
    (xsi : PySem.W.subIn K (.ref XC) (.type "int") = some false)
    (xsf : PySem.W.selfFirst K XC = true)
    (akA : PySem.W.nsIn K mainGlobals "ASSIGNED_KINDS" = some (some (.ref AK)))
    (akl : K.lookup AK = some ⟨.type "tuple", od_m, .seq its_m nn_m, sl_m⟩)
    (akz : its_m.size ≤ sizeLine)
    (akv : Vals [V.str "gain", V.str "loss"] its_m.toList)
    (yA : PySem.W.nsIn K mainGlobals "LIMITS" = some (some (.ref LT)))
    (yl : K.lookup LT = some ⟨.type "dict", none, .dict es en, #[]⟩)
    (yke : PySem.W.KeysLit w.params es.toList)
    (yo : (LT == sysModules) = false)
    (yq : PySem.W.nsIn K LT "quotient" = some none)
    (yp1 : PySem.W.nsIn K LT "power" = some (some (.ref TA1)))
    (yt1 : K.lookup TA1 = some ⟨.type "tuple", ot1, .seq it1 nt1, st1⟩)
    (yz1 : it1.size ≤ sizeLine)
    (yv1 : Vals [V.int 1, V.int 4] it1.toList)
    (yp2 : PySem.W.nsIn K LT "left" = some (some (.ref TA2)))
    (yt2 : K.lookup TA2 = some ⟨.type "tuple", ot2, .seq it2 nt2, st2⟩)
    (yz2 : it2.size ≤ sizeLine)
    (yv2 : Vals [V.int 0, V.int 60] it2.toList)
    (yp3 : PySem.W.nsIn K LT "right" = some (some (.ref TA3)))
    (yt3 : K.lookup TA3 = some ⟨.type "tuple", ot3, .seq it3 nt3, st3⟩)
    (yz3 : it3.size ≤ sizeLine)
    (yv3 : Vals [V.int 0, V.int 60] it3.toList)
    (radd : PySem.W.findIn K (.ref XC) "__radd__" = some (some (.ref gra)))
    (rand : PySem.W.findIn K (.ref XC) "__rand__" = some (some (.ref grn)))
    (nr_floordiv : PySem.W.findIn K (.ref XC) "__rfloordiv__" = some none)
    (nr_pow : PySem.W.findIn K (.ref XC) "__rpow__" = some none)
    (nr_lshift : PySem.W.findIn K (.ref XC) "__rlshift__" = some none)
    (nr_rshift : PySem.W.findIn K (.ref XC) "__rrshift__" = some none)
    (z0mul : PySem.W.findIn K (.ref XC) "__mul__" = some (some (.ref g0mul)))
    (z1mul : PySem.W.isFn K (.ref g0mul) = true)
    (z0xor : PySem.W.findIn K (.ref XC) "__xor__" = some (some (.ref g0xor)))
    (z1xor : PySem.W.isFn K (.ref g0xor) = true)
    (z_isinstance : PySem.W.nsIn K mainGlobals "isinstance" = some none)
    (z_list : PySem.W.nsIn K mainGlobals "list" = some none)
    (z_tuple : PySem.W.nsIn K mainGlobals "tuple" = some none)
    (z_len : PySem.W.nsIn K mainGlobals "len" = some none)
    (z_all : PySem.W.nsIn K mainGlobals "all" = some none)
    (z_zip : PySem.W.nsIn K mainGlobals "zip" = some none)
    (z_dict : PySem.W.nsIn K mainGlobals "dict" = some none)
    (z_int : PySem.W.nsIn K mainGlobals "int" = some none)
    (z_bool : PySem.W.nsIn K mainGlobals "bool" = some none)
    (z_range : PySem.W.nsIn K mainGlobals "range" = some none)
    (z_sum : PySem.W.nsIn K mainGlobals "sum" = some none)
    (z_set : PySem.W.nsIn K mainGlobals "set" = some none)
    (z_sorted : PySem.W.nsIn K mainGlobals "sorted" = some none)
    (z_enumerate : PySem.W.nsIn K mainGlobals "enumerate" = some none)
    (z_str : PySem.W.nsIn K mainGlobals "str" = some none)
    (z_abs : PySem.W.nsIn K mainGlobals "abs" = some none)
    (D_is_whole : Dx K mg "is_whole" sWhole f_is_whole d_is_whole)
    (D_ascending : Dx K mg "ascending" sAsc f_ascending d_ascending)
    (D_access : Dx K mg "access" sAcc f_access d_access)
    (D_number : Dx K mg "number" sNum f_number d_number)
    (D_check_letters : Dx K mg "check_letters" sChkL f_check_letters d_check_letters)
    (D_check_expression : Dx K mg "check_expression" sChkE f_check_expression d_check_expression)
    (D_joined : Dx K mg "joined" sJoin f_joined d_joined)
    (D_is_allowed : Dx K mg "is_allowed" sAlw f_is_allowed d_is_allowed)
    (D_numbered : Dx K mg "numbered" sNbd f_numbered d_numbered)
    (D_assigned : Dx K mg "assigned" s_assigned f_assigned d_assigned)
    (D_is_access : Dx K mg "is_access" s_is_access f_is_access d_is_access)
    (D_frozen : Dx K mg "frozen" sFrozen f_frozen d_frozen)
    (D_polynomial : Dx K mg "polynomial" s_polynomial f_polynomial d_polynomial)
    (D_active : Dx K mg "active" s_active f_active d_active)
    (D_value_of : Dx K mg "value_of" s_value_of f_value_of d_value_of)
    (D_greater : Dx K mg "greater" s_greater f_greater d_greater)
    (D_lesser : Dx K mg "lesser" s_lesser f_lesser d_lesser)
    (D_below : Dx K mg "below" s_below f_below d_below)
    (D_at_most : Dx K mg "at_most" s_at_most f_at_most d_at_most)
    (D_equal : Dx K mg "equal" s_equal f_equal d_equal)
    (D_unequal : Dx K mg "unequal" s_unequal f_unequal d_unequal)
    (D__law_draw : Dx K mg "_law_draw" sDraw f__law_draw d__law_draw)
    (D__law_start : Dx K mg "_law_start" sStart f__law_start d__law_start)
    (D__law_pick : Dx K mg "_law_pick" sPick f__law_pick d__law_pick)
    (D__law_mixed : Dx K mg "_law_mixed" sMixed f__law_mixed d__law_mixed)
    (D__law_same : Dx K mg "_law_same" sSame f__law_same d__law_same)
    (D__law_name : Dx K mg "_law_name" sName f__law_name d__law_name)
    (D__law_names : Dx K mg "_law_names" sNames f__law_names d__law_names)
    (D__law_letters : Dx K mg "_law_letters" sLet f__law_letters d__law_letters)
    (D__law_own_accesses : Dx K mg "_law_own_accesses" sOwn f__law_own_accesses d__law_own_accesses)
    (D__law_access : Dx K mg "_law_access" sLacc f__law_access d__law_access)
    (D__law_grown : Dx K mg "_law_grown" s_l_grown f__law_grown d__law_grown)
    (O_add : Mx K XC "__add__" "Expression.__add__" s_add o_add p_add)
    (O_sub : Mx K XC "__sub__" "Expression.__sub__" s_sub o_sub p_sub)
    (O_rmul : Mx K XC "__rmul__" "Expression.__rmul__" s_rmul o_rmul p_rmul)
    (O_and : Mx K XC "__and__" "Expression.__and__" s_and o_and p_and)
    (O_or : Mx K XC "__or__" "Expression.__or__" s_or o_or p_or)
    (O_rxor : Mx K XC "__rxor__" "Expression.__rxor__" s_rxor o_rxor p_rxor)
    (O_floordiv : Mx K XC "__floordiv__" "Expression.__floordiv__" s_floordiv o_floordiv p_floordiv)
    (O_pow : Mx K XC "__pow__" "Expression.__pow__" s_pow o_pow p_pow)
    (O_lshift : Mx K XC "__lshift__" "Expression.__lshift__" s_lshift o_lshift p_lshift)
    (O_rshift : Mx K XC "__rshift__" "Expression.__rshift__" s_rshift o_rshift p_rshift)
    (O_neg : Mx K XC "__neg__" "Expression.__neg__" s_neg o_neg p_neg)
    (O_pos : Mx K XC "__pos__" "Expression.__pos__" s_pos o_pos p_pos)
    (O_invert : Mx K XC "__invert__" "Expression.__invert__" s_invert o_invert p_invert)
    (O_abs : Mx K XC "__abs__" "Expression.__abs__" s_abs o_abs p_abs)
    (O_iadd : Mx K XC "__iadd__" "Expression.__iadd__" s_iadd o_iadd p_iadd)
    (O_isub : Mx K XC "__isub__" "Expression.__isub__" s_isub o_isub p_isub)
    : LawAtS l w K CX0 16 63 "_law_script" mg fa h := by
  have e := hfa.symm.trans (PySem.W.mg_of X G lA)
  cases e
  have B : Bt mg := ⟨PySem.W.mg_none_of X G z_isinstance, PySem.W.mg_none_of X G z_list, PySem.W.mg_none_of X G z_tuple, PySem.W.mg_none_of X G z_len, PySem.W.mg_none_of X G z_all, PySem.W.mg_none_of X G z_zip, PySem.W.mg_none_of X G z_dict, PySem.W.mg_none_of X G z_int, PySem.W.mg_none_of X G z_bool, PySem.W.mg_none_of X G z_range⟩
  have B2 : Bx mg := ⟨PySem.W.mg_none_of X G z_sum, PySem.W.mg_none_of X G z_set, PySem.W.mg_none_of X G z_sorted, PySem.W.mg_none_of X G z_enumerate, PySem.W.mg_none_of X G z_str⟩
  have sI := kit_noR (n := "int") xic xty (fsub K XC)
  have sS_ := kit_noR (n := "str") xic xty (fsubS K XC)
  have sT := kit_noR (n := "tuple") xic xty (fsubT K XC)
  have cI := kit_noT (T := "int") (by decide +kernel) xsi
  have T : Xc K mg XC fXC := { ic := ⟨⟨xpg, xhd, xpo, xsa⟩, xe4, xe5, xe6, xe7, kit_me⟩, nK := xnK, nP := xnP, nN := xnN, nA := xnA, nL := xnL, mkC := ⟨xmk, x1, x2, xk⟩, mC := PySem.W.mg_of X G xA, sI := sI, sS := sS_, sT := sT, cI := cI }
  have Bc : Bk K BL := ⟨⟨upg, uhd, upo, usa⟩, unN⟩
  have Kx : Kc K mg AK := ⟨PySem.W.mg_of X G akA, fun H => sq_const akl akz akv⟩
  have Lx : Lc K w mg LT := ⟨PySem.W.mg_of X G yA, ⟨es, en, yl, yke, yo⟩, yq, fun k hk => by
    rcases hk with rfl | rfl | rfl
    · exact ⟨TA1, yp1, fun H => by rw [if_pos rfl, if_pos rfl]; exact sq_const yt1 yz1 yv1⟩
    · exact ⟨TA2, yp2, fun H => by rw [if_neg (kne _ _), if_neg (kne _ _)]; exact sq_const yt2 yz2 yv2⟩
    · exact ⟨TA3, yp3, fun H => by rw [if_neg (kne _ _), if_neg (kne _ _)]; exact sq_const yt3 yz3 yv3⟩⟩
  have Fx : Fun K "__init__" "Expression.__init__" sXini _ _ := fun_mk xiL xiC xik
  have bFx := Fx.binds (ps := ["self", "kind", "parts"]) fun _ _ _ _ _ _ us hl => match us, hl with | [_, _, _], _ => rfl
  have Fd : Fun K "__init__" "Add.__init__" s_ad _ _ := fun_mk diL diC dik
  have bFd := Fd.binds (ps := ["self", "expression"]) fun _ _ _ _ _ _ us hl => match us, hl with | [_, _], _ => rfl
  have Fp : Fun K "__init__" "Program.__init__" s_prog _ _ := fun_mk piL piC pik
  have bFp := Fp.binds (ps := ["self", "target", "uses", "node"]) fun _ _ _ _ _ _ us hl => match us, hl with | [_, _, _, _], _ => rfl
  have Fb : Fun K "__init__" "Block.__init__" s_blk _ _ := fun_mk uiL uiC uik
  have bFb := Fb.binds (ps := ["self", "nodes"]) fun _ _ _ _ _ _ us hl => match us, hl with | [_, _], _ => rfl
  have Fop : Fun K "operand_of" "operand_of" sOpd _ _ := fun_mk oL oC ok
  have bFop := Fop.binds (ps := ["x"]) fun _ _ _ _ _ _ us hl => match us, hl with | [_], _ => rfl
  have Fe0 : Fun K "_law_end" "_law_end" s_l_end _ _ := fun_mk eL eC ek
  have bFe0 := Fe0.binds (ps := ["_law_deed"]) fun _ _ _ _ _ _ us hl => match us, hl with | [_], _ => rfl
  have Fb0 : Fun K "_law_deeds" "_law_deeds" s_l_deeds _ _ := fun_mk bL bC bk
  have bFb0 := Fb0.binds (ps := ["_law_gain", "_law_x"]) fun _ _ _ _ _ _ us hl => match us, hl with | [_, _], _ => rfl
  have b_is_whole := D_is_whole.F.binds (ps := ["n"]) fun _ _ _ _ _ _ us hl => match us, hl with | [_], _ => rfl
  have b_ascending := D_ascending.F.binds (ps := ["names"]) fun _ _ _ _ _ _ us hl => match us, hl with | [_], _ => rfl
  have b_number := D_number.F.binds (ps := ["n"]) fun _ _ _ _ _ _ us hl => match us, hl with | [_], _ => rfl
  have b_check_letters := D_check_letters.F.binds (ps := ["letters"]) fun _ _ _ _ _ _ us hl => match us, hl with | [_], _ => rfl
  have b_check_expression := D_check_expression.F.binds (ps := ["x"]) fun _ _ _ _ _ _ us hl => match us, hl with | [_], _ => rfl
  have b_joined := D_joined.F.binds (ps := ["kind", "x", "y"]) fun _ _ _ _ _ _ us hl => match us, hl with | [_, _, _], _ => rfl
  have b_is_allowed := D_is_allowed.F.binds (ps := ["kind", "n"]) fun _ _ _ _ _ _ us hl => match us, hl with | [_, _], _ => rfl
  have b_numbered := D_numbered.F.binds (ps := ["kind", "x", "n"]) fun _ _ _ _ _ _ us hl => match us, hl with | [_, _, _], _ => rfl
  have b_assigned := D_assigned.F.binds (ps := ["kind", "x", "y"]) fun _ _ _ _ _ _ us hl => match us, hl with | [_, _, _], _ => rfl
  have b_is_access := D_is_access.F.binds (ps := ["x"]) fun _ _ _ _ _ _ us hl => match us, hl with | [_], _ => rfl
  have b_frozen := D_frozen.F.binds (ps := ["worth"]) fun _ _ _ _ _ _ us hl => match us, hl with | [_], _ => rfl
  have b_polynomial := D_polynomial.F.binds (ps := ["expression"]) fun _ _ _ _ _ _ us hl => match us, hl with | [_], _ => rfl
  have b_active := D_active.F.binds (ps := ["expression", "living"]) fun _ _ _ _ _ _ us hl => match us, hl with | [_, _], _ => rfl
  have b_value_of := D_value_of.F.binds (ps := ["expression", "values"]) fun _ _ _ _ _ _ us hl => match us, hl with | [_, _], _ => rfl
  have b_greater := D_greater.F.binds (ps := ["x", "y"]) fun _ _ _ _ _ _ us hl => match us, hl with | [_, _], _ => rfl
  have b_lesser := D_lesser.F.binds (ps := ["x", "y"]) fun _ _ _ _ _ _ us hl => match us, hl with | [_, _], _ => rfl
  have b_below := D_below.F.binds (ps := ["x", "y"]) fun _ _ _ _ _ _ us hl => match us, hl with | [_, _], _ => rfl
  have b_at_most := D_at_most.F.binds (ps := ["x", "y"]) fun _ _ _ _ _ _ us hl => match us, hl with | [_, _], _ => rfl
  have b_equal := D_equal.F.binds (ps := ["x", "y"]) fun _ _ _ _ _ _ us hl => match us, hl with | [_, _], _ => rfl
  have b_unequal := D_unequal.F.binds (ps := ["x", "y"]) fun _ _ _ _ _ _ us hl => match us, hl with | [_, _], _ => rfl
  have b__law_draw := D__law_draw.F.binds (ps := ["_law_stream", "_law_many"]) fun _ _ _ _ _ _ us hl => match us, hl with | [_, _], _ => rfl
  have b__law_start := D__law_start.F.binds (ps := ["_law_script"]) fun _ _ _ _ _ _ us hl => match us, hl with | [_], _ => rfl
  have b__law_pick := D__law_pick.F.binds (ps := ["_law_stream", "_law_some"]) fun _ _ _ _ _ _ us hl => match us, hl with | [_, _], _ => rfl
  have b__law_mixed := D__law_mixed.F.binds (ps := ["_law_stream", "_law_some"]) fun _ _ _ _ _ _ us hl => match us, hl with | [_, _], _ => rfl
  have b__law_same := D__law_same.F.binds (ps := ["_law_found", "_law_due"]) fun _ _ _ _ _ _ us hl => match us, hl with | [_, _], _ => rfl
  have b__law_name := D__law_name.F.binds (ps := ["_law_stream"]) fun _ _ _ _ _ _ us hl => match us, hl with | [_], _ => rfl
  have b__law_names := D__law_names.F.binds (ps := ["_law_stream", "_law_many"]) fun _ _ _ _ _ _ us hl => match us, hl with | [_, _], _ => rfl
  have b__law_letters := D__law_letters.F.binds (ps := ["_law_stream", "_law_many"]) fun _ _ _ _ _ _ us hl => match us, hl with | [_, _], _ => rfl
  have b__law_own_accesses := D__law_own_accesses.F.binds (ps := ["_law_stream", "_law_many"]) fun _ _ _ _ _ _ us hl => match us, hl with | [_, _], _ => rfl
  have b__law_access := D__law_access.F.binds (ps := ["_law_name_here", "_law_letters_here"]) fun _ _ _ _ _ _ us hl => match us, hl with | [_, _], _ => rfl
  have b__law_grown := D__law_grown.F.binds (ps := ["_law_x", "_law_y", "_law_is_gain"]) fun _ _ _ _ _ _ us hl => match us, hl with | [_, _, _], _ => rfl
  have b_add_ := O_add.F.binds (ps := ["self", "other"]) fun _ _ _ _ _ _ us hl => match us, hl with | [_, _], _ => rfl
  have b_sub_ := O_sub.F.binds (ps := ["self", "other"]) fun _ _ _ _ _ _ us hl => match us, hl with | [_, _], _ => rfl
  have b_rmul_ := O_rmul.F.binds (ps := ["self", "other"]) fun _ _ _ _ _ _ us hl => match us, hl with | [_, _], _ => rfl
  have b_and_ := O_and.F.binds (ps := ["self", "other"]) fun _ _ _ _ _ _ us hl => match us, hl with | [_, _], _ => rfl
  have b_or_ := O_or.F.binds (ps := ["self", "other"]) fun _ _ _ _ _ _ us hl => match us, hl with | [_, _], _ => rfl
  have b_rxor_ := O_rxor.F.binds (ps := ["self", "other"]) fun _ _ _ _ _ _ us hl => match us, hl with | [_, _], _ => rfl
  have b_floordiv_ := O_floordiv.F.binds (ps := ["self", "other"]) fun _ _ _ _ _ _ us hl => match us, hl with | [_, _], _ => rfl
  have b_pow_ := O_pow.F.binds (ps := ["self", "other"]) fun _ _ _ _ _ _ us hl => match us, hl with | [_, _], _ => rfl
  have b_lshift_ := O_lshift.F.binds (ps := ["self", "other"]) fun _ _ _ _ _ _ us hl => match us, hl with | [_, _], _ => rfl
  have b_rshift_ := O_rshift.F.binds (ps := ["self", "other"]) fun _ _ _ _ _ _ us hl => match us, hl with | [_, _], _ => rfl
  have b_neg_ := O_neg.F.binds (ps := ["self"]) fun _ _ _ _ _ _ us hl => match us, hl with | [_], _ => rfl
  have b_pos_ := O_pos.F.binds (ps := ["self"]) fun _ _ _ _ _ _ us hl => match us, hl with | [_], _ => rfl
  have b_invert_ := O_invert.F.binds (ps := ["self"]) fun _ _ _ _ _ _ us hl => match us, hl with | [_], _ => rfl
  have b_abs_ := O_abs.F.binds (ps := ["self"]) fun _ _ _ _ _ _ us hl => match us, hl with | [_], _ => rfl
  have b_iadd_ := O_iadd.F.binds (ps := ["self", "other"]) fun _ _ _ _ _ _ us hl => match us, hl with | [_, _], _ => rfl
  have b_isub_ := O_isub.F.binds (ps := ["self", "other"]) fun _ _ _ _ _ _ us hl => match us, hl with | [_, _], _ => rfl
  have DS : DSt K fST _ := ⟨⟨_, _, _, _, _, _, _, _, _, _, rfl, tiL, tiC, .inr ⟨(fun z => by cases z), dfl, _, its_l.toList, nn_l, rfl, dl, rfl, dv⟩, .inl rfl⟩, tik⟩
  have hhL : PySem.W.CodeHd h cL PL := PySem.W.codeHd_of_K X lq
  have hhB : PySem.W.CodeHd h cB PB := PySem.W.codeHd_of_K X bq
  have ZA : Ez K mg NA "NotAnAccess" := ⟨PySem.W.mg_of X G rNAA, rNAx, rNAk, rNAr, rNAt⟩
  have ZE : Ez K mg NE "NotAnExpression" := ⟨PySem.W.mg_of X G rNEA, rNEx, rNEk, rNEr, rNEt⟩
  have REn : En K mg NA NE WE := { mA := PySem.W.mg_of X G rNAA, mE := PySem.W.mg_of X G rNEA, mW := PySem.W.mg_of X G rWE, aa := PySem.W.exm_ref rNAr hNA rNAt sNANA, ea := PySem.W.exm_ref rNAr hNA rNAt sNENA, ee := PySem.W.exm_ref rNEr hNE rNEt sNENE }
  refine ⟨_, [(cL, PL), (cB, PB)], spLaw K PL PB, fun p hp => ?_, fun p hp => ?_, fun p hp => ?_, fun s v => .of_eq (fd := PySem.W.fnOf "law" "law" (defArgs s_law) (defBody s_law) (defScope s_law) .none kV_a dc_a pm_a an_a (.ref cL) ct_a) rfl, fun H a ns hl _ hT hS => ⟨a, ns, rfl, hS, hl, hT (cL, PL) (List.mem_cons_self ..), hT (cB, PB) (List.mem_cons_of_mem _ (List.mem_cons_self ..)), fun _ => rfl⟩, fun base _ _ hTB => ?_⟩
  · rcases List.mem_cons.mp hp with rfl | hp
    · exact ls
    · rw [List.mem_singleton.mp hp]
      exact bs
  · rcases List.mem_cons.mp hp with rfl | hp
    · exact lr
    · rw [List.mem_singleton.mp hp]
      exact br
  · rcases List.mem_cons.mp hp with rfl | hp
    · exact hhL
    · rw [List.mem_singleton.mp hp]
      exact hhB
  have GD := ok_draw (P := l.prog) (w := w) (base := base) D__law_draw.F B
  have GP := ok_pick D__law_pick.F GD b__law_draw D__law_draw.F.kp D__law_draw.m B
  have GPs := ok_pickS D__law_pick.F GD b__law_draw D__law_draw.F.kp D__law_draw.m B
  have GM := ok_mixed D__law_mixed.F GD b__law_draw D__law_draw.F.kp D__law_draw.m B
  have GLt := ok_let D__law_letters.F GD b__law_draw D__law_draw.F.kp D__law_draw.m B
  have GNm := ok_name D__law_name.F GD b__law_draw D__law_draw.F.kp D__law_draw.m B GPs b__law_pick D__law_pick.F.kp D__law_pick.m
  have GNs := ok_names D__law_names.F B GNm b__law_name D__law_name.F.kp D__law_name.m
  have COw := ca_of D__law_own_accesses b__law_own_accesses (ok_own D__law_own_accesses.F B GD b__law_draw D__law_draw.F.kp D__law_draw.m GP b__law_pick D__law_pick.F.kp D__law_pick.m GM b__law_mixed D__law_mixed.F.kp D__law_mixed.m GLt b__law_letters D__law_letters.F.kp D__law_letters.m GNs b__law_names D__law_names.F.kp D__law_names.m)
  have CS := ca_of D__law_start b__law_start (ok_start (P := l.prog) (w := w) (base := base) D__law_start.F B)
  have CD := ca_of D__law_draw b__law_draw GD
  have CP := ca_of D__law_pick b__law_pick GP
  have CSm := ca_of D__law_same b__law_same (ok_sames (P := l.prog) (w := w) (base := base) D__law_same.F b__law_same D__law_same.m B 14)
  have GAs := ok_asc (P := l.prog) (w := w) (base := base) D_ascending.F B B2
  have FX := ok_xini Fx T B B2 GAs b_ascending D_ascending.F.kp D_ascending.m
  have GCe := ok_chkL (P := l.prog) (w := w) (base := base) D_check_letters.F B2
  have GAc := ok_acc D_access.F T B FX bFx GCe b_check_letters D_check_letters.F.kp D_check_letters.m
  have CLa := ca_of D__law_access b__law_access (ok_lacc D__law_access.F B GAc D_access.F.kp D_access.m)
  have CIa := ca_of D_is_access b_is_access (ok_isA (P := l.prog) (w := w) (base := base) D_is_access.F T B)
  have GE := ok_chkE (P := l.prog) (w := w) (base := base) D_check_expression.F T Kx
  have GWh := ok_whole (P := l.prog) (w := w) (base := base) D_is_whole.F B T
  have CWh := ca_of D_is_whole b_is_whole GWh
  have GN := ok_num D_number.F T FX bFx
  have CN := ca_of D_number b_number GN
  have mOp : mg "operand_of_expressions" = some (.ref fOp) := PySem.W.mg_of X G oA
  have GOp := ok_opd Fop T B GWh b_is_whole D_is_whole.F.kp D_is_whole.m GN b_number D_number.F.kp D_number.m GE b_check_expression D_check_expression.F.kp D_check_expression.m
  have COp : Ca l.prog w K mg base 5 "operand_of_expressions" ["x"] (spOpd K XC) := ⟨_, _, GOp, bFop, Fop.kp, mOp⟩
  have XCe := cx_of D_check_expression b_check_expression (ok_ceX (P := l.prog) (w := w) (base := base) D_check_expression.F T Kx ZE)
  have XOp : CaX l.prog w K mg base 3 "operand_of_expressions" ["x"] (spOpX K XC NE) := ⟨_, _, ok_opX Fop T B CWh XCe, bFop, Fop.kp, mOp⟩
  have GJ := ok_join D_joined.F T FX bFx GOp bFop Fop.kp mOp
  have XJ := cx_of D_joined b_joined (ok_jnX D_joined.F T FX bFx COp XOp)
  have CAl := ca_of D_is_allowed b_is_allowed (ok_alw (P := l.prog) (w := w) (base := base) D_is_allowed.F Lx)
  have XN := cx_of D_numbered b_numbered (ok_nbX D_numbered.F T FX bFx CWh CAl XOp)
  have J : Jn l.prog w K mg base XC _ _ := ⟨GJ, b_joined, D_joined.F.kp, D_joined.m⟩
  have Oo : Od l.prog w K mg base XC _ _ := ⟨GOp, bFop, Fop.kp, mOp⟩
  have CAs := ca_of D_assigned b_assigned (ok_assigned D_assigned.F T FX bFx CIa COp)
  have XAs := cx_of D_assigned b_assigned (ok_asX D_assigned.F T FX bFx ZA CIa XOp)
  have Ii : Io l.prog w K mg base XC NA NE "__iadd__" true := ⟨_, _, ⟨O_iadd.o.at_, O_iadd.o.fn⟩, ok_iadd O_iadd.F CAs, okx_iadd O_iadd.F XAs, b_iadd_⟩
  have Is : Io l.prog w K mg base XC NA NE "__isub__" false := ⟨_, _, ⟨O_isub.o.at_, O_isub.o.fn⟩, ok_isub O_isub.F CAs, okx_isub O_isub.F XAs, b_isub_⟩
  have CGr := ca_of D__law_grown b__law_grown (ok_grown D__law_grown.F xsf Ii Is)
  have XGr := cx_of D__law_grown b__law_grown (okx_grown D__law_grown.F xsf Ii Is)
  have CFr := ca_of D_frozen b_frozen (ok_fr0 (P := l.prog) (w := w) (base := base) D_frozen.F B)
  have MB : Mkr l.prog w K mg base BL "Block" 2 ["self", "nodes"] (spBk0 K BL) := ⟨fBL, _, ⟨umk, u1, u2, uk⟩, ok_bk0 Fb Bc CFr, bFb, PySem.W.mg_of X G uA⟩
  have XP : MkX l.prog w K mg base PG "Program" 2 ["self", "target", "uses", "node"] [] (spPiX K XC NA) := ⟨fPG, _, [], ⟨pmk, p1, p2, pk⟩, ok_piX Fp ZA CIa, .nil, bFp, PySem.W.mg_of X G pA⟩
  have XA : MkX l.prog w K mg base AD "Add" 3 ["self", "expression"] [] (spAdX K XC AD NE) := ⟨fAD, _, [], ⟨dmk, d1, d2, dk⟩, ok_adX Fd XCe, .nil, bFd, PySem.W.mg_of X G dA⟩
  obtain ⟨dsS, rdS, bdS⟩ := bindS DS
  have XS : MkX l.prog w K mg base ST "Statement" 3 n_stm [.str "="] (spStX K XC NA NE) := ⟨fST, _, dsS, ⟨tmk, t1, t2, tk⟩, ok_stX DS ZA CIa XCe, rdS, bdS, PySem.W.mg_of X G tA⟩
  have D : DE l.prog w K mg base XC NE NA AD ST := { sf := xsf, sub := fsub K XC, subR := xsi, add := ⟨_, _, ⟨O_add.o.at_, O_add.o.fn⟩, okx_add O_add.F XJ, b_add_⟩, sub_ := ⟨_, _, ⟨O_sub.o.at_, O_sub.o.fn⟩, okx_sub O_sub.F XJ, b_sub_⟩, or_ := ⟨_, _, ⟨O_or.o.at_, O_or.o.fn⟩, okx_or O_or.F XJ, b_or_⟩, and_ := ⟨_, _, ⟨O_and.o.at_, O_and.o.fn⟩, okx_and O_and.F XJ, b_and_⟩, rmul := ⟨_, _, ⟨O_rmul.o.at_, O_rmul.o.fn⟩, okx_rmul O_rmul.F XJ, b_rmul_⟩, rxor := ⟨_, _, ⟨O_rxor.o.at_, O_rxor.o.fn⟩, okx_rxor O_rxor.F XJ, b_rxor_⟩, mul0 := ⟨_, ⟨z0mul, z1mul⟩⟩, xor0 := ⟨_, ⟨z0xor, z1xor⟩⟩, fdiv := ⟨_, _, ⟨O_floordiv.o.at_, O_floordiv.o.fn⟩, okx_floordiv O_floordiv.F XN, b_floordiv_⟩, pow := ⟨_, _, ⟨O_pow.o.at_, O_pow.o.fn⟩, okx_pow O_pow.F XN, b_pow_⟩, lsh := ⟨_, _, ⟨O_lshift.o.at_, O_lshift.o.fn⟩, okx_lshift O_lshift.F XN, b_lshift_⟩, rsh := ⟨_, _, ⟨O_rshift.o.at_, O_rshift.o.fn⟩, okx_rshift O_rshift.F XN, b_rshift_⟩, rand := ⟨_, rand⟩, rfdiv := nr_floordiv, rpow := nr_pow, rlsh := nr_lshift, rrsh := nr_rshift, neg := ⟨_, _, ⟨O_neg.o.at_, O_neg.o.fn⟩, okx_neg O_neg.F T FX bFx XOp, b_neg_⟩, pos := ⟨_, _, ⟨O_pos.o.at_, O_pos.o.fn⟩, okx_pos O_pos.F XOp, b_pos_⟩, inv := ⟨_, _, ⟨O_invert.o.at_, O_invert.o.fn⟩, okx_invert O_invert.F T FX bFx XOp, b_invert_⟩, abs := ⟨_, _, ⟨O_abs.o.at_, O_abs.o.fn⟩, okx_abs O_abs.F T FX bFx XOp, b_abs_⟩, mAbs := PySem.W.mg_none_of X G z_abs, greater := cx_of D_greater b_greater (okx_greater D_greater.F XJ), lesser := cx_of D_lesser b_lesser (okx_lesser D_lesser.F XJ), below := cx_of D_below b_below (okx_below D_below.F XJ), at_most := cx_of D_at_most b_at_most (okx_at_most D_at_most.F XJ), equal := cx_of D_equal b_equal (okx_equal D_equal.F XJ), unequal := cx_of D_unequal b_unequal (okx_unequal D_unequal.F XJ), ad := XA, pol := cx_of D_polynomial b_polynomial (ok_polX D_polynomial.F XCe), act := cx_of D_active b_active (ok_actX D_active.F XCe), val := cx_of D_value_of b_value_of (ok_valX D_value_of.F XCe), st := XS, acc := ⟨_, GAc, D_access.F.kp, D_access.m⟩, gr := XGr }
  have TBB := hTB (cB, PB) (List.mem_cons_of_mem _ (List.mem_cons_self ..))
  have TBL := hTB (cL, PL) (List.mem_cons_self ..)
  have uB : ∀ p ∈ tbls PL PB, p.1 = PB → p.2 = qDeed := fun p hp e => by
    rcases List.mem_cons.mp hp with rfl | hp
    · exact absurd e ne0
    · rw [List.mem_singleton.mp hp]
  have CDe : Ca l.prog w K mg base 1 "_law_deeds" ["_law_gain", "_law_x"] (spDeeds (tbls PL PB)) := ⟨fB0, _, ok_deeds bL bC TBB (List.mem_cons_of_mem _ (List.mem_cons_self ..)) uB, bFb0, bk, PySem.W.mg_of X G bA⟩
  exact ok_law lL lC B ne0 T D CS CSm CD CP COw CLa CN CGr CDe ⟨_, _, ⟨O_add.o.at_, O_add.o.fn⟩, ok_add O_add.F J, b_add_⟩ radd ⟨_, _, ⟨O_neg.o.at_, O_neg.o.fn⟩, ok_neg O_neg.F T FX bFx Oo, b_neg_⟩ ⟨_, _, ⟨O_abs.o.at_, O_abs.o.fn⟩, ok_abs O_abs.F T FX bFx Oo, b_abs_⟩ MB XP REn eL eC bFe0 ek (PySem.W.mg_of X G eA) TBL
end Lw
namespace Lw
open PySem L2 OwB TL LamX ClX
set_option maxHeartbeats 0 in
theorem facts {l : PySem.W.OpenLaw} {w : World} {K : PySem.W.Frag} {h : Heap} {mg : Str → Option Value} {fa : Addr} (KX : K.In h) (G : h.Ns mainGlobals mg) (hmg : mg "law" = some (.ref fa)) (c : Gh.Says fs fn dsx tf w h K) : LawAtS l w K CX0 16 63 "_law_script" mg fa h := by
  have lA : PySem.W.nsIn K mainGlobals "law" = some (some (.ref (a_fL K))) := He.eqO_ok (c.b 0 rfl)
  have lL : K.lookup (a_fL K) = some ⟨(Gh.oCls K (a_fL K)), (Gh.oDic K (a_fL K)), .func (PySem.W.fnOf "law" "law" (defArgs s_law) (defBody s_law) (defScope s_law) .none (Gh.oFun K (a_fL K)).kwdefaults (Gh.oFun K (a_fL K)).doc (Gh.oFun K (a_fL K)).pyModule (Gh.oFun K (a_fL K)).annotations (.ref (a_cL K)) (Gh.oFun K (a_fL K)).closureTuple), (Gh.oSlt K (a_fL K))⟩ := (by have z := Gh.fn_of (c.f 0 rfl); rw [Gh.isRef_ok (c.b 1 rfl)] at z; exact z)
  have lC : PySem.W.codeIn K (.ref (a_cL K)) "law" = true := (c.b 2 rfl)
  have lk : PySem.W.keepIn K (.ref (a_fL K)) = true := (c.b 3 rfl)
  have lo : K.lookup (a_cL K) = some ⟨(Gh.oCls K (a_cL K)), (Gh.oDic K (a_cL K)), .fields (Gh.oIts K (a_cL K)), (Gh.oSlt K (a_cL K))⟩ := Gh.fl_of (c.b 4 rfl)
  have lp : (Gh.oIts K (a_cL K))[11]? = some (.ref (a_PL K)) := of_decide_eq_true (c.b 5 rfl)
  have lq : PySem.W.codeHdIn K (a_cL K) (a_PL K) = true := (c.b 6 rfl)
  have lr : K.lookup (a_PL K) = none := c.out (fun K => (a_PL K)) (List.mem_of_getElem? (i := 0) rfl)
  have ls : h.get? (a_PL K) = some { cls := .none, data := .fields #[] } := c.empty (fun K => (a_PL K)) (List.mem_of_getElem? (i := 0) rfl)
  have bA : PySem.W.nsIn K mainGlobals "_law_deeds" = some (some (.ref (a_fB0 K))) := He.eqO_ok (c.b 7 rfl)
  have bL : K.lookup (a_fB0 K) = some ⟨(Gh.oCls K (a_fB0 K)), (Gh.oDic K (a_fB0 K)), .func (PySem.W.fnOf "_law_deeds" "_law_deeds" (defArgs s_l_deeds) (defBody s_l_deeds) (defScope s_l_deeds) .none (Gh.oFun K (a_fB0 K)).kwdefaults (Gh.oFun K (a_fB0 K)).doc (Gh.oFun K (a_fB0 K)).pyModule (Gh.oFun K (a_fB0 K)).annotations (.ref (a_cB K)) (Gh.oFun K (a_fB0 K)).closureTuple), (Gh.oSlt K (a_fB0 K))⟩ := (by have z := Gh.fn_of (c.f 1 rfl); rw [Gh.isRef_ok (c.b 8 rfl)] at z; exact z)
  have bC : PySem.W.codeIn K (.ref (a_cB K)) "_law_deeds" = true := (c.b 9 rfl)
  have bk : PySem.W.keepIn K (.ref (a_fB0 K)) = true := (c.b 10 rfl)
  have bo : K.lookup (a_cB K) = some ⟨(Gh.oCls K (a_cB K)), (Gh.oDic K (a_cB K)), .fields (Gh.oIts K (a_cB K)), (Gh.oSlt K (a_cB K))⟩ := Gh.fl_of (c.b 11 rfl)
  have bp : (Gh.oIts K (a_cB K))[11]? = some (.ref (a_PB K)) := of_decide_eq_true (c.b 12 rfl)
  have bq : PySem.W.codeHdIn K (a_cB K) (a_PB K) = true := (c.b 13 rfl)
  have br : K.lookup (a_PB K) = none := c.out (fun K => (a_PB K)) (List.mem_of_getElem? (i := 1) rfl)
  have bs : h.get? (a_PB K) = some { cls := .none, data := .fields #[] } := c.empty (fun K => (a_PB K)) (List.mem_of_getElem? (i := 1) rfl)
  have ne0 : (a_PL K) ≠ (a_PB K) := of_decide_eq_true (c.b 14 rfl)
  have eA : PySem.W.nsIn K mainGlobals "_law_end" = some (some (.ref (a_fE0 K))) := He.eqO_ok (c.b 15 rfl)
  have eL : K.lookup (a_fE0 K) = some ⟨(Gh.oCls K (a_fE0 K)), (Gh.oDic K (a_fE0 K)), .func (PySem.W.fnOf "_law_end" "_law_end" (defArgs s_l_end) (defBody s_l_end) (defScope s_l_end) .none (Gh.oFun K (a_fE0 K)).kwdefaults (Gh.oFun K (a_fE0 K)).doc (Gh.oFun K (a_fE0 K)).pyModule (Gh.oFun K (a_fE0 K)).annotations (Gh.oFun K (a_fE0 K)).code (Gh.oFun K (a_fE0 K)).closureTuple), (Gh.oSlt K (a_fE0 K))⟩ := Gh.fn_of (c.f 2 rfl)
  have eC : PySem.W.codeIn K (Gh.oFun K (a_fE0 K)).code "_law_end" = true := (c.b 16 rfl)
  have ek : PySem.W.keepIn K (.ref (a_fE0 K)) = true := (c.b 17 rfl)
  have oA : PySem.W.nsIn K mainGlobals "operand_of_expressions" = some (some (.ref (a_fOp K))) := He.eqO_ok (c.b 18 rfl)
  have oL : K.lookup (a_fOp K) = some ⟨(Gh.oCls K (a_fOp K)), (Gh.oDic K (a_fOp K)), .func (PySem.W.fnOf "operand_of" "operand_of" (defArgs sOpd) (defBody sOpd) (defScope sOpd) .none (Gh.oFun K (a_fOp K)).kwdefaults (Gh.oFun K (a_fOp K)).doc (Gh.oFun K (a_fOp K)).pyModule (Gh.oFun K (a_fOp K)).annotations (Gh.oFun K (a_fOp K)).code (Gh.oFun K (a_fOp K)).closureTuple), (Gh.oSlt K (a_fOp K))⟩ := Gh.fn_of (c.f 3 rfl)
  have oC : PySem.W.codeIn K (Gh.oFun K (a_fOp K)).code "operand_of" = true := (c.b 19 rfl)
  have ok : PySem.W.keepIn K (.ref (a_fOp K)) = true := (c.b 20 rfl)
  have rNAA : PySem.W.nsIn K mainGlobals "NotAnAccess" = some (some (.ref (a_NA K))) := He.eqO_ok (c.b 21 rfl)
  have rNAx : PySem.W.excIn K (a_NA K) [.type "ValueError", .type "Exception", .type "BaseException", .type "object"] "ValueError.__new__" = true := (c.b 22 rfl)
  have rNAk : PySem.W.keepIn K (.ref (a_NA K)) = true := (c.b 23 rfl)
  have rNAr : PySem.W.subIn K (.ref (a_NA K)) (.type "BaseException") = some true := of_decide_eq_true (c.b 24 rfl)
  have rNAt : PySem.W.typeIn K (.ref (a_NA K)) = some (.type "type") := of_decide_eq_true (c.b 25 rfl)
  have rNEA : PySem.W.nsIn K mainGlobals "NotAnExpression" = some (some (.ref (a_NE K))) := He.eqO_ok (c.b 26 rfl)
  have rNEx : PySem.W.excIn K (a_NE K) [.type "ValueError", .type "Exception", .type "BaseException", .type "object"] "ValueError.__new__" = true := (c.b 27 rfl)
  have rNEk : PySem.W.keepIn K (.ref (a_NE K)) = true := (c.b 28 rfl)
  have rNEr : PySem.W.subIn K (.ref (a_NE K)) (.type "BaseException") = some true := of_decide_eq_true (c.b 29 rfl)
  have rNEt : PySem.W.typeIn K (.ref (a_NE K)) = some (.type "type") := of_decide_eq_true (c.b 30 rfl)
  have rWE : PySem.W.nsIn K mainGlobals "WalkError" = some (some (.ref (a_WE K))) := He.eqO_ok (c.b 31 rfl)
  have hNA : PySem.W.hasDictIn K (a_NA K) = true := (c.b 32 rfl)
  have hNE : PySem.W.hasDictIn K (a_NE K) = true := (c.b 33 rfl)
  have sNANA : PySem.W.subIn K (.ref (a_NA K)) (.ref (a_NA K)) = some true := of_decide_eq_true (c.b 34 rfl)
  have sNENA : PySem.W.subIn K (.ref (a_NE K)) (.ref (a_NA K)) = some false := of_decide_eq_true (c.b 35 rfl)
  have sNENE : PySem.W.subIn K (.ref (a_NE K)) (.ref (a_NE K)) = some true := of_decide_eq_true (c.b 36 rfl)
  have xA : PySem.W.nsIn K mainGlobals "Expression" = some (some (.ref (a_XC K))) := He.eqO_ok (c.b 37 rfl)
  have x1 : PySem.W.findIn K (.ref (a_XC K)) "__init__" = some (some (.ref (a_fXC K))) := He.eqO_ok (c.b 38 rfl)
  have x2 : PySem.W.isFn K (.ref (a_fXC K)) = true := (c.b 39 rfl)
  have xiL : K.lookup (a_fXC K) = some ⟨(Gh.oCls K (a_fXC K)), (Gh.oDic K (a_fXC K)), .func (PySem.W.fnOf "__init__" "Expression.__init__" (defArgs sXini) (defBody sXini) (defScope sXini) .none (Gh.oFun K (a_fXC K)).kwdefaults (Gh.oFun K (a_fXC K)).doc (Gh.oFun K (a_fXC K)).pyModule (Gh.oFun K (a_fXC K)).annotations (Gh.oFun K (a_fXC K)).code (Gh.oFun K (a_fXC K)).closureTuple), (Gh.oSlt K (a_fXC K))⟩ := Gh.fn_of (c.f 4 rfl)
  have xiC : PySem.W.codeIn K (Gh.oFun K (a_fXC K)).code "Expression.__init__" = true := (c.b 40 rfl)
  have xik : PySem.W.keepIn K (.ref (a_fXC K)) = true := (c.b 41 rfl)
  have xmk : PySem.W.makesIn K (a_XC K) = true := (c.b 42 rfl)
  have xk : PySem.W.keepIn K (.ref (a_XC K)) = true := (c.b 43 rfl)
  have xpg : PySem.W.plainGet K (a_XC K) Str.empty = true := (c.b 44 rfl)
  have xhd : PySem.W.hasDictIn K (a_XC K) = true := (c.b 45 rfl)
  have xpo : PySem.W.plainOver K (a_XC K) = true := (c.b 46 rfl)
  have xsa : PySem.W.findIn K (.ref (a_XC K)) "__setattr__" = some (some (.builtin "object.__setattr__")) := He.eqO_ok (c.b 47 rfl)
  have xnK : PySem.W.findIn K (.ref (a_XC K)) "kind" = some none := He.eqO_ok (c.b 48 rfl)
  have xnP : PySem.W.findIn K (.ref (a_XC K)) "parts" = some none := He.eqO_ok (c.b 49 rfl)
  have xnN : PySem.W.findIn K (.ref (a_XC K)) "node_count" = some none := He.eqO_ok (c.b 50 rfl)
  have xnA : PySem.W.findIn K (.ref (a_XC K)) "accesses" = some none := He.eqO_ok (c.b 51 rfl)
  have xnL : PySem.W.findIn K (.ref (a_XC K)) "letters" = some none := He.eqO_ok (c.b 52 rfl)
  have dA : PySem.W.nsIn K mainGlobals "Add" = some (some (.ref (a_AD K))) := He.eqO_ok (c.b 53 rfl)
  have d1 : PySem.W.findIn K (.ref (a_AD K)) "__init__" = some (some (.ref (a_fAD K))) := He.eqO_ok (c.b 54 rfl)
  have d2 : PySem.W.isFn K (.ref (a_fAD K)) = true := (c.b 55 rfl)
  have diL : K.lookup (a_fAD K) = some ⟨(Gh.oCls K (a_fAD K)), (Gh.oDic K (a_fAD K)), .func (PySem.W.fnOf "__init__" "Add.__init__" (defArgs s_ad) (defBody s_ad) (defScope s_ad) .none (Gh.oFun K (a_fAD K)).kwdefaults (Gh.oFun K (a_fAD K)).doc (Gh.oFun K (a_fAD K)).pyModule (Gh.oFun K (a_fAD K)).annotations (Gh.oFun K (a_fAD K)).code (Gh.oFun K (a_fAD K)).closureTuple), (Gh.oSlt K (a_fAD K))⟩ := Gh.fn_of (c.f 5 rfl)
  have diC : PySem.W.codeIn K (Gh.oFun K (a_fAD K)).code "Add.__init__" = true := (c.b 56 rfl)
  have dik : PySem.W.keepIn K (.ref (a_fAD K)) = true := (c.b 57 rfl)
  have dmk : PySem.W.makesIn K (a_AD K) = true := (c.b 58 rfl)
  have dk : PySem.W.keepIn K (.ref (a_AD K)) = true := (c.b 59 rfl)
  have pA : PySem.W.nsIn K mainGlobals "Program" = some (some (.ref (a_PG K))) := He.eqO_ok (c.b 60 rfl)
  have p1 : PySem.W.findIn K (.ref (a_PG K)) "__init__" = some (some (.ref (a_fPG K))) := He.eqO_ok (c.b 61 rfl)
  have p2 : PySem.W.isFn K (.ref (a_fPG K)) = true := (c.b 62 rfl)
  have piL : K.lookup (a_fPG K) = some ⟨(Gh.oCls K (a_fPG K)), (Gh.oDic K (a_fPG K)), .func (PySem.W.fnOf "__init__" "Program.__init__" (defArgs s_prog) (defBody s_prog) (defScope s_prog) .none (Gh.oFun K (a_fPG K)).kwdefaults (Gh.oFun K (a_fPG K)).doc (Gh.oFun K (a_fPG K)).pyModule (Gh.oFun K (a_fPG K)).annotations (Gh.oFun K (a_fPG K)).code (Gh.oFun K (a_fPG K)).closureTuple), (Gh.oSlt K (a_fPG K))⟩ := Gh.fn_of (c.f 6 rfl)
  have piC : PySem.W.codeIn K (Gh.oFun K (a_fPG K)).code "Program.__init__" = true := (c.b 63 rfl)
  have pik : PySem.W.keepIn K (.ref (a_fPG K)) = true := (c.b 64 rfl)
  have pmk : PySem.W.makesIn K (a_PG K) = true := (c.b 65 rfl)
  have pk : PySem.W.keepIn K (.ref (a_PG K)) = true := (c.b 66 rfl)
  have uA : PySem.W.nsIn K mainGlobals "Block" = some (some (.ref (a_BL K))) := He.eqO_ok (c.b 67 rfl)
  have u1 : PySem.W.findIn K (.ref (a_BL K)) "__init__" = some (some (.ref (a_fBL K))) := He.eqO_ok (c.b 68 rfl)
  have u2 : PySem.W.isFn K (.ref (a_fBL K)) = true := (c.b 69 rfl)
  have uiL : K.lookup (a_fBL K) = some ⟨(Gh.oCls K (a_fBL K)), (Gh.oDic K (a_fBL K)), .func (PySem.W.fnOf "__init__" "Block.__init__" (defArgs s_blk) (defBody s_blk) (defScope s_blk) .none (Gh.oFun K (a_fBL K)).kwdefaults (Gh.oFun K (a_fBL K)).doc (Gh.oFun K (a_fBL K)).pyModule (Gh.oFun K (a_fBL K)).annotations (Gh.oFun K (a_fBL K)).code (Gh.oFun K (a_fBL K)).closureTuple), (Gh.oSlt K (a_fBL K))⟩ := Gh.fn_of (c.f 7 rfl)
  have uiC : PySem.W.codeIn K (Gh.oFun K (a_fBL K)).code "Block.__init__" = true := (c.b 70 rfl)
  have uik : PySem.W.keepIn K (.ref (a_fBL K)) = true := (c.b 71 rfl)
  have umk : PySem.W.makesIn K (a_BL K) = true := (c.b 72 rfl)
  have uk : PySem.W.keepIn K (.ref (a_BL K)) = true := (c.b 73 rfl)
  have upg : PySem.W.plainGet K (a_BL K) Str.empty = true := (c.b 74 rfl)
  have uhd : PySem.W.hasDictIn K (a_BL K) = true := (c.b 75 rfl)
  have upo : PySem.W.plainOver K (a_BL K) = true := (c.b 76 rfl)
  have usa : PySem.W.findIn K (.ref (a_BL K)) "__setattr__" = some (some (.builtin "object.__setattr__")) := He.eqO_ok (c.b 77 rfl)
  have unN : PySem.W.findIn K (.ref (a_BL K)) "nodes" = some none := He.eqO_ok (c.b 78 rfl)
  have tA : PySem.W.nsIn K mainGlobals "Statement" = some (some (.ref (a_ST K))) := He.eqO_ok (c.b 79 rfl)
  have t1 : PySem.W.findIn K (.ref (a_ST K)) "__init__" = some (some (.ref (a_fST K))) := He.eqO_ok (c.b 80 rfl)
  have t2 : PySem.W.isFn K (.ref (a_fST K)) = true := (c.b 81 rfl)
  have tiL : K.lookup (a_fST K) = some ⟨(Gh.oCls K (a_fST K)), (Gh.oDic K (a_fST K)), .func (PySem.W.fnOf "__init__" "Statement.__init__" (defArgs s_stm) (defBody s_stm) (defScope s_stm) (.ref (a_dfl K)) (Gh.oFun K (a_fST K)).kwdefaults (Gh.oFun K (a_fST K)).doc (Gh.oFun K (a_fST K)).pyModule (Gh.oFun K (a_fST K)).annotations (Gh.oFun K (a_fST K)).code (Gh.oFun K (a_fST K)).closureTuple), (Gh.oSlt K (a_fST K))⟩ := Gh.fn_ofD (c.f 8 rfl)
  have tiC : PySem.W.codeIn K (Gh.oFun K (a_fST K)).code "Statement.__init__" = true := (c.b 82 rfl)
  have tik : PySem.W.keepIn K (.ref (a_fST K)) = true := (c.b 83 rfl)
  have tmk : PySem.W.makesIn K (a_ST K) = true := (c.b 84 rfl)
  have tk : PySem.W.keepIn K (.ref (a_ST K)) = true := (c.b 85 rfl)
  have dl : K.lookup (a_dfl K) = some ⟨.type "tuple", (Gh.oDic K (a_dfl K)), .seq (Gh.oIts K (a_dfl K)) (Gh.oNum K (a_dfl K)), (Gh.oSlt K (a_dfl K))⟩ := (Gh.tp_of (c.b 86 rfl)).1
  have dz : (Gh.oIts K (a_dfl K)).size ≤ sizeLine := (Gh.tp_of (c.b 86 rfl)).2.1
  have dv : Vals [V.str "="] (Gh.oIts K (a_dfl K)).toList := (Gh.tp_of (c.b 86 rfl)).2.2
  have xe4 : PySem.W.findIn K (.ref (a_XC K)) "__class__" = some (some (.builtin "object.__class__")) := He.eqO_ok (c.b 87 rfl)
  have xe5 : PySem.W.specialIn K (.builtin "object.__class__") "__get__" = some (some (.builtin "getset_descriptor.__get__")) := He.eqO_ok (c.b 88 rfl)
  have xe6 : PySem.W.takesIn K (.builtin "object.__class__") = some true := of_decide_eq_true (c.b 89 rfl)
  have xe7 : PySem.W.mroIn K (a_XC K) (.type "object") = some true := of_decide_eq_true (c.b 90 rfl)
  have xic : PySem.W.isClsIn K (a_XC K) = true := (c.b 91 rfl)
  have xty : PySem.W.typeIn K (.ref (a_XC K)) = some (.type "type") := of_decide_eq_true (c.b 92 rfl)
  have xsi : PySem.W.subIn K (.ref (a_XC K)) (.type "int") = some false := of_decide_eq_true (c.b 93 rfl)
  have xsf : PySem.W.selfFirst K (a_XC K) = true := (c.b 94 rfl)
  have akA : PySem.W.nsIn K mainGlobals "ASSIGNED_KINDS" = some (some (.ref (a_AK K))) := He.eqO_ok (c.b 95 rfl)
  have akl : K.lookup (a_AK K) = some ⟨.type "tuple", (Gh.oDic K (a_AK K)), .seq (Gh.oIts K (a_AK K)) (Gh.oNum K (a_AK K)), (Gh.oSlt K (a_AK K))⟩ := (Gh.tp_of (c.b 96 rfl)).1
  have akz : (Gh.oIts K (a_AK K)).size ≤ sizeLine := (Gh.tp_of (c.b 96 rfl)).2.1
  have akv : Vals [V.str "gain", V.str "loss"] (Gh.oIts K (a_AK K)).toList := (Gh.tp_of (c.b 96 rfl)).2.2
  have yA : PySem.W.nsIn K mainGlobals "LIMITS" = some (some (.ref (a_LT K))) := He.eqO_ok (c.b 97 rfl)
  have yl : K.lookup (a_LT K) = some ⟨.type "dict", none, .dict (Gh.oEnt K (a_LT K)) (Gh.oNum K (a_LT K)), #[]⟩ := (Gh.dc_of (c.d 0 rfl)).1
  have yke : PySem.W.KeysLit w.params (Gh.oEnt K (a_LT K)).toList := (Gh.dc_of (c.d 0 rfl)).2.1
  have yo : ((a_LT K) == sysModules) = false := (Gh.dc_of (c.d 0 rfl)).2.2
  have yq : PySem.W.nsIn K (a_LT K) "quotient" = some none := He.eqO_ok (c.b 98 rfl)
  have yp1 : PySem.W.nsIn K (a_LT K) "power" = some (some (.ref (a_TA1 K))) := He.eqO_ok (c.b 99 rfl)
  have yt1 : K.lookup (a_TA1 K) = some ⟨.type "tuple", (Gh.oDic K (a_TA1 K)), .seq (Gh.oIts K (a_TA1 K)) (Gh.oNum K (a_TA1 K)), (Gh.oSlt K (a_TA1 K))⟩ := (Gh.tp_of (c.b 100 rfl)).1
  have yz1 : (Gh.oIts K (a_TA1 K)).size ≤ sizeLine := (Gh.tp_of (c.b 100 rfl)).2.1
  have yv1 : Vals [V.int 1, V.int 4] (Gh.oIts K (a_TA1 K)).toList := (Gh.tp_of (c.b 100 rfl)).2.2
  have yp2 : PySem.W.nsIn K (a_LT K) "left" = some (some (.ref (a_TA2 K))) := He.eqO_ok (c.b 101 rfl)
  have yt2 : K.lookup (a_TA2 K) = some ⟨.type "tuple", (Gh.oDic K (a_TA2 K)), .seq (Gh.oIts K (a_TA2 K)) (Gh.oNum K (a_TA2 K)), (Gh.oSlt K (a_TA2 K))⟩ := (Gh.tp_of (c.b 102 rfl)).1
  have yz2 : (Gh.oIts K (a_TA2 K)).size ≤ sizeLine := (Gh.tp_of (c.b 102 rfl)).2.1
  have yv2 : Vals [V.int 0, V.int 60] (Gh.oIts K (a_TA2 K)).toList := (Gh.tp_of (c.b 102 rfl)).2.2
  have yp3 : PySem.W.nsIn K (a_LT K) "right" = some (some (.ref (a_TA3 K))) := He.eqO_ok (c.b 103 rfl)
  have yt3 : K.lookup (a_TA3 K) = some ⟨.type "tuple", (Gh.oDic K (a_TA3 K)), .seq (Gh.oIts K (a_TA3 K)) (Gh.oNum K (a_TA3 K)), (Gh.oSlt K (a_TA3 K))⟩ := (Gh.tp_of (c.b 104 rfl)).1
  have yz3 : (Gh.oIts K (a_TA3 K)).size ≤ sizeLine := (Gh.tp_of (c.b 104 rfl)).2.1
  have yv3 : Vals [V.int 0, V.int 60] (Gh.oIts K (a_TA3 K)).toList := (Gh.tp_of (c.b 104 rfl)).2.2
  have radd : PySem.W.findIn K (.ref (a_XC K)) "__radd__" = some (some (.ref (a_gra K))) := He.eqO_ok (c.b 105 rfl)
  have rand : PySem.W.findIn K (.ref (a_XC K)) "__rand__" = some (some (.ref (a_grn K))) := He.eqO_ok (c.b 106 rfl)
  have nr_floordiv : PySem.W.findIn K (.ref (a_XC K)) "__rfloordiv__" = some none := He.eqO_ok (c.b 107 rfl)
  have nr_pow : PySem.W.findIn K (.ref (a_XC K)) "__rpow__" = some none := He.eqO_ok (c.b 108 rfl)
  have nr_lshift : PySem.W.findIn K (.ref (a_XC K)) "__rlshift__" = some none := He.eqO_ok (c.b 109 rfl)
  have nr_rshift : PySem.W.findIn K (.ref (a_XC K)) "__rrshift__" = some none := He.eqO_ok (c.b 110 rfl)
  have z0mul : PySem.W.findIn K (.ref (a_XC K)) "__mul__" = some (some (.ref (a_g0mul K))) := He.eqO_ok (c.b 111 rfl)
  have z1mul : PySem.W.isFn K (.ref (a_g0mul K)) = true := (c.b 112 rfl)
  have z0xor : PySem.W.findIn K (.ref (a_XC K)) "__xor__" = some (some (.ref (a_g0xor K))) := He.eqO_ok (c.b 113 rfl)
  have z1xor : PySem.W.isFn K (.ref (a_g0xor K)) = true := (c.b 114 rfl)
  have z_isinstance : PySem.W.nsIn K mainGlobals "isinstance" = some none := He.eqO_ok (c.b 115 rfl)
  have z_list : PySem.W.nsIn K mainGlobals "list" = some none := He.eqO_ok (c.b 116 rfl)
  have z_tuple : PySem.W.nsIn K mainGlobals "tuple" = some none := He.eqO_ok (c.b 117 rfl)
  have z_len : PySem.W.nsIn K mainGlobals "len" = some none := He.eqO_ok (c.b 118 rfl)
  have z_all : PySem.W.nsIn K mainGlobals "all" = some none := He.eqO_ok (c.b 119 rfl)
  have z_zip : PySem.W.nsIn K mainGlobals "zip" = some none := He.eqO_ok (c.b 120 rfl)
  have z_dict : PySem.W.nsIn K mainGlobals "dict" = some none := He.eqO_ok (c.b 121 rfl)
  have z_int : PySem.W.nsIn K mainGlobals "int" = some none := He.eqO_ok (c.b 122 rfl)
  have z_bool : PySem.W.nsIn K mainGlobals "bool" = some none := He.eqO_ok (c.b 123 rfl)
  have z_range : PySem.W.nsIn K mainGlobals "range" = some none := He.eqO_ok (c.b 124 rfl)
  have z_sum : PySem.W.nsIn K mainGlobals "sum" = some none := He.eqO_ok (c.b 125 rfl)
  have z_set : PySem.W.nsIn K mainGlobals "set" = some none := He.eqO_ok (c.b 126 rfl)
  have z_sorted : PySem.W.nsIn K mainGlobals "sorted" = some none := He.eqO_ok (c.b 127 rfl)
  have z_enumerate : PySem.W.nsIn K mainGlobals "enumerate" = some none := He.eqO_ok (c.b 128 rfl)
  have z_str : PySem.W.nsIn K mainGlobals "str" = some none := He.eqO_ok (c.b 129 rfl)
  have z_abs : PySem.W.nsIn K mainGlobals "abs" = some none := He.eqO_ok (c.b 130 rfl)
  have D_is_whole := dx_mk KX G (He.eqO_ok (a := PySem.W.nsIn K mainGlobals "is_whole") (b := some (some (.ref (a_f_is_whole K)))) (c.b 131 rfl)) (Gh.fn_of (x := "is_whole") (q := "is_whole") (st := sWhole) (c.f 9 rfl)) (show PySem.W.codeIn K (Gh.oFun K (a_f_is_whole K)).code "is_whole" = true from (c.b 132 rfl)) (show PySem.W.keepIn K (.ref (a_f_is_whole K)) = true from (c.b 133 rfl))
  have D_ascending := dx_mk KX G (He.eqO_ok (a := PySem.W.nsIn K mainGlobals "ascending") (b := some (some (.ref (a_f_ascending K)))) (c.b 134 rfl)) (Gh.fn_of (x := "ascending") (q := "ascending") (st := sAsc) (c.f 10 rfl)) (show PySem.W.codeIn K (Gh.oFun K (a_f_ascending K)).code "ascending" = true from (c.b 135 rfl)) (show PySem.W.keepIn K (.ref (a_f_ascending K)) = true from (c.b 136 rfl))
  have D_access := dx_mk KX G (He.eqO_ok (a := PySem.W.nsIn K mainGlobals "access") (b := some (some (.ref (a_f_access K)))) (c.b 137 rfl)) (Gh.fn_of (x := "access") (q := "access") (st := sAcc) (c.f 11 rfl)) (show PySem.W.codeIn K (Gh.oFun K (a_f_access K)).code "access" = true from (c.b 138 rfl)) (show PySem.W.keepIn K (.ref (a_f_access K)) = true from (c.b 139 rfl))
  have D_number := dx_mk KX G (He.eqO_ok (a := PySem.W.nsIn K mainGlobals "number") (b := some (some (.ref (a_f_number K)))) (c.b 140 rfl)) (Gh.fn_of (x := "number") (q := "number") (st := sNum) (c.f 12 rfl)) (show PySem.W.codeIn K (Gh.oFun K (a_f_number K)).code "number" = true from (c.b 141 rfl)) (show PySem.W.keepIn K (.ref (a_f_number K)) = true from (c.b 142 rfl))
  have D_check_letters := dx_mk KX G (He.eqO_ok (a := PySem.W.nsIn K mainGlobals "check_letters") (b := some (some (.ref (a_f_check_letters K)))) (c.b 143 rfl)) (Gh.fn_of (x := "check_letters") (q := "check_letters") (st := sChkL) (c.f 13 rfl)) (show PySem.W.codeIn K (Gh.oFun K (a_f_check_letters K)).code "check_letters" = true from (c.b 144 rfl)) (show PySem.W.keepIn K (.ref (a_f_check_letters K)) = true from (c.b 145 rfl))
  have D_check_expression := dx_mk KX G (He.eqO_ok (a := PySem.W.nsIn K mainGlobals "check_expression") (b := some (some (.ref (a_f_check_expression K)))) (c.b 146 rfl)) (Gh.fn_of (x := "check_expression") (q := "check_expression") (st := sChkE) (c.f 14 rfl)) (show PySem.W.codeIn K (Gh.oFun K (a_f_check_expression K)).code "check_expression" = true from (c.b 147 rfl)) (show PySem.W.keepIn K (.ref (a_f_check_expression K)) = true from (c.b 148 rfl))
  have D_joined := dx_mk KX G (He.eqO_ok (a := PySem.W.nsIn K mainGlobals "joined") (b := some (some (.ref (a_f_joined K)))) (c.b 149 rfl)) (Gh.fn_of (x := "joined") (q := "joined") (st := sJoin) (c.f 15 rfl)) (show PySem.W.codeIn K (Gh.oFun K (a_f_joined K)).code "joined" = true from (c.b 150 rfl)) (show PySem.W.keepIn K (.ref (a_f_joined K)) = true from (c.b 151 rfl))
  have D_is_allowed := dx_mk KX G (He.eqO_ok (a := PySem.W.nsIn K mainGlobals "is_allowed") (b := some (some (.ref (a_f_is_allowed K)))) (c.b 152 rfl)) (Gh.fn_of (x := "is_allowed") (q := "is_allowed") (st := sAlw) (c.f 16 rfl)) (show PySem.W.codeIn K (Gh.oFun K (a_f_is_allowed K)).code "is_allowed" = true from (c.b 153 rfl)) (show PySem.W.keepIn K (.ref (a_f_is_allowed K)) = true from (c.b 154 rfl))
  have D_numbered := dx_mk KX G (He.eqO_ok (a := PySem.W.nsIn K mainGlobals "numbered") (b := some (some (.ref (a_f_numbered K)))) (c.b 155 rfl)) (Gh.fn_of (x := "numbered") (q := "numbered") (st := sNbd) (c.f 17 rfl)) (show PySem.W.codeIn K (Gh.oFun K (a_f_numbered K)).code "numbered" = true from (c.b 156 rfl)) (show PySem.W.keepIn K (.ref (a_f_numbered K)) = true from (c.b 157 rfl))
  have D_assigned := dx_mk KX G (He.eqO_ok (a := PySem.W.nsIn K mainGlobals "assigned") (b := some (some (.ref (a_f_assigned K)))) (c.b 158 rfl)) (Gh.fn_of (x := "assigned") (q := "assigned") (st := s_assigned) (c.f 18 rfl)) (show PySem.W.codeIn K (Gh.oFun K (a_f_assigned K)).code "assigned" = true from (c.b 159 rfl)) (show PySem.W.keepIn K (.ref (a_f_assigned K)) = true from (c.b 160 rfl))
  have D_is_access := dx_mk KX G (He.eqO_ok (a := PySem.W.nsIn K mainGlobals "is_access") (b := some (some (.ref (a_f_is_access K)))) (c.b 161 rfl)) (Gh.fn_of (x := "is_access") (q := "is_access") (st := s_is_access) (c.f 19 rfl)) (show PySem.W.codeIn K (Gh.oFun K (a_f_is_access K)).code "is_access" = true from (c.b 162 rfl)) (show PySem.W.keepIn K (.ref (a_f_is_access K)) = true from (c.b 163 rfl))
  have D_frozen := dx_mk KX G (He.eqO_ok (a := PySem.W.nsIn K mainGlobals "frozen") (b := some (some (.ref (a_f_frozen K)))) (c.b 164 rfl)) (Gh.fn_of (x := "frozen") (q := "frozen") (st := sFrozen) (c.f 20 rfl)) (show PySem.W.codeIn K (Gh.oFun K (a_f_frozen K)).code "frozen" = true from (c.b 165 rfl)) (show PySem.W.keepIn K (.ref (a_f_frozen K)) = true from (c.b 166 rfl))
  have D_polynomial := dx_mk KX G (He.eqO_ok (a := PySem.W.nsIn K mainGlobals "polynomial") (b := some (some (.ref (a_f_polynomial K)))) (c.b 167 rfl)) (Gh.fn_of (x := "polynomial") (q := "polynomial") (st := s_polynomial) (c.f 21 rfl)) (show PySem.W.codeIn K (Gh.oFun K (a_f_polynomial K)).code "polynomial" = true from (c.b 168 rfl)) (show PySem.W.keepIn K (.ref (a_f_polynomial K)) = true from (c.b 169 rfl))
  have D_active := dx_mk KX G (He.eqO_ok (a := PySem.W.nsIn K mainGlobals "active") (b := some (some (.ref (a_f_active K)))) (c.b 170 rfl)) (Gh.fn_of (x := "active") (q := "active") (st := s_active) (c.f 22 rfl)) (show PySem.W.codeIn K (Gh.oFun K (a_f_active K)).code "active" = true from (c.b 171 rfl)) (show PySem.W.keepIn K (.ref (a_f_active K)) = true from (c.b 172 rfl))
  have D_value_of := dx_mk KX G (He.eqO_ok (a := PySem.W.nsIn K mainGlobals "value_of") (b := some (some (.ref (a_f_value_of K)))) (c.b 173 rfl)) (Gh.fn_of (x := "value_of") (q := "value_of") (st := s_value_of) (c.f 23 rfl)) (show PySem.W.codeIn K (Gh.oFun K (a_f_value_of K)).code "value_of" = true from (c.b 174 rfl)) (show PySem.W.keepIn K (.ref (a_f_value_of K)) = true from (c.b 175 rfl))
  have D_greater := dx_mk KX G (He.eqO_ok (a := PySem.W.nsIn K mainGlobals "greater") (b := some (some (.ref (a_f_greater K)))) (c.b 176 rfl)) (Gh.fn_of (x := "greater") (q := "greater") (st := s_greater) (c.f 24 rfl)) (show PySem.W.codeIn K (Gh.oFun K (a_f_greater K)).code "greater" = true from (c.b 177 rfl)) (show PySem.W.keepIn K (.ref (a_f_greater K)) = true from (c.b 178 rfl))
  have D_lesser := dx_mk KX G (He.eqO_ok (a := PySem.W.nsIn K mainGlobals "lesser") (b := some (some (.ref (a_f_lesser K)))) (c.b 179 rfl)) (Gh.fn_of (x := "lesser") (q := "lesser") (st := s_lesser) (c.f 25 rfl)) (show PySem.W.codeIn K (Gh.oFun K (a_f_lesser K)).code "lesser" = true from (c.b 180 rfl)) (show PySem.W.keepIn K (.ref (a_f_lesser K)) = true from (c.b 181 rfl))
  have D_below := dx_mk KX G (He.eqO_ok (a := PySem.W.nsIn K mainGlobals "below") (b := some (some (.ref (a_f_below K)))) (c.b 182 rfl)) (Gh.fn_of (x := "below") (q := "below") (st := s_below) (c.f 26 rfl)) (show PySem.W.codeIn K (Gh.oFun K (a_f_below K)).code "below" = true from (c.b 183 rfl)) (show PySem.W.keepIn K (.ref (a_f_below K)) = true from (c.b 184 rfl))
  have D_at_most := dx_mk KX G (He.eqO_ok (a := PySem.W.nsIn K mainGlobals "at_most") (b := some (some (.ref (a_f_at_most K)))) (c.b 185 rfl)) (Gh.fn_of (x := "at_most") (q := "at_most") (st := s_at_most) (c.f 27 rfl)) (show PySem.W.codeIn K (Gh.oFun K (a_f_at_most K)).code "at_most" = true from (c.b 186 rfl)) (show PySem.W.keepIn K (.ref (a_f_at_most K)) = true from (c.b 187 rfl))
  have D_equal := dx_mk KX G (He.eqO_ok (a := PySem.W.nsIn K mainGlobals "equal") (b := some (some (.ref (a_f_equal K)))) (c.b 188 rfl)) (Gh.fn_of (x := "equal") (q := "equal") (st := s_equal) (c.f 28 rfl)) (show PySem.W.codeIn K (Gh.oFun K (a_f_equal K)).code "equal" = true from (c.b 189 rfl)) (show PySem.W.keepIn K (.ref (a_f_equal K)) = true from (c.b 190 rfl))
  have D_unequal := dx_mk KX G (He.eqO_ok (a := PySem.W.nsIn K mainGlobals "unequal") (b := some (some (.ref (a_f_unequal K)))) (c.b 191 rfl)) (Gh.fn_of (x := "unequal") (q := "unequal") (st := s_unequal) (c.f 29 rfl)) (show PySem.W.codeIn K (Gh.oFun K (a_f_unequal K)).code "unequal" = true from (c.b 192 rfl)) (show PySem.W.keepIn K (.ref (a_f_unequal K)) = true from (c.b 193 rfl))
  have D__law_draw := dx_mk KX G (He.eqO_ok (a := PySem.W.nsIn K mainGlobals "_law_draw") (b := some (some (.ref (a_f__law_draw K)))) (c.b 194 rfl)) (Gh.fn_of (x := "_law_draw") (q := "_law_draw") (st := sDraw) (c.f 30 rfl)) (show PySem.W.codeIn K (Gh.oFun K (a_f__law_draw K)).code "_law_draw" = true from (c.b 195 rfl)) (show PySem.W.keepIn K (.ref (a_f__law_draw K)) = true from (c.b 196 rfl))
  have D__law_start := dx_mk KX G (He.eqO_ok (a := PySem.W.nsIn K mainGlobals "_law_start") (b := some (some (.ref (a_f__law_start K)))) (c.b 197 rfl)) (Gh.fn_of (x := "_law_start") (q := "_law_start") (st := sStart) (c.f 31 rfl)) (show PySem.W.codeIn K (Gh.oFun K (a_f__law_start K)).code "_law_start" = true from (c.b 198 rfl)) (show PySem.W.keepIn K (.ref (a_f__law_start K)) = true from (c.b 199 rfl))
  have D__law_pick := dx_mk KX G (He.eqO_ok (a := PySem.W.nsIn K mainGlobals "_law_pick") (b := some (some (.ref (a_f__law_pick K)))) (c.b 200 rfl)) (Gh.fn_of (x := "_law_pick") (q := "_law_pick") (st := sPick) (c.f 32 rfl)) (show PySem.W.codeIn K (Gh.oFun K (a_f__law_pick K)).code "_law_pick" = true from (c.b 201 rfl)) (show PySem.W.keepIn K (.ref (a_f__law_pick K)) = true from (c.b 202 rfl))
  have D__law_mixed := dx_mk KX G (He.eqO_ok (a := PySem.W.nsIn K mainGlobals "_law_mixed") (b := some (some (.ref (a_f__law_mixed K)))) (c.b 203 rfl)) (Gh.fn_of (x := "_law_mixed") (q := "_law_mixed") (st := sMixed) (c.f 33 rfl)) (show PySem.W.codeIn K (Gh.oFun K (a_f__law_mixed K)).code "_law_mixed" = true from (c.b 204 rfl)) (show PySem.W.keepIn K (.ref (a_f__law_mixed K)) = true from (c.b 205 rfl))
  have D__law_same := dx_mk KX G (He.eqO_ok (a := PySem.W.nsIn K mainGlobals "_law_same") (b := some (some (.ref (a_f__law_same K)))) (c.b 206 rfl)) (Gh.fn_of (x := "_law_same") (q := "_law_same") (st := sSame) (c.f 34 rfl)) (show PySem.W.codeIn K (Gh.oFun K (a_f__law_same K)).code "_law_same" = true from (c.b 207 rfl)) (show PySem.W.keepIn K (.ref (a_f__law_same K)) = true from (c.b 208 rfl))
  have D__law_name := dx_mk KX G (He.eqO_ok (a := PySem.W.nsIn K mainGlobals "_law_name") (b := some (some (.ref (a_f__law_name K)))) (c.b 209 rfl)) (Gh.fn_of (x := "_law_name") (q := "_law_name") (st := sName) (c.f 35 rfl)) (show PySem.W.codeIn K (Gh.oFun K (a_f__law_name K)).code "_law_name" = true from (c.b 210 rfl)) (show PySem.W.keepIn K (.ref (a_f__law_name K)) = true from (c.b 211 rfl))
  have D__law_names := dx_mk KX G (He.eqO_ok (a := PySem.W.nsIn K mainGlobals "_law_names") (b := some (some (.ref (a_f__law_names K)))) (c.b 212 rfl)) (Gh.fn_of (x := "_law_names") (q := "_law_names") (st := sNames) (c.f 36 rfl)) (show PySem.W.codeIn K (Gh.oFun K (a_f__law_names K)).code "_law_names" = true from (c.b 213 rfl)) (show PySem.W.keepIn K (.ref (a_f__law_names K)) = true from (c.b 214 rfl))
  have D__law_letters := dx_mk KX G (He.eqO_ok (a := PySem.W.nsIn K mainGlobals "_law_letters") (b := some (some (.ref (a_f__law_letters K)))) (c.b 215 rfl)) (Gh.fn_of (x := "_law_letters") (q := "_law_letters") (st := sLet) (c.f 37 rfl)) (show PySem.W.codeIn K (Gh.oFun K (a_f__law_letters K)).code "_law_letters" = true from (c.b 216 rfl)) (show PySem.W.keepIn K (.ref (a_f__law_letters K)) = true from (c.b 217 rfl))
  have D__law_own_accesses := dx_mk KX G (He.eqO_ok (a := PySem.W.nsIn K mainGlobals "_law_own_accesses") (b := some (some (.ref (a_f__law_own_accesses K)))) (c.b 218 rfl)) (Gh.fn_of (x := "_law_own_accesses") (q := "_law_own_accesses") (st := sOwn) (c.f 38 rfl)) (show PySem.W.codeIn K (Gh.oFun K (a_f__law_own_accesses K)).code "_law_own_accesses" = true from (c.b 219 rfl)) (show PySem.W.keepIn K (.ref (a_f__law_own_accesses K)) = true from (c.b 220 rfl))
  have D__law_access := dx_mk KX G (He.eqO_ok (a := PySem.W.nsIn K mainGlobals "_law_access") (b := some (some (.ref (a_f__law_access K)))) (c.b 221 rfl)) (Gh.fn_of (x := "_law_access") (q := "_law_access") (st := sLacc) (c.f 39 rfl)) (show PySem.W.codeIn K (Gh.oFun K (a_f__law_access K)).code "_law_access" = true from (c.b 222 rfl)) (show PySem.W.keepIn K (.ref (a_f__law_access K)) = true from (c.b 223 rfl))
  have D__law_grown := dx_mk KX G (He.eqO_ok (a := PySem.W.nsIn K mainGlobals "_law_grown") (b := some (some (.ref (a_f__law_grown K)))) (c.b 224 rfl)) (Gh.fn_of (x := "_law_grown") (q := "_law_grown") (st := s_l_grown) (c.f 40 rfl)) (show PySem.W.codeIn K (Gh.oFun K (a_f__law_grown K)).code "_law_grown" = true from (c.b 225 rfl)) (show PySem.W.keepIn K (.ref (a_f__law_grown K)) = true from (c.b 226 rfl))
  have O_add := mx_mk (C := (a_XC K)) (He.eqO_ok (a := PySem.W.findIn K (.ref (a_XC K)) "__add__") (b := some (some (.ref (a_o_add K)))) (c.b 227 rfl)) (show PySem.W.isFn K (.ref (a_o_add K)) = true from (c.b 230 rfl)) (Gh.fn_of (x := "__add__") (q := "Expression.__add__") (st := s_add) (c.f 41 rfl)) (show PySem.W.codeIn K (Gh.oFun K (a_o_add K)).code "Expression.__add__" = true from (c.b 228 rfl)) (show PySem.W.keepIn K (.ref (a_o_add K)) = true from (c.b 229 rfl))
  have O_sub := mx_mk (C := (a_XC K)) (He.eqO_ok (a := PySem.W.findIn K (.ref (a_XC K)) "__sub__") (b := some (some (.ref (a_o_sub K)))) (c.b 231 rfl)) (show PySem.W.isFn K (.ref (a_o_sub K)) = true from (c.b 234 rfl)) (Gh.fn_of (x := "__sub__") (q := "Expression.__sub__") (st := s_sub) (c.f 42 rfl)) (show PySem.W.codeIn K (Gh.oFun K (a_o_sub K)).code "Expression.__sub__" = true from (c.b 232 rfl)) (show PySem.W.keepIn K (.ref (a_o_sub K)) = true from (c.b 233 rfl))
  have O_rmul := mx_mk (C := (a_XC K)) (He.eqO_ok (a := PySem.W.findIn K (.ref (a_XC K)) "__rmul__") (b := some (some (.ref (a_o_rmul K)))) (c.b 235 rfl)) (show PySem.W.isFn K (.ref (a_o_rmul K)) = true from (c.b 238 rfl)) (Gh.fn_of (x := "__rmul__") (q := "Expression.__rmul__") (st := s_rmul) (c.f 43 rfl)) (show PySem.W.codeIn K (Gh.oFun K (a_o_rmul K)).code "Expression.__rmul__" = true from (c.b 236 rfl)) (show PySem.W.keepIn K (.ref (a_o_rmul K)) = true from (c.b 237 rfl))
  have O_and := mx_mk (C := (a_XC K)) (He.eqO_ok (a := PySem.W.findIn K (.ref (a_XC K)) "__and__") (b := some (some (.ref (a_o_and K)))) (c.b 239 rfl)) (show PySem.W.isFn K (.ref (a_o_and K)) = true from (c.b 242 rfl)) (Gh.fn_of (x := "__and__") (q := "Expression.__and__") (st := s_and) (c.f 44 rfl)) (show PySem.W.codeIn K (Gh.oFun K (a_o_and K)).code "Expression.__and__" = true from (c.b 240 rfl)) (show PySem.W.keepIn K (.ref (a_o_and K)) = true from (c.b 241 rfl))
  have O_or := mx_mk (C := (a_XC K)) (He.eqO_ok (a := PySem.W.findIn K (.ref (a_XC K)) "__or__") (b := some (some (.ref (a_o_or K)))) (c.b 243 rfl)) (show PySem.W.isFn K (.ref (a_o_or K)) = true from (c.b 246 rfl)) (Gh.fn_of (x := "__or__") (q := "Expression.__or__") (st := s_or) (c.f 45 rfl)) (show PySem.W.codeIn K (Gh.oFun K (a_o_or K)).code "Expression.__or__" = true from (c.b 244 rfl)) (show PySem.W.keepIn K (.ref (a_o_or K)) = true from (c.b 245 rfl))
  have O_rxor := mx_mk (C := (a_XC K)) (He.eqO_ok (a := PySem.W.findIn K (.ref (a_XC K)) "__rxor__") (b := some (some (.ref (a_o_rxor K)))) (c.b 247 rfl)) (show PySem.W.isFn K (.ref (a_o_rxor K)) = true from (c.b 250 rfl)) (Gh.fn_of (x := "__rxor__") (q := "Expression.__rxor__") (st := s_rxor) (c.f 46 rfl)) (show PySem.W.codeIn K (Gh.oFun K (a_o_rxor K)).code "Expression.__rxor__" = true from (c.b 248 rfl)) (show PySem.W.keepIn K (.ref (a_o_rxor K)) = true from (c.b 249 rfl))
  have O_floordiv := mx_mk (C := (a_XC K)) (He.eqO_ok (a := PySem.W.findIn K (.ref (a_XC K)) "__floordiv__") (b := some (some (.ref (a_o_floordiv K)))) (c.b 251 rfl)) (show PySem.W.isFn K (.ref (a_o_floordiv K)) = true from (c.b 254 rfl)) (Gh.fn_of (x := "__floordiv__") (q := "Expression.__floordiv__") (st := s_floordiv) (c.f 47 rfl)) (show PySem.W.codeIn K (Gh.oFun K (a_o_floordiv K)).code "Expression.__floordiv__" = true from (c.b 252 rfl)) (show PySem.W.keepIn K (.ref (a_o_floordiv K)) = true from (c.b 253 rfl))
  have O_pow := mx_mk (C := (a_XC K)) (He.eqO_ok (a := PySem.W.findIn K (.ref (a_XC K)) "__pow__") (b := some (some (.ref (a_o_pow K)))) (c.b 255 rfl)) (show PySem.W.isFn K (.ref (a_o_pow K)) = true from (c.b 258 rfl)) (Gh.fn_of (x := "__pow__") (q := "Expression.__pow__") (st := s_pow) (c.f 48 rfl)) (show PySem.W.codeIn K (Gh.oFun K (a_o_pow K)).code "Expression.__pow__" = true from (c.b 256 rfl)) (show PySem.W.keepIn K (.ref (a_o_pow K)) = true from (c.b 257 rfl))
  have O_lshift := mx_mk (C := (a_XC K)) (He.eqO_ok (a := PySem.W.findIn K (.ref (a_XC K)) "__lshift__") (b := some (some (.ref (a_o_lshift K)))) (c.b 259 rfl)) (show PySem.W.isFn K (.ref (a_o_lshift K)) = true from (c.b 262 rfl)) (Gh.fn_of (x := "__lshift__") (q := "Expression.__lshift__") (st := s_lshift) (c.f 49 rfl)) (show PySem.W.codeIn K (Gh.oFun K (a_o_lshift K)).code "Expression.__lshift__" = true from (c.b 260 rfl)) (show PySem.W.keepIn K (.ref (a_o_lshift K)) = true from (c.b 261 rfl))
  have O_rshift := mx_mk (C := (a_XC K)) (He.eqO_ok (a := PySem.W.findIn K (.ref (a_XC K)) "__rshift__") (b := some (some (.ref (a_o_rshift K)))) (c.b 263 rfl)) (show PySem.W.isFn K (.ref (a_o_rshift K)) = true from (c.b 266 rfl)) (Gh.fn_of (x := "__rshift__") (q := "Expression.__rshift__") (st := s_rshift) (c.f 50 rfl)) (show PySem.W.codeIn K (Gh.oFun K (a_o_rshift K)).code "Expression.__rshift__" = true from (c.b 264 rfl)) (show PySem.W.keepIn K (.ref (a_o_rshift K)) = true from (c.b 265 rfl))
  have O_neg := mx_mk (C := (a_XC K)) (He.eqO_ok (a := PySem.W.findIn K (.ref (a_XC K)) "__neg__") (b := some (some (.ref (a_o_neg K)))) (c.b 267 rfl)) (show PySem.W.isFn K (.ref (a_o_neg K)) = true from (c.b 270 rfl)) (Gh.fn_of (x := "__neg__") (q := "Expression.__neg__") (st := s_neg) (c.f 51 rfl)) (show PySem.W.codeIn K (Gh.oFun K (a_o_neg K)).code "Expression.__neg__" = true from (c.b 268 rfl)) (show PySem.W.keepIn K (.ref (a_o_neg K)) = true from (c.b 269 rfl))
  have O_pos := mx_mk (C := (a_XC K)) (He.eqO_ok (a := PySem.W.findIn K (.ref (a_XC K)) "__pos__") (b := some (some (.ref (a_o_pos K)))) (c.b 271 rfl)) (show PySem.W.isFn K (.ref (a_o_pos K)) = true from (c.b 274 rfl)) (Gh.fn_of (x := "__pos__") (q := "Expression.__pos__") (st := s_pos) (c.f 52 rfl)) (show PySem.W.codeIn K (Gh.oFun K (a_o_pos K)).code "Expression.__pos__" = true from (c.b 272 rfl)) (show PySem.W.keepIn K (.ref (a_o_pos K)) = true from (c.b 273 rfl))
  have O_invert := mx_mk (C := (a_XC K)) (He.eqO_ok (a := PySem.W.findIn K (.ref (a_XC K)) "__invert__") (b := some (some (.ref (a_o_invert K)))) (c.b 275 rfl)) (show PySem.W.isFn K (.ref (a_o_invert K)) = true from (c.b 278 rfl)) (Gh.fn_of (x := "__invert__") (q := "Expression.__invert__") (st := s_invert) (c.f 53 rfl)) (show PySem.W.codeIn K (Gh.oFun K (a_o_invert K)).code "Expression.__invert__" = true from (c.b 276 rfl)) (show PySem.W.keepIn K (.ref (a_o_invert K)) = true from (c.b 277 rfl))
  have O_abs := mx_mk (C := (a_XC K)) (He.eqO_ok (a := PySem.W.findIn K (.ref (a_XC K)) "__abs__") (b := some (some (.ref (a_o_abs K)))) (c.b 279 rfl)) (show PySem.W.isFn K (.ref (a_o_abs K)) = true from (c.b 282 rfl)) (Gh.fn_of (x := "__abs__") (q := "Expression.__abs__") (st := s_abs) (c.f 54 rfl)) (show PySem.W.codeIn K (Gh.oFun K (a_o_abs K)).code "Expression.__abs__" = true from (c.b 280 rfl)) (show PySem.W.keepIn K (.ref (a_o_abs K)) = true from (c.b 281 rfl))
  have O_iadd := mx_mk (C := (a_XC K)) (He.eqO_ok (a := PySem.W.findIn K (.ref (a_XC K)) "__iadd__") (b := some (some (.ref (a_o_iadd K)))) (c.b 283 rfl)) (show PySem.W.isFn K (.ref (a_o_iadd K)) = true from (c.b 286 rfl)) (Gh.fn_of (x := "__iadd__") (q := "Expression.__iadd__") (st := s_iadd) (c.f 55 rfl)) (show PySem.W.codeIn K (Gh.oFun K (a_o_iadd K)).code "Expression.__iadd__" = true from (c.b 284 rfl)) (show PySem.W.keepIn K (.ref (a_o_iadd K)) = true from (c.b 285 rfl))
  have O_isub := mx_mk (C := (a_XC K)) (He.eqO_ok (a := PySem.W.findIn K (.ref (a_XC K)) "__isub__") (b := some (some (.ref (a_o_isub K)))) (c.b 287 rfl)) (show PySem.W.isFn K (.ref (a_o_isub K)) = true from (c.b 290 rfl)) (Gh.fn_of (x := "__isub__") (q := "Expression.__isub__") (st := s_isub) (c.f 56 rfl)) (show PySem.W.codeIn K (Gh.oFun K (a_o_isub K)).code "Expression.__isub__" = true from (c.b 288 rfl)) (show PySem.W.keepIn K (.ref (a_o_isub K)) = true from (c.b 289 rfl))
  exact all_mk KX G hmg lA lL lC lk lo lp lq lr ls bA bL bC bk bo bp bq br bs ne0 eA eL eC ek oA oL oC ok rNAA rNAx rNAk rNAr rNAt rNEA rNEx rNEk rNEr rNEt rWE hNA hNE sNANA sNENA sNENE xA x1 x2 xiL xiC xik xmk xk xpg xhd xpo xsa xnK xnP xnN xnA xnL dA d1 d2 diL diC dik dmk dk pA p1 p2 piL piC pik pmk pk uA u1 u2 uiL uiC uik umk uk upg uhd upo usa unN tA t1 t2 tiL tiC tik tmk tk dl dz dv xe4 xe5 xe6 xe7 xic xty xsi xsf akA akl akz akv yA yl yke yo yq yp1 yt1 yz1 yv1 yp2 yt2 yz2 yv2 yp3 yt3 yz3 yv3 radd rand nr_floordiv nr_pow nr_lshift nr_rshift z0mul z1mul z0xor z1xor z_isinstance z_list z_tuple z_len z_all z_zip z_dict z_int z_bool z_range z_sum z_set z_sorted z_enumerate z_str z_abs D_is_whole D_ascending D_access D_number D_check_letters D_check_expression D_joined D_is_allowed D_numbered D_assigned D_is_access D_frozen D_polynomial D_active D_value_of D_greater D_lesser D_below D_at_most D_equal D_unequal D__law_draw D__law_start D__law_pick D__law_mixed D__law_same D__law_name D__law_names D__law_letters D__law_own_accesses D__law_access D__law_grown O_add O_sub O_rmul O_and O_or O_rxor O_floordiv O_pow O_lshift O_rshift O_neg O_pos O_invert O_abs O_iadd O_isub
end Lw
open PySem PySem.W PySem.Calls PyProof.Rows
set_option maxRecDepth 100000 in
set_option maxHeartbeats 0 in
theorem PySem.Challenge.cw_levelwalks_k20_gains_and_losses_holds : PySem.Challenge.rw_levelwalks_k20_gains_and_losses.Holds := by
  w_on; o_law
  refine HandSHeadRun.head_any (r := OpenLaw.row PySem.Challenge.rw_levelwalks_k20_gains_and_losses) (q := view (OpenLaw.row PySem.Challenge.rw_levelwalks_k20_gains_and_losses).prog [112]) (H := Lw.hkH) (ob := Lw.ob) (M := 200000) (loose := Lw.nms) (d := HandSHeadRun.topDef (OpenLaw.row PySem.Challenge.rw_levelwalks_k20_gains_and_losses).prog 112) (kwd := []) Lw.ob_eq
    (by kernel_rfl) (fun s => by kernel_rfl) Lw.run (by kernel_rfl) (by kernel_rfl) (by kernel_rfl) (by rfl) (by first | assumption | decide +kernel) (by decide +kernel) ⟨rfl, rfl, rfl, rfl, rfl, by decide +kernel⟩ ?hw ?hc
  case hw => w_witness2
  case hc =>
    refine LamX.walk_ofTsE (l := PySem.Challenge.rw_levelwalks_k20_gains_and_losses) (n := 63) (k := 16) (x := "_law_script") (CX := fun _ => L2.CX0) rfl (by decide) (by kernel_rfl) ⟨rfl, by decide, by decide⟩ ?F (fun _ _ _ _ _ z => z)
    intro w mg fa h Y G hmg0
    obtain ⟨K, KX, c⟩ := Y
    have hmg : mg ("law" : PySem.Str) = some (.ref fa) := by
      have e : (HandSHeadRun.topDef (OpenLaw.row PySem.Challenge.rw_levelwalks_k20_gains_and_losses).prog 112).name = ("law" : PySem.Str) := by kernel_rfl
      rw [← e]
      exact hmg0
    exact ⟨K, KX, Lw.facts KX G hmg c⟩
