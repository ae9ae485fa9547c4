import PyProof.Rows.All
import Wide.All
import OpenK.AllK
import Wide.FinOn
import HandS.ForMost
import HandS.IsInst
import HandS.ExcField
import HandS.ClsMeth
import HandS.Property
import HandS.Words
import HandS.Head0
import HandS.Head1
import HandS.Head2
import HandS.HeadEnd
import HandS.HeadHook1
import HandS.HeadHook2
import HandS.Deep
import HandS.Walk
import KE.KDictWalk
import KE.KDictCopyH
import KE.KeyNested
import HandS.Small
import HandS.Style
import HandS.TupSets
import HandS.SetBool
import HandS.SortOrd
import PyProof.Rows.SortKeyStr
import HandS.Star
import HandS.ExcOwn
import HandS.TryOnly
import HandS.WordsExc
import HandS.TupMul
import HandS.FStr
import HandS.Iter
import HandS.Text
import PyProof.StrBlockL
import HandS.ExcInit
import HandS.ExcIs
import HandS.ExcValue
import KE.KExcMore
import KE.KExcInit
import HandS.SlotsOwn
import KE.KCallOwn
import PyProof.InstEq
import KE.GoesEnum
import KE.DataMinMax
import HandS.SortKw
import HandS.TupAny
import HandS.DictComp
import HandS.Finally
import HandS.TryMany
import HandS.Codes
import HandS.StrMore
import HandS.MapObj
import HandS.ListItems
import HandS.Conv
import KE.KDictZip
import HandS.EndTab
import PyProof.AutoSeq1
import HandS.More
import PyProof.NeKinds
import PyProof.NeData
import PyProof.IsRules
import PyProof.FactsAll.dict_2
import KE.KDictDisplayH
import KE.KDictKeyed
import HandS.NamedTupSort
import HandS.SetFor
import HandS.Strs
import KE.KSortTupAny
import KE.KDictSum
import KE.KDictPairs
import HandS.TupLe
import HandS.TupLen
import PySem.Challenge.RW_firstneed_k70_whole_numbers_states_and_t
set_option Elab.async false
set_option linter.all false
set_option maxRecDepth 100000
set_option maxHeartbeats 4000000
/-! The facts of own classes as truth values that the kernel's run of the top can tell. -/
namespace Fn
open PySem PySem.Spec PyProof.Rows L2
def tyNs : List String := ["NoneType", "bool", "int", "str", "list", "tuple", "dict"]
def ownT (T : List Value) : List Value → Bool
  | .ref _ :: r => ownT T r
  | l => l == T
abbrev tVal : List Value := [.type "ValueError", .type "Exception", .type "BaseException", .type "object"]
abbrev tKey : List Value := [.type "KeyError", .type "LookupError", .type "Exception", .type "BaseException", .type "object"]
abbrev tLok : List Value := [.type "LookupError", .type "Exception", .type "BaseException", .type "object"]
abbrev tIdx : List Value := [.type "IndexError", .type "LookupError", .type "Exception", .type "BaseException", .type "object"]
abbrev tOvf : List Value := [.type "OverflowError", .type "ArithmeticError", .type "Exception", .type "BaseException", .type "object"]
abbrev tAri : List Value := [.type "ArithmeticError", .type "Exception", .type "BaseException", .type "object"]
abbrev tRun : List Value := [.type "RuntimeError", .type "Exception", .type "BaseException", .type "object"]
def clsX (K : PySem.W.Frag) (C : Addr) (T : List Value) (newId : String) : Bool := match K.lookup C with
  | some ⟨.type "type", _, .cls cd, sl⟩ => (match cd.mro, sl.toList with
    | .ref C' :: bm, [_, _, _, _, some (.builtin n), _] => C' == C && n == newId && !cd.hasDel && cd.hasDict && ownT T bm
    | _, _ => false)
  | _ => false
structure Ta where
  (T X fi fl pn gn pb gb : Addr)
abbrev mcT : Value := .type "type"
abbrev tValE : List Value := [.type "ValueError", .type "Exception", .type "BaseException", .type "object"]
def termB (K : PySem.W.Frag) (c : Ta) : Bool :=
  PySem.W.plainGet K c.T Str.empty && (PySem.W.hasDictIn K c.T && (PySem.W.plainOver K c.T && (decide (PySem.W.findIn K (.ref c.T) "__setattr__" = some (some (.builtin "object.__setattr__"))) && (PySem.W.makesIn K c.T && (PySem.W.isFn K (.ref c.fi) && (PySem.W.keepIn K (.ref c.T) &&
    (decide (PySem.W.findIn K (.ref c.T) "_nodes" = some none) && (PySem.W.isFn K (.ref c.fl) && (decide (PySem.W.specialIn K (.ref c.pn) "__get__" = some (some (.builtin "property.__get__"))) && (decide (PySem.W.takesIn K (.ref c.pn) = some true) &&
    (PySem.W.readsIn K c.T mcT && (decide (PySem.W.specialIn K (.ref c.T) "__getattribute__" = some (some (.builtin "type.__getattribute__"))) && (PySem.W.fnIn K c.gb && decide (PySem.W.kitOne K (.ref c.T) (.ref c.T) = some true))))))))))))))
def clB4 (K : PySem.W.Frag) (C : Addr) : Bool := decide (PySem.W.findIn K (.ref C) "__class__" = some (some (.builtin "object.__class__"))) && (decide (PySem.W.specialIn K (.builtin "object.__class__") "__get__" = some (some (.builtin "getset_descriptor.__get__"))) && (decide (PySem.W.takesIn K (.builtin "object.__class__") = some true) && decide (PySem.W.mroIn K C (.type "object") = some true)))
def kitsB (K : PySem.W.Frag) (C : Addr) : Bool := ["NoneType", "bool", "int", "str", "list", "tuple", "dict"].all fun n => decide (PySem.W.kitOne K (.type n) (.ref C) = some false)
def invB (K : PySem.W.Frag) (X : Addr) : Bool :=
  PySem.W.excIn K X tValE "ValueError.__new__" && (PySem.W.keepIn K (.ref X) && (decide (PySem.W.subIn K (.ref X) (.type "BaseException") = some true) && (decide (PySem.W.typeIn K (.ref X) = some (.type "type")) && decide (PySem.W.exmOne K (.ref X) (.ref X) = some true))))
def exB (K : PySem.W.Frag) (C : Addr) : Bool :=
  xfB K C && (PySem.W.keepIn K (.ref C) && (decide (PySem.W.findIn K (.ref C) "__class__" = some (some (.builtin "object.__class__"))) && (decide (PySem.W.specialIn K (.builtin "object.__class__") "__get__" = some (some (.builtin "getset_descriptor.__get__"))) &&
    (decide (PySem.W.takesIn K (.builtin "object.__class__") = some true) && decide (PySem.W.mroIn K C (.type "object") = some true)))))
def iniB (K : PySem.W.Frag) (C I : Addr) (f : Str) (T : List Value) (newId : String) : Bool :=
  clsX K C T newId && (decide (PySem.W.findIn K (.ref C) "__setattr__" = some (some (.builtin "object.__setattr__"))) && (decide (PySem.W.findIn K (.ref C) f = some none) && (decide (PySem.W.findIn K (.ref C) "__init__" = some (some (.ref I))) &&
    decide (PySem.W.typeIn K (.ref I) = some (.type "function")))))
def strB (K : PySem.W.Frag) (C : Addr) : Bool := decide (PySem.W.findIn K (.ref C) "__str__" = some (some (.builtin "BaseException.__str__")))
def rowB (K : PySem.W.Frag) (C : Addr) (cs : List Value) (bs : List Bool) : Bool := (cs.zip bs).all fun p => decide (PySem.W.kitOne K (.ref C) p.1 = some p.2)
def clB : Stmt → List Stmt
  | .ClassDef _ _ _ body _ _ _ _ _ _ _ => body
  | _ => []
structure Pa where
  (C I : Addr)
def prsB (K : PySem.W.Frag) (X C I : Addr) : Bool :=
  exB K C && (iniB K C I "line" tVal "ValueError.__new__" && (decide (PySem.W.typeIn K (.ref C) = some (.type "type")) && (decide (PySem.W.exmOne K (.ref C) (.ref C) = some true) && decide (PySem.W.exmOne K (.ref X) (.ref C) = some false))))
def bitB (K : PySem.W.Frag) (C : Addr) : Bool := PySem.W.selfFirst K C && tyNs.all fun n => decide (PySem.W.subIn K (.type n) (.ref C) = some false)
structure Ea where
  (O U I : Addr)
def four (c : Ta) (p : Pa) (e : Ea) (i : Nat) : Addr := [c.X, e.O, e.U, p.C].getD i 0
def errB (K : PySem.W.Frag) (c : Ta) (p : Pa) (e : Ea) : Bool :=
  decide (PySem.W.keepIn K (.ref e.O) = true) && (decide (PySem.W.subIn K (.ref e.O) (.type "BaseException") = some true) && (decide (PySem.W.typeIn K (.ref e.O) = some (.type "type")) &&
    (exB K e.U && (iniB K e.U e.I "spot" tLok "LookupError.__new__" && (decide (PySem.W.typeIn K (.ref e.U) = some (.type "type")) && (bitB K c.T && (decide (PySem.W.findIn K (.ref c.T) (dunderR "and") = some none) && (decide (PySem.W.findIn K (.ref c.T) (dunderR "or") = some none) &&
      (List.range 4).all fun i => (List.range 4).all fun j => decide (PySem.W.exmOne K (.ref (four c p e i)) (.ref (four c p e j)) = some (i == j))))))))))
structure Xa where
  (B R P O C I G : Addr)
def five (x : Xa) (i : Nat) : Addr := [x.B, x.R, x.P, x.O, x.C].getD i 0
def texB (K : PySem.W.Frag) (x : Xa) : Bool :=
  ((List.range 4).all fun i => decide (PySem.W.keepIn K (.ref (five x i)) = true) && (decide (PySem.W.subIn K (.ref (five x i)) (.type "BaseException") = some true) && decide (PySem.W.typeIn K (.ref (five x i)) = some (.type "type")))) &&
    (exB K x.C && (iniB K x.C x.I "line" tVal "ValueError.__new__" && (decide (PySem.W.typeIn K (.ref x.C) = some (.type "type")) && (kitsB K x.G &&
      (List.range 5).all fun i => (List.range 5).all fun j => decide (PySem.W.exmOne K (.ref (five x i)) (.ref (five x j)) = some (i == j))))))
def pexB (K : PySem.W.Frag) (C I : Addr) : Bool :=
  exB K C && (iniB K C I "line" tVal "ValueError.__new__" && (decide (PySem.W.typeIn K (.ref C) = some (.type "type")) && decide (PySem.W.exmOne K (.ref C) (.ref C) = some true)))
end Fn

set_option Elab.async false
set_option linter.all false
set_option maxRecDepth 100000
set_option maxHeartbeats 4000000
/-! The head by one kernel run: which addresses the facts are told of, the facts as truth values, each def as an object; the Hook of these; how each fact is read off it; the entry of a law over such a head. -/
namespace Fn
open PySem PySem.Spec PyProof.Rows L2
/-! ### addresses: forced to numerals -/
def hFr {α : Type} : List Addr → (List Addr → α) → α
  | [], k => k []
  | a :: r, k => HandSHeadRun.frNat a fun a => hFr r fun r => k (a :: r)
theorem hFr_eq {α : Type} : ∀ (as : List Addr) (k : List Addr → α), hFr as k = k as
  | [], _ => rfl
  | a :: r, k => by
    show HandSHeadRun.frNat a (fun a => hFr r fun r => k (a :: r)) = _
    rw [HandSHeadRun.frNat_eq, hFr_eq r]
/-- the object of an empty table of code -/
def htE (o : Obj) : Bool := match o.cls, o.data with
  | .none, .fields vs => vs.size == 0
  | _, _ => false
/-- what an object leads to: a class to its names and its bases, names to what they stand for, a property to what it holds, a function to its code -/
def hRef (o : Obj) : List Addr := match o.data with
  | .func fd => He.refV fd.code
  | .cls cd => cd.ns :: cd.mro.flatMap He.refV
  | .dict es _ => es.toList.flatMap fun e => He.refV e.val
  | .fields vs => (match o.cls with
    | .type n => if n == "property" || n == "classmethod" then vs.toList.flatMap He.refV else []
    | _ => [])
  | _ => []
def hRefS (o : Obj) : List Addr := match o.data with
  | .cls cd => cd.ns :: cd.mro.flatMap He.refV
  | _ => []
/-- one level on -/
def hNext (f : Obj → List Addr) (g : Addr → Option Obj) (as : List Addr) : List Addr := (as.flatMap fun a => match g a with
  | some o => f o
  | none => []).eraseDups
def hKeep (g : Addr → Option Obj) (as : List Addr) : List Addr := as.filter fun a => match g a with
  | some o => !htE o
  | none => false
def hGlo (g : Addr → Option Obj) (xs : List Str) : List Addr := match g mainGlobals with
  | some ⟨_, _, .dict es _, _⟩ => xs.flatMap fun x => match es.toList.find? (·.key.isStr x) with
    | some e => He.refV e.val
    | none => []
  | _ => []
/-- the functions with their code; the classes as deep as a property's code; classes of which only the bases are asked -/
def hAs {α : Type} (g : Addr → Option Obj) (fs cs ss : List Str) (k : List Addr → α) : α :=
  hFr (hGlo g fs) fun f0 => hFr (hNext hRef g f0) fun f1 =>
  hFr (hGlo g ss) fun s0 => hFr (hNext hRefS g s0) fun s1 => hFr (hNext hRefS g s1) fun s2 =>
  hFr (hGlo g cs) fun c0 => hFr (hNext hRef g c0) fun c1 => hFr (hNext hRef g c1) fun c2 => hFr (hNext hRef g c2) fun c3 => hFr (hNext hRef g c3) fun c4 => hFr (hNext hRef g c4) fun c5 =>
  hFr (hKeep g ([mainGlobals] ++ (c0 ++ (c1 ++ (s0 ++ (s1 ++ (s2 ++ (f0 ++ (f1 ++ (c2 ++ (c3 ++ (c4 ++ c5))))))))))).eraseDups) k
def hAll (g : Addr → Option Obj) (fs cs ss : List Str) : List Addr := hAs g fs cs ss id
theorem hAs_eq {α : Type} (g : Addr → Option Obj) (fs cs ss : List Str) (k : List Addr → α) : hAs g fs cs ss k = k (hAll g fs cs ss) := by
  unfold hAll hAs
  simp only [hFr_eq, id]
/-! ### defs -/
structure HDef where
  ad : PySem.W.Frag → Addr
  name : Str
  qual : Str
  params : Arguments
  body : List Stmt
  scope : Scope
def HDef.val (d : HDef) : He.FnV := some (d.name, d.qual, d.params, .stmts d.body, d.scope, mainGlobals, [], .none, builtinsNs)
def HDef.obs (K : PySem.W.Frag) (d : HDef) : He.FnV := match K.lookup (d.ad K) with
  | some ⟨_, _, .func fd, _⟩ => some (fd.name, fd.qualname, fd.params, fd.body, fd.scope, fd.globals, fd.closure, fd.defaults, fd.builtins)
  | _ => none
def HDef.code (K : PySem.W.Frag) (d : HDef) : Bool := match K.lookup (d.ad K) with
  | some ⟨_, _, .func fd, _⟩ => PySem.W.codeIn K fd.code d.qual
  | _ => false
theorem HDef.ok {K : PySem.W.Frag} {d : HDef} (e : d.obs K = d.val) (c : d.code K = true) :
    ∃ oc od osl kV doc pm an cdv ct, K.lookup (d.ad K) = some ⟨oc, od, .func (PySem.W.fnOf d.name d.qual d.params d.body d.scope .none kV doc pm an cdv ct), osl⟩ ∧ PySem.W.codeIn K cdv d.qual = true := by
  unfold HDef.obs at e
  unfold HDef.code at c
  cases q : K.lookup (d.ad K) with
  | none =>
    rw [q] at c
    cases c
  | some o =>
    obtain ⟨oc, od, dt, osl⟩ := o
    rw [q] at c e
    cases dt with
    | func fd =>
      obtain ⟨n1, n2, n3, n4, n5, n6, n7, n8, n9, n10, n11, n12, n13, n14, n15⟩ := fd
      have e2 : (some (n1, n2, n3, n4, n5, n6, n7, n8, n15) : He.FnV) = some (d.name, d.qual, d.params, .stmts d.body, d.scope, mainGlobals, [], .none, builtinsNs) := e
      simp only [Option.some.injEq, Prod.mk.injEq] at e2
      obtain ⟨h1, h2, h3, h4, h5, h6, h7, h8, h9⟩ := e2
      subst h1 h2 h3 h4 h5 h6 h7 h8 h9
      exact ⟨oc, od, osl, n9, n10, n11, n12, n13, n14, rfl, c⟩
    | _ => cases c
/-! ### the Hook -/
abbrev HAl : Type := List Bool × List Bool × List He.FnV
def hObs (fl : PySem.W.Frag → List Bool) (fn : List HDef) (K : PySem.W.Frag) : HAl := (fl K, fn.map fun d => d.code K, fn.map fun d => d.obs K)
def hVal (n : Nat) (fn : List HDef) : HAl := (List.replicate n true, fn.map fun _ => true, fn.map HDef.val)
def HSays (n : Nat) (fl : PySem.W.Frag → List Bool) (fn : List HDef) (K : PySem.W.Frag) : Prop := hObs fl fn K = hVal n fn
def hObsG (fs cs ss : List Str) (fl : PySem.W.Frag → List Bool) (fn : List HDef) (g : Addr → Option Obj) : HAl := hAs g fs cs ss fun as => hObs fl fn (He.frG g as)
def hHook (n : Nat) (fs cs ss : List Str) (fl : PySem.W.Frag → List Bool) (fn : List HDef) : PySem.W.Hook where
  α := HAl
  obs := fun s => hObsG fs cs ss fl fn s.heap.get?
  val := fun _ => hVal n fn
  says := fun _ h => ∃ K : PySem.W.Frag, K.In h ∧ HSays n fl fn K
  of := fun _ s e => ⟨He.frG s.heap.get? (hAll s.heap.get? fs cs ss), He.frG_in, by
    have e2 := e
    unfold hObsG at e2
    rw [hAs_eq] at e2
    exact e2⟩
  keeps := fun _ _ _ ⟨K, hK, c⟩ k => ⟨K, PySem.W.Frag.In.keeps hK k, c⟩
theorem hObsG_eq {n : Nat} {fs cs ss : List Str} {fl : PySem.W.Frag → List Bool} {fn : List HDef} {g : Addr → Option Obj} {s : Shared} (h : ∀ a, g a = s.heap.get? a) : hObsG fs cs ss fl fn g = (hHook n fs cs ss fl fn).obs s := by
  have e : g = s.heap.get? := funext h
  rw [e] <;> rfl
section
variable {n : Nat} {fl : PySem.W.Frag → List Bool} {fn : List HDef} {K : PySem.W.Frag}
theorem HSays.b (c : HSays n fl fn K) (i : Nat) {b : Bool} (h : (fl K)[i]? = some b := by rfl) : b = true := by
  have e : fl K = List.replicate n true := congrArg (fun z : HAl => z.1) c
  have m := List.mem_of_getElem? h
  rw [e] at m
  exact List.eq_of_mem_replicate m
theorem HSays.def_ (c : HSays n fl fn K) (i : Nat) {d : HDef} (h : fn[i]? = some d := by rfl) :
    ∃ oc od osl kV doc pm an cdv ct, K.lookup (d.ad K) = some ⟨oc, od, .func (PySem.W.fnOf d.name d.qual d.params d.body d.scope .none kV doc pm an cdv ct), osl⟩ ∧ PySem.W.codeIn K cdv d.qual = true := by
  have e1 : fn.map (fun d => d.code K) = fn.map fun _ => true := congrArg (fun z : HAl => z.2.1) c
  have e2 : fn.map (fun d => d.obs K) = fn.map HDef.val := congrArg (fun z : HAl => z.2.2) c
  have g1 : (fn.map fun d => d.code K)[i]? = (fn.map fun _ => true)[i]? := by rw [e1]
  have g2 : (fn.map fun d => d.obs K)[i]? = (fn.map HDef.val)[i]? := by rw [e2]
  rw [List.getElem?_map, List.getElem?_map, h] at g1 g2
  exact HDef.ok (Option.some.inj g2) (Option.some.inj g1)
end
/-! ### facts as truth values -/
def hInt (K : PySem.W.Frag) (x : Str) (i : Int) : Bool := match PySem.W.nsIn K mainGlobals x with
  | some (some (.int j _)) => decide (j = i)
  | _ => false
theorem hInt_ok {K : PySem.W.Frag} {x : Str} {i : Int} (c : hInt K x i = true) : ∃ t, PySem.W.nsIn K mainGlobals x = some (some (.int i t)) := by
  unfold hInt at c
  cases e : PySem.W.nsIn K mainGlobals x with
  | none => rw [e] at c; cases c
  | some o =>
    rw [e] at c
    cases o with
    | none => cases c
    | some v =>
      cases v with
      | int j t =>
        have ej : j = i := of_decide_eq_true c
        exact ⟨t, by rw [ej]⟩
      | _ => cases c
def hStr (K : PySem.W.Frag) (x z : Str) : Bool := match PySem.W.nsIn K mainGlobals x with
  | some (some (.str y _)) => decide (y = z)
  | _ => false
theorem hStr_ok {K : PySem.W.Frag} {x z : Str} (c : hStr K x z = true) : ∃ t, PySem.W.nsIn K mainGlobals x = some (some (.str z t)) := by
  unfold hStr at c
  cases e : PySem.W.nsIn K mainGlobals x with
  | none => rw [e] at c; cases c
  | some o =>
    rw [e] at c
    cases o with
    | none => cases c
    | some v =>
      cases v with
      | str y t =>
        have ej : y = z := of_decide_eq_true c
        exact ⟨t, by rw [ej]⟩
      | _ => cases c
def hFree (K : PySem.W.Frag) (x : Str) : Bool := decide (PySem.W.nsIn K mainGlobals x = some none)
theorem hFree_ok {K : PySem.W.Frag} {x : Str} (c : hFree K x = true) : PySem.W.nsIn K mainGlobals x = some none := of_decide_eq_true c
def hGa (K : PySem.W.Frag) (x : Str) : Bool := decide (PySem.W.nsIn K mainGlobals x = some (some (.ref (He.ga K x))))
theorem hGa_ok {K : PySem.W.Frag} {x : Str} (c : hGa K x = true) : PySem.W.nsIn K mainGlobals x = some (some (.ref (He.ga K x))) := of_decide_eq_true c
def hMa (K : PySem.W.Frag) (C : Addr) (x : Str) : Bool := decide (PySem.W.findIn K (.ref C) x = some (some (.ref (He.ma K C x))))
theorem hMa_ok {K : PySem.W.Frag} {C : Addr} {x : Str} (c : hMa K C x = true) : PySem.W.findIn K (.ref C) x = some (some (.ref (He.ma K C x))) := of_decide_eq_true c
/-- the first of the values that an object of the type T holds -/
def hrA (K : PySem.W.Frag) (p : Addr) (T : String) : Addr := match PySem.W.recIn K p T with
  | some (.ref a :: _) => a
  | _ => 0
def hrR (K : PySem.W.Frag) (p : Addr) (T : String) : List Value := match PySem.W.recIn K p T with
  | some (_ :: r) => r
  | _ => []
def hrB (K : PySem.W.Frag) (p : Addr) (T : String) : Bool := match PySem.W.recIn K p T with
  | some (.ref _ :: _) => true
  | _ => false
theorem hrC {K : PySem.W.Frag} {p : Addr} {T : String} (c : hrB K p T = true) : PySem.W.recIn K p T = some (.ref (hrA K p T) :: hrR K p T) := by
  unfold hrB at c
  unfold hrA hrR
  cases e : PySem.W.recIn K p T with
  | none => rw [e] at c; cases c
  | some l =>
    rw [e] at c
    cases l with
    | nil => cases c
    | cons v r => cases v <;> first | rfl | cases c
/-- a classmethod's object -/
def hkA (K : PySem.W.Frag) (C : Addr) (x : Str) : Addr := match PySem.W.findCls K (.ref C) mcT x with
  | some (.get _ (.ref a) _ _) => a
  | _ => 0
def hkB (K : PySem.W.Frag) (C : Addr) (x : Str) : Bool := match PySem.W.findCls K (.ref C) mcT x with
  | some (.get (.builtin n) (.ref _) .none (.ref t)) => decide (n = "classmethod.__get__") && decide (t = C)
  | _ => false
theorem hkC {K : PySem.W.Frag} {C : Addr} {x : Str} (c : hkB K C x = true) : PySem.W.findCls K (.ref C) mcT x = some (.get (.builtin "classmethod.__get__") (.ref (hkA K C x)) .none (.ref C)) := by
  unfold hkB at c
  unfold hkA
  split at c
  · rename_i n a t e
    rw [e]
    simp only [Bool.and_eq_true, decide_eq_true_eq] at c
    obtain ⟨rfl, rfl⟩ := c
    rfl
  · cases c
/-! ### tables of code -/
def htA (K : PySem.W.Frag) (x : Str) : Addr := match PySem.W.tabIn K x with
  | some (a, _) => a
  | none => 0
def htP (K : PySem.W.Frag) (x : Str) : Addr := match PySem.W.tabIn K x with
  | some (_, a) => a
  | none => 0
def htB (K : PySem.W.Frag) (x : Str) : Bool := (PySem.W.tabIn K x).isSome && (K.lookup (htP K x)).isNone
theorem htT {K : PySem.W.Frag} {x : Str} (c : htB K x = true) : PySem.W.tabIn K x = some (htA K x, htP K x) := by
  have c2 := (Bool.and_eq_true_iff.mp c).1
  unfold htA htP
  cases e : PySem.W.tabIn K x with
  | none => rw [e] at c2; cases c2
  | some p => rfl
theorem htN {K : PySem.W.Frag} {x : Str} (c : htB K x = true) : K.lookup (htP K x) = none := by
  have c2 := (Bool.and_eq_true_iff.mp c).2
  cases e : K.lookup (htP K x) with
  | none => rfl
  | some p => rw [e] at c2; cases c2
theorem htOk {K : PySem.W.Frag} {x : Str} {f : Addr} {oc : Value} {od : Option Addr} {fd : FuncData} {sl : Array (Option Value)} (a : PySem.W.nsIn K mainGlobals x = some (some (.ref f))) (l : K.lookup f = some ⟨oc, od, .func fd, sl⟩) (t : PySem.W.tabIn K x = some (A, Q)) :
    fd.code = .ref A ∧ ∃ oA oD vS oS, K.lookup A = some ⟨oA, oD, .fields vS, oS⟩ ∧ (vS[11]? : Option Value) = some (.ref Q) := by
  unfold PySem.W.tabIn at t
  rw [a] at t
  simp only [l] at t
  split at t
  · rename_i c2 hc
    split at t
    · rename_i oA oD vS oS hl
      split at t
      · rename_i P2 hv
        cases t
        exact ⟨hc, oA, oD, vS, oS, hl, hv⟩
      · cases t
    · cases t
  · cases t
def htNe (K : PySem.W.Frag) (x y : Str) : Bool := decide (htP K x ≠ htP K y)
theorem htNe_ok {K : PySem.W.Frag} {x y : Str} (c : htNe K x y = true) : htP K x ≠ htP K y := of_decide_eq_true c
end Fn

set_option Elab.async false
set_option linter.all false
set_option maxRecDepth 100000
set_option maxHeartbeats 4000000
namespace K70
open PySem PySem.Spec PyProof.Rows L2 Fn
def top (i : Nat) : Stmt := PySem.Challenge.pw_firstneed_k70_whole_numbers_states_and_t.main.body.getD i (.Pass ⟨0, 0, 0, 0⟩)
abbrev RX : PySem.W.OpenRow := PySem.W.OpenLaw.row PySem.Challenge.rw_firstneed_k70_whole_numbers_states_and_t
abbrev qv : Program := PySem.W.view RX.prog [48, 50]
def nmL0 : List PySem.Str := [("__name__" : PySem.Str), ("is_integer" : PySem.Str), ("NeedError" : PySem.Str), ("InvalidTable" : PySem.Str), ("InvalidOperation" : PySem.Str), ("ParseError" : PySem.Str), ("are_numbers" : PySem.Str), ("ascends" : PySem.Str), ("is_class_form" : PySem.Str), ("are_classes_form" : PySem.Str), ("is_state_form" : PySem.Str), ("EMPTY" : PySem.Str), ("NONE" : PySem.Str), ("MAX_DIGITS" : PySem.Str), ("number_told" : PySem.Str), ("numbers_told" : PySem.Str)]
def nmL1 : List PySem.Str := [("state_told" : PySem.Str), ("key_told" : PySem.Str), ("line_told" : PySem.Str), ("check_text" : PySem.Str), ("numbers_text" : PySem.Str), ("state_text" : PySem.Str), ("write_numbers" : PySem.Str), ("read_numbers" : PySem.Str), ("write_state" : PySem.Str), ("read_state" : PySem.Str), ("is_key" : PySem.Str), ("write_table" : PySem.Str), ("read_table" : PySem.Str), ("_law_dice" : PySem.Str), ("_law_roll" : PySem.Str), ("_law_pick" : PySem.Str)]
def nmL2 : List PySem.Str := [("_law_some" : PySem.Str), ("_law_rising" : PySem.Str), ("_law_a_state" : PySem.Str), ("_law_line" : PySem.Str), ("_law_state_line" : PySem.Str), ("_law_due_numbers" : PySem.Str), ("_law_is_rising" : PySem.Str), ("_law_due_state" : PySem.Str), ("_law_due_table" : PySem.Str), ("_law_bent" : PySem.Str), ("_law_got" : PySem.Str), ("_law_right" : PySem.Str)]
def nmL : List PySem.Str := nmL0 ++ (nmL1 ++ (nmL2))
def nmF0 : List PySem.Str := [("is_integer" : PySem.Str), ("are_numbers" : PySem.Str), ("ascends" : PySem.Str), ("is_class_form" : PySem.Str), ("are_classes_form" : PySem.Str), ("is_state_form" : PySem.Str), ("number_told" : PySem.Str), ("numbers_told" : PySem.Str), ("state_told" : PySem.Str), ("key_told" : PySem.Str), ("line_told" : PySem.Str), ("check_text" : PySem.Str), ("numbers_text" : PySem.Str), ("state_text" : PySem.Str), ("write_numbers" : PySem.Str), ("read_numbers" : PySem.Str)]
def nmF1 : List PySem.Str := [("write_state" : PySem.Str), ("read_state" : PySem.Str), ("is_key" : PySem.Str), ("write_table" : PySem.Str), ("read_table" : PySem.Str), ("_law_dice" : PySem.Str), ("_law_roll" : PySem.Str), ("_law_pick" : PySem.Str), ("_law_some" : PySem.Str), ("_law_rising" : PySem.Str), ("_law_a_state" : PySem.Str), ("_law_line" : PySem.Str), ("_law_state_line" : PySem.Str), ("_law_due_numbers" : PySem.Str), ("_law_is_rising" : PySem.Str), ("_law_due_state" : PySem.Str)]
def nmF2 : List PySem.Str := [("_law_due_table" : PySem.Str), ("_law_bent" : PySem.Str), ("_law_got" : PySem.Str), ("_law_strings_right" : PySem.Str), ("_law_right" : PySem.Str), ("law" : PySem.Str)]
def nmF : List PySem.Str := nmF0 ++ (nmF1 ++ (nmF2))
def nmC0 : List PySem.Str := [("ParseError" : PySem.Str)]
def nmC : List PySem.Str := nmC0
def nmS0 : List PySem.Str := []
def nmS : List PySem.Str := nmS0
def flX0 (K : PySem.W.Frag) : List Bool := [Fn.hGa K "is_integer", PySem.W.keepIn K (.ref (He.ga K "is_integer")), Fn.hGa K "are_numbers", PySem.W.keepIn K (.ref (He.ga K "are_numbers")), Fn.hGa K "ascends", PySem.W.keepIn K (.ref (He.ga K "ascends")), Fn.hGa K "is_class_form", PySem.W.keepIn K (.ref (He.ga K "is_class_form")), Fn.hGa K "are_classes_form", PySem.W.keepIn K (.ref (He.ga K "are_classes_form")), Fn.hGa K "is_state_form", PySem.W.keepIn K (.ref (He.ga K "is_state_form")), Fn.hGa K "number_told", PySem.W.keepIn K (.ref (He.ga K "number_told")), Fn.hGa K "numbers_told", PySem.W.keepIn K (.ref (He.ga K "numbers_told"))]
def flX1 (K : PySem.W.Frag) : List Bool := [Fn.hGa K "state_told", PySem.W.keepIn K (.ref (He.ga K "state_told")), Fn.hGa K "key_told", PySem.W.keepIn K (.ref (He.ga K "key_told")), Fn.hGa K "line_told", PySem.W.keepIn K (.ref (He.ga K "line_told")), Fn.hGa K "check_text", PySem.W.keepIn K (.ref (He.ga K "check_text")), Fn.hGa K "numbers_text", PySem.W.keepIn K (.ref (He.ga K "numbers_text")), Fn.hGa K "state_text", PySem.W.keepIn K (.ref (He.ga K "state_text")), Fn.hGa K "write_numbers", PySem.W.keepIn K (.ref (He.ga K "write_numbers")), Fn.hGa K "read_numbers", PySem.W.keepIn K (.ref (He.ga K "read_numbers"))]
def flX2 (K : PySem.W.Frag) : List Bool := [Fn.hGa K "write_state", PySem.W.keepIn K (.ref (He.ga K "write_state")), Fn.hGa K "read_state", PySem.W.keepIn K (.ref (He.ga K "read_state")), Fn.hGa K "is_key", PySem.W.keepIn K (.ref (He.ga K "is_key")), Fn.hGa K "write_table", PySem.W.keepIn K (.ref (He.ga K "write_table")), Fn.hGa K "read_table", PySem.W.keepIn K (.ref (He.ga K "read_table")), Fn.hGa K "_law_dice", PySem.W.keepIn K (.ref (He.ga K "_law_dice")), Fn.hGa K "_law_roll", PySem.W.keepIn K (.ref (He.ga K "_law_roll")), Fn.hGa K "_law_pick", PySem.W.keepIn K (.ref (He.ga K "_law_pick"))]
def flX3 (K : PySem.W.Frag) : List Bool := [Fn.hGa K "_law_some", PySem.W.keepIn K (.ref (He.ga K "_law_some")), Fn.hGa K "_law_rising", PySem.W.keepIn K (.ref (He.ga K "_law_rising")), Fn.hGa K "_law_a_state", PySem.W.keepIn K (.ref (He.ga K "_law_a_state")), Fn.hGa K "_law_line", PySem.W.keepIn K (.ref (He.ga K "_law_line")), Fn.hGa K "_law_state_line", PySem.W.keepIn K (.ref (He.ga K "_law_state_line")), Fn.hGa K "_law_due_numbers", PySem.W.keepIn K (.ref (He.ga K "_law_due_numbers")), Fn.hGa K "_law_is_rising", PySem.W.keepIn K (.ref (He.ga K "_law_is_rising")), Fn.hGa K "_law_due_state", PySem.W.keepIn K (.ref (He.ga K "_law_due_state"))]
def flX4 (K : PySem.W.Frag) : List Bool := [Fn.hGa K "_law_due_table", PySem.W.keepIn K (.ref (He.ga K "_law_due_table")), Fn.hGa K "_law_bent", PySem.W.keepIn K (.ref (He.ga K "_law_bent")), Fn.hGa K "_law_got", PySem.W.keepIn K (.ref (He.ga K "_law_got")), Fn.hGa K "_law_strings_right", PySem.W.keepIn K (.ref (He.ga K "_law_strings_right")), Fn.hGa K "_law_right", PySem.W.keepIn K (.ref (He.ga K "_law_right")), Fn.hGa K "law", PySem.W.keepIn K (.ref (He.ga K "law")), Fn.hGa K "ParseError", Fn.hMa K (He.ga K "ParseError") "__init__", PySem.W.keepIn K (.ref (He.ma K (He.ga K "ParseError") "__init__")), Fn.pexB K (He.ga K "ParseError") (He.ma K (He.ga K "ParseError") "__init__")]
def flX5 (K : PySem.W.Frag) : List Bool := [Fn.htB K "_law_strings_right", Fn.hFree K "len", Fn.hFree K "int", Fn.hFree K "abs", Fn.hFree K "isinstance", Fn.hFree K "bool", Fn.hFree K "all", Fn.hFree K "tuple", Fn.hFree K "str", Fn.hFree K "sorted", Fn.hFree K "dict", Fn.hFree K "set", Fn.hFree K "list", Fn.hFree K "range", Fn.hFree K "max", Fn.hFree K "min"]
def flX6 (K : PySem.W.Frag) : List Bool := [Fn.hFree K "enumerate", Fn.hFree K "repr", Fn.hStr K "EMPTY" "-", Fn.hStr K "NONE" "none", Fn.hInt K "MAX_DIGITS" 60]
def flX (K : PySem.W.Frag) : List Bool := flX0 K ++ (flX1 K ++ (flX2 K ++ (flX3 K ++ (flX4 K ++ (flX5 K ++ (flX6 K))))))
def dX0 : Fn.HDef := ⟨fun K => (He.ga K "is_integer"), "is_integer", "is_integer", defArgs (top 1), defBody (top 1), defScope (top 1)⟩
def dX1 : Fn.HDef := ⟨fun K => (He.ga K "are_numbers"), "are_numbers", "are_numbers", defArgs (top 8), defBody (top 8), defScope (top 8)⟩
def dX2 : Fn.HDef := ⟨fun K => (He.ga K "ascends"), "ascends", "ascends", defArgs (top 9), defBody (top 9), defScope (top 9)⟩
def dX3 : Fn.HDef := ⟨fun K => (He.ga K "is_class_form"), "is_class_form", "is_class_form", defArgs (top 10), defBody (top 10), defScope (top 10)⟩
def dX4 : Fn.HDef := ⟨fun K => (He.ga K "are_classes_form"), "are_classes_form", "are_classes_form", defArgs (top 11), defBody (top 11), defScope (top 11)⟩
def dX5 : Fn.HDef := ⟨fun K => (He.ga K "is_state_form"), "is_state_form", "is_state_form", defArgs (top 12), defBody (top 12), defScope (top 12)⟩
def dX6 : Fn.HDef := ⟨fun K => (He.ga K "number_told"), "number_told", "number_told", defArgs (top 17), defBody (top 17), defScope (top 17)⟩
def dX7 : Fn.HDef := ⟨fun K => (He.ga K "numbers_told"), "numbers_told", "numbers_told", defArgs (top 18), defBody (top 18), defScope (top 18)⟩
def dX8 : Fn.HDef := ⟨fun K => (He.ga K "state_told"), "state_told", "state_told", defArgs (top 19), defBody (top 19), defScope (top 19)⟩
def dX9 : Fn.HDef := ⟨fun K => (He.ga K "key_told"), "key_told", "key_told", defArgs (top 20), defBody (top 20), defScope (top 20)⟩
def dX10 : Fn.HDef := ⟨fun K => (He.ga K "line_told"), "line_told", "line_told", defArgs (top 21), defBody (top 21), defScope (top 21)⟩
def dX11 : Fn.HDef := ⟨fun K => (He.ga K "check_text"), "check_text", "check_text", defArgs (top 23), defBody (top 23), defScope (top 23)⟩
def dX12 : Fn.HDef := ⟨fun K => (He.ga K "numbers_text"), "numbers_text", "numbers_text", defArgs (top 24), defBody (top 24), defScope (top 24)⟩
def dX13 : Fn.HDef := ⟨fun K => (He.ga K "state_text"), "state_text", "state_text", defArgs (top 25), defBody (top 25), defScope (top 25)⟩
def dX14 : Fn.HDef := ⟨fun K => (He.ga K "write_numbers"), "write_numbers", "write_numbers", defArgs (top 26), defBody (top 26), defScope (top 26)⟩
def dX15 : Fn.HDef := ⟨fun K => (He.ga K "read_numbers"), "read_numbers", "read_numbers", defArgs (top 27), defBody (top 27), defScope (top 27)⟩
def dX16 : Fn.HDef := ⟨fun K => (He.ga K "write_state"), "write_state", "write_state", defArgs (top 28), defBody (top 28), defScope (top 28)⟩
def dX17 : Fn.HDef := ⟨fun K => (He.ga K "read_state"), "read_state", "read_state", defArgs (top 29), defBody (top 29), defScope (top 29)⟩
def dX18 : Fn.HDef := ⟨fun K => (He.ga K "is_key"), "is_key", "is_key", defArgs (top 30), defBody (top 30), defScope (top 30)⟩
def dX19 : Fn.HDef := ⟨fun K => (He.ga K "write_table"), "write_table", "write_table", defArgs (top 31), defBody (top 31), defScope (top 31)⟩
def dX20 : Fn.HDef := ⟨fun K => (He.ga K "read_table"), "read_table", "read_table", defArgs (top 32), defBody (top 32), defScope (top 32)⟩
def dX21 : Fn.HDef := ⟨fun K => (He.ga K "_law_dice"), "_law_dice", "_law_dice", defArgs (top 34), defBody (top 34), defScope (top 34)⟩
def dX22 : Fn.HDef := ⟨fun K => (He.ga K "_law_roll"), "_law_roll", "_law_roll", defArgs (top 35), defBody (top 35), defScope (top 35)⟩
def dX23 : Fn.HDef := ⟨fun K => (He.ga K "_law_pick"), "_law_pick", "_law_pick", defArgs (top 36), defBody (top 36), defScope (top 36)⟩
def dX24 : Fn.HDef := ⟨fun K => (He.ga K "_law_some"), "_law_some", "_law_some", defArgs (top 37), defBody (top 37), defScope (top 37)⟩
def dX25 : Fn.HDef := ⟨fun K => (He.ga K "_law_rising"), "_law_rising", "_law_rising", defArgs (top 38), defBody (top 38), defScope (top 38)⟩
def dX26 : Fn.HDef := ⟨fun K => (He.ga K "_law_a_state"), "_law_a_state", "_law_a_state", defArgs (top 39), defBody (top 39), defScope (top 39)⟩
def dX27 : Fn.HDef := ⟨fun K => (He.ga K "_law_line"), "_law_line", "_law_line", defArgs (top 40), defBody (top 40), defScope (top 40)⟩
def dX28 : Fn.HDef := ⟨fun K => (He.ga K "_law_state_line"), "_law_state_line", "_law_state_line", defArgs (top 41), defBody (top 41), defScope (top 41)⟩
def dX29 : Fn.HDef := ⟨fun K => (He.ga K "_law_due_numbers"), "_law_due_numbers", "_law_due_numbers", defArgs (top 42), defBody (top 42), defScope (top 42)⟩
def dX30 : Fn.HDef := ⟨fun K => (He.ga K "_law_is_rising"), "_law_is_rising", "_law_is_rising", defArgs (top 43), defBody (top 43), defScope (top 43)⟩
def dX31 : Fn.HDef := ⟨fun K => (He.ga K "_law_due_state"), "_law_due_state", "_law_due_state", defArgs (top 44), defBody (top 44), defScope (top 44)⟩
def dX32 : Fn.HDef := ⟨fun K => (He.ga K "_law_due_table"), "_law_due_table", "_law_due_table", defArgs (top 45), defBody (top 45), defScope (top 45)⟩
def dX33 : Fn.HDef := ⟨fun K => (He.ga K "_law_bent"), "_law_bent", "_law_bent", defArgs (top 46), defBody (top 46), defScope (top 46)⟩
def dX34 : Fn.HDef := ⟨fun K => (He.ga K "_law_got"), "_law_got", "_law_got", defArgs (top 47), defBody (top 47), defScope (top 47)⟩
def dX35 : Fn.HDef := ⟨fun K => (He.ga K "_law_strings_right"), "_law_strings_right", "_law_strings_right", defArgs (top 48), defBody (top 48), defScope (top 48)⟩
def dX36 : Fn.HDef := ⟨fun K => (He.ga K "_law_right"), "_law_right", "_law_right", defArgs (top 49), defBody (top 49), defScope (top 49)⟩
def dX37 : Fn.HDef := ⟨fun K => (He.ga K "law"), "law", "law", defArgs (top 50), defBody (top 50), defScope (top 50)⟩
def dX38 : Fn.HDef := ⟨fun K => (He.ma K (He.ga K "ParseError") "__init__"), "__init__", "ParseError.__init__", defArgs ((clB (top 6)).getD 0 (.Pass ⟨0, 0, 0, 0⟩)), defBody ((clB (top 6)).getD 0 (.Pass ⟨0, 0, 0, 0⟩)), defScope ((clB (top 6)).getD 0 (.Pass ⟨0, 0, 0, 0⟩))⟩
def fnX0 : List Fn.HDef := [dX0, dX1, dX2, dX3, dX4, dX5, dX6, dX7, dX8, dX9, dX10, dX11, dX12, dX13, dX14, dX15]
def fnX1 : List Fn.HDef := [dX16, dX17, dX18, dX19, dX20, dX21, dX22, dX23, dX24, dX25, dX26, dX27, dX28, dX29, dX30, dX31]
def fnX2 : List Fn.HDef := [dX32, dX33, dX34, dX35, dX36, dX37, dX38]
def fnX : List Fn.HDef := fnX0 ++ (fnX1 ++ (fnX2))
abbrev hkX : PySem.W.Hook := Fn.hHook 101 nmF nmC nmS flX fnX
def obX (s : PySem.W.SharedT) : Fn.HAl := Fn.hObsG nmF nmC nmS flX fnX (HandSHeadRun.getT s)
theorem obX_eq (s : PySem.W.SharedT) : obX s = hkX.obs s.abs := Fn.hObsG_eq (HandSHeadRun.getT_eq s)
set_option maxHeartbeats 0 in
theorem runF (w : World) : HandSHeadRun.RunEq RX qv hkX obX 20000 nmL (w.withFollow "special-get-raises" false) := by
  intro os
  kernel_rfl
set_option maxHeartbeats 0 in
theorem runT (w : World) : HandSHeadRun.RunEq RX qv hkX obX 20000 nmL (w.withFollow "special-get-raises" true) := by
  intro os
  kernel_rfl
theorem runX (w : World) : HandSHeadRun.RunEq RX qv hkX obX 20000 nmL w := PySem.W.byRow2 "special-get-raises" (P := fun w => HandSHeadRun.RunEq RX qv hkX obX 20000 nmL w) runF runT w
end K70

set_option Elab.async false
set_option maxRecDepth 100000
/-! Rules and promises that all laws share: powers of great numbers, repr of a truth value, the dice. -/
namespace Fn
open PySem PySem.Spec PyProof.Rows L2
section
variable {X : Cx}
def CPowW (i j : Int) : Prop := 0 ≤ j ∧ (Builtin.Int.intBits i : Int) * j ≤ 2 ^ 27
theorem op_powW : OpR X (binaryOp .Pow) (rI CPowW fun i j => .int (i ^ j.toNat)) := opI fun _ _ _ _ _ _ _ hc q => pow_int hc.1 hc.2 q
theorem call_repr_b : CallR X (.builtin "repr") (fun xs H Q => ∃ b, xs = [.bl b] ∧ Q (.str (if b then "True" else "False")) H) := by
  intro pins s σ H xs us Q I r h
  obtain ⟨b, rfl, q⟩ := h
  obtain ⟨u, rfl, r1⟩ := vals1 r
  cases r1
  exact PySem.P.repr_of_bool ⟨.str _, H, I.tok _, ⟨_, rfl⟩, q⟩
end
theorem powOk {i j : Int} (h : (decide (0 ≤ j) && decide ((Builtin.Int.intBits i : Int) * j ≤ 2 ^ 27)) = true) : CPowW i j := by
  rw [Bool.and_eq_true] at h
  exact ⟨of_decide_eq_true h.1, of_decide_eq_true h.2⟩
theorem modc {j : Int} (h : 0 < j) : 0 < j := h
theorem szr {α : Type} {xs : List α} (h : Nat.ble xs.length 100000 = true) : xs.length ≤ sizeLine := Nat.le_trans (Nat.le_of_ble_eq_true h) (by decide)
theorem szl {α : Type} {xs : List α} (h : xs.length ≤ 100000) : xs.length ≤ sizeLine := Nat.le_trans h (by decide)
theorem szlt {n : Nat} (h : n ≤ 100000) : n < sizeLine := Nat.lt_of_le_of_lt h (by decide)
theorem script_at {ns : List Int} {k : Int} (h0 : 0 ≤ k) (h : k < (ns.length : Int)) : ∃ c : Int, atI (ns.map V.int) k = some (.int c) := by
  have hlt : k.toNat < ns.length := by omega
  have ek : ((k.toNat : Nat) : Int) = k := by omega
  have g : atI (ns.map V.int) ((k.toNat : Nat) : Int) = some (.int ns[k.toNat]) := atI_nat (by rw [List.getElem?_map, List.getElem?_eq_getElem hlt] <;> rfl)
  rw [ek] at g
  exact ⟨_, g⟩
/-! ### places in the text: the scope of a comprehension -/
def kidsE : Expr → List Expr
  | .BoolOp _ vs _ => vs
  | .BinOp a _ b _ => [a, b]
  | .UnaryOp _ a _ => [a]
  | .IfExp t a b _ => [t, a, b]
  | .ListComp e gs _ _ => e :: gs.flatMap fun c => c.iter :: c.ifs
  | .Compare l _ cs _ => l :: cs
  | .Call f xs _ _ => f :: xs
  | .Attribute v _ _ => [v]
  | .Subscript a b _ => [a, b]
  | .List es _ => es
  | .Tuple es _ _ => es
  | _ => []
def goE (e : Expr) (path : List Nat) : Expr := path.foldl (fun e i => (kidsE e).getD i e) e
def stE : Stmt → Expr
  | .Return (some e) _ => e
  | .Assign _ e _ => e
  | .AugAssign _ _ e _ => e
  | .For _ e _ _ _ => e
  | .While e _ _ _ => e
  | .If e _ _ _ => e
  | .Expr e _ => e
  | _ => .Name "" ⟨0, 0, 0, 0⟩
def stB : Stmt → List Stmt
  | .For _ _ a b _ => a ++ b
  | .While _ a b _ => a ++ b
  | .If _ a b _ => a ++ b
  | _ => []
def goS (body : List Stmt) (path : List Nat) : Stmt := match path with
  | [] => .Pass ⟨0, 0, 0, 0⟩
  | i :: r => r.foldl (fun s j => (stB s).getD j s) (body.getD i (.Pass ⟨0, 0, 0, 0⟩))
def lcSc : Expr → Scope
  | .ListComp _ _ sc _ => sc
  | _ => { kind := .function, names := [], isGenerator := false, isCoroutine := false }
theorem mulL {i j : Int} (h : -(2 ^ 64) < i ∧ i < 2 ^ 64) : CMul i j := Or.inl h
theorem mulR {i j : Int} (h : -(2 ^ 64) < j ∧ j < 2 ^ 64) : CMul i j := Or.inr h
/-- a def as a callee: its name, its object, how its arguments bind -/
structure Cal (K : PySem.W.Frag) (mg : Str → Option Value) (x : Str) (f : Addr) (fd : FuncData) (ps : List Str) : Prop where
  m : mg x = some (.ref f)
  k : PySem.W.keepIn K (.ref f) = true
  b : Binds K fd ps []
/-- three ints: the dice -/
def dl (x y z : Int) : HO := .lst [.int x, .int y, .int z]
theorem sq_upd {K : PySem.W.Frag} {H : Hp} {p a : Addr} {o : HO} {xs : List V} (h : a ≠ p) (hs : H a = some (.lst xs)) : SqL K (upd H p o) a xs := SqL.of (by rw [upd_ne h]; exact hs)

/-! ### what stays: all but the contents of lists -/
def Ev2 (H H' : Hp) : Prop := ∀ (a : Addr) (o : HO), H a = some o → (∃ xs ys, o = .lst xs ∧ H' a = some (.lst ys)) ∨ H' a = some o
theorem Ev2.refl (H : Hp) : Ev2 H H := fun _ _ h => .inr h
theorem Ev2.trans {H H1 H2 : Hp} (a : Ev2 H H1) (b : Ev2 H1 H2) : Ev2 H H2 := fun x o h => by
  rcases a x o h with ⟨xs, ys, rfl, h1⟩ | h1
  · rcases b x _ h1 with ⟨_, zs, _, h2⟩ | h2
    · exact .inl ⟨_, zs, rfl, h2⟩
    · exact .inl ⟨_, ys, rfl, h2⟩
  · exact b x o h1
theorem Ev2.new {H : Hp} {p : Addr} {o : HO} (h : H p = none) : Ev2 H (upd H p o) := fun a u e => .inr (by
  rw [upd_ne (ne_of_none e h)]
  exact e)
theorem Ev2.lst {H : Hp} {p : Addr} {xs ys : List V} (h : H p = some (.lst xs)) : Ev2 H (upd H p (.lst ys)) := fun a u e => by
  by_cases q : a = p
  · subst q
    rw [h] at e
    exact .inl ⟨xs, ys, (Option.some.inj e).symm, upd_same⟩
  · exact .inr (by rw [upd_ne q]; exact e)
theorem Ev2.tup {H H' : Hp} {a : Addr} {xs : List V} (h : H a = some (.tup xs)) (e : Ev2 H H') : H' a = some (.tup xs) := by
  rcases e a _ h with ⟨_, _, q, _⟩ | q
  · cases q
  · exact q
theorem Ev2.frz {H H' : Hp} {a : Addr} {o : Obj} {u : HO} (h : H a = some (.frz o u)) (e : Ev2 H H') : H' a = some (.frz o u) := by
  rcases e a _ h with ⟨_, _, q, _⟩ | q
  · cases q
  · exact q
theorem Ev2.dK {H H' : Hp} {a : Addr} {kvs : List (Key × V)} (h : H a = some (.dK kvs)) (e : Ev2 H H') : H' a = some (.dK kvs) := by
  rcases e a _ h with ⟨_, _, q, _⟩ | q
  · cases q
  · exact q
theorem Ev2.isL {H H' : Hp} {a : Addr} {xs : List V} (h : H a = some (.lst xs)) (e : Ev2 H H') : ∃ ys, H' a = some (.lst ys) := by
  rcases e a _ h with ⟨_, ys, _, q⟩ | q
  · exact ⟨ys, q⟩
  · exact ⟨xs, q⟩
theorem Ev2.some {H H' : Hp} {a : Addr} {o : HO} (h : H a = some o) (e : Ev2 H H') : ∃ u, H' a = some u := by
  rcases e a _ h with ⟨_, ys, _, q⟩ | q
  · exact ⟨_, q⟩
  · exact ⟨_, q⟩
theorem Ev2.fresh {H H' : Hp} {a : Addr} (e : Ev2 H H') (h : H' a = none) : H a = none := by
  cases q : H a with
  | none => rfl
  | some o =>
    obtain ⟨u, z⟩ := Ev2.some q e
    rw [z] at h
    cases h
theorem ne_new {H H' : Hp} {a p : Addr} {o : HO} (h : H a = some o) (e : Ev2 H H') (hp : H' p = none) : a ≠ p := ne_of_none h (e.fresh hp)
/-- a new object: the heap behind is named -/
theorem made {H H1 : Hp} {p : Addr} {o : HO} (n : H p = none) (g : upd H p o = H1) : Ev2 H H1 ∧ (∀ b, b ≠ p → H1 b = H b) ∧ H1 p = some o := by
  subst g
  exact ⟨Ev2.new n, fun _ hb => upd_ne hb, upd_same⟩
/-- the script, in a heap that knows nothing else -/
def Scr (K : PySem.W.Frag) (H : Hp) (a : Addr) (xs : List V) : Prop := SqL K H a xs ∧ ∀ H', Ev2 H H' → SqL K H' a xs
theorem scr_of {K : PySem.W.Frag} {H : Hp} {a : Addr} {xs : List V} (hO : Only H) (h : SqL K H a xs) : Scr K H a xs := by
  refine ⟨h, fun H' e => ?_⟩
  rcases h with (h | ⟨o, h⟩) | h
  · rcases hO a with q | ⟨o, ys, q⟩
    · rw [q] at h
      cases h
    · rw [q] at h
      cases h
  · exact .inl (.inr ⟨o, Ev2.frz h e⟩)
  · exact .inr h
theorem Scr.mono {K : PySem.W.Frag} {H H' : Hp} {a : Addr} {xs : List V} (h : Scr K H a xs) (e : Ev2 H H') : Scr K H' a xs := ⟨h.2 _ e, fun _ e2 => h.2 _ (e.trans e2)⟩
/-- kinds of values that are looked at by isinstance -/
def Ty (K : PySem.W.Frag) (H : Hp) (v : V) (n : String) : Prop := match v with
  | .non => n = "NoneType" | .bl _ => n = "bool" | .int _ => n = "int" | .str _ => n = "str"
  | .ref a => (n = "list" ∧ ∃ xs, H a = some (.lst xs)) ∨ (n = "tuple" ∧ ∃ xs, H a = some (.tup xs)) ∨ (n = "dict" ∧ ∃ kvs, H a = some (.dK kvs))
  | _ => False
theorem Ty.x {K : PySem.W.Frag} {H : Hp} {v : V} {n : String} (h : Ty K H v n) : TyX K H v (.type n) := by
  cases v with
  | non => cases (show n = "NoneType" from h); exact .base .non
  | bl b => cases (show n = "bool" from h); exact .base (.bl b)
  | int i => cases (show n = "int" from h); exact .base (.int i)
  | str x => cases (show n = "str" from h); exact .base (.str x)
  | byt b => exact h.elim
  | flt b => exact h.elim
  | ty b => exact h.elim
  | ref a =>
    rcases h with ⟨rfl, xs, e⟩ | ⟨rfl, xs, e⟩ | ⟨rfl, xs, e⟩
    · exact .base (.lst e)
    · exact .base (.tup e)
    · exact .base (.dK e)
theorem Ty.mono {K : PySem.W.Frag} {H H' : Hp} {v : V} {n : String} (h : Ty K H v n) (e : Ev2 H H') : Ty K H' v n := by
  cases v with
  | ref a =>
    rcases h with ⟨rfl, xs, q⟩ | ⟨rfl, xs, q⟩ | ⟨rfl, xs, q⟩
    · exact .inl ⟨rfl, Ev2.isL q e⟩
    · exact .inr (.inl ⟨rfl, xs, Ev2.tup q e⟩)
    · exact .inr (.inr ⟨rfl, xs, Ev2.dK q e⟩)
  | non => exact h
  | bl b => exact h
  | int i => exact h
  | str x => exact h
  | byt b => exact h
  | flt b => exact h
  | ty b => exact h
/-- the dice stand at p -/
def Dc (H : Hp) (p : Addr) : Prop := ∃ x y z : Int, H p = some (dl x y z)
/-- only what stands at p is another -/
def Only1 (H H' : Hp) (p : Addr) : Prop := ∀ b, b ≠ p → H' b = H b
theorem keepAt {H H1 : Hp} {a p : Addr} {o : HO} (t : H a = some o) (n : H p = none) (k : ∀ b, b ≠ p → H1 b = H b) : H1 a = some o := (k a (ne_of_none t n)).trans t
theorem sameOf {H H1 : Hp} {p : Addr} (n : H p = none) (k : ∀ b, b ≠ p → H1 b = H b) : Same H H1 := fun _ _ e => keepAt e n k
theorem Ev2.same {H H1 : Hp} (s : Same H H1) : Ev2 H H1 := fun a o e => .inr (s a o e)
theorem Dc.keep {H H1 : Hp} {a p : Addr} (t : Dc H a) (n : H p = none) (k : ∀ b, b ≠ p → H1 b = H b) : Dc H1 a := by
  obtain ⟨x, y, z, t⟩ := t
  exact ⟨x, y, z, keepAt t n k⟩
theorem Dc.ne {H : Hp} {a p : Addr} (t : Dc H a) (n : H p = none) : a ≠ p := by
  obtain ⟨x, y, z, t⟩ := t
  exact ne_of_none t n
/-- all but what stands at p is the same -/
def But (p : Addr) (H H' : Hp) : Prop := ∀ a o, a ≠ p → H a = some o → H' a = some o
theorem But.refl (p : Addr) (H : Hp) : But p H H := fun _ _ _ h => h
theorem But.trans {p : Addr} {H H1 H2 : Hp} (x : But p H H1) (y : But p H1 H2) : But p H H2 := fun a o n h => y a o n (x a o n h)
theorem But.of1 {p : Addr} {H H' : Hp} (k : Only1 H H' p) : But p H H' := fun a o n h => (k a n).trans h
theorem But.ofS {p : Addr} {H H' : Hp} (k : Same H H') : But p H H' := fun a o _ h => k a o h
theorem But.ev {p : Addr} {H H' : Hp} (k : But p H H') (d : Dc H p) (d' : Dc H' p) : Ev2 H H' := fun a o h => by
  by_cases e : a = p
  · subst e
    obtain ⟨x, y, z, h1⟩ := d
    obtain ⟨x', y', z', h2⟩ := d'
    rw [h1] at h
    exact .inl ⟨_, _, (Option.some.inj h).symm, h2⟩
  · exact .inr (k a o e h)
theorem But.at {p : Addr} {H H' : Hp} {a : Addr} {o : HO} (h : H a = some o) (n : a ≠ p) (k : But p H H') : H' a = some o := k a o n h
theorem Dc.same {H H' : Hp} {p : Addr} (d : Dc H p) (s : Same H H') : Dc H' p := by
  obtain ⟨x, y, z, h⟩ := d
  exact ⟨x, y, z, s _ _ h⟩
theorem Dc.neOf {H : Hp} {a p : Addr} {xs : List V} (d : Dc H p) (h : H a = some (.lst xs)) (n : ∀ x y z : Int, xs ≠ [.int x, .int y, .int z]) : a ≠ p := by
  rintro rfl
  obtain ⟨x, y, z, h1⟩ := d
  rw [h1] at h
  exact n x y z (HO.lst.inj (Option.some.inj h)).symm
def spDice (K : PySem.W.Frag) : Sp := fun vs H Q _ => ∃ (a : Addr) (ns : List Int) (k : Int), vs = [.ref a, .int k] ∧ SqL K H a (ns.map V.int) ∧ ns.length ≤ 1000 ∧ 0 ≤ k ∧ k < 1000 ∧
  ∀ (p : Addr) (H' : Hp), H p = none → Ev2 H H' → Only1 H H' p → Dc H' p → Q (.ref p) H'
def spRoll : Sp := fun vs H Q _ => ∃ (p : Addr) (n : Int), vs = [.ref p, .int n] ∧ Dc H p ∧ 0 < n ∧ n < 1000000 ∧
  ∀ (r : Int) (H' : Hp), 0 ≤ r → r < n → Ev2 H H' → Only1 H H' p → Dc H' p → Q (.int r) H'
def spPick (K : PySem.W.Frag) : Sp := fun vs H Q _ => ∃ (p a : Addr) (xs : List V), vs = [.ref p, .ref a] ∧ Dc H p ∧ SqL K H a xs ∧ (∀ H', Ev2 H H' → Only1 H H' p → SqL K H' a xs) ∧ 0 < xs.length ∧ xs.length < 1000000 ∧
  ∀ (i : Nat) (v : V) (H' : Hp), xs[i]? = some v → Ev2 H H' → Only1 H H' p → Dc H' p → Q v H'
theorem perm_erase {α : Type} : ∀ {zs : List α} {i : Nat} (h : i < zs.length), ([zs[i]] ++ zs.eraseIdx i).Perm zs
  | z :: zs, 0, _ => List.Perm.refl _
  | z :: zs, i + 1, h => by
    have h' : i < zs.length := by simpa using h
    have ih := perm_erase h'
    exact (List.Perm.swap z (zs[i]'h') _).trans (List.Perm.cons z ih)
/-- some of a list, taken without putting back -/
def spSome (K : PySem.W.Frag) : Sp := fun vs H Q _ => ∃ (p a : Addr) (xs : List V) (n : Int), vs = [.ref p, .ref a, .int n] ∧ Dc H p ∧ H a = some (.lst xs) ∧ 0 ≤ n ∧ n ≤ 1000 ∧ xs.length ≤ 1000 ∧
  ∀ (l : Addr) (ys zs : List V) (H' : Hp), But p H H' → Dc H' p → H l = none → l ≠ p → H' l = some (.lst ys) → (ys ++ zs).Perm xs → (ys.length : Int) = (if (xs.length : Int) < n then (xs.length : Int) else n) → Q (.ref l) H'
theorem Dc.set {H : Hp} {p : Addr} (h : Dc H p) (x y z : Int) : Ev2 H (upd H p (dl x y z)) ∧ Only1 H (upd H p (dl x y z)) p ∧ Dc (upd H p (dl x y z)) p := by
  obtain ⟨x0, y0, z0, h⟩ := h
  exact ⟨Ev2.lst h, fun _ hb => upd_ne hb, x, y, z, upd_same⟩
/-- the list that is picked from is not the dice -/
theorem pick_l {K : PySem.W.Frag} {H : Hp} {a p : Addr} {xs : List V} (h : H a = some (.lst xs)) (d : a ≠ p) : SqL K H a xs ∧ ∀ H', Ev2 H H' → Only1 H H' p → SqL K H' a xs :=
  ⟨SqL.of h, fun H' _ k => SqL.of ((k a d).trans h)⟩
def spLaw (K : PySem.W.Frag) : Sp := fun vs H Q _ => ∃ (a : Addr) (ns : List Int), vs = [.ref a] ∧ Scr K H a (ns.map V.int) ∧ ns.length ≤ 63 ∧ ∀ H', Q (.bl true) H'
/-- the number of turns of a law: between 1 and 8 -/
theorem turns {n : Nat} : 0 ≤ (if (if (n : Int) < 8 then (n : Int) else 8) > 1 then (if (n : Int) < 8 then (n : Int) else 8) else 1) ∧ (if (if (n : Int) < 8 then (n : Int) else 8) > 1 then (if (n : Int) < 8 then (n : Int) else 8) else 1) ≤ 8 := by
  split <;> split <;> omega
end Fn

set_option Elab.async false
set_option maxRecDepth 100000
/-! Data at an address: values that are told as PyData; what is in a list or tuple of data. -/
namespace Fn
open PySem PySem.Spec PyProof.Rows L2
mutual
inductive Dx (H : Hp) : V → PyData → Prop
  | non : Dx H .non .none
  | bl (b : Bool) : Dx H (.bl b) (.bool b)
  | int (i : Int) : Dx H (.int i) (.int i)
  | str (x : Str) : Dx H (.str x) (.str x)
  | lst {a : Addr} {xs : List V} {ds : List PyData} : H a = some (.lst xs) → DxAll H xs ds → Dx H (.ref a) (.list ds)
  | tup {a : Addr} {xs : List V} {ds : List PyData} : H a = some (.tup xs) → DxAll H xs ds → Dx H (.ref a) (.tuple ds)
  | dct {a : Addr} : H a = some (.dK []) → Dx H (.ref a) (.dict [])
inductive DxAll (H : Hp) : List V → List PyData → Prop
  | nil : DxAll H [] []
  | cons {v : V} {vs : List V} {d : PyData} {ds : List PyData} : Dx H v d → DxAll H vs ds → DxAll H (v :: vs) (d :: ds)
end
theorem DxAll.len {H : Hp} : ∀ {ds : List PyData} {vs : List V}, DxAll H vs ds → vs.length = ds.length
  | [], _, h => by cases h; rfl
  | d :: ds, _, h => by
    cases h with
    | cons h1 h2 =>
      show _ + 1 = _ + 1
      rw [DxAll.len h2]
theorem DxAll.get {H : Hp} : ∀ {ds : List PyData} {vs : List V} {i : Nat} {v : V}, DxAll H vs ds → vs[i]? = some v → ∃ d, ds[i]? = some d ∧ Dx H v d
  | [], _, i, v, h, e => by cases h; simp at e
  | d :: ds, _, 0, v, h, e => by
    cases h with
    | cons h1 h2 =>
      cases (show some _ = some v from e)
      exact ⟨d, rfl, h1⟩
  | d :: ds, _, i + 1, v, h, e => by
    cases h with
    | cons h1 h2 => exact DxAll.get (i := i) h2 (by simpa using e)
mutual
def dictfree : PyData → Bool
  | .list xs => dictfreeAll xs
  | .tuple xs => dictfreeAll xs
  | .dict _ => false
  | _ => true
def dictfreeAll : List PyData → Bool
  | [] => true
  | d :: ds => dictfree d && dictfreeAll ds
end
mutual
def listfree : PyData → Bool
  | .list _ => false
  | .tuple xs => listfreeAll xs
  | _ => true
def listfreeAll : List PyData → Bool
  | [] => true
  | d :: ds => listfree d && listfreeAll ds
end
mutual
theorem Dx.dp {K : PySem.W.Frag} {H : Hp} : ∀ {d : PyData} {v : V}, Dx H v d → dictfree d = true → Dp K H v d
  | .none, _, h, _ => by cases h; exact .non
  | .bool b, _, h, _ => by cases h; exact .bl b
  | .int i, _, h, _ => by cases h; exact .int i
  | .str x, _, h, _ => by cases h; exact .str x
  | .list ds, _, h, f => by
    cases h with
    | lst h1 h2 => exact .lst (SqL.of h1) (DxAll.dp h2 (by simpa only [dictfree] using f))
  | .tuple ds, _, h, f => by
    cases h with
    | tup h1 h2 => exact .tup (SqT.of h1) (DxAll.dp h2 (by simpa only [dictfree] using f))
  | .dict kvs, _, h, f => by
    simp only [dictfree] at f
    cases f
theorem DxAll.dp {K : PySem.W.Frag} {H : Hp} : ∀ {ds : List PyData} {vs : List V}, DxAll H vs ds → dictfreeAll ds = true → DpAll K H vs ds
  | [], _, h, _ => by cases h; exact .nil
  | d :: ds, _, h, f => by
    simp only [dictfreeAll, Bool.and_eq_true] at f
    cases h with
    | cons h1 h2 => exact .cons (Dx.dp h1 f.1) (DxAll.dp h2 f.2)
end
mutual
theorem Dx.mono {H H' : Hp} (e : Ev2 H H') : ∀ {d : PyData} {v : V}, Dx H v d → listfree d = true → Dx H' v d
  | .none, _, h, _ => by cases h; exact .non
  | .bool b, _, h, _ => by cases h; exact .bl b
  | .int i, _, h, _ => by cases h; exact .int i
  | .str x, _, h, _ => by cases h; exact .str x
  | .list ds, _, h, f => by
    simp only [listfree] at f
    cases f
  | .tuple ds, _, h, f => by
    cases h with
    | tup h1 h2 => exact .tup (Ev2.tup h1 e) (DxAll.mono e h2 (by simpa only [listfree] using f))
  | .dict kvs, _, h, f => by
    cases h with
    | dct h1 => exact .dct (Ev2.dK h1 e)
theorem DxAll.mono {H H' : Hp} (e : Ev2 H H') : ∀ {ds : List PyData} {vs : List V}, DxAll H vs ds → listfreeAll ds = true → DxAll H' vs ds
  | [], _, h, _ => by cases h; exact .nil
  | d :: ds, _, h, f => by
    simp only [listfreeAll, Bool.and_eq_true] at f
    cases h with
    | cons h1 h2 => exact .cons (Dx.mono e h1 f.1) (DxAll.mono e h2 f.2)
end
mutual
theorem Dx.same {H H' : Hp} (e : Same H H') : ∀ {d : PyData} {v : V}, Dx H v d → Dx H' v d
  | .none, _, h => by cases h; exact .non
  | .bool b, _, h => by cases h; exact .bl b
  | .int i, _, h => by cases h; exact .int i
  | .str x, _, h => by cases h; exact .str x
  | .list ds, _, h => by
    cases h with
    | lst h1 h2 => exact .lst (e _ _ h1) (DxAll.same e h2)
  | .tuple ds, _, h => by
    cases h with
    | tup h1 h2 => exact .tup (e _ _ h1) (DxAll.same e h2)
  | .dict kvs, _, h => by
    cases h with
    | dct h1 => exact .dct (e _ _ h1)
theorem DxAll.same {H H' : Hp} (e : Same H H') : ∀ {ds : List PyData} {vs : List V}, DxAll H vs ds → DxAll H' vs ds
  | [], _, h => by cases h; exact .nil
  | d :: ds, _, h => by
    cases h with
    | cons h1 h2 => exact .cons (Dx.same e h1) (DxAll.same e h2)
end
def three : List PyData → Bool
  | [.int _, .int _, .int _] => true
  | _ => false
mutual
/-- no list of three ints is within: so no list that is told is the dice -/
def nodice : PyData → Bool
  | .list ds => !three ds && nodiceAll ds
  | .tuple ds => nodiceAll ds
  | _ => true
def nodiceAll : List PyData → Bool
  | [] => true
  | d :: ds => nodice d && nodiceAll ds
end
theorem nodice_list {ds : List PyData} (h : nodice (.list ds) = true) : nodiceAll ds = true ∧ ∀ x y z, ds ≠ [.int x, .int y, .int z] := by
  simp only [nodice, Bool.and_eq_true] at h
  refine ⟨h.2, fun x y z e => ?_⟩
  subst e
  exact Bool.noConfusion h.1
mutual
theorem Dx.but {H H' : Hp} {p : Addr} (hd : Dc H p) (o : But p H H') : ∀ {d : PyData} {v : V}, Dx H v d → nodice d = true → Dx H' v d
  | .none, _, h, _ => by cases h; exact .non
  | .bool b, _, h, _ => by cases h; exact .bl b
  | .int i, _, h, _ => by cases h; exact .int i
  | .str x, _, h, _ => by cases h; exact .str x
  | .list ds, _, h, f => by
    obtain ⟨f1, f2⟩ := nodice_list f
    cases h with
    | @lst a xs _ h1 h2 =>
      have hne : a ≠ p := by
        rintro rfl
        obtain ⟨x, y, z, hp⟩ := hd
        rw [hp] at h1
        cases (HO.lst.inj (Option.some.inj h1))
        cases h2 with
        | cons q1 h2 =>
          cases h2 with
          | cons q2 h2 =>
            cases h2 with
            | cons q3 h2 =>
              cases h2
              cases q1
              cases q2
              cases q3
              exact f2 _ _ _ rfl
      exact .lst (o _ _ hne h1) (DxAll.but hd o h2 f1)
  | .tuple ds, _, h, f => by
    cases h with
    | @tup a xs _ h1 h2 =>
      have hne : a ≠ p := by
        rintro rfl
        obtain ⟨x, y, z, hp⟩ := hd
        rw [hp] at h1
        cases h1
      exact .tup (o _ _ hne h1) (DxAll.but hd o h2 (by simpa only [nodice] using f))
  | .dict kvs, _, h, f => by
    cases h with
    | @dct a h1 =>
      have hne : a ≠ p := by
        rintro rfl
        obtain ⟨x, y, z, hp⟩ := hd
        rw [hp] at h1
        cases h1
      exact .dct (o _ _ hne h1)
theorem DxAll.but {H H' : Hp} {p : Addr} (hd : Dc H p) (o : But p H H') : ∀ {ds : List PyData} {vs : List V}, DxAll H vs ds → nodiceAll ds = true → DxAll H' vs ds
  | [], _, h, _ => by cases h; exact .nil
  | d :: ds, _, h, f => by
    simp only [nodiceAll, Bool.and_eq_true] at f
    cases h with
    | cons h1 h2 => exact .cons (Dx.but hd o h1 f.1) (DxAll.but hd o h2 f.2)
end
theorem Dx.only {H H' : Hp} {p : Addr} (hd : Dc H p) (o : Only1 H H' p) {d : PyData} {v : V} (h : Dx H v d) (f : nodice d = true) : Dx H' v d := Dx.but hd (But.of1 o) h f
theorem DxAll.only {H H' : Hp} {p : Addr} (hd : Dc H p) (o : Only1 H H' p) {ds : List PyData} {vs : List V} (h : DxAll H vs ds) (f : nodiceAll ds = true) : DxAll H' vs ds := DxAll.but hd (But.of1 o) h f
theorem nodiceAll_get : ∀ {ds : List PyData} {i : Nat} {d : PyData}, nodiceAll ds = true → ds[i]? = some d → nodice d = true
  | [], _, _, _, e => by simp at e
  | d :: ds, 0, _, h, e => by
    simp only [nodiceAll, Bool.and_eq_true] at h
    cases (show some d = some _ from e)
    exact h.1
  | d :: ds, i + 1, _, h, e => by
    simp only [nodiceAll, Bool.and_eq_true] at h
    exact nodiceAll_get (i := i) h.2 (by simpa using e)
theorem pick_dx {H G : Hp} {p : Addr} {xs : List V} {ds : List PyData} {i : Nat} {v : V} (hx : DxAll H xs ds) (hv : xs[i]? = some v) (hd : Dc H p) (o : Only1 H G p) (hn : nodiceAll ds = true) : ∃ d, ds[i]? = some d ∧ Dx G v d := by
  obtain ⟨d, h1, h2⟩ := hx.get hv
  exact ⟨d, h1, Dx.only hd o h2 (nodiceAll_get hn h1)⟩
theorem Same.at {H H' : Hp} {a : Addr} {o : HO} (h : H a = some o) (e : Same H H') : H' a = some o := e _ _ h
/-- the name of the type of data -/
def tyN : PyData → String
  | .none => "NoneType" | .bool _ => "bool" | .int _ => "int" | .str _ => "str" | .list _ => "list" | .tuple _ => "tuple" | .dict _ => "dict"
theorem Dx.ty {K : PySem.W.Frag} {H : Hp} {v : V} {d : PyData} (h : Dx H v d) : TyX K H v (.type (tyN d)) := by
  cases h with
  | non => exact .base .non
  | bl b => exact .base (.bl b)
  | int i => exact .base (.int i)
  | str x => exact .base (.str x)
  | lst h1 h2 => exact .base (.lst h1)
  | tup h1 h2 => exact .base (.tup h1)
  | dct h1 => exact .base (.dK h1)
theorem tyN_mem (d : PyData) : tyN d ∈ tyNs := by cases d <;> (simp only [tyN]; decide)
theorem kit_all : ∀ n ∈ tyNs, kitB n "int" = some (n == "int" || n == "bool") ∧ kitB n "bool" = some (n == "bool") ∧ kitB n "str" = some (n == "str") ∧ kitB n "tuple" = some (n == "tuple") ∧ kitB n "list" = some (n == "list") ∧ kitB n "dict" = some (n == "dict") := by decide +kernel
section
variable {K : PySem.W.Frag} (d : PyData)
theorem kit_int : PySem.W.kitOne K (.type (tyN d)) (.type "int") = some (tyN d == "int" || tyN d == "bool") := kit_ty (kit_all _ (tyN_mem d)).1
theorem kit_bool : PySem.W.kitOne K (.type (tyN d)) (.type "bool") = some (tyN d == "bool") := kit_ty (kit_all _ (tyN_mem d)).2.1
theorem kit_str : PySem.W.kitOne K (.type (tyN d)) (.type "str") = some (tyN d == "str") := kit_ty (kit_all _ (tyN_mem d)).2.2.1
theorem kit_tuple : PySem.W.kitOne K (.type (tyN d)) (.type "tuple") = some (tyN d == "tuple") := kit_ty (kit_all _ (tyN_mem d)).2.2.2.1
theorem kit_list : PySem.W.kitOne K (.type (tyN d)) (.type "list") = some (tyN d == "list") := kit_ty (kit_all _ (tyN_mem d)).2.2.2.2.1
theorem kit_dict : PySem.W.kitOne K (.type (tyN d)) (.type "dict") = some (tyN d == "dict") := kit_ty (kit_all _ (tyN_mem d)).2.2.2.2.2
end
/-- x in a list or a tuple of data -/
def rInX (K : PySem.W.Frag) (neg : Bool) : R2 := fun x y H Q => ∃ d c ds, Dp K H x d ∧ Dp K H y c ∧ (c = .list ds ∨ c = .tuple ds) ∧ SeqAt.shaped d = true ∧ SeqAt.shaped c = true ∧ Q (.bl (if neg then !(ds.any fun z => PyData.eqv z d) else ds.any fun z => PyData.eqv z d)) H
section
variable {X : Cx}
theorem op_inX (hu : X.A.units + 65 < cLine) : OpR X (compareOp .In) (rInX X.K false) := by
  intro pins s σ H x y v u Q I rx ry h
  obtain ⟨d, c, ds, hd, he, hc, sd, se, q⟩ := h
  obtain ⟨as, r1⟩ := Dp.reads I d x v hd rx
  obtain ⟨bs, r2⟩ := Dp.reads I c y u he ry
  rcases hc with rfl | rfl
  · exact SeqAt.in_list_reads r2 r1 (SeqAt.canLay_of_shaped se) (SeqAt.canLay_of_shaped sd) (room_in_shaped sd hu) ⟨.bl _, H, I, rfl, q⟩
  · exact SeqAt.in_tuple_reads r2 r1 (SeqAt.canLay_of_shaped se) (SeqAt.canLay_of_shaped sd) (room_in_shaped sd hu) ⟨.bl _, H, I, rfl, q⟩
theorem op_notInX (hu : X.A.units + 65 < cLine) : OpR X (compareOp .NotIn) (rInX X.K true) := by
  intro pins s σ H x y v u Q I rx ry h
  obtain ⟨d, c, ds, hd, he, hc, sd, se, q⟩ := h
  obtain ⟨as, r1⟩ := Dp.reads I d x v hd rx
  obtain ⟨bs, r2⟩ := Dp.reads I c y u he ry
  rcases hc with rfl | rfl
  · exact SeqAt.notIn_list_reads r2 r1 (SeqAt.canLay_of_shaped se) (SeqAt.canLay_of_shaped sd) (room_in_shaped sd hu) ⟨.bl _, H, I, rfl, q⟩
  · exact SeqAt.notIn_tuple_reads r2 r1 (SeqAt.canLay_of_shaped se) (SeqAt.canLay_of_shaped sd) (room_in_shaped sd hu) ⟨.bl _, H, I, rfl, q⟩
end
theorem hu65 {A : Around} {k : Nat} (hr : Room k A) : A.units + 65 < cLine := by
  have := hr.un
  omega
/-! ### rules whose readings name the written part: with a letter of its own for it (within comprehensions) -/
def rLenK (K : PySem.W.Frag) : List V → Hp → VK → Prop := fun xs H Q => ∃ p ys, xs = [.ref p] ∧ (SqL K H p ys ∨ SqT K H p ys) ∧ Q (.int ys.length) H
def rListK (K : PySem.W.Frag) : List V → Hp → VK → Prop := fun xs H Q => ∃ p ys, xs = [.ref p] ∧ (SqL K H p ys ∨ SqT K H p ys) ∧ ∀ l, H l = none → Q (.ref l) (upd H l (.lst ys))
section
variable {X : Cx}
theorem call_len_k {K : PySem.W.Frag} (hK : X.K = K := by rfl) : CallR X (.builtin "len") (rLenK K) := by subst hK; exact call_len_seq
theorem call_list_k {K : PySem.W.Frag} (hK : X.K = K := by rfl) : CallR X (.type "list") (rListK K) := by subst hK; exact call_list_of
theorem call_isi_k {K : PySem.W.Frag} (hK : X.K = K := by rfl) : CallR X (.builtin "isinstance") (rIsi K) := by subst hK; exact call_isi
theorem cr_all_k {K : PySem.W.Frag} (hc : X.calm = true) (hK : X.K = K := by rfl) : CallR X (.builtin "all") (rAll K) := by subst hK; exact cr_all hc
theorem cr_any_k {K : PySem.W.Frag} (hc : X.calm = true) (hK : X.K = K := by rfl) : CallR X (.builtin "any") (rAny K) := by subst hK; exact cr_any hc
theorem ix_list_k {K : PySem.W.Frag} (hK : X.K = K := by rfl) : IxR X (rIxL K) := by subst hK; exact ix_list
theorem ix_tup_k {K : PySem.W.Frag} (hK : X.K = K := by rfl) : IxR X (rIxT K) := by subst hK; exact ix_tup
theorem sl_list_k {K : PySem.W.Frag} (hK : X.K = K := by rfl) : SlR X (rSlL K) := by subst hK; exact sl_list
theorem sl_tup_k {K : PySem.W.Frag} (hK : X.K = K := by rfl) : SlR X (rSlT K) := by subst hK; exact sl_tup
theorem op_inX_k {K : PySem.W.Frag} (hu : X.A.units + 65 < cLine) (hK : X.K = K := by rfl) : OpR X (compareOp .In) (rInX K false) := by subst hK; exact op_inX hu
theorem op_notInX_k {K : PySem.W.Frag} (hu : X.A.units + 65 < cLine) (hK : X.K = K := by rfl) : OpR X (compareOp .NotIn) (rInX K true) := by subst hK; exact op_notInX hu
theorem op_eqD_k {K : PySem.W.Frag} (hu : X.A.units + 64 < cLine) (hK : X.K = K := by rfl) : OpR X (compareOp .Eq) (rEqD K) := by subst hK; exact op_eqD hu
theorem op_neD_k {K : PySem.W.Frag} (hu : X.A.units + 64 < cLine) (hK : X.K = K := by rfl) : OpR X (compareOp .NotEq) (rNeD K) := by subst hK; exact op_neD hu
theorem pi_list_k {tg l : Expr} {tl : TE} {K : PySem.W.Frag} (hl : PE X l tl) (hK : X.K = K := by rfl) : PI X tg l (iList K tl) := by subst hK; exact pi_list hl
theorem pi_tup_k {tg l : Expr} {tl : TE} {K : PySem.W.Frag} (hl : PE X l tl) (hK : X.K = K := by rfl) : PI X tg l (iTup K tl) := by subst hK; exact pi_tup hl
variable {o e : Expr} {es : List Expr} {to : TE} {t : TA} {name : Str} {apos cpos : Pos} {T id : String} {r : V → List V → Hp → VK → Prop}
theorem pe_bm_k {K : PySem.W.Frag} (pa : PlainAttrs T) (slot : Slot T name id) (hty : typeOf (.builtin id) = pure (.type "method_descriptor")) (hm : MtR X id r) (ho : PE X o to) (ha : PA X (e :: es) t)
    (hbase : attributeBase o name X.env (eval o X.env) = eval o X.env := by rfl)
    (hfew : ((backTo cpos (starEach (e :: es) X.env)).all (fun x => !x.1) && (backToKw cpos (keywordEach [] X.env)).all (fun x => x.1.isSome)
      && decide ((e :: es).length + ([] : List Keyword).length + (if ([] : List Keyword).isEmpty then 0 else 1) < 30)) = true := by rfl)
    (hline : (apos.endLine == cpos.line) = true := by rfl) (hs : starEach (e :: es) X.env = (false, eval e X.env) :: starEach es X.env := by rfl) (hplain : (backTo cpos (starEach es X.env)).any (·.1) = false := by rfl) (hK : X.K = K := by rfl) :
    PE X (.Call (.Attribute o name apos) (e :: es) [] cpos) (tBM K T r to t) := by
  subst hK
  exact pe_bm pa slot hty hm ho ha hbase hfew hline hs hplain
def tJoin (K : PySem.W.Frag) (to te : TE) : TE := tM1 (fun x xs H Q => ∃ a p, ∃ ys : List Str, x = .str a ∧ xs = [.ref p] ∧ (SqL K H p (ys.map V.str) ∨ SqT K H p (ys.map V.str)) ∧
      (ys.map (·.length)).sum + ys.length * a.length ≤ 16777216 ∧ Q (.str (Txt.join a ys)) H) to te
theorem pe_join_k {te : TE} {K : PySem.W.Frag} (ho : PE X o to) (he : PE X e te) (hs : starEach [e] X.env = [(false, eval e X.env)] := by rfl) (hbase : attributeBase o "join" X.env (eval o X.env) = eval o X.env := by rfl) (hline : (apos.endLine == cpos.line) = true := by rfl) (hK : X.K = K := by rfl) :
    PE X (.Call (.Attribute o "join" apos) [e] [] cpos) (tJoin K to te) := by
  subst hK
  exact pe_join ho he hs hbase hline
end
/-! ### list(text) -/
def signV (z : Str) : List V := z.cps.toList.map fun c => V.str ⟨#[c]⟩
theorem paired_get {α β : Type} {R : α → β → Prop} : ∀ {xs : List α} {us : List β}, xs.length = us.length → (∀ (j : Nat) (x : α) (u : β), xs[j]? = some x → us[j]? = some u → R x u) → Paired R xs us
  | [], [], _, _ => .nil
  | [], _ :: _, h, _ => by cases h
  | _ :: _, [], h, _ => by cases h
  | x :: xs, u :: us, h, k => .cons (k 0 x u rfl rfl) (paired_get (by simpa using h) fun j y v h1 h2 => k (j + 1) y v (by simpa using h1) (by simpa using h2))
theorem call_listS {X : Cx} (hcalm : X.calm = true) : CallR X (.type "list") (fun xs H Q => ∃ z, xs = [.str z] ∧ z.length ≤ sizeLine ∧ ∀ p, H p = none → Q (.ref p) (upd H p (.lst (signV z)))) := by
  intro pins s σ H xs us Q I r h
  obtain ⟨z, rfl, hz, q⟩ := h
  obtain ⟨u, rfl, t, rfl⟩ := vals1 r
  refine call_list_str (I.ok.hd hcalm) z t (hn := hz) fun h' tk acc' c' hk hS' hacc => ?_
  have hl : (signV z).length = z.length := by
    unfold signV
    rw [List.length_map, Array.length_toList]
    rfl
  have hv : Vals (signV z) acc'.toList := by
    refine paired_get (R := RelV) (by rw [hl, Array.length_toList, hacc.1]; rfl) fun j x u h1 h2 => ?_
    obtain ⟨c, t', hc, rfl⟩ := hacc.2 j u (by rw [← Array.getElem?_toList]; exact h2)
    unfold signV at h1
    rw [List.getElem?_map, Array.getElem?_toList, hc] at h1
    cases (show some (V.str ⟨#[c]⟩) = some x from h1)
    exact ⟨t', rfl⟩
  exact ⟨.ref s.heap.objs.size, upd H s.heap.objs.size (.lst (signV z)), I.laid (t' := tk) hk (Nat.le_refl _)
    (show ObjOk X.prog X.w _ _ _ (.lst (signV z)) from ⟨by rw [hl]; exact hz, acc'.toList, c', hv, by rw [Array.toArray_toList]; exact hS'⟩), rfl, q _ (I.hok.fresh (Nat.le_refl _))⟩
/-! ### the program's judges, on data -/
def isIntD : PyData → Bool
  | .int i => decide ((if i < 0 then -i else i) < 10 ^ Int.toNat 60)
  | _ => false
def lowZ (c : Nat) : Bool := (!decide ([c] < [97])) && (!decide ([122] < [c]))
def isWordS (x : Str) : Bool := (decide (1 ≤ x.length) && decide (x.length ≤ 8)) && x.cps.toList.all lowZ
def isWordD : PyData → Bool
  | .str x => isWordS x
  | _ => false
def isArityD : PyData → Bool
  | .int i => isIntD (.int i) && (decide (0 ≤ i) && decide (i ≤ 3))
  | _ => false
def isLeafD (d : PyData) : Bool := ([.str "_", .str "#"] : List PyData).any fun z => PyData.eqv z d
def isNodeD : PyData → Bool
  | .tuple [s, m] => if isLeafD s then (isArityD m && PyData.eqv m (.int 0)) else (isWordD s && isArityD m)
  | _ => false
end Fn

set_option Elab.async false
set_option maxRecDepth 100000
set_option maxHeartbeats 4000000
/-! A dict with any keys, told by its pairs of values: read by len, isinstance, walks; a key of another kind put into a dict of texts. -/
namespace Fn
open PySem PySem.Spec PyProof.Rows L2
def EntV (kvs : List (V × V)) (es : Array DictEntry) : Prop := es.size = kvs.length ∧ ∀ (i : Nat) (k v : V), kvs[i]? = some (k, v) → ∃ en, es[i]? = some en ∧ RelV k en.key ∧ RelV v en.val
def MxO (d : Addr) (kvs : List (V × V)) : HO := .ext fun h => (d == sysModules) = false ∧ kvs.length ≤ sizeLine ∧ ∃ es ep, h.DictRaw d es ep ∧ EntV kvs es
inductive DM (d : Addr) : HO → List (V × V) → Prop
  | mx (kvs : List (V × V)) : DM d (MxO d kvs) kvs
  | dk (ks : List (Key × V)) : DM d (.dK ks) (ks.map fun p => (kV p.1, p.2))
theorem DM.mut {d : Addr} {u : HO} {kvs : List (V × V)} (D : DM d u kvs) : Mut (some u) := by
  cases D <;> exact True.intro
theorem EntV.of_kv {P : Program} {w : World} {ks : List (Key × V)} {vs : List (Key × Value)} {es : Array DictEntry} (kv : KV ks vs) (hz : es.size = vs.length)
    (he : ∀ i (hi : i < es.size) k v, vs[i]? = some (k, v) → (mixKind P w).is k es[i].key = true ∧ es[i].val = v) : EntV (ks.map fun p => (kV p.1, p.2)) es := by
  refine ⟨by rw [List.length_map, hz]; exact (Paired.length kv).symm, fun i k v e => ?_⟩
  rw [List.getElem?_map] at e
  cases hk : ks[i]? with
  | none => rw [hk] at e; cases e
  | some p =>
    obtain ⟨kk, x⟩ := p
    rw [hk] at e
    cases (show some (kV kk, x) = some (k, v) from e)
    obtain ⟨u, hu, ru⟩ := kv_get kv hk
    have hi : i < es.size := by
      rw [hz]
      exact (List.getElem?_eq_some_iff.mp hu).1
    obtain ⟨h1, h2⟩ := he i hi _ _ hu
    exact ⟨es[i], Array.getElem?_eq_getElem hi, relV_key (show keyIs kk _ = true from h1), by rw [h2]; exact ru⟩
theorem DM.raw {P : Program} {w : World} {H : Hp} {h : Heap} {d : Addr} {u : HO} {kvs : List (V × V)} (D : DM d u kvs) (x : ObjOk P w H h d u) :
    (d == sysModules) = false ∧ kvs.length ≤ sizeLine ∧ ∃ es ep, h.DictRaw d es ep ∧ EntV kvs es := by
  cases D with
  | mx => exact x.1
  | dk ks =>
    obtain ⟨z, hd, vs, kv, dd⟩ := x
    obtain ⟨es, ep, r, hz, he⟩ := dd.raw
    exact ⟨hd, by rw [List.length_map]; exact z, es, ep, r, EntV.of_kv kv hz he⟩
section
variable {X : Cx} {pins : List (Addr × Obj)} {σ : L2.St} {H : Hp} {s : Shared} {d : Addr} {o : Obj} {u : HO} {kvs : List (V × V)}
theorem frzM (I : Inv X pins σ H s) (h : H d = some (.frz o u)) (D : DM d u kvs) :
    (d == sysModules) = false ∧ kvs.length ≤ sizeLine ∧ ∃ es ep, o.data = .dict es ep ∧ s.heap.DictRaw d es ep ∧ EntV kvs es := by
  obtain ⟨h1, h2⟩ := I.hok d _ h
  obtain ⟨a, b, es, ep, r, e⟩ := D.raw h2
  obtain ⟨o', ho, hx, hd⟩ := id r
  rw [h1] at ho
  cases ho
  exact ⟨a, b, es, ep, hd, r, e⟩
end
def Mtk (d : Addr) (o : Obj) (u : HO) (kvs : List (V × V)) : It :=
  ⟨fun i H => H d = some (.frz o u) ∧ i < kvs.length, fun i H x H' => H' = H ∧ ∃ v, kvs[i]? = some (x, v), fun i H => H d = some (.frz o u) ∧ kvs.length ≤ i⟩
def Mtd (d : Addr) (o : Obj) (u : HO) (kvs : List (V × V)) : It :=
  ⟨fun i H => H d = some (.frz o u) ∧ i < kvs.length, fun i H x H' => H' = H ∧ ∃ k, kvs[i]? = some (k, x), fun i H => H d = some (.frz o u) ∧ kvs.length ≤ i⟩
def Mti (d : Addr) (o : Obj) (u : HO) (kvs : List (V × V)) : It :=
  ⟨fun i H => H d = some (.frz o u) ∧ i < kvs.length, fun i H x H' => ∃ T k v, kvs[i]? = some (k, v) ∧ x = .ref T ∧ H T = none ∧ H' = upd H T (.tup [k, v]), fun i H => H d = some (.frz o u) ∧ kvs.length ≤ i⟩
section
variable {P : Program} {w : World} {K : PySem.W.Frag} {tg : Expr} {d : Addr} {o : Obj} {es : Array DictEntry} {ep : Nat} {u : HO} {kvs : List (V × V)}
theorem turn_keysM (D : DM d u kvs) (it : Addr) (hod : o.data = .dict es ep) : Turn P w K tg (Mtk d o u kvs) [it] it (fun i h => h.IsKeyIter it d i es.size ep) where
  mem := by simp
  obj := fun i h st b hb => by
    have e : b = it := by simpa using hb
    subst e
    obtain ⟨oi, e, c, dd⟩ := st
    exact ⟨oi, e, fun v z => by rw [dd] at z; cases z⟩
  keep := fun i h h' st k => st.at fun oi e => k it (by simp) oi e
  item := by
    intro X hP hw hK hc i pins s σ H E I hf st hg
    subst hP hw hK
    obtain ⟨hd, hi⟩ := hg
    obtain ⟨f0, f1, f2, f3, f4, f5⟩ := hf it (by simp)
    obtain ⟨hs, hz, es', ep', hdt, hr, hsz, ent⟩ := frzM I hd D
    obtain ⟨rfl, rfl⟩ := dict_ep hod hdt
    obtain ⟨⟨k, v⟩, hkv⟩ : ∃ p, kvs[i]? = some p := ⟨kvs[i], List.getElem?_eq_getElem hi⟩
    obtain ⟨en, hen, rk, rv⟩ := ent i k v hkv
    have hi' : i < es'.size := by omega
    refine wpAny_pyNext_keys_item_raw st hr hi' fun h' st' sb => ?_
    have I1 : Inv X pins σ H { s with heap := h' } := I.turned (t' := s.toks) (fun b ob hb e => (sb.2 b hb).trans e) f0 f1 f3 f4 f5
    obtain ⟨oi, e, c, dd⟩ := id st'
    have een : es'[i] = en := by
      rw [Array.getElem?_eq_getElem hi'] at hen
      exact Option.some.inj hen
    rw [een]
    exact ⟨en.key, rfl, go_of (s := { s with heap := h' }) e c dd (by decide) ⟨k, H, I1, rk, ⟨rfl, v, hkv⟩, st', fun b hb => (hf b hb).1⟩⟩
  done := by
    intro X hP hw hK hc i pins s σ H E I hf st hg
    subst hP hw hK
    obtain ⟨hd, hi⟩ := hg
    obtain ⟨f0, f1, f2, f3, f4, f5⟩ := hf it (by simp)
    obtain ⟨hs, hz, es', ep', hdt, hr, hsz, ent⟩ := frzM I hd D
    obtain ⟨rfl, rfl⟩ := dict_ep hod hdt
    exact wpAny_pyNext_keys_end_raw (I.ok.hd hc) st hr (by omega) fun h' eb => ⟨rfl, I.turned (t' := s.toks) (fun b ob hb e => eb b ob hb e) f0 f1 f3 f4 f5⟩
  self := fun A i s Q E st h => wpAny_pyIter_keyiter st h
theorem turn_valsM (D : DM d u kvs) (it : Addr) (hod : o.data = .dict es ep) : Turn P w K tg (Mtd d o u kvs) [it] it (fun i h => h.IsValIter it d i es.size ep) where
  mem := by simp
  obj := fun i h st b hb => by
    have e : b = it := by simpa using hb
    subst e
    obtain ⟨oi, e, c, dd⟩ := st
    exact ⟨oi, e, fun v z => by rw [dd] at z; cases z⟩
  keep := fun i h h' st k => st.at fun oi e => k it (by simp) oi e
  item := by
    intro X hP hw hK hc i pins s σ H E I hf st hg
    subst hP hw hK
    obtain ⟨hd, hi⟩ := hg
    obtain ⟨f0, f1, f2, f3, f4, f5⟩ := hf it (by simp)
    obtain ⟨hs, hz, es', ep', hdt, hr, hsz, ent⟩ := frzM I hd D
    obtain ⟨rfl, rfl⟩ := dict_ep hod hdt
    obtain ⟨⟨k, v⟩, hkv⟩ : ∃ p, kvs[i]? = some p := ⟨kvs[i], List.getElem?_eq_getElem hi⟩
    obtain ⟨en, hen, rk, rv⟩ := ent i k v hkv
    have hi' : i < es'.size := by omega
    refine wpAny_pyNext_values_item_raw st hr hi' fun h' st' sb => ?_
    have I1 : Inv X pins σ H { s with heap := h' } := I.turned (t' := s.toks) (fun b ob hb e => (sb.2 b hb).trans e) f0 f1 f3 f4 f5
    obtain ⟨oi, e, c, dd⟩ := id st'
    have een : es'[i] = en := by
      rw [Array.getElem?_eq_getElem hi'] at hen
      exact Option.some.inj hen
    rw [een]
    exact ⟨en.val, rfl, go_of (s := { s with heap := h' }) e c dd (by decide) ⟨v, H, I1, rv, ⟨rfl, k, hkv⟩, st', fun b hb => (hf b hb).1⟩⟩
  done := by
    intro X hP hw hK hc i pins s σ H E I hf st hg
    subst hP hw hK
    obtain ⟨hd, hi⟩ := hg
    obtain ⟨f0, f1, f2, f3, f4, f5⟩ := hf it (by simp)
    obtain ⟨hs, hz, es', ep', hdt, hr, hsz, ent⟩ := frzM I hd D
    obtain ⟨rfl, rfl⟩ := dict_ep hod hdt
    exact wpAny_pyNext_values_end_raw (I.ok.hd hc) st hr (by omega) fun h' eb => ⟨rfl, I.turned (t' := s.toks) (fun b ob hb e => eb b ob hb e) f0 f1 f3 f4 f5⟩
  self := fun A i s Q E st h => wpAny_pyIter_valiter st h
theorem turn_itemsM (D : DM d u kvs) {elts : List Expr} {kk : Nat} {tpos : Pos} (it : Addr) (hod : o.data = .dict es ep) :
    Turn P w K (.Tuple elts kk tpos) (Mti d o u kvs) [it] it (fun i h => ∃ ok ov, IsItemIter h it d i es.size ep ok ov) where
  mem := by simp
  obj := fun i h st b hb => by
    have e : b = it := by simpa using hb
    subst e
    obtain ⟨ok, ov, e⟩ := st
    exact ⟨_, e, fun v z => nomatch z⟩
  keep := fun i h h' st k => let ⟨ok, ov, e⟩ := st; ⟨ok, ov, k it (by simp) _ e⟩
  item := by
    intro X hP hw hK hc i pins s σ H E I hf st hg
    subst hP hw hK
    obtain ⟨hd, hi⟩ := hg
    obtain ⟨hs, hz, es', ep', hdt, hr, hsz, ent⟩ := frzM I hd D
    obtain ⟨rfl, rfl⟩ := dict_ep hod hdt
    obtain ⟨⟨k, v⟩, hkv⟩ : ∃ p, kvs[i]? = some p := ⟨kvs[i], List.getElem?_eq_getElem hi⟩
    obtain ⟨en, hen, rk, rv⟩ := ent i k v hkv
    have hi' : i < es'.size := by omega
    have een : es'[i] = en := by
      rw [Array.getElem?_eq_getElem hi'] at hen
      exact Option.some.inj hen
    obtain ⟨ok, ov, he⟩ := st
    have hlt : it < s.heap.objs.size := Heap.lt_size he
    refine wpAny_pyNext_items_item_raw he hr hi' fun h' ho hT hz hk => ?_
    rw [een] at ho hT
    refine ⟨_, rfl, wpAny_letOwnedTupleGo_items (s := { s with heap := h' }) ho fun h'' he' sb => ?_⟩
    have hT2 : h''.get? s.heap.objs.size = some { cls := .type "tuple", data := .seq #[en.key, en.val] } := (sb.2 _ (Nat.ne_of_gt hlt)).trans hT
    have new : ObjOk X.prog X.w (upd H s.heap.objs.size (.tup [k, v])) h'' s.heap.objs.size (.tup [k, v]) :=
      ⟨by show 2 ≤ sizeLine; decide, [en.key, en.val], .cons rk (.cons rv .nil), ⟨_, hT2, rfl, _, rfl⟩⟩
    have I1 : Inv X pins σ (upd H s.heap.objs.size (.tup [k, v])) { s with heap := h'' } :=
      I.turnedNew (t' := s.toks) (ch := [it]) (fun b ob hb e => (sb.2 b (by simpa using hb)).trans (hk b ob (by simpa using hb) e)) hf (Nat.le_refl _) new
    refine ⟨.ref s.heap.objs.size, _, I1, rfl, ⟨_, k, v, hkv, rfl, I.hok.fresh (Nat.le_refl _), rfl⟩, ⟨en.key, en.val, he'⟩, fun b hb => ?_⟩
    have e : b = it := by simpa using hb
    rw [e, upd_ne (Nat.ne_of_lt hlt)]
    exact (hf it (by simp)).1
  done := by
    intro X hP hw hK hc i pins s σ H E I hf st hg
    subst hP hw hK
    obtain ⟨hd, hi⟩ := hg
    obtain ⟨f0, f1, f2, f3, f4, f5⟩ := hf it (by simp)
    obtain ⟨hs, hz, es', ep', hdt, hr, hsz, ent⟩ := frzM I hd D
    obtain ⟨rfl, rfl⟩ := dict_ep hod hdt
    obtain ⟨ok, ov, he⟩ := st
    exact wpAny_pyNext_items_end_raw (I.ok.hd hc) he hr (by omega) fun h' eb => ⟨rfl, I.turned (t' := s.toks) (fun b ob hb e => eb b ob hb e) f0 f1 f3 f4 f5⟩
  self := fun A i s Q E st h => let ⟨_, _, e⟩ := st; PySem.W.kcp_self e h
end
section
variable {d : Addr} {o : Obj} {u : HO} {kvs : List (V × V)}
theorem walk_keysX : Walk (Mtk d o u kvs) kvs.length (fun H => H d = some (.frz o u)) (fun i H x H' => H' = H ∧ ∃ v, kvs[i]? = some (x, v)) :=
  ⟨fun _ _ hi q => ⟨q, hi⟩, fun _ q => ⟨q, Nat.le_refl _⟩, fun _ _ _ _ _ _ y => y⟩
theorem walk_valsX : Walk (Mtd d o u kvs) kvs.length (fun H => H d = some (.frz o u)) (fun i H x H' => H' = H ∧ ∃ k, kvs[i]? = some (k, x)) :=
  ⟨fun _ _ hi q => ⟨q, hi⟩, fun _ q => ⟨q, Nat.le_refl _⟩, fun _ _ _ _ _ _ y => y⟩
theorem walk_itemsX : Walk (Mti d o u kvs) kvs.length (fun H => H d = some (.frz o u)) (fun i H x H' => ∃ T k v, kvs[i]? = some (k, v) ∧ x = .ref T ∧ H T = none ∧ H' = upd H T (.tup [k, v])) :=
  ⟨fun _ _ hi q => ⟨q, hi⟩, fun _ q => ⟨q, Nat.le_refl _⟩, fun _ _ _ _ _ _ y => y⟩
end
def iKeysX (td : TE) : TI := fun σ H R => td σ H fun x H1 => ∃ d o u kvs, x = .ref d ∧ H1 d = some (.frz o u) ∧ DM d u kvs ∧ R (Mtk d o u kvs) H1
def iValsX (td : TE) : TI := fun σ H R => td σ H fun x H1 => ∃ d o u kvs, x = .ref d ∧ H1 d = some (.frz o u) ∧ DM d u kvs ∧ R (Mtd d o u kvs) H1
def iItemsX (td : TE) : TI := fun σ H R => td σ H fun x H1 => ∃ d o u kvs, x = .ref d ∧ H1 d = some (.frz o u) ∧ DM d u kvs ∧ R (Mti d o u kvs) H1
section
variable {X : Cx} {tg e : Expr} {td : TE} {apos cpos : Pos}
theorem pi_keysX (he : PE X e td) : PI X tg e (iKeysX td) := by
  refine ⟨fun pins s σ H R I h => ?_⟩
  refine thn (he.run pins s σ H _ I h) fun v s1 ⟨x, H1, I1, rx, d, o, u, kvs, ex, hd, D, q⟩ => ?_
  subst ex
  obtain rfl : v = Value.ref d := rx
  obtain ⟨hs, hz, es, ep, hdt, hr, ent⟩ := frzM I1 hd D
  exact wpAny_pyIter_dict_raw hs hr (pi_one (tk := s1.toks) I1 _ (turn_keysM D _ hdt) ⟨_, Heap.get?_push_size _ rfl, rfl, rfl⟩ q)
theorem pi_valuesX (he : PE X e td) (hbase : attributeBase e "values" X.env (eval e X.env) = eval e X.env := by rfl) (hline : (apos.endLine == cpos.line) = true := by rfl) : PI X tg (.Call (.Attribute e "values" apos) [] [] cpos) (iValsX td) := by
  refine ⟨fun pins s σ H R I h => ?_⟩
  refine wpAny_Call_method (T := "dict") (id := "dict.values") hbase rfl hline F.plainAttrs_dict F.slot_dict_values F.type_dict_values (thn (he.run pins s σ H _ I h) fun v s1 ⟨x, H1, I1, rx, d, o, u, kvs, ex, hd, D, q⟩ => ?_)
  subst ex
  obtain rfl : v = Value.ref d := rx
  obtain ⟨hs, hz, es, ep, hdt, hr, ent⟩ := frzM I1 hd D
  refine ⟨hr.typeIs, fun b e => ?_, ?_⟩
  · cases e
    obtain ⟨ob, ho, hc, _⟩ := hr
    exact ⟨ob, ho, hc.2.1⟩
  have I2 : Inv X pins σ H1 { s1 with heap := s1.heap.push { cls := .type "dict_values", data := .fields #[.ref d] } } := I1.kept (t' := s1.toks) fun b ob q => Heap.get?_push_of_some _ q
  have fin : wpAny (model X.prog X.w) X.A (pyIter (.ref s1.heap.objs.size)) (PIE X pins σ tg R) X.xe { s1 with heap := s1.heap.push { cls := .type "dict_values", data := .fields #[.ref d] } } :=
    wpAny_pyIter_values_raw (d := d) (es := es) (ep := ep) ⟨_, Heap.get?_push_size _ rfl, rfl, rfl⟩ (hr.push _) (pi_one (tk := s1.toks) I2 _ (turn_valsM D _ hdt) ⟨_, Heap.get?_push_size _ rfl, rfl, rfl⟩ q)
  show wpAny _ _ (callWith cpos (.builtin "dict.values") [.ref d] [] []) _ X.xe s1
  exact method_meetsIn F.slot_dict_values F.entry_dict_values rfl (PySem.evalArgs_none ⟨rfl, hr.typeIs, F.args_dict_values_1 _, _, meets_dict_values_raw d hs, ⟨es, ep, hr⟩, fin⟩)
theorem pi_itemsX {elts : List Expr} {kk : Nat} {tpos : Pos} (he : PE X e td) (hbase : attributeBase e "items" X.env (eval e X.env) = eval e X.env := by rfl) (hline : (apos.endLine == cpos.line) = true := by rfl) :
    PI X (.Tuple elts kk tpos) (.Call (.Attribute e "items" apos) [] [] cpos) (iItemsX td) := by
  refine ⟨fun pins s σ H R I h => ?_⟩
  refine wpAny_Call_method (T := "dict") (id := "dict.items") hbase rfl hline F.plainAttrs_dict F.slot_dict_items F.type_dict_items (thn (he.run pins s σ H _ I h) fun v s1 ⟨x, H1, I1, rx, d, o, u, kvs, ex, hd, D, q⟩ => ?_)
  subst ex
  obtain rfl : v = Value.ref d := rx
  obtain ⟨hs, hz, es, ep, hdt, hr, ent⟩ := frzM I1 hd D
  refine ⟨hr.typeIs, fun b e => ?_, ?_⟩
  · cases e
    obtain ⟨ob, ho, hc, _⟩ := hr
    exact ⟨ob, ho, hc.2.1⟩
  have I2 : Inv X pins σ H1 { s1 with heap := s1.heap.push { cls := .type "dict_items", data := .fields #[.ref d] } } := I1.kept (t' := s1.toks) fun b ob q => Heap.get?_push_of_some _ q
  have fin : wpAny (model X.prog X.w) X.A (pyIter (.ref s1.heap.objs.size)) (PIE X pins σ (.Tuple elts kk tpos) R) X.xe { s1 with heap := s1.heap.push { cls := .type "dict_items", data := .fields #[.ref d] } } :=
    wpAny_pyIter_items_raw (d := d) (es := es) (ep := ep) ⟨_, Heap.get?_push_size _ rfl, rfl, rfl⟩ (hr.push _) (pi_one (tk := s1.toks) I2 _ (turn_itemsM D _ hdt) ⟨.none, .none, Heap.get?_push_size _ rfl⟩ q)
  show wpAny _ _ (callWith cpos (.builtin "dict.items") [.ref d] [] []) _ X.xe s1
  exact method_meetsIn F.slot_dict_items F.entry_dict_items rfl (PySem.evalArgs_none ⟨rfl, hr.typeIs, F.args_dict_items_1 _, _, meets_dict_items_raw d hs, ⟨es, ep, hr⟩, fin⟩)
/-- isinstance(x, c) where x may be a dict with any keys -/
def rIsiM (K : PySem.W.Frag) : List V → Hp → VK → Prop := fun xs H Q => rIsi K xs H Q ∨
  ∃ (d : Addr) (w : HO) (kvs : List (V × V)) (c : V) (u : Value) (b : Bool), xs = [.ref d, c] ∧ ClsV c u ∧ H d = some w ∧ DM d w kvs ∧ PySem.W.kitOne K (.type "dict") u = some b ∧ Q (.bl b) H
theorem call_isiM {K : PySem.W.Frag} (hK : X.K = K := by rfl) : CallR X (.builtin "isinstance") (rIsiM K) := by
  subst hK
  intro pins s σ H xs us Q I r h
  rcases h with h | ⟨d, w, kvs, c, u, b, rfl, k, hd, D, e, q⟩
  · exact call_isi pins s σ H xs us Q I r h
  · obtain ⟨u1, u2, rfl, r1, r2⟩ := vals2 r
    have e2 := k.eq r2
    subst e2
    cases (show u1 = Value.ref d from r1)
    obtain ⟨hs, hz, es, ep, ⟨o, ho, hc, hdt⟩, ent⟩ := D.raw (I.hok d _ hd)
    exact PySem.W.kia_one PySem.W.kitx_dict I.kIn ⟨o, ho, hc.1⟩ e (fun z => nomatch z) fun tk => ⟨.bl b, H, I.tok tk, rfl, q⟩
def rLenM : List V → Hp → VK → Prop := fun xs H Q => ∃ (d : Addr) (w : HO) (kvs : List (V × V)), xs = [.ref d] ∧ H d = some w ∧ DM d w kvs ∧ Q (.int kvs.length) H
theorem call_lenM : CallR X (.builtin "len") rLenM := by
  intro pins s σ H xs us Q I r h
  obtain ⟨d, w, kvs, rfl, hd, D, q⟩ := h
  obtain rfl := Vals.ref1 r
  obtain ⟨hs, hz, es, ep, hr, hsz, ent⟩ := D.raw (I.hok d _ hd)
  have hl := line63
  refine call_len_slot (n := (es.size : Int)) hr.typeIs F.slot_dict_len (fun Q' hq => call_len_raw hs hr hq) (by omega) (by omega) ?_
  exact ⟨.int kvs.length, H, I.tok _, ⟨_, by rw [hsz]⟩, q⟩
end
theorem pg_tup_k {X : Cx} {K : PySem.W.Frag} {pos : Pos} {es : List Expr} {k : Nat} {t : TGs} {n : Nat} (hc : X.calm = true) (h : PGs X es t)
    (hn : (assignEach es X.env).length = n := by rfl) (hst : (assignEach es X.env).findIdx? (·.1) = none := by rfl) (hK : X.K = K := by rfl) : PG X (.Tuple es k pos) (gTup K n t) := by
  subst hK
  exact pg_tup hc h hn hst
/-! ### list(d.values()) -/
def tListVals (te : TE) : TE := fun σ H Q => te σ H fun x H1 => ∃ (d : Addr) (w : HO) (kvs : List (V × V)), x = .ref d ∧ H1 d = some w ∧ DM d w kvs ∧
  ∀ p, H1 p = none → Q (.ref p) (upd H1 p (.lst (kvs.map Prod.snd)))
theorem pe_listVals {X : Cx} {e : Expr} {te : TE} {p apos cpos pos : Pos} (hc : X.calm = true) (he : PE X e te) (hg : Gl X "list") (hm : X.mg "list" = none) (hv : bootBuiltins "list" = some (.type "list")) (hbase : attributeBase e "values" X.env (eval e X.env) = eval e X.env := by rfl) (hline : (apos.endLine == cpos.line) = true := by rfl)
    (hs : starEach [.Call (.Attribute e "values" apos) [] [] cpos] X.env = (false, eval (.Call (.Attribute e "values" apos) [] [] cpos) X.env) :: starEach [] X.env := by rfl) :
    PE X (.Call (.Name "list" p) [.Call (.Attribute e "values" apos) [] [] cpos] [] pos) (tListVals te) := by
  refine ⟨fun pins s σ H Q I hq => ?_⟩
  refine wpAny_Call_Name_kw (ld_blt I hg hm hv ?_)
  refine PyProof.Rows.callWith_type1 ?_ hs rfl
  rw [hs]
  show wpAny _ _ (spliced ((false, eval (.Call (.Attribute e "values" apos) [] [] cpos) X.env) :: backTo pos (starEach [] X.env))) _ _ s
  refine Calls.spliced_cons ?_
  refine wpAny_Call_method (T := "dict") (id := "dict.values") hbase rfl hline F.plainAttrs_dict F.slot_dict_values F.type_dict_values (thn (he.run pins s σ H _ I hq) fun u s1 ⟨x, H1, I1, rx, d, w, kvs, ex, hd, D, q⟩ => ?_)
  subst ex
  obtain rfl : u = Value.ref d := rx
  obtain ⟨hs0, hz, es, ep, hr, hsz, ent⟩ := D.raw (I1.hok d _ hd)
  have I2 : Inv X pins σ H1 { s1 with heap := s1.heap.push { cls := .type "dict_values", data := .fields #[.ref d] } } := I1.kept (t' := s1.toks) fun b ob q => Heap.get?_push_of_some _ q
  refine ⟨hr.typeIs, fun b e => ?_, ?_⟩
  · cases e
    obtain ⟨ob, ho, hc, _⟩ := hr
    exact ⟨ob, ho, hc.2.1⟩
  show wpAny _ _ (callWith cpos (.builtin "dict.values") [.ref d] [] []) _ X.xe s1
  refine method_meetsIn F.slot_dict_values F.entry_dict_values rfl (PySem.evalArgs_none ⟨rfl, hr.typeIs, F.args_dict_values_1 _, _, meets_dict_values_raw d hs0, ⟨es, ep, hr⟩, ?_⟩)
  refine Calls.spliced_nil ?_
  refine PySem.W.kdl_call (KdlSrc.rawValues (es := es) (ep := ep)) (I1.ok.hd hc) ⟨⟨_, Heap.get?_push_size _ rfl, rfl, rfl⟩, hr.push _⟩ (by rw [hsz]; exact hz) fun h' tk acc' c' hk hS hacc => ?_
  have hv : Vals (kvs.map Prod.snd) acc'.toList := by
    refine paired_get (R := RelV) (by rw [List.length_map, Array.length_toList (xs := acc'), hacc.1, hsz]) fun j x u h1 h2 => ?_
    obtain ⟨hi, rfl⟩ := hacc.2 j u (by rw [← Array.getElem?_toList]; exact h2)
    rw [List.getElem?_map] at h1
    cases hkv : kvs[j]? with
    | none => rw [hkv] at h1; cases h1
    | some pr =>
      obtain ⟨k, v⟩ := pr
      rw [hkv] at h1
      cases (show some v = some x from h1)
      obtain ⟨en, hen, rk, rv⟩ := ent j k _ hkv
      rw [Array.getElem?_eq_getElem hi] at hen
      cases hen
      exact rv
  exact ⟨.ref _, upd H1 _ (.lst (kvs.map Prod.snd)), I2.laid (t' := tk) hk (Nat.le_refl _)
    (show ObjOk X.prog X.w _ _ _ (.lst (kvs.map Prod.snd)) from ⟨by rw [List.length_map]; exact hz, acc'.toList, c', hv, by rw [Array.toArray_toList]; exact hS⟩), rfl, q _ (I2.hok.fresh (Nat.le_refl _))⟩
/-! ### a key of another kind put into a dict of texts -/
section
variable {prog : Program} {w : World} {A : Around} {E : Value → Shared → Prop} {s : Shared}
theorem find_absent {d : Addr} {o : Obj} {es : Array DictEntry} {ep : Nat} {key : Value} {k : NestedKey} {hsh : Int} {Q : Option Nat → Shared → Prop} (hu : A.units + 0 < cLine) (ho : s.heap.get? d = some o) (hd : o.data = .dict es ep)
    (hs : ∀ e ∈ es, ∃ x t, e.key = .str x t) (hkey : NestedIs s.heap k key) (hk : (k = .none) ∨ ∃ ks, k = .tup ks) (hdep : k.depth ≤ 8) (hq : Q none s) :
    wpAny (model prog w) A (dictFind d key hsh) Q E s := by
  have hat : ∀ (x : Nat) (e : DictEntry), es[x]? = some e → ∀ Q' : Bool → Shared → Prop, Q' false s → wpAny (model prog w) A (eqBool e.key key) Q' E s := by
    intro x e he Q' hq'
    obtain ⟨y, t, ek⟩ := hs e (Array.mem_of_getElem? he)
    rw [ek]
    refine eqAt_key (.text y) k A s _ _ (.text y t) hkey (by simp only [NestedKey.depth]; omega) _ _ _ _ ?_
    rcases hk with rfl | ⟨ks, rfl⟩ <;> exact hq'
  have hst : ∀ v ∈ (placesWithHash es.size (fun i => es[i]?.map (·.hash)) hsh).filterMap (fun i => es[i]?.map (·.key)), ∃ x t, v = .str x t := by
    intro v hv
    obtain ⟨i, _, hi⟩ := List.mem_filterMap.mp hv
    cases hei : es[i]? with
    | none => rw [hei] at hi; cases hi
    | some e =>
      rw [hei] at hi
      obtain rfl : e.key = v := by simpa using hi
      exact hs e (Array.mem_of_getElem? hei)
  unfold dictFind
  try with_reducible refine wpAny_holding ?_
  refine wpAny_bind (wpAny_dictEntries ho hd ?_)
  have mem : ∀ x ∈ placesWithHash es.size (fun i => es[i]?.map (·.hash)) hsh, ∃ e, es[x]? = some e := by
    intro x hx
    rw [placesWithHash] at hx
    obtain ⟨h1, _⟩ := List.mem_filter.mp hx
    exact ⟨es[x]'(List.mem_range.mp h1), Array.getElem?_eq_getElem _⟩
  cases hkey with
  | none =>
    dsimp only
    rw [if_pos (by
      rw [List.all_cons]
      show (true && _) = true
      rw [Bool.true_and, List.all_eq_true]
      intro v hv
      obtain ⟨x, t, rfl⟩ := hst v hv
      rfl)]
    unfold dictWalkPlain
    refine wpAny_bind ?_
    refine wpAny_forIn_list _ (fun rest b s' => s' = s ∧ b = (none, ()) ∧ ∀ x ∈ rest, ∃ e, es[x]? = some e) _ ?_ ?_ _ _ ⟨rfl, rfl, mem⟩
    · rintro x rest b s' ⟨rfl, rfl, hm⟩
      obtain ⟨e, he⟩ := hm x List.mem_cons_self
      have hm' : ∀ y ∈ rest, ∃ e, es[y]? = some e := fun y hy => hm y (List.mem_cons_of_mem _ hy)
      rw [he]
      dsimp only
      split
      · refine wpAny_bind (wpAny_dictEpoch ho hd (wpAny_bind (hat x e he _ (wpAny_bind (wpAny_dictEpoch ho hd ?_)))))
        show wpAny _ _ (if (ep != ep) = true then _ else _) _ E _
        rw [if_neg (by simp)]
        exact wpAny_bind (wpAny_rule (wpAny_pure ⟨rfl, rfl, hm'⟩))
      · exact wpAny_pure ⟨rfl, rfl, hm'⟩
    · rintro b s' ⟨rfl, rfl, _⟩
      exact wpAny_pure hq
  | bool e => rcases hk with h | ⟨ks, h⟩ <;> cases h
  | int i t => rcases hk with h | ⟨ks, h⟩ <;> cases h
  | text x t => rcases hk with h | ⟨ks, h⟩ <;> cases h
  | @tup a ob vs n ks hg hc hdd hall =>
    have hkey : NestedIs s.heap (.tup ks) (.ref a) := .tup hg hc hdd hall
    dsimp only
    rw [if_neg (show ¬ ((Value.ref a :: (placesWithHash es.size (fun i => es[i]?.map (·.hash)) hsh).filterMap (fun i => es[i]?.map (·.key))).all carriedByValue) = true by simp [carriedByValue])]
    rw [if_neg (by
      rw [← Array.any_toList, List.any_eq_true]
      rintro ⟨e, hin, hc⟩
      obtain ⟨x, t, ek⟩ := hs e (Array.mem_toList_iff.mp hin)
      rw [ek] at hc
      simp at hc)]
    rw [if_neg (by
      intro hc
      have hc' := eq_of_beq hc
      have : Value.ref a ∈ (placesWithHash es.size (fun i => es[i]?.map (·.hash)) hsh).filterMap (fun i => es[i]?.map (·.key)) := by rw [hc']; exact List.mem_singleton.mpr rfl
      obtain ⟨x, t, e⟩ := hst _ this
      cases e)]
    have quiet : ∀ Q' : Bool → Shared → Prop, Q' false s → wpAny (model prog w) A (tableMayTell (.ref a) ((placesWithHash es.size (fun i => es[i]?.map (·.hash)) hsh).filterMap (fun i => es[i]?.map (·.key)))) Q' E s := by
      intro Q' hq'
      unfold tableMayTell
      split
      · exact wpAny_pure hq'
      · refine wpAny_bind (quiet_key (.tup ks) _ 8 s hkey hdep A E _ ?_)
        simp only [Bool.not_true, Bool.false_eq_true, if_false]
        refine wpAny_bind ?_
        refine wpAny_forIn_list _ (fun rest r s' => s' = s ∧ r = (none, ()) ∧ ∀ v ∈ rest, ∃ x t, v = .str x t) _ ?_ ?_ _ _ ⟨rfl, rfl, hst⟩
        · rintro x rest r s' ⟨rfl, rfl, hr⟩
          obtain ⟨y, t, rfl⟩ := hr x List.mem_cons_self
          refine wpAny_bind (quiet_key (.text y) _ 8 s' (.text y t) (by simp [NestedKey.depth]) A E _ ?_)
          simp only [Bool.not_true, Bool.false_eq_true, if_false]
          exact wpAny_pure ⟨rfl, rfl, fun v hv => hr v (List.mem_cons_of_mem _ hv)⟩
        · rintro r s' ⟨rfl, rfl, _⟩
          exact wpAny_pure hq'
    refine wpAny_bind (quiet _ ?_)
    rw [if_neg (by simp)]
    refine wpAny_bind ?_
    refine wpAny_forIn_list _ (fun rest b s' => s' = s ∧ b = (none, none) ∧ ∀ x ∈ rest, ∃ e, es[x]? = some e) _ ?_ ?_ _ _ ⟨rfl, rfl, mem⟩
    · rintro x rest b s' ⟨rfl, rfl, hm⟩
      obtain ⟨e, he⟩ := hm x List.mem_cons_self
      have hm' : ∀ y ∈ rest, ∃ e, es[y]? = some e := fun y hy => hm y (List.mem_cons_of_mem _ hy)
      rw [he]
      dsimp only
      split
      · refine wpAny_bind (wpAny_dictEpoch ho hd (wpAny_bind (hat x e he _ (wpAny_bind (wpAny_dictEpoch ho hd ?_)))))
        show wpAny _ _ (if (ep != ep) = true then _ else _) _ E _
        rw [if_neg (by simp)]
        simp only [Bool.false_eq_true, if_false]
        refine wpAny_bind (wpAny_rule ?_)
        first | rw [if_neg (by simp)] | skip
        first
          | exact wpAny_pure ⟨rfl, rfl, hm'⟩
          | exact wpAny_bind (wpAny_pure (wpAny_pure ⟨rfl, rfl, hm'⟩))
      · exact wpAny_pure ⟨rfl, rfl, hm'⟩
    · rintro b s' ⟨rfl, rfl, _⟩
      exact wpAny_pure hq
theorem setItem_absent {d : Addr} {o : Obj} {es : Array DictEntry} {ep : Nat} {key v : Value} {k : NestedKey} {Q : Unit → Shared → Prop} (hu : A.units + 16 < cLine) (ho : s.heap.get? d = some o) (hx : o.ExactDict) (hd : o.data = .dict es ep)
    (hs : ∀ e ∈ es, ∃ x t, e.key = .str x t) (hkey : NestedIs s.heap k key) (hk : (k = .none) ∨ ∃ ks, k = .tup ks) (hdep : k.depth ≤ 8) (hsz : es.size ≤ sizeLine)
    (hq : ∀ h' ep' tk, h'.DictRaw d (es.push ⟨k.hash w, key, v⟩) ep' → Heap.SameBut d s.heap h' → Q () { s with heap := h', toks := tk }) :
    wpAny (model prog w) A (setItem (.ref d) key v) Q E s := by
  have hT : s.TypeIs (.ref d) "dict" := ⟨o, ho, hx.1⟩
  unfold setItem
  try with_reducible refine wpAny_holding ?_
  refine wpAny_bind (wpAny_sequenceKey hT (by decide) ?_)
  refine wpAny_bind (wpAny_callSpecial?_slot (name := Str.ofString "__setitem__") hT slot_dict_setitem
    (wpAny_call_entry slot_dict_setitem hT entry_dict_setitem ?_ (args_dict_setitem _ _ _)))
  show wpAny _ _ (Builtin.Dict.notOrdered "__setitem__" ⟨[.ref d, key, v], []⟩ >>= _) _ _ s
  refine wpAny_bind (wpAny_notOrdered_dict hT ?_)
  show wpAny _ _ (dictSet d key v >>= _) _ _ s
  refine wpAny_bind ?_
  unfold dictSet
  try with_reducible refine wpAny_holding ?_
  have hu' : A.in1.units + k.depth < cLine := by show A.units + 1 + k.depth < cLine; omega
  refine wpAny_bind (pyHash_key k key _ s _ hkey hu' ?_)
  unfold dictSetHashed
  try with_reducible refine wpAny_holding ?_
  refine wpAny_bind (find_absent (s := { s with toks := s.toks + k.draws }) (by show A.units + 1 + 0 < cLine; omega) ho hd hs hkey hk hdep ?_)
  refine wpAny_bind (wpAny_rule (wpAny_updateDictKeys (hz := by omega) (s := { s with toks := s.toks + k.draws }) ho hd ?_))
  refine wpAny_pure ⟨.none, rfl, wpAny_pure (hq _ (ep + 1) _ ⟨_, Heap.get?_update_self _ ho (Obj.isFreed_of_dict (Obj.data_mapDictKeys hd _)), hx.mapDictKeys _, Obj.data_mapDictKeys hd _⟩ (Heap.SameBut.update ..))⟩
end
/-- d[y] = v: a text or int; or None, or a tuple of one text, into a dict of texts -/
def rSetM : TSet := fun o i v H Q => ∃ a, o = .ref a ∧ ((∃ H', DPut H a i v H' ∧ Q H') ∨
  ∃ kvs : List (Key × V), H a = some (.dK kvs) ∧ (∀ p ∈ kvs, ∃ x, p.1 = Sum.inr x) ∧ kvs.length < sizeLine ∧ (i = .non ∨ ∃ b x, i = .ref b ∧ H b = some (.tup [.str x])) ∧
    Q (upd H a (MxO a (kvs.map (fun p => (kV p.1, p.2)) ++ [(i, v)]))))
theorem EntV.push {kvs : List (V × V)} {es : Array DictEntry} (e : EntV kvs es) {k v : V} {en : DictEntry} (rk : RelV k en.key) (rv : RelV v en.val) : EntV (kvs ++ [(k, v)]) (es.push en) := by
  refine ⟨by rw [Array.size_push, List.length_append, e.1]; rfl, fun i k' v' h => ?_⟩
  rcases Nat.lt_or_ge i kvs.length with hi | hi
  · rw [List.getElem?_append_left hi] at h
    obtain ⟨en', h1, h2⟩ := e.2 i k' v' h
    have hi' : i < es.size := by rw [e.1]; exact hi
    refine ⟨en', ?_, h2⟩
    rw [Array.getElem?_push_lt hi', ← Array.getElem?_eq_getElem hi']
    exact h1
  · rw [List.getElem?_append_right hi] at h
    have hz : i - kvs.length = 0 := by
      rcases Nat.eq_zero_or_pos (i - kvs.length) with z | z
      · exact z
      · rw [List.getElem?_eq_none (by simp; omega)] at h
        cases h
    rw [hz] at h
    cases (show some (k, v) = some (k', v') from h)
    have hi' : i = es.size := by rw [e.1]; omega
    subst hi'
    exact ⟨en, Array.getElem?_push_size, rk, rv⟩
theorem set_mix {X : Cx} (hu : X.A.units + 65 < cLine) : PSet X rSetM := by
  intro pins s σ H o i v ov iv u Q I ro ri rv h
  obtain ⟨a, eo, h⟩ := h
  subst eo
  cases (show ov = Value.ref a from ro)
  rcases h with ⟨H', g, q⟩ | ⟨kvs, e, ht, hl, hi, q⟩
  · exact d_setItem (by omega) I g ri rv fun s' I' => ⟨H', I', q⟩
  · obtain ⟨hs, hz, es, ep, hr, ent⟩ := (DM.dk kvs).raw (I.hok a _ e)
    obtain ⟨ob, ho, hx, hd⟩ := id hr
    have hstr : ∀ en ∈ es, ∃ x t, en.key = .str x t := by
      intro en hen
      obtain ⟨j, hj, rfl⟩ := Array.mem_iff_getElem.mp hen
      have hj' : j < kvs.length := by
        have := ent.1
        rw [List.length_map] at this
        omega
      obtain ⟨x, ex⟩ := ht kvs[j] (List.getElem_mem hj')
      obtain ⟨en', h1, h2, _⟩ := ent.2 j (kV kvs[j].1) kvs[j].2 (by rw [List.getElem?_map, List.getElem?_eq_getElem hj']; rfl)
      rw [Array.getElem?_eq_getElem hj] at h1
      cases h1
      rw [ex] at h2
      obtain ⟨t, h2⟩ := (show ∃ t, es[j].key = Value.str x t from h2)
      exact ⟨x, t, h2⟩
    have key : ∃ k : NestedKey, NestedIs s.heap k iv ∧ ((k = .none) ∨ ∃ ks, k = .tup ks) ∧ k.depth ≤ 8 := by
      rcases hi with rfl | ⟨b, x, rfl, hb⟩
      · cases (show iv = Value.none from ri)
        exact ⟨.none, .none, .inl rfl, by simp [NestedKey.depth]⟩
      · cases (show iv = Value.ref b from ri)
        obtain ⟨_, its, rt, o', h1, h2, n, h3⟩ := (show ObjOk X.prog X.w H s.heap b (.tup [.str x]) from I.hok b _ hb)
        refine ⟨.tup [.text x], .tup h1 h2 h3 ?_, .inr ⟨_, rfl⟩, by simp [NestedKey.depth, NestedKey.depthAll]⟩
        cases rt with
        | cons r1 r2 =>
          cases r2
          obtain ⟨t, rfl⟩ := r1
          exact .cons (.text x t) .nil
    obtain ⟨k, hk, hkk, hdep⟩ := key
    refine setItem_absent (by omega) ho hx hd hstr hk hkk hdep (by have := ent.1; rw [List.length_map] at this; omega) fun h' ep' tk hr' sb => ?_
    refine ⟨_, d_write I (by rw [e]; exact True.intro) sb (let ⟨q, hq, _⟩ := hr'; ⟨q, hq⟩) ?_, q⟩
    refine ⟨⟨hs, by rw [List.length_append, List.length_map]; show kvs.length + 1 ≤ sizeLine; omega, _, ep', hr', ent.push ri rv⟩, (let ⟨q, hq, _⟩ := hr'; ⟨q, hq⟩), fun h1 h2 p kk => ?_⟩
    obtain ⟨p1, p2, es1, ep1, r1, e1⟩ := p
    exact ⟨p1, p2, es1, ep1, r1.at kk, e1⟩
end Fn

set_option Elab.async false
set_option maxRecDepth 100000
set_option maxHeartbeats 4000000
/-! Sets of things that stand at addresses and are keys (tuples of ints and texts among them), fewer than 64: for any kind of such keys. The plan follows the library's sets of tuples of ints; the table's own theory is the library's. -/
namespace Fn
open PySem PySem.Spec PyProof.Rows L2
section
variable {κ : Type} [DecidableEq κ] {P : Program} {w : World}
/-- what a kind of keys must give so that a set of them can be searched -/
structure SetLike (knd : HeapKind P w κ) : Prop where
  byv : ∀ {A : Around} {E : Value → Shared → Prop} {s : Shared} {k : κ} {b : Addr} {Q : Bool → Shared → Prop}, knd.is s.heap k b → (∀ r, Q r s) → wpAny (model P w) A (hashByValue 8 (.ref b)) Q E s
  seen : ∀ {A : Around} {E : Value → Shared → Prop} {s : Shared} {k : κ} {b : Addr} {ys : List Value} {Q : Bool → Shared → Prop}, knd.is s.heap k b → (∀ y ∈ ys, ∃ k' c, y = Value.ref c ∧ knd.is s.heap k' c) → Q false s →
    wpAny (model P w) A (searchCouldBeSeen (.ref b) ys) Q E s
  apart : ∀ {h h' : Heap} {k : κ} {a b : Addr} {o : Obj} {es : Array (Int × Value)} {ep : Nat} {t : SetTable}, knd.is h k b → h.get? a = some o → o.data = .set es ep t → Heap.SameBut a h h' → knd.is h' k b
  keep : ∀ {h h' : Heap} {k : κ} {b : Addr}, knd.is h k b → (∀ c o, h.get? c = some o → h'.get? c = some o) → knd.is h' k b
variable {knd : HeapKind P w κ}
/-- the rows of the table for these members -/
def rowK (knd : HeapKind P w κ) (p : Addr × κ) : Int × Value := (knd.hash p.2, Value.ref p.1)
def hashK (knd : HeapKind P w κ) (p : Addr × κ) : Int := knd.hash p.2
/-- the set at a, its members L in the table's order; without what the members are -/
structure HSet (knd : HeapKind P w κ) (h : Heap) (a : Addr) (L : List (Addr × κ)) (es : Array (Int × Value)) (ep : Nat) (t : SetTable) : Prop where
  obj : ∃ o, h.get? a = some o ∧ o.ExactSet ∧ o.data = .set es ep t
  rows : es.toList = L.map (rowK knd)
  tab : TabOk t (L.map (hashK knd))
  diff : (L.map Prod.snd).Nodup
  led : w.params.followText "set-order" = true ∨ t.led = true
  room : L.length * 5 < t.mask * 3
  few : L.length < 64
variable {h : Heap} {a : Addr} {L : List (Addr × κ)} {es : Array (Int × Value)} {ep : Nat} {t : SetTable}
theorem rows_size {L : List (Addr × κ)} (e : es.toList = L.map (rowK knd)) : es.size = L.length := by
  rw [← Array.length_toList, e, List.length_map]
theorem rows_at {L : List (Addr × κ)} (e : es.toList = L.map (rowK knd)) {i : Nat} {p : Addr × κ} (hp : L[i]? = some p) : es[i]? = some (rowK knd p) := by
  rw [← Array.getElem?_toList, e, List.getElem?_map, hp]
  rfl
theorem HSet.places (R : HSet knd h a L es ep t) : t.place.size = L.length := by
  have := R.tab.sz
  rwa [List.length_map] at this
theorem fits_of (hd : t.dummies = #[]) (e : t.place.size = es.size) (l : es.size ≤ t.mask) : t.fits es.size = true := by
  unfold SetTable.fits SetTable.fill
  rw [hd, Bool.and_eq_true, beq_iff_eq, decide_eq_true_eq]
  show t.place.size = es.size ∧ t.place.size + 0 ≤ t.mask
  omega
theorem HSet.fits (R : HSet knd h a L es ep t) : t.fits es.size = true := by
  have h1 := R.places
  have h2 := rows_size R.rows
  have h3 := R.room
  exact fits_of R.tab.dm (by omega) (by omega)
theorem HSet.stays {h' : Heap} (R : HSet knd h a L es ep t) (k : ∀ o, h.get? a = some o → h'.get? a = some o) : HSet knd h' a L es ep t := by
  obtain ⟨o, ho, r⟩ := R.obj
  exact ⟨⟨o, k o ho, r⟩, R.rows, R.tab, R.diff, R.led, R.room, R.few⟩
theorem HSet.empty (ho : h.get? a = some { cls := .type "set", dict := none, data := .set #[] 0 (.fresh 0 0 (!w.params.followText "set-order")) }) : HSet knd h a [] #[] 0 (.fresh 0 0 (!w.params.followText "set-order")) := by
  refine ⟨⟨_, ho, ⟨rfl, rfl, rfl⟩, rfl⟩, rfl, ⟨List.Pairwise.nil, rfl, rfl, .inl rfl, fun x hx => (by cases hx), fun i h j hi => (by simp at hi)⟩, List.nodup_nil, ?_, by show 0 * 5 < 7 * 3; decide, by show 0 < 64; decide⟩
  show _ ∨ (!w.params.followText "set-order") = true
  cases w.params.followText "set-order" <;> simp
end
section
variable {κ : Type} [DecidableEq κ] {P : Program} {w : World} {knd : HeapKind P w κ} {A : Around} {E : Value → Shared → Prop} {s : Shared} {a : Addr} {L : List (Addr × κ)} {es : Array (Int × Value)} {ep : Nat} {t : SetTable}
/-- the probe that a search begins with -/
abbrev p0 (t : SetTable) (z : Int) : SetTable.Probe := runAt t.mask (SetTable.bits z % (t.mask + 1)) (SetTable.bits z)
theorem p0_clean (m : Nat) : ∀ (n : Nat) (p : SetTable.Probe), p.dummy = none → (nth m p n).dummy = none
  | 0, _, h => h
  | n + 1, p, h => by
    refine p0_clean m n (adv m p) ?_
    unfold adv
    split <;> exact h
/-- searching on from the c-th slot of the way; K is the first empty one -/
theorem look_from (SL : SetLike knd) (R : HSet knd s.heap a L es ep t) (mem : ∀ p ∈ L, knd.is s.heap p.2 p.1) {x : Addr} {k : κ} (hx : knd.is s.heap k x) (hu : knd.room A) {K : Nat} (kf : K < 10 * SetTable.turns t.mask)
    (kn : way t.mask (knd.hash k) K ∉ t.place.toList) (kb : ∀ c, c < K → way t.mask (knd.hash k) c ∈ t.place.toList) {Q : SetFound → Shared → Prop}
    (yes : k ∈ L.map Prod.snd → Q (.there none) s) (no : k ∉ L.map Prod.snd → Q (.free (way t.mask (knd.hash k) K) false) s) :
    ∀ (f c : Nat) (stand : Option SetTable.Probe), stand.getD (t.probeStart (knd.hash k)) = nth t.mask (p0 t (knd.hash k)) c → c ≤ K → K - c < f →
      (∀ (i : Nat) p, L[i]? = some p → p.2 = k → ∃ c', c ≤ c' ∧ c' < K ∧ t.place.toList[i]? = some (way t.mask (knd.hash k) c')) →
      wpAny (model P w) A (setSearchFrom a (.ref x) (knd.hash k) true f stand) Q E s := by
  intro f
  induction f with
  | zero => intro c stand _ _ hf _; exact absurd hf (Nat.not_lt_zero _)
  | succ f ih =>
    intro c stand hst hc hf left
    obtain ⟨o, ho, hex, hd⟩ := R.obj
    rw [setSearchFrom_succ]
    refine wpAny_bind (wpAny_setState_of ho hd R.fits ?_)
    dsimp only
    have gw : ¬ t.gaveWay = true := by
      unfold SetTable.gaveWay
      rw [mask_odd R.tab.mok]
      decide
    refine wp_if_neg gw ?_
    try refine wpAny_bind (wpAny_pure ?_)
    have shift : ∀ q, nth t.mask (nth t.mask (p0 t (knd.hash k)) c) q = nth t.mask (p0 t (knd.hash k)) (c + q) := fun q => (nth_add t.mask c _ q).symm
    have slotAt : ∀ q, (nth t.mask (nth t.mask (p0 t (knd.hash k)) c) q).j = way t.mask (knd.hash k) (c + q) := fun q => congrArg SetTable.Probe.j (shift q)
    have hK : c + (K - c) = K := by omega
    have spec := go_spec t R.tab.ris R.tab.dm (fun i => (es[i]?.map (·.1)).getD 0) (knd.hash k) (10 * SetTable.turns t.mask) (K - c) _ (p0_clean t.mask c (p0 t (knd.hash k)) rfl) (by omega)
      (fun q hq => by rw [slotAt]; exact kb (c + q) (by omega)) (by rw [slotAt, hK]; exact kn)
    have hashOf : ∀ (i : Nat) p, L[i]? = some p → (es[i]?.map (·.1)).getD 0 = knd.hash p.2 := fun i p hp => by
      rw [rows_at R.rows hp]
      rfl
    -- no member with this key has been passed
    have still : ∀ (i : Nat) p (q : Nat), L[i]? = some p → p.2 = k → (∀ (q' : Nat) (i' : Nat), q' < q → t.place.toList[i']? = some (way t.mask (knd.hash k) (c + q')) → ¬ (es[i']?.map (·.1)).getD 0 = knd.hash k) →
        ∃ c', c + q ≤ c' ∧ c' < K ∧ t.place.toList[i]? = some (way t.mask (knd.hash k) c') := by
      intro i p q hp hk hno
      obtain ⟨c', b1, b2, b3⟩ := left i p hp hk
      refine ⟨c', ?_, b2, b3⟩
      rcases Nat.lt_or_ge c' (c + q) with z | z
      · have e : c + (c' - c) = c' := by omega
        exact absurd ((hashOf i p hp).trans (congrArg knd.hash hk)) (hno (c' - c) i (by omega) (by rw [e]; exact b3))
      · exact z
    rcases spec with ⟨q, i, hq, hi, hh, hno, hpr⟩ | ⟨hno, hpr⟩
    · have hpr' : t.probe (fun i => (es[i]?.map (·.1)).getD 0) (knd.hash k) (stand.getD (t.probeStart (knd.hash k))) = some (.candidate (way t.mask (knd.hash k) (c + q)) i (nth t.mask (p0 t (knd.hash k)) (c + (q + 1)))) := by
        rw [hst, ← slotAt, ← shift]
        exact hpr
      rw [hpr']
      dsimp only
      rw [slotAt] at hi
      have hil : i < L.length := by
        have h1 := (List.getElem?_eq_some_iff.mp hi).1
        rw [Array.length_toList, R.places] at h1
        exact h1
      obtain ⟨p, hp⟩ : ∃ p, L[i]? = some p := ⟨L[i], List.getElem?_eq_getElem hil⟩
      have hpm : p ∈ L := List.mem_of_getElem? hp
      have on : wpAny (model P w) A (searchRest a (.ref x) (knd.hash k) true f es t (way t.mask (knd.hash k) (c + q)) i (nth t.mask (p0 t (knd.hash k)) (c + (q + 1)))) Q E s := by
        unfold searchRest
        rw [rows_at R.rows hp]
        dsimp only [rowK]
        refine wpAny_bind (wpAny_holding (knd.eqBool hu (mem p hpm) hx ?_))
        refine wpAny_bind (wpAny_setState_of ho hd R.fits ?_)
        dsimp only
        by_cases e : p.2 = k
        · refine wp_if_pos (by simp [e]) ?_
          exact wpAny_pure (yes (List.mem_map.mpr ⟨p, hpm, e⟩))
        · refine wp_if_neg (by simp [e]) ?_
          try refine wpAny_bind (wpAny_pure ?_)
          rw [sameMem]
          dsimp only
          have hsl := slot_live R.tab.ris hi
          simp only [if_true, hsl, rows_at R.rows hp, rowK]
          refine wpAny_bind (wpAny_isSame_ref_self (wpAny_bind (wpAny_pure ?_)))
          simp only [if_true]
          refine wp_if_neg (by simp [e]) ?_
          refine ih (c + (q + 1)) _ rfl (by omega) (by omega) fun i1 p1 h1 hk1 => ?_
          obtain ⟨c', b1, b2, b3⟩ := still i1 p1 q h1 hk1 (fun q' i' hq' hi' => hno q' i' hq' (by rw [slotAt]; exact hi'))
          refine ⟨c', ?_, b2, b3⟩
          rcases Nat.lt_or_ge (c + q) c' with y | y
          · omega
          · have ec : c' = c + q := by omega
            subst ec
            have s1 := slot_live R.tab.ris b3
            rw [hsl] at s1
            injection s1 with s1
            rw [← s1, hp] at h1
            exact absurd ((congrArg Prod.snd (Option.some.inj h1)).trans hk1) e
      by_cases hl : t.led = true
      · refine wp_if_neg (by simp [hl]) ?_
        try refine wpAny_bind (wpAny_pure ?_)
        exact on
      · refine wp_if_pos (by simp [hl]) ?_
        refine wpAny_bind (SL.seen hx (fun y hy => ?_) ?_)
        · obtain ⟨e, he, ee⟩ := List.mem_map.mp hy
          have he2 : e ∈ es ∧ e.1 = knd.hash k := by simpa using he
          have he3 : e ∈ es.toList := by simpa using he2.1
          rw [R.rows] at he3
          obtain ⟨p2, hp2, e2⟩ := List.mem_map.mp he3
          exact ⟨p2.2, p2.1, by rw [← ee, ← e2]; rfl, mem p2 hp2⟩
        · refine wp_if_neg (by decide) ?_
          try refine wpAny_bind (wpAny_pure ?_)
          exact on
    · have hpr' : t.probe (fun i => (es[i]?.map (·.1)).getD 0) (knd.hash k) (stand.getD (t.probeStart (knd.hash k))) = some (.empty (way t.mask (knd.hash k) K) none) := by
        have e2 : way t.mask (knd.hash k) K = (nth t.mask (nth t.mask (p0 t (knd.hash k)) c) (K - c)).j := by rw [slotAt, hK]
        rw [hst, e2]
        exact hpr
      rw [hpr']
      dsimp only
      refine wpAny_pure (no fun hm => ?_)
      obtain ⟨p1, h1, hk1⟩ := List.mem_map.mp hm
      obtain ⟨i1, hi1⟩ := List.mem_iff_getElem?.mp h1
      obtain ⟨c', b1, b2, b3⟩ := still i1 p1 (K - c) hi1 hk1 (fun q' i' hq' hi' => hno q' i' hq' (by rw [slotAt]; exact hi'))
      omega
/-- searching for a key that is to be added -/
theorem look (SL : SetLike knd) (R : HSet knd s.heap a L es ep t) (mem : ∀ p ∈ L, knd.is s.heap p.2 p.1) {x : Addr} {k : κ} (hx : knd.is s.heap k x) (hu : knd.room A) {Q : SetFound → Shared → Prop}
    (yes : k ∈ L.map Prod.snd → Q (.there none) s)
    (no : ∀ K, k ∉ L.map Prod.snd → way t.mask (knd.hash k) K ∉ t.place.toList → (∀ c, c < K → way t.mask (knd.hash k) c ∈ t.place.toList) → Q (.free (way t.mask (knd.hash k) K) false) s) :
    wpAny (model P w) A (setSearch a (.ref x) (knd.hash k) true) Q E s := by
  have hroom := R.room
  obtain ⟨K, kf, kn, kb⟩ := R.tab.first (by rw [List.length_map]; omega) (knd.hash k)
  have small : K < 100000 := by
    have b : 10 * SetTable.turns t.mask ≤ 1420 := by
      unfold SetTable.turns
      rcases R.tab.mok with e | e | e <;> omega
    omega
  unfold setSearch
  refine look_from SL R mem hx hu kf kn kb yes (fun hn => no K hn kn kb) 100000 0 none rfl (Nat.zero_le _) (by omega) fun i p hp hk => ?_
  have hi : (L.map (hashK knd))[i]? = some (knd.hash k) := by
    rw [List.getElem?_map, hp, ← hk]
    rfl
  have hil : i < t.place.toList.length := by
    rw [Array.length_toList, R.places]
    exact (List.getElem?_eq_some_iff.mp hp).1
  obtain ⟨c, hc, e⟩ := R.tab.before kn hi (List.getElem?_eq_getElem hil)
  exact ⟨c, Nat.zero_le _, hc, by rw [List.getElem?_eq_getElem hil, e]⟩
/-- the rows in another order -/
theorem rows_order {es : Array (Int × Value)} (hr : es.toList = L.map (rowK knd)) {order : Array Nat} (hp : order.toList.Perm (List.range L.length)) :
    ∃ L2 : List (Addr × κ), (order.filterMap (es[·]?)).toList = L2.map (rowK knd) ∧ L2.Perm L ∧ L2.map (hashK knd) = order.toList.map fun i => (es.map (·.1)).getD i 0 := by
  have inR : ∀ i ∈ order.toList, i < L.length := fun i hi => List.mem_range.mp (hp.mem_iff.mp hi)
  refine ⟨order.toList.filterMap fun i => L[i]?, ?_, ?_, ?_⟩
  · have key : ∀ l : List Nat, l.filterMap (fun i => es[i]?) = (l.filterMap fun i => L[i]?).map (rowK knd) := by
      intro l
      induction l with
      | nil => rfl
      | cons i l ih =>
        cases hl : L[i]? with
        | none =>
          have : es[i]? = none := by
            rw [Array.getElem?_eq_none_iff, rows_size hr]
            exact List.getElem?_eq_none_iff.mp hl
          rw [List.filterMap_cons_none this, List.filterMap_cons_none hl, ih]
        | some p => rw [List.filterMap_cons_some (rows_at hr hl), List.filterMap_cons_some hl, List.map_cons, ih]
    have := key order.toList
    first | (rw [Array.toList_filterMap]; exact this) | simpa using this
  · have all : (List.range L.length).filterMap (fun i => L[i]?) = L := by
      have key : ∀ n, n ≤ L.length → (List.range n).filterMap (fun i => L[i]?) = L.take n := by
        intro n
        induction n with
        | zero => intro _; rfl
        | succ n ih =>
          intro hn
          have e : L[n]? = some (L[n]'hn) := List.getElem?_eq_getElem hn
          rw [List.range_succ, List.filterMap_append, ih (Nat.le_of_lt hn), List.take_succ, e, List.filterMap_cons_some e]
          rfl
      rw [key L.length (Nat.le_refl _), List.take_length]
    have h2 := hp.filterMap fun i => L[i]?
    rwa [all] at h2
  · have key : ∀ l : List Nat, (∀ i ∈ l, i < L.length) → (l.filterMap fun i => L[i]?).map (hashK knd) = l.map fun i => (es.map (·.1)).getD i 0 := by
      intro l
      induction l with
      | nil => intro _; rfl
      | cons i l ih =>
        intro hl
        have e : L[i]? = some (L[i]'(hl i List.mem_cons_self)) := List.getElem?_eq_getElem _
        have e2 : (es.map (·.1)).getD i 0 = knd.hash (L[i]'(hl i List.mem_cons_self)).2 := by
          rw [Array.getD_eq_getD_getElem?, Array.getElem?_map, rows_at hr e]
          rfl
        rw [List.filterMap_cons_some e, List.map_cons, List.map_cons, ih fun j hj => hl j (List.mem_cons_of_mem _ hj), e2]
        rfl
    exact key _ inR
/-- a larger table -/
theorem larger {o : Obj} (ho : s.heap.get? a = some o) (hex : o.ExactSet) (hd : o.data = .set es ep t) (hrows : es.toList = L.map (rowK knd)) (hsz : t.place.size = es.size) (hdm : t.dummies = #[]) (hfl : es.size ≤ t.mask)
    (nd : (L.map Prod.snd).Nodup) (ld : w.params.followText "set-order" = true ∨ t.led = true) (few : L.length < 64) {wanted M : Nat}
    (hw : SetTable.sizeAbove wanted - 1 = M) (hM : MaskOk M) (hw2 : SetTable.sizeAbove wanted ≤ 128) (hn : L.length * 5 < M * 3) {Q : Unit → Shared → Prop}
    (hQ : ∀ h' L' es' ep' t', Heap.SameBut a s.heap h' → HSet knd h' a L' es' ep' t' → L'.Perm L → Q () { s with heap := h' }) : wpAny (model P w) A (setRelay a wanted) Q E s := by
  have hsl := rows_size hrows
  obtain ⟨t', order, e, hp, T, em, el, ep', ed⟩ := relaid_ok t (hs := es.map (·.1)) (wanted := wanted) hw hM (by rw [Array.size_map, hsl]; omega)
  rw [Array.size_map, hsl] at hp
  obtain ⟨L2, r1, r2, r3⟩ := rows_order hrows hp
  rw [← r3] at T
  have hs2 : (order.filterMap (es[·]?)).size = es.size := by rw [rows_size r1, r2.length_eq, hsl]
  rw [setRelay_eq]
  refine wpAny_bind (wpAny_setState_of ho hd (fits_of hdm hsz hfl) ?_)
  dsimp only
  refine wp_if_neg (by rw [sizeLine_eq]; omega) ?_
  try refine wpAny_bind (wpAny_pure ?_)
  rw [e]
  dsimp only
  refine wpAny_bind ?_
  refine wp_if_neg (by rw [hs2]; simp) ?_
  try refine wpAny_bind (wpAny_pure ?_)
  refine wpAny_pure ?_
  dsimp only
  refine wpAny_storeSet_of ho hd ?_ (by rw [hs2, hsl, sizeLine_eq]; omega)
  refine hQ _ L2 (order.filterMap (es[·]?)) (ep + 1) t' (Heap.SameBut.update ..) ?_ r2
  exact ⟨⟨_, store_at ho hd, ⟨hex.1, hex.2.1, hex.2.2⟩, rfl⟩, r1, T, (r2.map Prod.snd).nodup_iff.mpr nd, by rw [el]; exact ld, by rw [r2.length_eq, em]; exact hn, by rw [r2.length_eq]; exact few⟩
/-- set.add of such a key -/
theorem add_key (SL : SetLike knd) (R : HSet knd s.heap a L es ep t) (mem : ∀ p ∈ L, knd.is s.heap p.2 p.1) {x : Addr} {k : κ} (hx : knd.is s.heap k x) (hu : knd.room A) (hfew : L.length + 1 < 64) {Q : Bool → Shared → Prop}
    (hQ : ∀ b h' L' es' ep' t', Heap.SameBut a s.heap h' → HSet knd h' a L' es' ep' t' → (k ∈ L.map Prod.snd → L' = L) → (k ∉ L.map Prod.snd → L'.Perm ((x, k) :: L)) → Q b { s with heap := h' }) :
    wpAny (model P w) A (setAddHashed a (.ref x) (knd.hash k)) Q E s := by
  obtain ⟨o, ho, hex, hd⟩ := R.obj
  have hsl := rows_size R.rows
  have hroom := R.room
  unfold setAddHashed
  refine wpAny_holding ?_
  rw [show (100000 : Nat) = 99999 + 1 from rfl, setAddHashedIn_succ]
  refine wpAny_bind (wpAny_setState_of ho hd R.fits ?_)
  dsimp only
  refine wp_if_neg (by simp [byScan, Value.scannable]) ?_
  try refine wpAny_bind (wpAny_pure ?_)
  refine wpAny_bind (look SL R mem hx hu (fun hm => ?_) fun K hm kn kb => ?_)
  · dsimp only
    exact wpAny_pure (hQ false s.heap L es ep t (Heap.SameBut.refl a s.heap) R (fun _ => rfl) fun z => absurd hm z)
  · dsimp only
    refine wpAny_bind (wpAny_setState_of ho hd R.fits ?_)
    dsimp only
    obtain ⟨q1, q2, q3, q4, q5, q6, q7, q8, q9⟩ := R.tab.put kn kb
    generalize t.put (way t.mask (knd.hash k) K) = pt at q1 q3 q4 q5 q6 q7 q8 q9 ⊢
    obtain ⟨t1, p⟩ := pt
    dsimp only at q1 q3 q4 q5 q6 q7 q8 q9 ⊢
    subst q1
    generalize SetTable.below t.place (way t.mask (knd.hash k) K) = p at q2 q3 ⊢
    have hin : (SetTable.insertAt es p (knd.hash k, Value.ref x)).toList = (L.take p ++ (x, k) :: L.drop p).map (rowK knd) := by
      rw [SetTable.toList_insertAt, R.rows, List.map_append, List.map_cons, List.map_take, List.map_drop]
      rfl
    have pm := put_perm L p (x, k)
    have hhs : (L.take p ++ (x, k) :: L.drop p).map (hashK knd) = (L.map (hashK knd)).take p ++ knd.hash k :: (L.map (hashK knd)).drop p := by
      rw [List.map_append, List.map_cons, List.map_take, List.map_drop]
      rfl
    rw [← hhs] at q3
    generalize SetTable.insertAt es p (knd.hash k, Value.ref x) = es1 at hin ⊢
    generalize L.take p ++ (x, k) :: L.drop p = L1 at pm q3 hin
    have hlen : L1.length = L.length + 1 := pm.length_eq
    have hes : es1.size = L.length + 1 := by rw [rows_size hin, hlen]
    have nd1 : (L1.map Prod.snd).Nodup := by
      refine (pm.map Prod.snd).nodup_iff.mpr ?_
      rw [List.map_cons]
      exact List.nodup_cons.mpr ⟨hm, R.diff⟩
    have ld1 : w.params.followText "set-order" = true ∨ t1.led = true := by rw [q5]; exact R.led
    have pz : t1.place.size = L.length + 1 := by
      have := q3.sz
      rw [List.length_map] at this
      omega
    have dz := q3.dm
    have cont : ∀ t2 : SetTable, TabOk t2 (L1.map (hashK knd)) → t2.mask = t.mask → (w.params.followText "set-order" = true ∨ t2.led = true) → t2.place.size = L.length + 1 → t2.dummies = #[] → t2.tooFull = t1.tooFull →
        wpAny (model P w) A (do
          storeSet a es1 t2
          if (!false && t2.tooFull) = true then do
            setRelay a (SetTable.grown (es.size + 1))
            pure true
          else pure true) Q E s := by
      intro t2 T2 m2 l2 z2 d2 f2
      refine wpAny_bind (wpAny_storeSet_of ho hd ?_ (by rw [hes, sizeLine_eq]; omega))
      have sb : Heap.SameBut a s.heap (s.heap.update a (Obj.putSet es1 t2)) := Heap.SameBut.update ..
      have ho1 := store_at (es' := es1) (t' := t2) ho hd
      generalize s.heap.update a (Obj.putSet es1 t2) = h1 at sb ho1 ⊢
      have fullAt : t2.tooFull = decide ((L.length + 1) * 5 ≥ t.mask * 3) := by
        rw [f2]
        unfold SetTable.tooFull
        rw [q9, List.length_map, q4]
      by_cases hf : t2.tooFull = true
      · refine wp_if_pos (by simp [hf]) ?_
        refine wpAny_bind ?_
        have hfull : (L.length + 1) * 5 ≥ t.mask * 3 := of_decide_eq_true (fullAt.symm.trans hf)
        rw [hsl]
        have go : ∀ M, SetTable.sizeAbove (SetTable.grown (L.length + 1)) - 1 = M → MaskOk M → SetTable.sizeAbove (SetTable.grown (L.length + 1)) ≤ 128 → (L.length + 1) * 5 < M * 3 → L.length + 1 ≤ t2.mask →
            wpAny (model P w) A (setRelay a (SetTable.grown (L.length + 1))) (fun _ s' => wpAny (model P w) A (pure true) Q E s') E { s with heap := h1 } := fun M b1 b2 b3 b4 b5 => by
          refine larger (s := { s with heap := h1 }) (L := L1) ho1 ⟨hex.1, hex.2.1, hex.2.2⟩ rfl hin (by rw [z2, hes]) d2 (by rw [hes]; exact b5) nd1 l2 (by omega) b1 b2 b3 (by omega) ?_
          intro h2 L2 es2 ep2 t2 sb2 R2 pm2
          exact wpAny_pure (hQ true h2 L2 es2 ep2 t2 (sb.trans sb2) R2 (fun z => absurd z hm) fun _ => pm2.trans pm)
        rcases R.tab.mok with e | e | e <;> rw [e] at hroom <;> rw [e] at hfull
        · have e2 : L.length = 4 := by omega
          exact go 31 (by rw [e2, size_20]) (.inr (.inl rfl)) (by rw [e2, size_20]; decide) (by omega) (by rw [m2, e]; omega)
        · have e2 : L.length = 18 := by omega
          exact go 127 (by rw [e2, size_76]) (.inr (.inr rfl)) (by rw [e2, size_76]; decide) (by omega) (by rw [m2, e]; omega)
        · omega
      · refine wp_if_neg (by simp [hf]) ?_
        have hroom1 : ¬ (L.length + 1) * 5 ≥ t.mask * 3 := fun z => hf (fullAt.trans (decide_eq_true z))
        exact wpAny_pure (hQ true h1 L1 es1 (ep + 1) t2 sb ⟨⟨_, ho1, ⟨hex.1, hex.2.1, hex.2.2⟩, rfl⟩, hin, T2, nd1, l2, by rw [m2]; omega, by omega⟩ (fun z => absurd z hm) fun _ => pm)
    have both : ∀ r : Bool, wpAny (model P w) A (do
          storeSet a es1 (if r = true then t1 else { t1 with plain := false })
          if (!false && (if r = true then t1 else { t1 with plain := false }).tooFull) = true then do
            setRelay a (SetTable.grown (es.size + 1))
            pure true
          else pure true) Q E s := by
      intro r
      cases r with
      | true => exact cont t1 q3 q4 ld1 pz dz rfl
      | false => exact cont { t1 with plain := false } ⟨q3.ris, q3.dm, q3.sz, q3.mok, q3.bd, q3.reach⟩ q4 ld1 pz dz rfl
    by_cases hpl : t1.plain = true
    · first
        | (refine wpAny_bind ?_; refine wp_if_pos hpl ?_; refine SL.byv hx fun r => both r)
        | (refine wp_if_pos hpl (wpAny_bind (SL.byv hx fun r => both r)))
    · first
        | (refine wpAny_bind ?_; refine wp_if_neg hpl ?_; refine wpAny_pure (both true))
        | (refine wp_if_neg hpl ?_; exact both true)
end
end Fn

set_option Elab.async false
set_option maxRecDepth 100000
set_option maxHeartbeats 4000000
/-! Sets of pairs of a text and an int; sorted of such a set; a set comprehension of tuples. -/
namespace Fn
open PySem PySem.Spec PyProof.Rows L2
/-! ### tuples of ints and texts as members -/
section
variable {P : Program} {w : World} {A : Around} {E : Value → Shared → Prop} {s : Shared}
abbrev KT2 (P : Program) (w : World) : HeapKind P w (List Key) := tupleKind (mixKind P w)
theorem items_plain {k : List Key} {vs : List Value} (h : ItemsAre (mixKind P w) k vs) : ∀ v ∈ vs, (∃ i t, v = Value.int i t) ∨ ∃ x t, v = Value.str x t := by
  induction h with
  | nil => intro v hv; cases hv
  | @cons k0 v' ks vs h1 _ ih =>
    intro v hv
    rcases List.mem_cons.mp hv with rfl | hv
    · rcases keyIs_shape (show keyIs k0 v = true from h1) with ⟨i, t, _, e⟩ | ⟨x, t, _, e⟩
      · exact .inl ⟨i, t, e⟩
      · exact .inr ⟨x, t, e⟩
    · exact ih v hv
theorem plain_class {v : Value} (h : (∃ i t, v = Value.int i t) ∨ ∃ x t, v = Value.str x t) (n : Nat) : ofAClassStatement n v = pure false := by
  rcases h with ⟨i, t, rfl⟩ | ⟨x, t, rfl⟩ <;> cases n <;> rfl
theorem plain_hash {v : Value} (h : (∃ i t, v = Value.int i t) ∨ ∃ x t, v = Value.str x t) (n : Nat) : ∃ b, hashByValue n v = pure b := by
  rcases h with ⟨i, t, rfl⟩ | ⟨x, t, rfl⟩ <;> cases n <;> exact ⟨_, rfl⟩
theorem tup_class {k : List Key} {b : Addr} {Q : Bool → Shared → Prop} (hk : IsTupleKey (mixKind P w) s.heap k b) (h : Q false s) : wpAny (model P w) A (ofAClassStatement 8 (.ref b)) Q E s := by
  have hT := hk.typeIs
  obtain ⟨o, items, n, ho, _, hd, hi⟩ := hk
  unfold ofAClassStatement
  refine wpAny_bind (wpAny_typeOf hT ?_)
  dsimp only
  have e : (("tuple" : String) == "tuple") = true := by decide
  simp only [e, if_true, Bool.not_true, Bool.false_eq_true, if_false]
  try refine wpAny_bind (wpAny_pure ?_)
  try simp only [Bool.not_true, Bool.false_eq_true, if_false]
  show wpAny _ _ (seqItems? (.ref b) >>= _) _ _ s
  refine wpAny_bind (wpAny_seqItems ho hd ?_)
  dsimp only
  refine wpAny_bind ?_
  show wpAny _ _ (forIn items _ _) _ _ s
  rw [← Array.forIn_toList]
  refine wpAny_forIn_list _ (fun rest r s' => r.1 = none ∧ s' = s ∧ ∀ v ∈ rest, (∃ i t, v = Value.int i t) ∨ ∃ x t, v = Value.str x t) _ ?_ ?_ _ _ ⟨rfl, rfl, items_plain hi⟩
  · rintro v rest r s' ⟨hr, rfl, hall⟩
    rw [plain_class (hall v List.mem_cons_self)]
    refine wpAny_bind (wpAny_pure ?_)
    simp only [Bool.false_eq_true, if_false]
    exact wpAny_pure ⟨rfl, rfl, fun u hu' => hall u (List.mem_cons_of_mem _ hu')⟩
  · rintro ⟨r1, r2⟩ s' ⟨hr, rfl, _⟩
    simp only at hr
    subst hr
    exact wpAny_pure h
theorem setLike_pairs : SetLike (KT2 P w) where
  byv := fun {A E s k b Q} hk h => by
    have hT := IsTupleKey.typeIs hk
    obtain ⟨o, items, n, ho, _, hd, hi⟩ := hk
    unfold hashByValue
    refine wpAny_bind (wpAny_specialOf hT F.slot_tuple_hash.lookup ?_)
    show wpAny _ _ (seqItems? (.ref b) >>= _) _ _ s
    refine wpAny_bind (wpAny_seqItems ho hd ?_)
    refine wpAny_bind ?_
    show wpAny _ _ (forIn items _ _) _ _ s
    rw [← Array.forIn_toList]
    refine wpAny_forIn_list _ (fun rest r s' => s' = s ∧ ∀ v ∈ rest, (∃ i t, v = Value.int i t) ∨ ∃ x t, v = Value.str x t) _ ?_ ?_ _ _ ⟨rfl, items_plain hi⟩
    · rintro v rest r s' ⟨rfl, hall⟩
      obtain ⟨bb, eb⟩ := plain_hash (hall v List.mem_cons_self) 7
      rw [eb]
      refine wpAny_bind (wpAny_pure ?_)
      cases bb
      · simp only [Bool.not_false, if_true]
        exact wpAny_pure (wpAny_pure (h _))
      · simp only [Bool.not_true, Bool.false_eq_true, if_false]
        exact wpAny_pure ⟨rfl, fun u hu' => hall u (List.mem_cons_of_mem _ hu')⟩
    · rintro ⟨r1, r2⟩ s' ⟨rfl, _⟩
      cases r1 with
      | none => exact wpAny_pure (h _)
      | some b => exact wpAny_pure (h _)
  seen := fun {A E s k b ys Q} hk hy h => by
    unfold searchCouldBeSeen
    refine wpAny_bind ?_
    refine wpAny_forIn_list _ (fun rest r s' => r.1 = none ∧ s' = s ∧ ∀ y ∈ rest, ∃ k' c, y = Value.ref c ∧ (KT2 P w).is s.heap k' c) _ ?_ ?_ _ _ ⟨rfl, rfl, hy⟩
    · rintro v rest r s' ⟨hr, rfl, hall⟩
      obtain ⟨k', c, rfl, hc⟩ := hall v List.mem_cons_self
      have rest' : ∀ y ∈ rest, ∃ k' c, y = Value.ref c ∧ (KT2 P w).is s'.heap k' c := fun u hu' => hall u (List.mem_cons_of_mem _ hu')
      dsimp only
      by_cases hv : (b == c || (carriedByValue (.ref b) && carriedByValue (.ref c))) = true
      · refine wp_if_pos hv ?_
        exact wpAny_pure ⟨rfl, rfl, rest'⟩
      · refine wp_if_neg hv ?_
        refine wpAny_bind (wpAny_eqIsQuiet_tuple hk ?_)
        simp only [Bool.not_true, Bool.false_eq_true, if_false]
        refine wpAny_bind (wpAny_eqIsQuiet_tuple hc ?_)
        simp only [Bool.not_true, Bool.false_eq_true, if_false]
        refine wpAny_bind (tup_class hk ?_)
        simp only [Bool.false_eq_true, if_false]
        refine wpAny_bind (tup_class hc ?_)
        simp only [Bool.false_eq_true, if_false]
        exact wpAny_pure ⟨rfl, rfl, rest'⟩
    · rintro ⟨r1, r2⟩ s' ⟨hr, rfl, _⟩
      simp only at hr
      subst hr
      exact wpAny_pure h
  apart := fun {h h' k a b o es ep t} hb ho hd hs => by
    obtain ⟨o', items, n, ho', hc, hd', hi⟩ := hb
    have hne : b ≠ a := by
      rintro rfl
      obtain rfl : o' = o := Option.some.inj (ho'.symm.trans ho)
      rw [hd] at hd'
      exact nomatch hd'
    exact ⟨o', items, n, (hs.2 b hne).trans ho', hc, hd', hi⟩
  keep := fun {h h' k b} hb hk => by
    obtain ⟨o, items, n, ho, r⟩ := hb
    exact ⟨o, items, n, hk b o ho, r⟩
end
/-! ### the set as a tracked thing -/
def PSetO (P : Program) (w : World) (a : Addr) (L : List (Addr × List Key)) : HO := .ext fun h => ∃ es ep t, HSet (KT2 P w) h a L es ep t
theorem pset_ok {P : Program} {w : World} {H : Hp} {h : Heap} {a : Addr} {L : List (Addr × List Key)} {es : Array (Int × Value)} {ep : Nat} {t : SetTable} (R : HSet (KT2 P w) h a L es ep t) : ObjOk P w H h a (PSetO P w a L) := by
  obtain ⟨o, ho, r⟩ := id R.obj
  refine ⟨⟨es, ep, t, R⟩, ⟨o, ho⟩, fun h1 h2 p k => ?_⟩
  obtain ⟨es1, ep1, t1, R1⟩ := p
  exact ⟨es1, ep1, t1, R1.stays k⟩
/-- the members are tuples that stand there -/
def Members (H : Hp) (L : List (Addr × List Key)) : Prop := ∀ p ∈ L, H p.1 = some (.tup (p.2.map kV))
section
variable {X : Cx} {pins : List (Addr × Obj)} {σ : L2.St} {H : Hp} {s : Shared}
theorem setp_add {A : Around} {E : Value → Shared → Prop} {D b : Addr} {k : List Key} {L : List (Addr × List Key)} {Q : Value → Shared → Prop} (hu : A.units + 8 < cLine) (I : Inv X pins σ H s) (hD : H D = some (PSetO X.prog X.w D L)) (hm : Members H L) (hb : H b = some (.tup (k.map kV))) (few : L.length + 1 < 64)
    (h : ∀ s' L', (k ∈ L.map Prod.snd → L' = L) → (k ∉ L.map Prod.snd → L'.Perm ((b, k) :: L)) → Inv X pins σ (upd H D (PSetO X.prog X.w D L')) s' → Q .none s') :
    wpAny (model X.prog X.w) A (call (.builtin "set.add") [.ref D, .ref b]) Q E s := by
  obtain ⟨⟨es, ep, t, R⟩, _⟩ := I.hok D _ hD
  obtain ⟨o, ho, hex, hd⟩ := id R.obj
  have hT : s.TypeIs (.ref D) "set" := ⟨o, ho, hex.1⟩
  refine wpAny_call_entry F.slot_set_add hT F.entry_set_add ?_ (F.args_set_add_2 _ _)
  unfold Builtin.«set.add» Builtin.Frozenset.oneOther
  simp only [List.isEmpty_nil, bind_assoc]
  unfold Builtin.Frozenset.addrOf setAdd
  refine wpAny_bind (wpAny_pure ?_)
  try dsimp only
  refine wpAny_bind (wpAny_pure ?_)
  try dsimp only
  refine wpAny_bind ?_
  refine wpAny_holding ?_
  have hkb : (KT2 X.prog X.w).is s.heap k b := key_of I.hok hb
  refine wpAny_bind ((KT2 X.prog X.w).pyHash (show A.in1.units < cLine by show A.units + 1 < cLine; omega) hkb ?_)
  refine add_key (s := { s with toks := s.toks + (k.length + 1) }) setLike_pairs R (fun p hp => key_of I.hok (hm p hp)) hkb (show A.in1.units < cLine by show A.units + 1 < cLine; omega) few fun bb h' L' es' ep' t' sb R' c1 c2 => ?_
  show wpAny _ _ (ret Value.none) _ _ _
  obtain ⟨o', ho', _⟩ := id R'.obj
  exact wpAny_pure ⟨_, rfl, h _ L' c1 c2 (I.write (e := D) (t' := s.toks + (k.length + 1)) (by rw [hD]; trivial) (.inl rfl) (fun b u hb hu => (sb.2 b hb).trans hu) ⟨o', ho'⟩ (pset_ok R'))⟩
end
/-! ### the comprehension -/
def tScP (P : Program) (w : World) (wi : TI) (g : TG) (tt : TT) (te : TE) (vs : List Nat) : TE := fun σ H Q => wi σ H fun J H1 => ∀ D, H1 D = none → ∃ W : Nat → Nat → Hp → Prop, (∃ m, W 0 m (upd H1 D (PSetO P w D []))) ∧ ∀ i m H, W i m H →
  (J.stop i H ∧ Q (.ref D) H) ∨ (J.go i H ∧ ∃ Nx : Hp → Prop, (∀ H', Nx H' → ∃ m', m' < m ∧ W (i + 1) m' H') ∧ ∀ x H', J.yld i H x H' → g x (wipe σ vs) H' fun σ2 H2 => wipe σ2 vs = wipe σ vs ∧ tt σ2 H2 fun b H3 =>
    if b = true then te σ2 H3 fun y H4 => ∃ (c : Addr) (k : List Key) (L : List (Addr × List Key)), y = .ref c ∧ H4 c = some (.tup (k.map kV)) ∧ H4 D = some (PSetO P w D L) ∧ Members H4 L ∧ L.length + 1 < 64 ∧
      ∀ L', (k ∈ L.map Prod.snd → L' = L) → (k ∉ L.map Prod.snd → L'.Perm ((c, k) :: L)) → Nx (upd H4 D (PSetO P w D L')) else Nx H3)
section
variable {X : Cx}
theorem pe_scP {elt tg iter : Expr} {ifs : List Expr} {scope : Scope} {own : List (PySem.Str × Nat)} {pos : Pos} {wi : TI} {g : TG} {tt : TT} {te : TE} (hu : X.A.units + 64 < cLine) (hc : X.calm = true) (hN : X.N.Nodup) (hi : PI X tg iter wi) (ok : BlkOk X.N X.env.scope scope own)
    (hg : ∀ (s : Shared) (H : Hp) (C : Addr) (cl : List (PySem.Str × Addr)) (fp : List Addr), PG (X.blk s H scope (compEnvC scope cl C X.env) fp) tg g) (ht : ∀ (s : Shared) (H : Hp) (C : Addr) (cl : List (PySem.Str × Addr)) (fp : List Addr), PTs (X.blk s H scope (compEnvC scope cl C X.env) fp) ifs tt)
    (he : ∀ (s : Shared) (H : Hp) (C : Addr) (cl : List (PySem.Str × Addr)) (fp : List Addr), PE (X.blk s H scope (compEnvC scope cl C X.env) fp) elt te) (hs : ∀ x, foldedSetIterable iter X.env x = pure x := by intro _; rfl) :
    PE X (.SetComp elt [⟨tg, iter, ifs, 0⟩] scope pos) (tScP X.prog X.w wi g tt te (own.map (·.2))) := by
  refine ⟨fun pins s σ H Q I h => ?_⟩
  rw [PpSet.eval_SetComp]
  have hfree : ∀ y ∈ scope.names, y.2 = .free → ∃ c, X.env.cells.lookup y.1 = some c := fun y hy e => by
    rcases ok.free y hy e with k | k
    · exact I.ok.has _ (.inl k)
    · exact I.ok.has _ (.inr k)
  refine wpAny_comprehension_free (use := none) rfl hs (closure_ok hfree) ok.kind (fun y hy e => by rw [ok.uniq y hy, e])
    (thn (hi.run pins s σ H _ I h) fun xv s1 hx => thn hx fun itv s2 h2 => ?_)
  obtain ⟨it, fp, tn, J, H2, e, I2, T, st2, f2, q⟩ := h2
  subst e
  refine PpSet.newSet_ok (newEnv_comp ?_)
  generalize hD : s2.heap.objs.size = D
  have hDn : H2 D = none := I2.hok.fresh (Nat.le_of_eq hD)
  obtain ⟨W, ⟨m0, w0⟩, turn⟩ := q D hDn
  generalize hs3 : ({ s2 with heap := s2.heap.push { cls := .type "set", dict := none, data := .set #[] 0 (.fresh 0 0 (!X.w.params.followText "set-order")) } } : Shared) = s3
  have I3 : Inv X pins σ (upd H2 D (PSetO X.prog X.w D [])) s3 := by
    rw [← hs3]
    refine I2.laid (t' := s2.toks) (fun b o e => Heap.get?_push_of_some _ e) (Nat.le_of_eq hD) ?_
    rw [← hD]
    exact pset_ok (HSet.empty (Heap.get?_push_size _ rfl))
  have h3 : s3.heap = s2.heap.push { cls := .type "set", dict := none, data := .set #[] 0 (.fresh 0 0 (!X.w.params.followText "set-order")) } := by rw [← hs3]
  have f3 : ∀ b ∈ fp, FpOk X pins (upd H2 D (PSetO X.prog X.w D [])) b ∧ b < s3.heap.objs.size := fun b hb => by
    obtain ⟨o, e, _⟩ := T.obj _ _ st2 b hb
    have hlt := Heap.lt_size e
    refine ⟨⟨?_, (f2 b hb).2⟩, by rw [h3, Heap.size_push]; exact Nat.lt_succ_of_lt hlt⟩
    rw [upd_ne (by rw [← hD]; exact Nat.ne_of_lt hlt)]
    exact (f2 b hb).1
  have st3 : tn 0 s3.heap := T.keep _ _ _ st2 fun b _ o e => by rw [h3]; exact Heap.get?_push_of_some _ e
  have I4 := block_start I3 ok hN f3
  have pg := hg s3 (upd H2 D (PSetO X.prog X.w D [])) s3.heap.objs.size (cellsFrom (s3.heap.objs.size + 1) scope.names (cloFrom X.env.cells scope.names [])) fp
  have pt := ht s3 (upd H2 D (PSetO X.prog X.w D [])) s3.heap.objs.size (cellsFrom (s3.heap.objs.size + 1) scope.names (cloFrom X.env.cells scope.names [])) fp
  have pe := he s3 (upd H2 D (PSetO X.prog X.w D [])) s3.heap.objs.size (cellsFrom (s3.heap.objs.size + 1) scope.names (cloFrom X.env.cells scope.names [])) fp
  show codeAny _ _ (.compStart (.SetComp elt [⟨tg, iter, ifs, 0⟩] scope pos) 0 (.ref it) (.ref D) (compEnvC scope (cellsFrom (s3.heap.objs.size + 1) scope.names (cloFrom X.env.cells scope.names [])) s3.heap.objs.size X.env)) (compPost (model X.prog X.w) X.A X.xe none (EP X pins σ Q) (.ref D) s3.heap.objs.size) { s3 with heap := pushCells (s3.heap.push { cls := .type "dict", data := .dict #[] }) scope.names }
  have nfp : ∀ b ∈ fp, (upd H2 D (PSetO X.prog X.w D [])) b = none := fun b hb => (f3 b hb).1.1
  generalize hce : compEnvC scope (cellsFrom (s3.heap.objs.size + 1) scope.names (cloFrom X.env.cells scope.names [])) s3.heap.objs.size X.env = ce at I4 pg pt pe ⊢
  have cL : ce.locals = s3.heap.objs.size := by subst hce; rfl
  generalize hH3 : upd H2 D (PSetO X.prog X.w D []) = H3 at I3 I4 pg pt pe w0 nfp f3
  generalize hs4 : ({ s3 with heap := pushCells (s3.heap.push { cls := .type "dict", data := .dict #[] }) scope.names } : Shared) = s4 at I4 ⊢
  have st4 : tn 0 s4.heap := T.keep _ _ _ st3 fun b _ o e => by rw [← hs4]; exact pushCells_keeps _ _ _ _ (Heap.get?_push_of_some _ e)
  have stat : ∀ {σ' : L2.St} {H' : Hp} {s' : Shared}, Inv (X.blk s3 H3 scope ce fp) [] σ' H' s' → (∀ b ∈ fp, H' b = none) → ∀ b ∈ fp, FpOk (X.blk s3 H3 scope ce fp) [] H' b := fun {σ' H' s'} I' hn b hb =>
    ⟨hn b hb, (I'.ok.exf b hb).1, I'.ok.exfs b hb, .inl hb, fun x c e => (I'.ok.exf b hb).2 x c e, fun p hp => absurd (show p ∈ ([] : List (Addr × Obj)) ++ [] from hp) (by simp)⟩
  have loop : codeAny (model X.prog X.w) X.A (.compLoop (.SetComp elt [⟨tg, iter, ifs, 0⟩] scope pos) 0 (.ref it) (.ref D) ce) (compPost (model X.prog X.w) X.A X.xe none (EP X pins σ Q) (.ref D) s3.heap.objs.size) s4 := by
    refine PpSet.compLoopS_any (fun n s' => ∃ i H', Inv (X.blk s3 H3 scope ce fp) [] (wipe σ (own.map (·.2))) H' s' ∧ tn i s'.heap ∧ (∀ b ∈ fp, H' b = none) ∧ W i n H') ?_ m0 ⟨0, H3, I4, st4, nfp, w0⟩
    rintro n s5 ⟨i, H5, I5, st5, n5, w5⟩
    rcases turn i n H5 w5 with ⟨stop, qq⟩ | ⟨go, Nx, hNx, step⟩
    · have td := T.done (X.blk s3 H3 scope ce fp) rfl rfl rfl hc i [] s5 _ H5 (fun _ _ => False) I5 (stat I5 n5) st5 stop
      refine thnF td fun r s6 ⟨hr, I6⟩ => ?_
      subst hr
      have I7 : Inv X pins σ H5 s6 := I3.call' (ch := fp) I6.os I6.base I6.hok I6.bare fun b hb => ⟨(f3 b hb).1.2.2.2.1, (f3 b hb).1.2.1, (f3 b hb).1.2.2.2.2.1, (f3 b hb).1.2.2.2.2.2⟩
      have nC : H5 s3.heap.objs.size = none := by
        have z : H5 ce.locals = none := I6.free
        rw [cL] at z
        exact z
      obtain ⟨m, hn, _⟩ := I6.loc
      have hn : s6.heap.Ns ce.locals m := hn
      rw [cL] at hn
      obtain ⟨g0, g1, g2, g3, g4, g5⟩ := (I3.fpOk (Nat.le_refl _) nC)
      refine ⟨m, hn, fun h'' sb => ?_⟩
      exact ⟨.ref D, H5, I7.turned (t' := s6.toks) (fun b o hb e => (sb.2 b hb).trans e) nC g1 g3 g4 g5, rfl, qq⟩
    · have ti := T.item (X.blk s3 H3 scope ce fp) rfl rfl rfl hc i [] s5 _ H5 (fun _ _ => False) I5 (stat I5 n5) st5 go
      refine thnF ti fun r s6 ⟨u, hr, h6⟩ => ?_
      subst hr
      refine thnF h6 fun _ s7 ⟨x, H7, I7, r7, y7, st7, n7⟩ => ?_
      have I7' := I7.pinned (stat I7 n7) (T.obj _ _ st7)
      refine thnF (pg.run _ s7 _ H7 x u _ I7' r7 (step x H7 y7)) fun _ s8 ⟨σ8, H8, I8, hw8, q8⟩ => ?_
      refine thnF (pt.run _ s8 σ8 H8 _ I8 q8) fun b s9 ⟨H9, I9, q9⟩ => ?_
      have fin : ∀ {s' : Shared} {H' : Hp}, Inv (X.blk s3 H3 scope ce fp) ([] ++ pinsAt fp s7.heap) σ8 H' s' → Nx H' → ∃ m, m < n ∧ ∃ i H', Inv (X.blk s3 H3 scope ce fp) [] (wipe σ (own.map (·.2))) H' s' ∧ tn i s'.heap ∧ (∀ b ∈ fp, H' b = none) ∧ W i m H' := fun {s' H'} I' nx => by
        obtain ⟨m', hm, w'⟩ := hNx H' nx
        have pin' : ∀ b ∈ fp, ∀ o, s7.heap.get? b = some o → s'.heap.get? b = some o ∧ H' b = none := fun b hb o e =>
          let z := I'.pin (b, o) (List.mem_append_right _ (List.mem_append_right _ (mem_pinsAt hb e)))
          ⟨z.1, z.2.1⟩
        have hl : (wipe σ (own.map (·.2))).length = σ8.length := by rw [← hw8, wipe_length]
        refine ⟨m', hm, i + 1, H', (I'.unpinned (pins := [])).weak hl (fun j v e => ?_), T.keep _ _ _ st7 fun b hb o e => (pin' b hb o e).1, fun b hb => ?_, w'⟩
        · rw [← hw8] at e
          exact (wipe_some e).1
        · obtain ⟨o, e, _⟩ := T.obj _ _ st7 b hb
          exact (pin' b hb o e).2
      cases b with
      | false =>
        simp only [Bool.false_eq_true, if_false] at q9 ⊢
        exact fin I9 q9
      | true =>
        simp only [if_true] at q9 ⊢
        refine thnF (pe.run _ s9 σ8 H9 _ I9 q9) fun z s10 ⟨yv, H10, I10, r10, c, k, L, ey, hc10, hD10, hm10, few, nx⟩ => ?_
        subst ey
        cases (show z = Value.ref c from r10)
        exact setp_add (X := X.blk s3 H3 scope ce fp) (A := X.A) (by omega) I10 hD10 hm10 hc10 few fun s11 L' c1 c2 I11 => fin I11 (nx L' c1 c2)
  exact PpSet.codeAny_compStart_set loop (T.self X.A 0 _ _ _ st4 loop)
end
/-! ### sorted of such a set -/
def lexS (p q : Str × Int) : Bool := if p.1 = q.1 then decide (p.2 < q.2) else decide (p.1.cps.toList < q.1.cps.toList)
theorem str_ne {x y : Str} (h : x ≠ y) : x.cps.toList ≠ y.cps.toList := by
  obtain ⟨x⟩ := x
  obtain ⟨y⟩ := y
  intro e
  exact h (by rw [show x = y from Array.toList_inj.mp e])
theorem lexS_iff {p q : Str × Int} : lexS p q = true ↔ p.1.cps.toList < q.1.cps.toList ∨ (p.1 = q.1 ∧ p.2 < q.2) := by
  unfold lexS
  by_cases e : p.1 = q.1
  · rw [if_pos e, decide_eq_true_eq, e]
    constructor
    · exact fun h => .inr ⟨rfl, h⟩
    · rintro (h | h)
      · exact absurd h (List.lt_irrefl _)
      · exact h.2
  · rw [if_neg e, decide_eq_true_eq]
    constructor
    · exact .inl
    · rintro (h | h)
      · exact h
      · exact absurd h.1 e
theorem lexS_tot {p q : Str × Int} (h : lexS q p = false) : lexS p q = true ∨ p = q := by
  by_cases e : p.1 = q.1
  · have h2 : ¬ q.2 < p.2 := fun z => by
      rw [lexS_iff.mpr (.inr ⟨e.symm, z⟩)] at h
      cases h
    rcases Int.lt_trichotomy p.2 q.2 with c | c | c
    · exact .inl (lexS_iff.mpr (.inr ⟨e, c⟩))
    · exact .inr (Prod.ext e c)
    · exact absurd c h2
  · have h2 : ¬ q.1.cps.toList < p.1.cps.toList := fun z => by
      rw [lexS_iff.mpr (.inl z)] at h
      cases h
    rw [List.not_lt] at h2
    rcases List.le_iff_lt_or_eq.mp h2 with c | c
    · exact .inl (lexS_iff.mpr (.inl c))
    · exact absurd c (str_ne e)
theorem lexS_asym {p q : Str × Int} (h : lexS p q = true) : lexS q p = false := by
  cases h2 : lexS q p with
  | false => rfl
  | true =>
    rcases lexS_iff.mp h with a | ⟨a, b⟩
    · rcases lexS_iff.mp h2 with c | ⟨c, d⟩
      · exact absurd (List.lt_trans a c) (List.lt_irrefl _)
      · rw [c] at a
        exact absurd a (List.lt_irrefl _)
    · rcases lexS_iff.mp h2 with c | ⟨c, d⟩
      · rw [a] at c
        exact absurd c (List.lt_irrefl _)
      · omega
theorem lexS_trans {p q r : Str × Int} (h1 : lexS p q = true) (h2 : lexS q r = true) : lexS p r = true := by
  rcases lexS_iff.mp h1 with a | ⟨a, b⟩
  · rcases lexS_iff.mp h2 with c | ⟨c, d⟩
    · exact lexS_iff.mpr (.inl (List.lt_trans a c))
    · rw [c] at a
      exact lexS_iff.mpr (.inl a)
  · rcases lexS_iff.mp h2 with c | ⟨c, d⟩
    · rw [← a] at c
      exact lexS_iff.mpr (.inl c)
    · exact lexS_iff.mpr (.inr ⟨a.trans c, by omega⟩)
theorem swo_lexS {α : Type} (k : α → Str × Int) : SrtO.Swo fun v u => lexS (k v) (k u) := by
  refine ⟨fun x y h => lexS_asym h, fun x y z h1 h2 => ?_⟩
  rcases lexS_tot h1 with a | a
  · rcases lexS_tot h2 with b | b
    · exact lexS_asym (lexS_trans a b)
    · rw [← b]
      exact lexS_asym a
  · rw [a]
    exact h2
/-- a pair of a text and an int -/
def IsPairS (h : Heap) (v : Value) (p : Str × Int) : Prop := ∃ a o t u n, v = .ref a ∧ h.get? a = some o ∧ o.cls = .type "tuple" ∧ o.data = .seq #[.str p.1 t, .int p.2 u] n
section
variable {prog : Program} {w : World} {A : Around} {E : Value → Shared → Prop} {s : Shared}
theorem pairS_cmp {vs : List Value} {k : Value → Str × Int} (hp : ∀ v ∈ vs, IsPairS s.heap v (k v)) : SrtO.Cmp prog w A s (tuples' true) (fun p => p.1 ∈ vs) (SrtO.lt2 fun v u => lexS (k v) (k u)) := by
  intro p q hm hm'
  obtain ⟨a, o, t, u, n, e, ho, hc, hd⟩ := hp _ hm
  obtain ⟨a', o', t', u', n', e', ho', hc', hd'⟩ := hp _ hm'
  show wpAny (model prog w) A (keyLt' (tuples' true) p.1 q.1) (fun r s' => s' = s ∧ r = lexS (k p.1) (k q.1)) (fun _ _ => False) s
  unfold lexS
  generalize k p.1 = x at hd ⊢
  generalize k q.1 = y at hd' ⊢
  rw [e, e']
  refine PySem.W.kat_lt ho hd ho' hd' ?_
  show PySem.W.KatLex prog w A true (decide (2 < 2)) _ [(.str x.1 t, .str y.1 t'), (.int x.2 u, .int y.2 u')] 0 s
  refine PySem.W.kat_cons (SeqAt.EqAt.str_str x.1 t y.1 t' prog w _ _ ?_)
  refine PySem.W.kat_go (fun e1 => ?_) (fun e1 => ?_)
  · have ex : x.1 = y.1 := by simpa using e1
    refine PySem.W.kat_yes (PySem.W.kat_cons (SeqAt.EqAt.int_int x.2 u y.2 u' prog w _ _ ?_))
    refine PySem.W.kat_go (fun e2 => ?_) (fun e2 => ?_)
    · have ey : x.2 = y.2 := by simpa using e2
      refine PySem.W.kat_yes (PySem.W.kat_nil ⟨rfl, ?_⟩)
      rw [if_pos ex, ey]
      exact (decide_eq_false (Int.lt_irrefl _)).symm
    · refine PySem.W.kat_no (PySem.W.kat_one _ _ (PyProof.Rows.lt_int ?_))
      exact (show s = s ∧ decide (x.2 < y.2) = (if x.1 = y.1 then decide (x.2 < y.2) else decide (x.1.cps.toList < y.1.cps.toList)) from ⟨rfl, (if_pos ex).symm⟩)
  · have ex : ¬ x.1 = y.1 := by simpa using e1
    exact PySem.W.kat_no (oneLt_str ⟨rfl, (if_neg ex).symm⟩)
theorem firstsS {h : Heap} : ∀ {vs : List Value}, (∀ v ∈ vs, ∃ p, IsPairS h v p) → ∃ fs : List Value, PySem.W.KatTups h vs fs ∧ fs.length = vs.length ∧ ∀ f ∈ fs, ∃ x t, f = Value.str x t
  | [], _ => ⟨[], PySem.W.KatTups.nil, rfl, fun _ hm => by simp at hm⟩
  | v :: vs, hp => by
    obtain ⟨fs, h1, h2, h3⟩ := firstsS (vs := vs) fun v' hm => hp v' (List.mem_cons_of_mem _ hm)
    obtain ⟨p, a, o, t, u, n, rfl, ho, hc, hd⟩ := hp v List.mem_cons_self
    refine ⟨.str p.1 t :: fs, PySem.W.KatTups.cons ho hc hd rfl h1, by rw [List.length_cons, List.length_cons, h2], fun f hm => ?_⟩
    rcases List.mem_cons.mp hm with rfl | hm
    · exact ⟨p.1, t, rfl⟩
    · exact h3 f hm
theorem pairS_keeps {h h' : Heap} {v : Value} {p : Str × Int} (x : IsPairS h v p) (k : ∀ b o, h.get? b = some o → o.cls = .type "tuple" → h'.get? b = some o) : IsPairS h' v p := by
  obtain ⟨a, o, t, u, n, e, ho, hc, hd⟩ := x
  exact ⟨a, o, t, u, n, e, k _ _ ho hc, hc, hd⟩
theorem pairS_sortable {a : Addr} {vs : List Value} {k : Value → Str × Int} (h0 : 0 < vs.length) (hp : ∀ v ∈ vs, IsPairS s.heap v (k v)) (ha : ∀ o, s.heap.get? a = some o → o.cls ≠ .type "tuple") : SrtO.SortableO prog w A s a vs fun v u => lexS (k v) (k u) := by
  intro h' keep
  have hp' : ∀ v ∈ vs, IsPairS h' v (k v) := fun v hm => pairS_keeps (hp v hm) fun b o e c => keep b o (fun z => by subst z; exact ha o e c) e
  obtain ⟨fs, h1, h2, h3⟩ := firstsS fun v hm => ⟨_, hp' v hm⟩
  refine ⟨tuples' true, fun Q E hq => ?_, pairS_cmp hp'⟩
  refine PySem.W.kat_kind (T := .type "str") h1 (by omega) (fun f hm => ?_) (by rfl) ?_
  · obtain ⟨x, t, rfl⟩ := h3 f hm
    exact PySem.W.Looks.now
  · have e : (Value.type "str" != Value.type "tuple") = true := by first | decide +kernel | rfl | decide
    rw [e]
    exact hq
end
theorem perm_map_inv {α β : Type} {f : α → β} : ∀ {l m : List β}, l.Perm m → ∀ L : List α, m = L.map f → ∃ L' : List α, L'.Perm L ∧ l = L'.map f := by
  intro l m h
  induction h with
  | nil => intro L e; exact ⟨[], by rw [List.map_eq_nil_iff.mp e.symm], rfl⟩
  | @cons x l m h ih =>
    intro L e
    obtain ⟨y, L1, rfl, rfl, e1⟩ := List.map_eq_cons_iff.mp e.symm
    obtain ⟨L', p, rfl⟩ := ih L1 e1.symm
    exact ⟨y :: L', p.cons y, rfl⟩
  | swap x y l =>
    intro L e
    obtain ⟨a, L1, rfl, rfl, e1⟩ := List.map_eq_cons_iff.mp e.symm
    obtain ⟨b, L2, rfl, rfl, e2⟩ := List.map_eq_cons_iff.mp e1
    subst e2
    exact ⟨b :: a :: L2, List.Perm.swap .., rfl⟩
  | trans h1 h2 ih1 ih2 =>
    intro L e
    obtain ⟨L2, p2, e2⟩ := ih2 L e
    obtain ⟨L1, p1, e1⟩ := ih1 L2 e2
    exact ⟨L1, p1.trans p2, e1⟩
/-- the pair that stands at an address -/
def pairAt (H : Hp) (a : Addr) : Str × Int := match H a with
  | some (.tup [.str x, .int i]) => (x, i)
  | _ => ("", 0)
def PairsAt (H : Hp) (L : List (Addr × List Key)) : Prop := ∀ p ∈ L, ∃ x i, p.2 = [Sum.inr x, Sum.inl i] ∧ H p.1 = some (.tup [.str x, .int i])
def rSortP (P : Program) (w : World) : List V → Hp → VK → Prop := fun vs H Q => ∃ (a : Addr) (L : List (Addr × List Key)), vs = [V.ref a] ∧ H a = some (PSetO P w a L) ∧ PairsAt H L ∧ 
  ∀ (as : List Addr) (p : Addr), as.Perm (L.map Prod.fst) → as.Pairwise (fun b c => lexS (pairAt H c) (pairAt H b) = false) → H p = none → Q (.ref p) (upd H p (.lst (as.map V.ref)))
theorem cr_sortP {X : Cx} (hc : X.calm = true) : CallR X (.builtin "sorted") (rSortP X.prog X.w) := by
  intro pins s σ H vs us Q I r h
  obtain ⟨a, L, rfl, ha, hL, q⟩ := h
  obtain ⟨⟨es, ep, t, R⟩, _⟩ := I.hok a _ ha
  obtain ⟨o, ho, hex, hd⟩ := id R.obj
  have hsz := rows_size R.rows
  have hfew := R.few
  rw [Vals.ref1 r]
  let k : Value → Str × Int := fun v => match v with | .ref b => pairAt H b | _ => ("", 0)
  have pk : ∀ b ∈ L.map Prod.fst, IsPairS s.heap (.ref b) (k (.ref b)) := by
    intro b hb
    obtain ⟨p, hp, rfl⟩ := List.mem_map.mp hb
    obtain ⟨x, i, e, hx⟩ := hL p hp
    obtain ⟨_, its, rv, ob, h1, h2, n, h3⟩ := I.hok _ _ hx
    obtain ⟨u1, u2, rfl, ⟨t1, rfl⟩, t2, rfl⟩ := vals2 rv
    have ek : k (.ref p.1) = (x, i) := by
      show pairAt H p.1 = _
      unfold pairAt
      rw [hx]
    rw [ek]
    exact ⟨p.1, ob, t1, t2, n, rfl, h1, h2, h3⟩
  refine Calls.call_function_entry kind_sorted plain_sorted entry_sorted (args_sorted1 _) ?_
  unfold Builtin.«sorted»
  refine wpAny_bind (m := checkCount "sorted" 1 1 _) (wpAny_pure ?_)
  refine wpAny_bind (collect_set (P := X.prog) (w := X.w) (A := X.A.in1) (I.ok.hd hc) ⟨o, ho, hex.1, hd⟩ R.fits (by unfold scanBound; omega) R.tab.ris R.led fun s1 vs k1 hz g1 o1 pm => ?_)
  have hes : es.toList.map (·.2) = (L.map Prod.fst).map Value.ref := by
    rw [R.rows, List.map_map, List.map_map]
    rfl
  rw [hes] at pm
  obtain ⟨as0, pas0, rfl⟩ := perm_map_inv pm (L.map Prod.fst) rfl
  have hvl : (as0.map Value.ref).length < 64 := by rw [List.length_map, pas0.length_eq, List.length_map]; exact hfew
  refine wpAny_bind (wpAny_newList ?_ (by rw [sizeLine_eq]; omega))
  have hoL : (s1.heap.push (seqObj "list" (as0.map Value.ref).toArray 0)).get? s1.heap.objs.size = some (seqObj "list" (as0.map Value.ref).toArray 0) := Heap.get?_push_size _ rfl
  have pk1 : ∀ v ∈ as0.map Value.ref, IsPairS (s1.heap.push (seqObj "list" (as0.map Value.ref).toArray 0)) v (k v) := by
    intro v hv
    obtain ⟨b, hb, rfl⟩ := List.mem_map.mp hv
    exact pairS_keeps (pk b (pas0.mem_iff.mp hb)) fun c u e _ => Heap.get?_push_of_some _ (k1 c u e)
  refine wpAny_bind (wpAny_holding (wpAny_call_entry slot_list_sort ⟨_, hoL, rfl⟩ entry_list_sort (SrtO.list_sort_ord (s := { s1 with heap := s1.heap.push (seqObj "list" (as0.map Value.ref).toArray 0) }) (swo_lexS k) hoL (by rw [sizeLine_eq]; omega) (fun h2 => pairS_sortable (by omega) pk1 fun o2 e2 c2 => ?_) fun out hs hb => ⟨_, rfl, ?_⟩) (args_list_sort _)))
  · have e3 : some o2 = some (seqObj "list" (as0.map Value.ref).toArray 0) := e2.symm.trans hoL
    cases e3
    exact absurd (Value.type.inj c2) (by decide)
  · obtain ⟨as, pas, rfl⟩ := perm_map_inv hb.perm as0 rfl
    obtain ⟨c, hcl⟩ := sortedHeap_at (vs := as0.map Value.ref) (out := (as.map Value.ref).toArray) hoL
    have keep : ∀ b u, s.heap.get? b = some u → (sortedHeap (s1.heap.push (seqObj "list" (as0.map Value.ref).toArray 0)) s1.heap.objs.size (as0.map Value.ref) (as.map Value.ref).toArray).get? b = some u := fun b u e => by
      have q := k1 b u e
      have hlt := Heap.lt_size q
      rw [sortedHeap_old (Nat.ne_of_lt hlt) (by rw [size_push']; exact Nat.lt_succ_of_lt hlt)]
      exact Heap.get?_push_of_some _ q
    have hn : H s1.heap.objs.size = none := I.hok.fresh hz
    have hlen : (as.map V.ref).length ≤ sizeLine := by rw [List.length_map, pas.length_eq, sizeLine_eq]; rw [List.length_map] at hvl; omega
    have vr : ∀ l : List Addr, Vals (l.map V.ref) (l.map Value.ref) := fun l => by
      induction l with
      | nil => exact .nil
      | cons b l ih => exact .cons rfl ih
    have J : Inv X pins σ (upd H s1.heap.objs.size (.lst (as.map V.ref))) { s with heap := sortedHeap (s1.heap.push (seqObj "list" (as0.map Value.ref).toArray 0)) s1.heap.objs.size (as0.map Value.ref) (as.map Value.ref).toArray, gens := s1.gens, drawn := s1.drawn, toks := s1.toks } :=
      I.call (ch := []) (Un.laid keep hz hn) (I.hok.laid keep hz ⟨hlen, as.map Value.ref, c, vr as, hcl⟩) (by rw [g1]; exact I.bare) (fun _ z => nomatch z)
    refine wpAny_pure ⟨_, rfl, ?_⟩
    have e : ({ s1 with heap := sortedHeap (s1.heap.push (seqObj "list" (as0.map Value.ref).toArray 0)) s1.heap.objs.size (as0.map Value.ref) (as.map Value.ref).toArray } : Shared) = { s with heap := sortedHeap (s1.heap.push (seqObj "list" (as0.map Value.ref).toArray 0)) s1.heap.objs.size (as0.map Value.ref) (as.map Value.ref).toArray, gens := s1.gens, drawn := s1.drawn, toks := s1.toks } := by
      cases s1
      cases s
      cases o1
      rfl
    refine ⟨.ref s1.heap.objs.size, _, by rw [← e] at J; exact J, rfl, q as _ (pas.trans pas0) ?_ hn⟩
    exact List.pairwise_map.mp hs
end Fn

set_option Elab.async false
set_option maxRecDepth 100000
set_option maxHeartbeats 2000000
/-! Instances that are made by a def which may raise, within a try or not; a class held by a local; a classmethod; len of an instance. -/
namespace Fn
open PySem PySem.Spec PyProof.Rows L2
section
variable {X : Cx} {CX : CXT} {k : Nat} {f C : Addr} {fd : FuncData} {ps : List Str} {sp : Sp} {E : L2.St → XK}
theorem run_rawS {pins : List (Addr × Obj)} {σ : L2.St} {H : Hp} {s : Shared} {Q : VK} {us : List Value} {vs : List V} (F : FnR X.prog X.w X.K X.mg X.base CX k f sp) (hr : Room k X.A) (hx : PassesAt CX X σ (E σ)) (I : Inv X pins σ H s) (r : Vals vs us) (h : sp vs H Q (E σ)) :
    codeAny (model X.prog X.w) X.A (.call (.ref f) ⟨us, []⟩) (fun r s' => match r with | .ok (.ret v) => EP X pins σ Q v s' | .ok _ => False | .error e => X.xe e s') s := by
  refine codeAny_mono (F X.A X.stack s H us vs Q (E σ) hr I.env0 r h) fun r s' hq => ?_
  cases r with
  | error e => exact hx pins H s e s' I hq
  | ok fl =>
    cases fl with
    | ret u => exact I.after hq
    | next => exact False.elim hq
    | brk => exact False.elim hq
    | cont => exact False.elim hq
theorem raw0 {P : Program} {w : World} {K : PySem.W.Frag} {mg : PySem.Str → Option Value} {base : Heap} {CX : CXT} (F : FnOk P w K mg base CX k f fd ps sp) (hb : Binds K fd ps []) : FnR P w K mg base CX k f sp :=
  (F.raw hb .nil).imp fun vs H Q E h => by
    show sp (vs ++ []) H Q E
    rw [List.append_nil]
    exact h
/-- C(e, ..); what the caller wishes of an exception may hang on the slots -/
def tMakeS (C : Addr) (sp : Sp) (E : L2.St → XK) (t : TA) : TE := fun σ H Q => t σ H fun vs H1 => ∀ x dx, H1 x = Option.none → H1 dx = Option.none → dx ≠ x →
  sp (V.ref x :: vs) (upd (upd H1 dx (.own x)) x (.ins C dx [])) (fun v H2 => v = .non ∧ Q (.ref x) H2) (E σ)
theorem run_makeS {pins : List (Addr × Obj)} {σ : L2.St} {H : Hp} {s : Shared} {Q : VK} {us : List Value} {vs : List V} (M : Mk X.K C f) (F : FnOk X.prog X.w X.K X.mg X.base CX k f fd ps sp) (hb : Binds X.K fd ps []) (hr : Room (k + 1) X.A) (hx : PassesAt CX X σ (E σ)) (I : Inv X pins σ H s) (r : Vals vs us)
    (h : ∀ x dx, H x = Option.none → H dx = Option.none → dx ≠ x → sp (V.ref x :: vs) (upd (upd H dx (.own x)) x (.ins C dx [])) (fun v H2 => v = .non ∧ Q (.ref x) H2) (E σ)) :
    wpAny (model X.prog X.w) X.A (call (.ref C) us) (EP X pins σ Q) X.xe s := by
  have hq := h (s.heap.objs.size + 1) s.heap.objs.size (I.hok.fresh (Nat.le_succ _)) (I.hok.fresh (Nat.le_refl _)) (Nat.ne_of_lt (Nat.lt_succ_self _))
  have I2 := Inv.made (C := C) I
  have r2 : Vals (V.ref (s.heap.objs.size + 1) :: vs) (Value.ref (s.heap.objs.size + 1) :: us) := .cons rfl r
  have F' := raw0 F hb
  refine wpAny_call (make_map (f := f) I.kIn M.makes M.init (beq_iff_eq.mp M.fn) (codeAny_mono (F' _ X.stack _ _ (Value.ref (s.heap.objs.size + 1) :: us) _ _ (E σ) (hr.make C us []) (I2.env0.make C us []) r2 hq) fun r s' hq' => ?_))
  cases r with
  | error e => exact hx pins _ _ e s' I2 hq'
  | ok fl =>
    cases fl with
    | ret u =>
      obtain ⟨v, H', I3, rv, ev, q3⟩ := I2.after hq'
      subst ev
      exact ⟨rv, ⟨V.ref (s.heap.objs.size + 1), H', I3, rfl, q3⟩⟩
    | next => exact False.elim hq'
    | brk => exact False.elim hq'
    | cont => exact False.elim hq'
variable {x m : Str} {e o : Expr} {es : List Expr} {t : TA} {ta : TE} {p pos apos : Pos}
theorem pe_makeS (M : Mk X.K C f) (F : FnOk X.prog X.w X.K X.mg X.base CX k f fd ps sp) (hb : Binds X.K fd ps []) (hr : Room (k + 1) X.A) (hg : Gl X x) (hm : X.mg x = some (.ref C)) (hx : ∀ σ, PassesAt CX X σ (E σ)) (ha : PA X (e :: es) t) (hdb : (x == ("__debug__" : Str)) = false := by decide)
    (he : starEach (e :: es) X.env = (false, eval e X.env) :: starEach es X.env := by rfl) (hpl : (backTo pos (starEach es X.env)).any (·.1) = false := by rfl) : PE X (.Call (.Name x p) (e :: es) [] pos) (tMakeS C sp E t) := by
  refine ⟨fun pins s σ H Q I h => ?_⟩
  refine wpAny_Call_Name_kw (ld_glob I hg hm ?_ hdb)
  refine PySem.W.callWith_K (h₀ := X.base) I.ok.mod.kin M.kp (thn (ha.run pos pins s σ H _ I h) fun us s1 ⟨vs, H1, I1, r, q⟩ => ⟨I1.kIn, ?_⟩) he hpl
  exact run_makeS M F hb hr (hx σ) I1 r q
/-- .. the class is held by a local -/
theorem pe_makeLS {i : Nat} (M : Mk X.K C f) (F : FnOk X.prog X.w X.K X.mg X.base CX k f fd ps sp) (hb : Binds X.K fd ps []) (hr : Room (k + 1) X.A) (hN : X.N[i]? = some x) (hv : Vis X.env.scope x) (hx : ∀ σ, PassesAt CX X σ (E σ)) (ha : PA X (e :: es) t) (hdb : (x == ("__debug__" : Str)) = false := by decide) (hcd : (x == ("__classdict__" : Str)) = false := by decide)
    (he : starEach (e :: es) X.env = (false, eval e X.env) :: starEach es X.env := by rfl) (hpl : (backTo pos (starEach es X.env)).any (·.1) = false := by rfl) : PE X (.Call (.Name x p) (e :: es) [] pos) (fun σ H Q => σ[i]? = some (some (.ref C)) ∧ tMakeS C sp E t σ H Q) := by
  refine ⟨fun pins s σ H Q I h => ?_⟩
  obtain ⟨hs, ht⟩ := h
  refine wpAny_Call_Name_kw (thn ((pe_var (pos := p) hN hv hdb hcd).run pins s σ H (fun v H1 => v = .ref C ∧ H1 = H) I ⟨.ref C, hs, rfl, rfl⟩) fun u s1 ⟨v, H1, I1, r1, q1⟩ => ?_)
  obtain ⟨rfl, rfl⟩ := q1
  cases r1
  refine PySem.W.callWith_K (h₀ := X.base) I.ok.mod.kin M.kp (thn (ha.run pos pins s1 σ _ _ I1 ht) fun us s2 ⟨vs, H2, I2, r, q⟩ => ⟨I2.kIn, ?_⟩) he hpl
  exact run_makeS M F hb hr (hx σ) I2 r q
/-- e.m(..), e the class at C, m a classmethod -/
def tCMethS (C : Addr) (sp : Sp) (E : L2.St → XK) (ta : TE) (t : TA) : TE := fun σ H Q => ta σ H fun x H1 => x = .ref C ∧ t σ H1 fun vs H2 => sp (.ref C :: vs) H2 Q (E σ)
theorem run_cmS {g q : Addr} {pins : List (Addr × Obj)} {σ : L2.St} {H : Hp} {s : Shared} {Q : VK} {us : List Value} {vs : List V} (F : FnR X.prog X.w X.K X.mg X.base CX k g sp) (hr : Room k X.A) (hx : PassesAt CX X σ (E σ)) (I : Inv X ((q, PySem.W.methodObj (.ref g) (.ref C)) :: pins) σ H s)
    (r : Vals vs us) (h : sp (.ref C :: vs) H Q (E σ)) : wpAny (model X.prog X.w) X.A (call (.ref q) us) (EP X pins σ Q) X.xe s := by
  have z : wpAny (model X.prog X.w) X.A (call (.ref q) us) (EP X ((q, PySem.W.methodObj (.ref g) (.ref C)) :: pins) σ Q) X.xe s :=
    wpAny_call (PySem.W.method_call (ClX.pin_at I) (run_rawS (us := .ref C :: us) (vs := .ref C :: vs) F hr hx I (.cons rfl r) h))
  exact thn z fun _ _ y => ClX.unpinE y
theorem pe_cmethS {g pa : Addr} {mc : Value} {pl : Sem Bool} (he : PE X o ta) (r : ClX.CRead X.K C mc) (c : ClX.CMet X.K C mc m pa g) (F : FnR X.prog X.w X.K X.mg X.base CX k g sp) (hr : Room k X.A) (hx : ∀ σ, PassesAt CX X σ (E σ)) (ha : PA X (e :: es) t)
    (hst : starEach (e :: es) X.env = (false, eval e X.env) :: starEach es X.env := by rfl) (hpl : (backTo pos (starEach es X.env)).any (·.1) = false := by rfl)
    (ht : eval (.Call (.Attribute o m apos) (e :: es) [] pos) X.env = (do
      let ov ← eval o X.env
      standAt apos.atName
      let (f, first) ← holding [ov] (getMethod ov m pl)
      callWith pos f first (backTo pos (starEach (e :: es) X.env)) (backToKw pos (keywordEach [] X.env))) := by rfl) :
    PE X (.Call (.Attribute o m apos) (e :: es) [] pos) (tCMethS C sp E ta t) := by
  refine ⟨fun pins s σ H Q I h => ?_⟩
  refine PySem.W.methodCall_KW (pl := pl) (thn (he.run pins s σ H _ I h) fun u s1 ⟨x, H1, I1, rx, ex, q⟩ => ?_) ht
  subst ex
  obtain rfl : u = Value.ref C := rx
  refine ClX.getmethcm_ok I1 r c fun s2 I2 => ?_
  refine ClX.callwith_cm I2 (ClX.base_none I1 (Nat.le_refl _)) c.fi (thn (ha.run pos _ s2 σ H1 _ I2 q) fun us s3 ⟨vs, H2, I3, rv, q2⟩ => ⟨⟨ClX.pin_at I3, I3.kIn⟩, ?_⟩) hst hpl
  exact run_cmS F hr (hx σ) I3 rv q2
/-- len(o), by the class's own __len__, which raises nothing -/
def rLenO (C : Addr) (sp : Sp) : List V → Hp → VK → Prop := fun xs H Q => ∃ (a dx : Addr) (fs : List (Str × V)), xs = [.ref a] ∧ H a = some (.ins C dx fs) ∧ sp [.ref a] H (fun v H' => ∃ n : Int, v = .int n ∧ 0 ≤ n ∧ n < 2 ^ 63 ∧ Q (.int n) H') E0
theorem call_lenO {g : Addr} (hs : PySem.W.findIn X.K (.ref C) "__len__" = some (some (.ref g))) (hf : PySem.W.isFn X.K (.ref g) = true) (F : FnOk X.prog X.w X.K X.mg X.base CX0 k g fd ps sp) (hb : Binds X.K fd ps []) (hr : Room (k + 1) X.A) : CallR X (.builtin "len") (rLenO C sp) := by
  intro pins s σ H xs us Q I r h
  obtain ⟨a, dx, fs, rfl, ea, q⟩ := h
  obtain ⟨u, rfl, ru⟩ := vals1 r
  obtain rfl : u = Value.ref a := ru
  obtain ⟨mA, O, _, _, _, _⟩ := ins_get I.hok ea
  obtain ⟨od, J, _⟩ := O.look
  refine Calls.call_function_entry kind_len plain_len entry_len (args_len1 _) ?_
  unfold Builtin.«len»
  refine wpAny_bind (m := oneArg "len" _) (wpAny_pure ?_)
  refine wpAny_bind (m := callSpecial? (.ref a) (Str.ofString "__len__")) (PySem.W.special_fn (args := []) I.kIn J hs (beq_iff_eq.mp hf) ?_)
  have F' := raw0 F hb
  refine wpAny_call (codeAny_mono (F' X.A.in1 X.stack s H [.ref a] [.ref a] _ E0 hr.in1 I.env0.in1 (.cons rfl .nil) q) fun r s' hq => ?_)
  cases r with
  | error e => exact False.elim hq
  | ok fl =>
    cases fl with
    | ret u =>
      obtain ⟨v, H', I3, rv, n, rfl, h0, h1, q3⟩ := I.after hq
      obtain ⟨tk, rfl⟩ : ∃ tk, u = Value.int n tk := rv
      refine wpAny_bind (wpAny_holding (wpAny_pure ?_))
      refine wpAny_bind (wpAny_letGo ?_)
      show wpAny _ _ (if n < 0 then _ else _) _ _ _
      rw [if_neg (by omega)]
      show wpAny _ _ (if n ≥ 2 ^ 63 then _ else _) _ _ _
      rw [if_neg (by omega)]
      exact wpAny_bind (wpAny_mkInt (wpAny_pure ⟨_, rfl, .int n, H', I3.tok _, ⟨_, rfl⟩, q3⟩))
    | next => exact False.elim hq
    | brk => exact False.elim hq
    | cont => exact False.elim hq
end
/-! ### what the written part says of the classes Term and InvalidTerm -/
structure TermZ (K : PySem.W.Frag) (mg : PySem.Str → Option Value) (c : Ta) : Prop where
  g_T : mg "Term" = some (.ref c.T)
  g_X : mg "InvalidTerm" = some (.ref c.X)
  cls : Cls K c.T
  mkc : Mk K c.T c.fi
  no : NoAttr K c.T "_nodes"
  len : PySem.W.findIn K (.ref c.T) "__len__" = some (some (.ref c.fl))
  lenF : PySem.W.isFn K (.ref c.fl) = true
  prop : PropOf K c.T "nodes" c.pn c.gn
  read : ClX.CRead K c.T mcT
  met : ClX.CMet K c.T mcT "build" c.pb c.gb
  kit : ∀ n ∈ ["NoneType", "bool", "int", "str", "list", "tuple", "dict"], PySem.W.kitOne K (.type n) (.ref c.T) = some false
  kitT : PySem.W.kitOne K (.ref c.T) (.ref c.T) = some true
  c1 : PySem.W.findIn K (.ref c.T) "__class__" = some (some (.builtin "object.__class__"))
  c2 : PySem.W.specialIn K (.builtin "object.__class__") "__get__" = some (some (.builtin "getset_descriptor.__get__"))
  c3 : PySem.W.takesIn K (.builtin "object.__class__") = some true
  c4 : PySem.W.mroIn K c.T (.type "object") = some true
  exc : PySem.W.excIn K c.X tValE "ValueError.__new__" = true
  kX : PySem.W.keepIn K (.ref c.X) = true
  subX : PySem.W.subIn K (.ref c.X) (.type "BaseException") = some true
  tyX : PySem.W.typeIn K (.ref c.X) = some (.type "type")
  exm : PySem.W.exmOne K (.ref c.X) (.ref c.X) = some true
theorem termZ {K : PySem.W.Frag} {mg : PySem.Str → Option Value} {c : Ta} {rp rb : List Value} (g1 : mg "Term" = some (.ref c.T)) (g2 : mg "InvalidTerm" = some (.ref c.X)) (hi : PySem.W.findIn K (.ref c.T) "__init__" = some (some (.ref c.fi))) (hl : PySem.W.findIn K (.ref c.T) "__len__" = some (some (.ref c.fl)))
    (hp : PySem.W.findIn K (.ref c.T) "nodes" = some (some (.ref c.pn))) (hg : PySem.W.recIn K c.pn "property" = some (.ref c.gn :: rp)) (hm : PySem.W.findCls K (.ref c.T) mcT "build" = some (.get (.builtin "classmethod.__get__") (.ref c.pb) .none (.ref c.T))) (hb : PySem.W.recIn K c.pb "classmethod" = some (.ref c.gb :: rb))
    (h1 : termB K c = true) (h2 : kitsB K c.T = true) (h4 : clB4 K c.T = true) (h3 : invB K c.X = true) : TermZ K mg c := by
  simp only [termB, Bool.and_eq_true, decide_eq_true_eq] at h1
  simp only [invB, Bool.and_eq_true, decide_eq_true_eq] at h3
  simp only [clB4, Bool.and_eq_true, decide_eq_true_eq] at h4
  obtain ⟨a1, a2, a3, a4, a5, a6, a7, a8, a9, a10, a11, a12, a13, a14, a15⟩ := h1
  obtain ⟨b1, b2, b3, b4, b5⟩ := h3
  exact ⟨g1, g2, ⟨a1, a2, a3, a4⟩, ⟨a5, hi, a6, a7⟩, a8, hl, a9, ⟨hp, a10, a11, _, hg⟩, ⟨a12, a13⟩, ⟨hm, ⟨_, hb⟩, a14⟩, fun n hn => of_decide_eq_true (List.all_eq_true.mp h2 n hn), a15, h4.1, h4.2.1, h4.2.2.1, h4.2.2.2, b1, b2, b3, b4, b5⟩
theorem TermZ.ty {K : PySem.W.Frag} {mg : PySem.Str → Option Value} {c : Ta} (Z : TermZ K mg c) {H : Hp} {a dx : Addr} {fs : List (PySem.Str × V)} (e : H a = some (.ins c.T dx fs)) : TyX K H (.ref a) (.ref c.T) := .base (.ins e Z.cls Z.c1 Z.c2 Z.c3 Z.c4)
/-- the statements of a class; the scope of a set comprehension -/
def clS : Stmt → List Stmt
  | .ClassDef _ _ _ body _ _ _ _ _ _ _ => body
  | _ => []
def scSc : Expr → Scope
  | .SetComp _ _ sc _ => sc
  | _ => { kind := .function, names := [], isGenerator := false, isCoroutine := false }
theorem hu64i {A : Around} {k : Nat} (hr : Room k A) : A.units + 64 < cLine := by
  have := hr.un
  omega
theorem passAt0 {X : Cx} (σ : L2.St) : PassesAt (L2.CX X.prog X.w) X σ E0 := fun pins H s e s' I c => passL pins σ H s e s' I c
abbrev WR (E : XK) : WX := fun cls d _ H => E cls d H
end Fn

set_option Elab.async false
set_option maxRecDepth 100000
set_option maxHeartbeats 2000000
/-! Nodes of terms as data; the set of the nodes with words; how long a dict of pairs is. -/
namespace Fn
open PySem PySem.Spec PyProof.Rows L2
/-- a set comprehension over a tuple, by what holds behind each item -/
theorem sc_over_tup {P : Program} {w : World} {K : PySem.W.Frag} {b : Addr} {ys : List V} {gr : TG} {cond : TT} {el : TE} {vs : List Nat} {σ : L2.St} {Hs : Hp} {D : Addr} {End : Hp → Prop} (G : Nat → Hp → Prop) (start : G 0 (upd Hs D (PSetO P w D []))) (there : ∀ i H, G i H → SqT K H b ys) (fin : ∀ H, G ys.length H → End H)
    (turn : ∀ i x H, ys[i]? = some x → G i H → gr x (wipe σ vs) H fun σ' H' => wipe σ' vs = wipe σ vs ∧ cond σ' H' fun t Ht =>
      if t = true then el σ' Ht fun y Hy => ∃ (c : Addr) (k : List Key) (L : List (Addr × List Key)), y = .ref c ∧ Hy c = some (.tup (k.map kV)) ∧ Hy D = some (PSetO P w D L) ∧ Members Hy L ∧ L.length + 1 < 64 ∧
        ∀ L', (k ∈ L.map Prod.snd → L' = L) → (k ∉ L.map Prod.snd → L'.Perm ((c, k) :: L)) → G (i + 1) (upd Hy D (PSetO P w D L')) else G (i + 1) Ht) :
    ∃ M : Nat → Nat → Hp → Prop, (∃ m, M 0 m (upd Hs D (PSetO P w D []))) ∧ ∀ i m H, M i m H → ((Itt K b).stop i H ∧ End H) ∨ ((Itt K b).go i H ∧ ∃ Nx : Hp → Prop, (∀ H', Nx H' → ∃ m', m' < m ∧ M (i + 1) m' H') ∧ ∀ x H', (Itt K b).yld i H x H' → gr x (wipe σ vs) H' fun σ2 H2 => wipe σ2 vs = wipe σ vs ∧ cond σ2 H2 fun t H3 =>
      if t = true then el σ2 H3 fun y H4 => ∃ (c : Addr) (k : List Key) (L : List (Addr × List Key)), y = .ref c ∧ H4 c = some (.tup (k.map kV)) ∧ H4 D = some (PSetO P w D L) ∧ Members H4 L ∧ L.length + 1 < 64 ∧
        ∀ L', (k ∈ L.map Prod.snd → L' = L) → (k ∉ L.map Prod.snd → L'.Perm ((c, k) :: L)) → Nx (upd H4 D (PSetO P w D L')) else Nx H3) := by
  refine ⟨fun i m H => m + i = ys.length ∧ G i H, ⟨_, Nat.add_zero _, start⟩, ?_⟩
  rintro i m H ⟨em, g⟩
  have sq := there i H g
  rcases Nat.lt_or_ge i ys.length with hi | hi
  · right
    have at_ : ys[i]? = some ys[i] := List.getElem?_eq_getElem hi
    refine ⟨⟨ys, ys[i], sq, at_⟩, G (i + 1), fun H' g' => ⟨m - 1, by omega, by omega, g'⟩, ?_⟩
    rintro x H' ⟨rfl, hy⟩
    exact turn i x _ (hy ys sq) g
  · left
    have e : i = ys.length := by omega
    rw [e] at g
    exact ⟨⟨ys, sq, hi⟩, fin H g⟩
/-- any walk over a tuple, by what holds behind each item -/
theorem over_tup {K : PySem.W.Frag} {b : Addr} {ys : List V} {End : Hp → Prop} {T : (Hp → Prop) → V → Hp → Prop} {S : Hp} (G : Nat → Hp → Prop) (start : G 0 S) (there : ∀ i H, G i H → SqT K H b ys) (fin : ∀ H, G ys.length H → End H)
    (turn : ∀ i x H, ys[i]? = some x → G i H → T (G (i + 1)) x H) : ∃ M : Nat → Nat → Hp → Prop, (∃ m, M 0 m S) ∧ ∀ i m H, M i m H → ((Itt K b).stop i H ∧ End H) ∨ ((Itt K b).go i H ∧ ∃ Nx : Hp → Prop, (∀ H', Nx H' → ∃ m', m' < m ∧ M (i + 1) m' H') ∧ ∀ x H', (Itt K b).yld i H x H' → T Nx x H') := by
  refine ⟨fun i m H => m + i = ys.length ∧ G i H, ⟨_, Nat.add_zero _, start⟩, ?_⟩
  rintro i m H ⟨em, g⟩
  have sq := there i H g
  rcases Nat.lt_or_ge i ys.length with hi | hi
  · right
    have at_ : ys[i]? = some ys[i] := List.getElem?_eq_getElem hi
    refine ⟨⟨ys, ys[i], sq, at_⟩, G (i + 1), fun H' g' => ⟨m - 1, by omega, by omega, g'⟩, ?_⟩
    rintro x H' ⟨rfl, hy⟩
    exact turn i x _ (hy ys sq) g
  · left
    have e : i = ys.length := by omega
    rw [e] at g
    exact ⟨⟨ys, sq, hi⟩, fin H g⟩
theorem merge_all : ∀ (kvs acc : List (Key × V)), ((acc ++ kvs).map Prod.fst).Nodup → (mergeK acc kvs).length = acc.length + kvs.length
  | [], acc, _ => rfl
  | p :: r, acc, h => by
    have nv : valV acc p.1 = none := by
      cases e : valV acc p.1 with
      | none => rfl
      | some v =>
        have a := valV_any p.1 acc
        rw [e] at a
        obtain ⟨q, hq, hd⟩ := List.any_eq_true.mp a
        rw [List.map_append, List.nodup_append] at h
        exact absurd (of_decide_eq_true hd) (h.2.2 _ (List.mem_map_of_mem (f := Prod.fst) hq) _ (by simp))
    show (mergeK (putK acc p.1 p.2) r).length = _
    rw [putK_new p.2 nv, merge_all r _ (by rw [List.append_assoc]; exact h), List.length_append, List.length_cons, List.length_cons]
    simp only [List.length_nil]
    omega
theorem merge_less : ∀ (kvs acc : List (Key × V)), (acc.map Prod.fst).Nodup → ¬ ((acc ++ kvs).map Prod.fst).Nodup → (mergeK acc kvs).length < acc.length + kvs.length
  | [], acc, ha, h => by
    rw [List.append_nil] at h
    exact absurd ha h
  | p :: r, acc, ha, h => by
    show (mergeK (putK acc p.1 p.2) r).length < _
    by_cases e : (valV acc p.1).isSome = true
    · have le := length_mergeK r (putK acc p.1 p.2)
      have eq : (putK acc p.1 p.2).length = acc.length := by
        unfold putK
        rw [if_pos (by rw [valV_any]; exact e), List.length_map]
      rw [List.length_cons]
      omega
    · have nv : valV acc p.1 = none := by simpa using e
      rw [putK_new p.2 nv]
      have nm : p.1 ∉ acc.map Prod.fst := fun hm => by
        obtain ⟨q, hq, eq⟩ := List.mem_map.mp hm
        have a := valV_any p.1 acc
        rw [nv, List.any_eq_true.mpr ⟨q, hq, decide_eq_true eq⟩] at a
        cases a
      have z := merge_less r (acc ++ [(p.1, p.2)]) (by
        rw [List.map_append, List.nodup_append]
        refine ⟨ha, by simp, fun a h1 b h2 e => ?_⟩
        rw [show b = p.1 by simpa using h2] at e
        exact nm (e ▸ h1)) (by rw [List.append_assoc]; exact h)
      rw [List.length_append, List.length_cons, List.length_nil] at z
      rw [List.length_cons]
      omega
/-- a dict of pairs is as long as the row exactly if the texts are different -/
def kvOf (p : Str × Int) : Key × V := (.inr p.1, .int p.2)
def OneEach (ps : List (Str × Int)) : Prop := ∀ p ∈ ps, ∀ q ∈ ps, p.1 = q.1 → p.2 = q.2
theorem one_pw : ∀ {ps : List (Str × Int)}, ps.Pairwise (fun p q => p.1 ≠ q.1) → OneEach ps
  | [], _, p, hp, _, _, _ => by cases hp
  | r :: rs, h, p, hp, q, hq, e => by
    rw [List.pairwise_cons] at h
    rcases List.mem_cons.mp hp with e1 | h1
    · rcases List.mem_cons.mp hq with e2 | h2
      · rw [e1, e2]
      · exact absurd (e1 ▸ e) (h.1 q h2)
    · rcases List.mem_cons.mp hq with e2 | h2
      · exact absurd (e2 ▸ e.symm) (h.1 p h1)
      · exact one_pw h.2 p h1 q h2 e
theorem pw_one {ps : List (Str × Int)} (n : ps.Nodup) (h : OneEach ps) : ps.Pairwise (fun p q => p.1 ≠ q.1) :=
  List.Pairwise.imp_of_mem (fun {a b} ha hb ne e => ne (Prod.ext e (h a ha b hb e))) n
theorem keys_nodup {ps : List (Str × Int)} : ((ps.map kvOf).map Prod.fst).Nodup ↔ ps.Pairwise (fun p q => p.1 ≠ q.1) := by
  rw [List.map_map, List.Nodup, List.pairwise_map]
  constructor
  · exact fun h => h.imp fun {a b} z e => z (by show Sum.inr a.1 = Sum.inr b.1; rw [e])
  · exact fun h => h.imp fun {a b} z e => z (Sum.inr.inj e)
instance {ps : List (Str × Int)} : Decidable (OneEach ps) := by
  unfold OneEach
  infer_instance
theorem dict_len {ps : List (Str × Int)} (n : ps.Nodup) : decide (((mergeK [] (ps.map kvOf)).length : Int) < (ps.length : Int)) = !decide (OneEach ps) := by
  by_cases h : OneEach ps
  · rw [decide_eq_true h, Bool.not_true, decide_eq_false]
    have e := merge_all (ps.map kvOf) [] (keys_nodup.mpr (pw_one n h))
    rw [List.length_map] at e
    simp only [List.length_nil] at e
    omega
  · rw [decide_eq_false h, Bool.not_false, decide_eq_true]
    have e := merge_less (ps.map kvOf) [] List.nodup_nil (fun z => h (one_pw (keys_nodup.mp z)))
    rw [List.length_map] at e
    simp only [List.length_nil] at e
    omega
theorem one_mem {ps qs : List (Str × Int)} (h : ∀ p, p ∈ ps ↔ p ∈ qs) : OneEach ps ↔ OneEach qs :=
  ⟨fun z p hp q hq => z p ((h p).mpr hp) q ((h q).mpr hq), fun z p hp q hq => z p ((h p).mp hp) q ((h q).mp hq)⟩
/-! ### the nodes with words -/
theorem node_shape {d : PyData} (h : isNodeD d = true) : ∃ (x : Str) (k : Int), d = .tuple [.str x, .int k] ∧ 0 ≤ k ∧ k ≤ 3 := by
  match d, h with
  | .tuple [s, m], h =>
    have h' : (if isLeafD s = true then (isArityD m && PyData.eqv m (.int 0)) else (isWordD s && isArityD m)) = true := h
    have hm : isArityD m = true := by
      split at h' <;> simp only [Bool.and_eq_true] at h'
      · exact h'.1
      · exact h'.2
    have hs : ∃ x, s = .str x := by
      split at h'
      · rename_i g
        have g' : isLeafD s = true := g
        cases s with
        | str x => exact ⟨x, rfl⟩
        | _ => cases g'
      · simp only [Bool.and_eq_true] at h'
        cases s with
        | str x => exact ⟨x, rfl⟩
        | _ => cases h'.1
    obtain ⟨x, rfl⟩ := hs
    match m, hm with
    | .int k, hm =>
      have hm' : (isIntD (.int k) && (decide (0 ≤ k) && decide (k ≤ 3))) = true := hm
      simp only [Bool.and_eq_true, decide_eq_true_eq] at hm'
      exact ⟨x, k, rfl, hm'.2.1, hm'.2.2⟩
/-- the pairs of the nodes with words -/
def prOf : PyData → List (Str × Int)
  | .tuple [.str x, .int k] => if isLeafD (.str x) = true then [] else [(x, k)]
  | _ => []
def prsOf (ds : List PyData) : List (Str × Int) := ds.flatMap prOf
def keyP (p : Str × Int) : List Key := [.inr p.1, .inl p.2]
theorem keyP_inj {p q : Str × Int} (h : keyP p = keyP q) : p = q := by
  obtain ⟨x, i⟩ := p
  obtain ⟨y, j⟩ := q
  simp only [keyP, List.cons.injEq, Sum.inr.injEq, Sum.inl.injEq, and_true] at h
  rw [h.1, h.2]
/-- what is in the set behind n nodes -/
structure SetIs (H : Hp) (ds : List PyData) (n : Nat) (L : List (Addr × List Key)) : Prop where
  at_ : ∀ p ∈ L, ∃ q ∈ prsOf (ds.take n), p.2 = keyP q ∧ H p.1 = some (.tup [.str q.1, .int q.2])
  all : ∀ q ∈ prsOf (ds.take n), keyP q ∈ L.map Prod.snd
  nod : (L.map Prod.snd).Nodup
  len : L.length ≤ n
theorem SetIs.pairs {H : Hp} {ds : List PyData} {n : Nat} {L : List (Addr × List Key)} (h : SetIs H ds n L) : PairsAt H L := fun p hp => by
  obtain ⟨q, _, e1, e2⟩ := h.at_ p hp
  exact ⟨q.1, q.2, e1, e2⟩
theorem SetIs.members {H : Hp} {ds : List PyData} {n : Nat} {L : List (Addr × List Key)} (h : SetIs H ds n L) : Members H L := fun p hp => by
  obtain ⟨q, _, e1, e2⟩ := h.at_ p hp
  rw [e1]
  exact e2
theorem SetIs.same {H H' : Hp} {ds : List PyData} {n : Nat} {L : List (Addr × List Key)} (h : SetIs H ds n L) (k : ∀ p ∈ L, H' p.1 = H p.1) : SetIs H' ds n L :=
  ⟨fun p hp => by
    obtain ⟨q, m, e1, e2⟩ := h.at_ p hp
    exact ⟨q, m, e1, by rw [k p hp]; exact e2⟩, h.all, h.nod, h.len⟩
theorem prs_take {ds : List PyData} {n : Nat} {d : PyData} (h : ds[n]? = some d) : prsOf (ds.take (n + 1)) = prsOf (ds.take n) ++ prOf d := by
  rw [prsOf, List.take_add_one, h, List.flatMap_append]
  simp [prsOf]
theorem SetIs.none {H : Hp} {ds : List PyData} : SetIs H ds 0 [] := ⟨fun p hp => (by cases hp), fun q hq => (by cases hq), List.nodup_nil, Nat.le_refl _⟩
theorem SetIs.skip {H : Hp} {ds : List PyData} {n : Nat} {L : List (Addr × List Key)} {d : PyData} (h : SetIs H ds n L) (hd : ds[n]? = some d) (e : prOf d = []) : SetIs H ds (n + 1) L := by
  have t : prsOf (ds.take (n + 1)) = prsOf (ds.take n) := by rw [prs_take hd, e, List.append_nil]
  exact ⟨by rw [t]; exact h.at_, by rw [t]; exact h.all, h.nod, Nat.le_succ_of_le h.len⟩
theorem SetIs.add {H : Hp} {ds : List PyData} {n : Nat} {L L' : List (Addr × List Key)} {d : PyData} {q : Str × Int} {c : Addr} (h : SetIs H ds n L) (hd : ds[n]? = some d) (e : prOf d = [q]) (hc : H c = some (.tup [.str q.1, .int q.2]))
    (h1 : keyP q ∈ L.map Prod.snd → L' = L) (h2 : keyP q ∉ L.map Prod.snd → L'.Perm ((c, keyP q) :: L)) : SetIs H ds (n + 1) L' := by
  have t : prsOf (ds.take (n + 1)) = prsOf (ds.take n) ++ [q] := by rw [prs_take hd, e]
  by_cases m : keyP q ∈ L.map Prod.snd
  · rw [h1 m]
    refine ⟨fun p hp => ?_, fun r hr => ?_, h.nod, Nat.le_succ_of_le h.len⟩
    · obtain ⟨r, hr, z⟩ := h.at_ p hp
      exact ⟨r, by rw [t]; exact List.mem_append_left _ hr, z⟩
    · rw [t] at hr
      rcases List.mem_append.mp hr with hr | hr
      · exact h.all r hr
      · rw [List.mem_singleton.mp hr]
        exact m
  · have pm := h2 m
    have pm2 := pm.map Prod.snd
    refine ⟨fun p hp => ?_, fun r hr => ?_, pm2.nodup_iff.mpr ?_, by rw [pm.length_eq, List.length_cons]; exact Nat.succ_le_succ h.len⟩
    · rcases List.mem_cons.mp (pm.mem_iff.mp hp) with rfl | hp
      · exact ⟨q, by rw [t]; exact List.mem_append_right _ (List.mem_singleton.mpr rfl), rfl, hc⟩
      · obtain ⟨r, hr, z⟩ := h.at_ p hp
        exact ⟨r, by rw [t]; exact List.mem_append_left _ hr, z⟩
    · rw [t] at hr
      refine pm2.mem_iff.mpr ?_
      rcases List.mem_append.mp hr with hr | hr
      · exact List.mem_cons_of_mem _ (h.all r hr)
      · rw [List.mem_singleton.mp hr]
        exact List.mem_cons_self
    · exact List.nodup_cons.mpr ⟨m, h.nod⟩
theorem paired_map {α β γ : Type} {R : β → γ → Prop} {f : α → β} {g : α → γ} : ∀ {l : List α}, (∀ x ∈ l, R (f x) (g x)) → Paired R (l.map f) (l.map g)
  | [], _ => .nil
  | x :: l, h => .cons (h x List.mem_cons_self) (paired_map fun y hy => h y (List.mem_cons_of_mem _ hy))
theorem paired_r {α β γ : Type} {R : α → β → Prop} {S : α → γ → Prop} {f : β → γ} (h : ∀ a b, R a b → S a (f b)) : ∀ {l : List α} {m : List β}, Paired R l m → Paired S l (m.map f)
  | _, _, .nil => .nil
  | _, _, .cons a t => .cons (h _ _ a) (paired_r h t)
theorem DxAll.app {H : Hp} : ∀ {xs ys : List V} {ds es : List PyData}, DxAll H xs ds → DxAll H ys es → DxAll H (xs ++ ys) (ds ++ es)
  | _, _, _, _, .nil, h => h
  | _, _, _, _, .cons a t, h => .cons a (DxAll.app t h)
theorem DxAll.take {H : Hp} : ∀ {xs : List V} {ds : List PyData} (n : Nat), DxAll H xs ds → DxAll H (xs.take n) (ds.take n)
  | _, _, 0, _ => by
    rw [List.take_zero, List.take_zero]
    exact .nil
  | _, _, n + 1, .nil => .nil
  | _, _, n + 1, .cons a t => .cons a (DxAll.take n t)
theorem SetIs.told {H : Hp} {ds : List PyData} {L : List (Addr × List Key)} {as : List Addr} (h : SetIs H ds ds.length L) (pa : as.Perm (L.map Prod.fst)) :
    ∃ ps : List (Str × Int), Paired (fun b q => H b = some (.tup [.str q.1, .int q.2])) as ps ∧ ps.Nodup ∧ ∀ q, q ∈ ps ↔ q ∈ prsOf ds := by
  obtain ⟨L', pL, rfl⟩ := perm_map_inv pa L rfl
  have get : ∀ p ∈ L', p.2 = keyP (pairAt H p.1) ∧ H p.1 = some (.tup [.str (pairAt H p.1).1, .int (pairAt H p.1).2]) ∧ pairAt H p.1 ∈ prsOf ds := fun p hp => by
    obtain ⟨q, hq, e1, e2⟩ := h.at_ p (pL.mem_iff.mp hp)
    rw [List.take_length] at hq
    have e : pairAt H p.1 = q := by
      unfold pairAt
      rw [e2]
    rw [e]
    exact ⟨e1, e2, hq⟩
  refine ⟨L'.map fun p => pairAt H p.1, paired_map fun p hp => (get p hp).2.1, ?_, fun q => ⟨fun hq => ?_, fun hq => ?_⟩⟩
  · have nd : (L'.map Prod.snd).Nodup := (pL.map Prod.snd).nodup_iff.mpr h.nod
    rw [List.Nodup, List.pairwise_map] at nd ⊢
    refine List.Pairwise.imp_of_mem (fun {a b} ha hb ne e => ne ?_) nd
    rw [(get a ha).1, (get b hb).1, e]
  · obtain ⟨p, hp, rfl⟩ := List.mem_map.mp hq
    exact (get p hp).2.2
  · have z := h.all q (by rw [List.take_length]; exact hq)
    obtain ⟨p, hp, e⟩ := List.mem_map.mp z
    have hp' := pL.mem_iff.mpr hp
    refine List.mem_map.mpr ⟨p, hp', keyP_inj ?_⟩
    rw [← (get p hp').1, e]
theorem prOf_leaf {x : Str} {k : Int} (h : isLeafD (.str x) = true) : prOf (.tuple [.str x, .int k]) = [] := if_pos h
theorem prOf_word {x : Str} {k : Int} (h : isLeafD (.str x) = false) : prOf (.tuple [.str x, .int k]) = [(x, k)] := if_neg (by rw [h]; decide)
/-- what stood ahead of the making of an instance stands behind it -/
theorem mk_same {H H' : Hp} {x dx C : Addr} {o : HO} (nx : H x = none) (ndx : H dx = none) (s' : Same (upd (upd H dx (.own x)) x (.ins C dx [])) H') : Same H (upd H' x o) := fun b u e => by
  have n1 := ne_of_none e nx
  rw [upd_ne n1]
  exact s' _ _ (by rw [upd_ne n1, upd_ne (ne_of_none e ndx)]; exact e)
theorem mk_new {H : Hp} {x dx C : Addr} (nx : H x = none) (ndx : H dx = none) : Same H (upd (upd H dx (.own x)) x (.ins C dx [])) := fun b u e => by
  rw [upd_ne (ne_of_none e nx), upd_ne (ne_of_none e ndx)]
  exact e
/-- the promises of a def that calls itself, at all depths -/
theorem fn_depth {P : Program} {w : World} {K : PySem.W.Frag} {mg : Str → Option Value} {base : Heap} {off : Nat} {f : Addr} {fd : FuncData} {ps : List Str} {sp : Nat → Sp} (G : ∀ n, FnOk P w K mg base CX0 (n + off) f fd ps (sp n)) :
    FnOk P w K mg base CX0 (4 + off) f fd ps (fun vs H Q E => ∃ n, n ≤ 4 ∧ sp n vs H Q E) :=
  ⟨fun vs H Q E ⟨n, _, h⟩ => (G n).len vs H Q E h, fun A outer s H args us vs Q E hr e0 b r ⟨n, hn, h⟩ => (G n).run A outer s H args us vs Q E (hr.mono (by omega)) e0 b r h⟩
/-! ### data without lists stands where its tuples stand -/
mutual
theorem dx_tk {H H' : Hp} (t : ∀ (b : Addr) (xs : List V), H b = some (.tup xs) → H' b = some (.tup xs)) : ∀ {d : PyData} {v : V}, Dx H v d → listfree d = true → dictfree d = true → Dx H' v d
  | .none, _, h, _, _ => by cases h; exact .non
  | .bool b, _, h, _, _ => by cases h; exact .bl b
  | .int i, _, h, _, _ => by cases h; exact .int i
  | .str x, _, h, _, _ => by cases h; exact .str x
  | .list ds, _, h, f, _ => by
    simp only [listfree] at f
    cases f
  | .tuple ds, _, h, f, g => by
    cases h with
    | tup h1 h2 => exact .tup (t _ _ h1) (dxAll_tk t h2 (by simpa only [listfree] using f) (by simpa only [dictfree] using g))
  | .dict kvs, _, h, _, g => by
    simp only [dictfree] at g
    cases g
theorem dxAll_tk {H H' : Hp} (t : ∀ (b : Addr) (xs : List V), H b = some (.tup xs) → H' b = some (.tup xs)) : ∀ {ds : List PyData} {vs : List V}, DxAll H vs ds → listfreeAll ds = true → dictfreeAll ds = true → DxAll H' vs ds
  | [], _, h, _, _ => by cases h; exact .nil
  | d :: ds, _, h, f, g => by
    simp only [listfreeAll, Bool.and_eq_true] at f
    simp only [dictfreeAll, Bool.and_eq_true] at g
    cases h with
    | cons h1 h2 => exact .cons (dx_tk t h1 f.1 g.1) (dxAll_tk t h2 f.2 g.2)
end
theorem paired_app {α β : Type} {R : α → β → Prop} : ∀ {a c : List α} {b d : List β}, Paired R a b → Paired R c d → Paired R (a ++ c) (b ++ d)
  | _, _, _, _, .nil, h => h
  | _, _, _, _, .cons x t, h => .cons x (paired_app t h)
theorem paired_memr {α β : Type} {R S : α → β → Prop} : ∀ {a : List α} {b : List β}, Paired R a b → (∀ x y, y ∈ b → R x y → S x y) → Paired S a b
  | _, _, .nil, _ => .nil
  | _, _, .cons x t, h => .cons (h _ _ List.mem_cons_self x) (paired_memr t fun x y hy => h x y (List.mem_cons_of_mem _ hy))
theorem paired_take {α β : Type} {R : α → β → Prop} : ∀ {a : List α} {b : List β} (n : Nat), Paired R a b → Paired R (a.take n) (b.take n)
  | _, _, 0, _ => by
    rw [List.take_zero, List.take_zero]
    exact .nil
  | _, _, _ + 1, .nil => .nil
  | _, _, n + 1, .cons x t => .cons x (paired_take n t)
end Fn

set_option Elab.async false
set_option maxRecDepth 100000
set_option maxHeartbeats 2000000
/-! Texts of rows of nodes, read from the right. -/
namespace Fn
open PySem PySem.Spec PyProof.Rows L2
/-- the texts that stand ahead when the nodes are read from the right -/
def textsF : List (Str × Int) → List Str
  | [] => []
  | (x, k) :: r => (if decide (k > 0) = true then x ++ "(" ++ Txt.join ", " ((textsF r).take k.toNat) ++ ")" else x) :: (textsF r).drop k.toNat
def sumL (l : List Str) : Nat := (l.map (·.length)).sum
theorem sumL_cut (n : Nat) (l : List Str) : sumL (l.take n) + sumL (l.drop n) = sumL l := by
  unfold sumL
  rw [← List.sum_append, ← List.map_append, List.take_append_drop]
def wOf (p : Str × Int) : Nat := p.1.length + 2 + 2 * p.2.toNat
theorem texts_sum : ∀ ps : List (Str × Int), sumL (textsF ps) ≤ (ps.map wOf).sum
  | [] => Nat.le_refl _
  | (x, k) :: r => by
    have ih := texts_sum r
    have cut := sumL_cut k.toNat (textsF r)
    have j := StrLaws.join_length_le (", " : Str) ((textsF r).take k.toNat)
    have tl : ((textsF r).take k.toNat).length ≤ k.toNat := by
      rw [List.length_take]
      omega
    have l2 : ((", " : Str)).length = 2 := by decide +kernel
    have l1 : (("(" : Str)).length = 1 := by decide +kernel
    have l1' : ((")" : Str)).length = 1 := by decide +kernel
    rw [l2] at j
    have first : (if decide (k > 0) = true then x ++ "(" ++ Txt.join ", " ((textsF r).take k.toNat) ++ ")" else x).length ≤ x.length + 2 + sumL ((textsF r).take k.toNat) + 2 * k.toNat := by
      split
      · rw [strLen_append, strLen_append, strLen_append, l1, l1']
        have j' : (Txt.join ", " ((textsF r).take k.toNat)).length ≤ sumL ((textsF r).take k.toNat) + ((textsF r).take k.toNat).length * 2 := by
          rw [show Txt.join (", " : Str) ((textsF r).take k.toNat) = Str.join (", " : Str) ((textsF r).take k.toNat) from TL.join_eq _ _]
          exact j
        omega
      · omega
    show sumL (_ :: (textsF r).drop k.toNat) ≤ wOf (x, k) + (r.map wOf).sum
    have e : sumL ((if decide (k > 0) = true then x ++ "(" ++ Txt.join ", " ((textsF r).take k.toNat) ++ ")" else x) :: (textsF r).drop k.toNat) = (if decide (k > 0) = true then x ++ "(" ++ Txt.join ", " ((textsF r).take k.toNat) ++ ")" else x).length + sumL ((textsF r).drop k.toNat) := by
      unfold sumL
      rw [List.map_cons, List.sum_cons]
    rw [e]
    show _ ≤ x.length + 2 + 2 * k.toNat + (r.map wOf).sum
    omega
theorem cut_head {xs : List V} {k : Int} (h : 0 ≤ k) : cutV xs none (some k) = xs.take k.toNat := by
  obtain ⟨n, rfl⟩ := Int.eq_ofNat_of_zero_le h
  have a : HT.sIx xs.length xs.length (some (n : Int)) = min n xs.length := HT.sIx_nat _ _ _
  have b : HT.sIx xs.length 0 (none : Option Int) = 0 := rfl
  unfold cutV
  rw [a, b, List.drop_zero, Nat.sub_zero, Int.toNat_natCast]
  rcases Nat.le_total n xs.length with h | h
  · rw [Nat.min_eq_left h]
  · rw [Nat.min_eq_right h, List.take_of_length_le (Nat.le_refl _), List.take_of_length_le h]
theorem cut_tail {xs : List V} {k : Int} (h : 0 ≤ k) : cutV xs (some k) none = xs.drop k.toNat := by
  obtain ⟨n, rfl⟩ := Int.eq_ofNat_of_zero_le h
  have a : HT.sIx xs.length 0 (some (n : Int)) = min n xs.length := HT.sIx_nat _ _ _
  have b : HT.sIx xs.length xs.length (none : Option Int) = xs.length := rfl
  unfold cutV
  rw [a, b, Int.toNat_natCast]
  rcases Nat.le_total n xs.length with h | h
  · rw [Nat.min_eq_left h, List.take_of_length_le (by rw [List.length_drop]; exact Nat.le_refl _)]
  · rw [Nat.min_eq_right h, List.drop_length, List.take_nil, List.drop_eq_nil_of_le h]
theorem texts_len : ∀ ps : List (Str × Int), (textsF ps).length ≤ ps.length
  | [] => Nat.le_refl _
  | (x, k) :: r => by
    have ih := texts_len r
    show (_ :: (textsF r).drop k.toNat).length ≤ r.length + 1
    rw [List.length_cons, List.length_drop]
    omega
theorem node_len {x : Str} {k : Int} (h : isNodeD (.tuple [.str x, .int k]) = true) : x.length ≤ 8 := by
  have h' : (if isLeafD (.str x) = true then (isArityD (.int k) && PyData.eqv (.int k) (.int 0)) else (isWordS x && isArityD (.int k))) = true := h
  split at h'
  · rename_i g
    have g' : ([.str "_", .str "#"] : List PyData).any (fun z => PyData.eqv z (.str x)) = true := g
    simp only [List.any_cons, List.any_nil, Bool.or_false, Bool.or_eq_true] at g'
    rcases g' with z | z
    · have e : ("_" : Str) = x := by simpa [PyData.eqv] using z
      rw [← e]
      decide +kernel
    · have e : ("#" : Str) = x := by simpa [PyData.eqv] using z
      rw [← e]
      decide +kernel
  · rw [Bool.and_eq_true] at h'
    have w := h'.1
    simp only [isWordS, Bool.and_eq_true, decide_eq_true_eq] at w
    exact w.1.2
end Fn

set_option Elab.async false
set_option maxRecDepth 100000
set_option maxHeartbeats 4000000
/-! Own exceptions as values: classes over any built-in base, with an __init__ that stores, or without one. -/
namespace Fn
open PySem
/-! ### making one: the new object, then the own __init__ -/
/-- what a class must have whose mro goes on with bm behind itself -/
structure NewF (B newId initId : String) (bmB bm : List Value) : Prop where
  F : ExcBaseFacts B newId initId bmB
  cB : bm.contains (.type B) = true
  cA : bm.contains (.type "AttributeError") = false
  cN : bm.contains (.type "NameError") = false
section
variable {M : Model} {A : Around} {E : Value → Shared → Prop} {h : Heap} {g : Array GenState} {d : Drawn} {t : Nat} {os : OsState}
variable {nm q : Str} {C N : Addr} {bs bm bmB : List Value} {hdct : Bool} {sn : List Str} {sub : List Value} {ab : Bool} {col : Option Bool} {dd : Option Addr} {k0 k1 k2 k3 k5 : Option Value} {B newId initId : String}
open Builtin Builtin.ObjectAttr
theorem newF_check (Z : NewF B newId initId bmB bm) {rest : List Value} {Q : Unit → Shared → Prop} (hCls : h.get? C = some (excClassObj nm q C N bs bm hdct sn sub ab col dd k0 k1 k2 k3 k5 newId))
    (hq : Q () ⟨h, g, d, t, os⟩) : wpAny M A (checkBuiltinCall newId ⟨.ref C :: rest, []⟩) Q E ⟨h, g, d, t, os⟩ := by
  have hAll : (Value.ref C :: bm).contains (.type B) = true := by (rw [List.contains_cons, Z.cB]; exact Bool.or_true _)
  have hStar := Z.F.noStar
  simp only [checkBuiltinCall, Z.F.newKind, Z.F.newSplit, Z.F.newRow]
  repeat (first
    | refine wpAny_loadPart_at hCls ?_
    | (refine wpAny_isSubtype_exc hCls ?_; rw [hAll])
    | refine wpAny_staticBase_exc hCls ?_
    | refine wpAny_madeBy_exc hCls ?_
    | simp only [bne_self_eq_false, Bool.false_eq_true, ↓reduceIte]
    | wp_step)
  exact hq
end
section
variable {prog : Program} {w : World} {A : Around} {E : Value → Shared → Prop} {R : Result → Shared → Prop} {h : Heap} {g : Array GenState} {d : Drawn} {t : Nat} {os : OsState}
variable {nm q : Str} {C N : Addr} {bs bm bmB : List Value} {hdct : Bool} {sn : List Str} {sub : List Value} {ab : Bool} {col : Option Bool} {dd : Option Addr} {k0 k1 k2 k3 k5 : Option Value} {B newId initId : String}
open PySem.HandSPX
theorem newF_new (Z : NewF B newId initId bmB bm) {rest : List Value} (hCls : h.get? C = some (excClassObj nm q C N bs bm hdct sn sub ab col dd k0 k1 k2 k3 k5 newId))
    (hq : R (.ok (.ret (.ref (h.objs.size + 1)))) ⟨(h.push { cls := .type "tuple", data := .seq rest.toArray }).push (excO C h.objs.size), g, d, t, os⟩) (hlen : rest.length ≤ sizeLine) :
    codeAny (model prog w) A (.builtin newId ⟨.ref C :: rest, []⟩) R ⟨h, g, d, t, os⟩ := by
  have hEnds := Z.F.ends
  have hB : (Value.ref C :: bm).contains (.type B) = true := by (rw [List.contains_cons, Z.cB]; exact Bool.or_true _)
  have hA : (Value.ref C :: bm).contains (.type "AttributeError") = false := by (rw [List.contains_cons, Z.cA]; rfl)
  have hN : (Value.ref C :: bm).contains (.type "NameError") = false := by (rw [List.contains_cons, Z.cN]; rfl)
  refine codeAny_builtinAt Z.F.entry ?_
  unfold Builtin.«BaseException.__new__»
  refine wpAt_bind ?_
  show wpAt _ _ _ (stack >>= _) _ _ _
  refine wpAt_bind (wpAt_stack fun _ _ => wpAt_of_wpAny ?_)
  wp_walk
  refine wpAt_of_wpAny ?_
  rw [Z.F.owner]
  repeat (first
    | with_reducible refine wpAny_madeHere_exc Z.F.canon hCls ?_
    | with_reducible refine wpAny_loadPart_at hCls ?_
    | (with_reducible refine wpAny_isSubtype_exc hCls ?_; first | rw [hB] | rw [hA] | rw [hN])
    | wp_step)
  show R _ _
  rw [Heap.size_push]
  exact hq
theorem newF_type (Z : NewF B newId initId bmB bm) {rest : List Value} {fI : Addr} {Q : Fin → Shared → Prop} (hCls : h.get? C = some (excClassObj nm q C N bs bm hdct sn sub ab col dd k0 k1 k2 k3 k5 newId))
    (hi : W.Looks (model prog w) h (typeLookup (.ref C) "__init__") (some (.ref fI))) (hb : ∀ me, W.Looks (model prog w) h (bindSpecial (.ref fI) me) (.ref fI, [me])) (hlen : rest.length ≤ sizeLine)
    (hq : codeAny (model prog w) A (.call (.ref fI) ⟨.ref (h.objs.size + 1) :: rest, []⟩)
      (fun r s' => match r with | .ok (.ret v) => v = .none ∧ Q (.done (.ret (.ref (h.objs.size + 1)))) s' | .ok _ => False | .error e => E e s') ⟨(h.push (W.kdv_tup rest)).push (excO C h.objs.size), g, d, t, os⟩) :
    wpAny (model prog w) A (Builtin.«type.__call__» ⟨.ref C :: rest, []⟩) Q E ⟨h, g, d, t, os⟩ := by
  repeat (first
    | with_reducible refine wpAny_loadPart_at hCls ?_
    | with_reducible refine wpAny_madeBy_exc hCls ?_
    | wp_step)
  refine codeAny_call_builtin_code (Code.quiet_builtin _ Z.F.quiet) (newF_check Z hCls ?_)
  refine newF_new Z hCls ?_ hlen
  show wpAny _ _ _ _ _ _
  have kp : ∀ b o, h.get? b = some o → ((h.push (W.kdv_tup rest)).push (excO C h.objs.size)).get? b = some o := fun b o z => Heap.get?_push_of_some _ (Heap.get?_push_of_some _ z)
  have hCls2 := kp _ _ hCls
  have hObj : ((h.push (W.kdv_tup rest)).push (excO C h.objs.size)).get? (h.objs.size + 1) = some (excO C h.objs.size) := by heap_get
  have hIs : (Value.ref C :: bm).contains (.ref C) = true := by simp
  have li := hi.keeps kp
  have lb := (hb (.ref (h.objs.size + 1))).keeps kp
  unfold isInstance
  repeat (first
    | with_reducible refine wpAny_loadPart_at hObj ?_
    | (with_reducible refine wpAny_isSubtype_exc hCls2 ?_; rw [hIs])
    | wp_step)
  show wpAny _ _ (typeLookup (.ref C) _) _ _ _
  refine li.at ?_
  refine wpAny_holding (wpAny_bind (lb.at ?_))
  refine wpAny_bind (wpAny_call (codeAny_mono hq fun r s' z => ?_))
  rcases r with e | (v | _ | _ | _) <;> first | exact z | exact z.elim | skip
  obtain ⟨rfl, z⟩ := z
  first
    | exact wpAny_pure (wpAny_pure z)
    | (wp_walk <;> exact z)
theorem newF_call (Z : NewF B newId initId bmB bm) {rest : List Value} {fI : Addr} (hCls : h.get? C = some (excClassObj nm q C N bs bm hdct sn sub ab col dd k0 k1 k2 k3 k5 newId))
    (hi : W.Looks (model prog w) h (typeLookup (.ref C) "__init__") (some (.ref fI))) (hb : ∀ me, W.Looks (model prog w) h (bindSpecial (.ref fI) me) (.ref fI, [me])) (hlen : rest.length ≤ sizeLine)
    (hq : codeAny (model prog w) (A.under (.builtin "type.__call__" ⟨.ref C :: rest, []⟩)) (.call (.ref fI) ⟨.ref (h.objs.size + 1) :: rest, []⟩) (W.InitBack (h.objs.size + 1) R) ⟨(h.push (W.kdv_tup rest)).push (excO C h.objs.size), g, d, t, os⟩) :
    codeAny (model prog w) A (.call (.ref C) ⟨rest, []⟩) R ⟨h, g, d, t, os⟩ := by
  have fa := tc_lookup
  have fb := tc_bind (.ref C)
  have ty : (⟨h, g, d, t, os⟩ : Shared).TypeIs (.ref C) "type" := ⟨_, hCls, rfl⟩
  refine codeAny_of_tree ?_
  show wpAny _ _ (callAny (.ref C) _) _ _ _
  repeat (any_goals (first
    | assumption
    | with_reducible refine wpAny_loadPart_at hCls ?_
    | wp_step))
  refine ⟨rfl, ?_⟩
  refine codeAny_call_builtin_at (Code.quiet_builtin _ (by decide +kernel)) entry_typeCall (wpAny_check_type_call_sub hCls (newF_type Z hCls hi hb hlen ?_))
  refine codeAny_mono hq fun r s' z => ?_
  rcases r with e | (v | _ | _ | _) <;> exact z
end
end Fn
namespace Fn
open PySem PySem.Spec PyProof.Rows L2
/-! ### the classes -/
/-- own classes, then this tail -/
theorem ownT_cases (T : List Value) : ∀ l : List Value, ownT T l = true → (∃ c r, l = .ref c :: r ∧ ownT T r = true) ∨ l = T
  | .ref c :: r, e => .inl ⟨c, r, rfl, e⟩
  | [], e => .inr (beq_iff_eq.mp e)
  | .none :: _, e => .inr (beq_iff_eq.mp e)
  | .ellipsis :: _, e => .inr (beq_iff_eq.mp e)
  | .notImplemented :: _, e => .inr (beq_iff_eq.mp e)
  | .bool _ :: _, e => .inr (beq_iff_eq.mp e)
  | .int _ _ :: _, e => .inr (beq_iff_eq.mp e)
  | .float _ _ :: _, e => .inr (beq_iff_eq.mp e)
  | .str _ _ :: _, e => .inr (beq_iff_eq.mp e)
  | .bytes _ _ :: _, e => .inr (beq_iff_eq.mp e)
  | .type _ :: _, e => .inr (beq_iff_eq.mp e)
  | .builtin _ :: _, e => .inr (beq_iff_eq.mp e)
theorem ownT_pass {T : List Value} (p : ∀ me, refuseLoop me "__setattr__" T = pure ()) (me : Value) : ∀ l : List Value, ownT T l = true → refuseLoop me "__setattr__" l = pure ()
  | l, e => by
    induction l with
    | nil =>
      rcases ownT_cases T [] e with ⟨c, r, q, _⟩ | q
      · cases q
      · rw [q]
        exact p me
    | cons a r ih =>
      rcases ownT_cases T (a :: r) e with ⟨c, r', q, h⟩ | q
      · obtain ⟨rfl, rfl⟩ := List.cons.inj q
        rw [refuseLoop_ref]
        exact ih h
      · rw [q]
        exact p me
theorem ownT_has {T : List Value} (x : String) : ∀ l : List Value, ownT T l = true → l.contains (.type x) = T.contains (.type x)
  | l, e => by
    induction l with
    | nil =>
      rcases ownT_cases T [] e with ⟨c, r, q, _⟩ | q
      · cases q
      · rw [q]
    | cons a r ih =>
      rcases ownT_cases T (a :: r) e with ⟨c, r', q, h⟩ | q
      · obtain ⟨rfl, rfl⟩ := List.cons.inj q
        rw [List.contains_cons, ih h]
        rfl
      · rw [q]
/-- a built-in base: its facts, its mro T -/
structure BaseX (B newId initId : String) (bmB T : List Value) : Prop where
  F : ExcBaseFacts B newId initId bmB
  cB : T.contains (.type B) = true
  cA : T.contains (.type "AttributeError") = false
  cN : T.contains (.type "NameError") = false
  cO : T.contains (.type "object") = true
  pass : ∀ me, refuseLoop me "__setattr__" T = pure ()
theorem BaseX.new {B newId initId : String} {bmB T bm : List Value} (Z : BaseX B newId initId bmB T) (h : ownT T bm = true) : NewF B newId initId bmB bm :=
  ⟨Z.F, by rw [ownT_has _ _ h]; exact Z.cB, by rw [ownT_has _ _ h]; exact Z.cA, by rw [ownT_has _ _ h]; exact Z.cN⟩
theorem bVal : BaseX "ValueError" "ValueError.__new__" "ValueError.__init__" tVal tVal := ⟨PySem.F.excBase_ValueError, by decide +kernel, by decide +kernel, by decide +kernel, by decide +kernel, fun me => by kernel_rfl⟩
theorem bKey : BaseX "LookupError" "LookupError.__new__" "LookupError.__init__" tLok tKey := ⟨PySem.F.excBase_LookupError, by decide +kernel, by decide +kernel, by decide +kernel, by decide +kernel, fun me => by kernel_rfl⟩
theorem bLok : BaseX "LookupError" "LookupError.__new__" "LookupError.__init__" tLok tLok := ⟨PySem.F.excBase_LookupError, by decide +kernel, by decide +kernel, by decide +kernel, by decide +kernel, fun me => by kernel_rfl⟩
theorem bIdx : BaseX "IndexError" "IndexError.__new__" "IndexError.__init__" tIdx tIdx := ⟨PySem.F.excBase_IndexError, by decide +kernel, by decide +kernel, by decide +kernel, by decide +kernel, fun me => by kernel_rfl⟩
theorem bOvf : BaseX "OverflowError" "OverflowError.__new__" "OverflowError.__init__" tOvf tOvf := ⟨PySem.F.excBase_OverflowError, by decide +kernel, by decide +kernel, by decide +kernel, by decide +kernel, fun me => by kernel_rfl⟩
theorem bAri : BaseX "ArithmeticError" "ArithmeticError.__new__" "ArithmeticError.__init__" tAri tAri := ⟨PySem.F.excBase_ArithmeticError, by decide +kernel, by decide +kernel, by decide +kernel, by decide +kernel, fun me => by kernel_rfl⟩
theorem bRun : BaseX "RuntimeError" "RuntimeError.__new__" "RuntimeError.__init__" tRun tRun := ⟨PySem.F.excBase_RuntimeError, by decide +kernel, by decide +kernel, by decide +kernel, by decide +kernel, fun me => by kernel_rfl⟩
/-- the class at C in the written part: its tail T, what makes it -/
theorem clsX_obj {K : PySem.W.Frag} {C : Addr} {T : List Value} {newId : String} (h : clsX K C T newId = true) :
    ∃ nm q N bs bm sn sub ab col dd k0 k1 k2 k3 k5, K.lookup C = some (excClassObj nm q C N bs bm true sn sub ab col dd k0 k1 k2 k3 k5 newId) ∧ ownT T bm = true := by
  unfold clsX at h
  split at h
  · rename_i dd cd sl e
    split at h
    · rename_i C' bm k0 k1 k2 k3 n k5 e1 e2
      simp only [Bool.and_eq_true, beq_iff_eq] at h
      obtain ⟨⟨⟨⟨h1, h2⟩, h3⟩, h4⟩, h5⟩ := h
      subst h1 h2
      obtain ⟨nm, bs, mro, ns, qn, hd, sn, sb, ab, col, del⟩ := cd
      simp only at e1 h3 h4
      subst e1
      have h3' : del = false := by simpa using h3
      subst h3' h4
      refine ⟨nm, qn, ns, bs, bm, sn, sb, ab, col, dd, k0, k1, k2, k3, k5, ?_, h5⟩
      rw [e]
      have : sl = #[k0, k1, k2, k3, some (.builtin n), k5] := by
        rw [← Array.toArray_toList (xs := sl), e2]
      rw [this]
    · cases h
  · cases h
end Fn
namespace PySem.W
open PySem PySem.Spec PySem.Calls PyProof.Rows
section
variable {prog : Program} {w : World} {A : Around} {E : Value → Shared → Prop} {s : Shared} {K : Frag} {x D : Addr} {ox : Obj} {od : Option Obj}
theorem fn_findObj {K : Frag} {C : Addr} {od : Option Obj} {name : Str} {a g : Value} (hc : (clsIn K C).isSome = true) (ha : findIn K (.ref C) name = some (some a)) (hg : specialIn K a "__get__" = some (some g)) (ht : takesIn K a = some true) : findObj K C od name = some (.bind g a) := by
  cases od with
  | none => exact findObj_dataN hc ha hg ht
  | some o => exact findObj_data hc ha hg ht
theorem fn_class {Q : Option Value → Shared → Prop} (T : L2.ExcC K D) (X : K.In s.heap) (I : InstAt s.heap x ox D od) (h : Q (some (.ref D)) { s with toks := s.toks + 1 }) : wpAny (model prog w) A (getAttr? (.ref x) "__class__") Q E s := by
  have fo : findObj K D od "__class__" = some (.bind (.builtin "getset_descriptor.__get__") (.builtin "object.__class__")) := fn_findObj (by obtain ⟨cd, hcd, _⟩ := any_some T.hd; rw [hcd]; rfl) T.ha T.hn T.ht
  obtain ⟨hh, gs, dr, tk, ost⟩ := s
  have l0 := I.type (M := model prog w)
  have l1 := looks_findIn (M := model prog w) X T.hg
  have l2 := looks_findIn (M := model prog w) X T.hk
  have l3 := looks_find (M := model prog w) X I fo
  have ls : Looks (model prog w) hh (isInstance (.ref x) (.type "BaseException")) true := l0.andThen (looks_subIn X T.hs)
  have z0 : (false && onTheHeap (Value.builtin "BaseException.__getattribute__")) = false := rfl
  have z2 : (Value.builtin "BaseException.__getattribute__" == Value.builtin "object.__getattribute__") = false := by decide +kernel
  have z1 : (onTheHeap (Value.ref D) && Value.builtin "BaseException.__getattribute__" == Value.builtin "object.__getattribute__") = false := by (rw [z2]; rfl)
  unfold getAttr? getAttrBy? getAttrBy
  refine wpAny_bind (wpAny_mkText (wpAny_bind (wpAny_attempt (wpAny_holding (wpAny_bind (l0.at (wpAny_bind (l1.at ?_))))))))
  show wpAny _ _ (if (onTheHeap (Value.ref D) && Value.builtin "BaseException.__getattribute__" == Value.builtin "object.__getattribute__") = true then _ else _) _ _ _
  rw [z1, if_neg Bool.false_ne_true]
  unfold getAttrByItsOwn hookBefore
  refine wpAny_bind ?_
  rw [if_pos (show (onTheHeap (Value.ref D)) = true from rfl)]
  refine l2.at ?_
  refine (wpAny_bind (wpAny_attempt (wpAny_holding ?_)))
  unfold callGetattribute
  rw [z0, if_neg Bool.false_ne_true]
  unfold boundAndCalled
  rw [PySem.F.excAttr_ValueError.ga.bind (Value.ref x)]
  refine (wpAny_bind (wpAny_pure ?_))
  show wpAny _ _ (call (.builtin "BaseException.__getattribute__") [.ref x, .str "__class__" tk]) _ _ _
  refine (wpAny_call (codeAny_call_builtin PySem.F.excAttr_ValueError.ga.plain PySem.F.entry_bexc_ga ?_))
  refine @check_slot (model prog w) _ _ ⟨hh, gs, dr, tk + 1, ost⟩ "BaseException.__getattribute__" "BaseException" "__getattribute__" (.ref x) [.str "__class__" tk] [] _ (by decide +kernel) (by decide +kernel) ls (PySem.F.args_bexc_ga (.ref x) (.str "__class__" tk)) ?_
  unfold Builtin.«object.__getattribute__»
  refine (wpAny_bind (wpAny_of_eq (a := ((Value.ref x : Value), [Value.str "__class__" tk])) (by first | exact rfl | (simp only [slotArgs]; rfl)) ?_))
  refine (wpAny_bind (wpAny_pure (wpAny_bind (l0.at (wpAny_bind (l3.at ?_))))))
  show wpAny _ _ ((holding [Value.builtin "object.__class__"] (call (.builtin "getset_descriptor.__get__") [.builtin "object.__class__", .ref x, .ref D])) >>= ret) _ _ _
  refine wpAny_bind (wpAny_holding (wpAny_call (class_get (s := ⟨hh, gs, dr, tk + 1, ost⟩) (ox := ox) (od := od) X I T.hm ?_)))
  refine wpAny_pure ?_
  show wpAny _ _ (handedOut (Value.ref D)) _ _ _
  rw [handedOut_of (v := Value.ref D) rfl]
  first
    | exact (wpAny_pure (wpAny_pure h))
    | exact wpAny_pure h
    | exact (wpAny_pure (wpAny_bind (wpAny_pure (wpAny_pure h))))
theorem fn_kitx (T : L2.ExcC K D) : KitX K (.ref x) (.ref D) (fun h => ∃ ox od, InstAt h x ox D od) where
  ty := fun _ _ _ ⟨_, _, I⟩ => I.type
  it := fun _ _ X _ => by
    obtain ⟨cd, hcd, _⟩ := any_some T.hd
    unfold clsIn at hcd
    split at hcd
    · rename_i c' d' cd' sl' ho
      intro A' Q' E' s' k q
      unfold isType loadHead
      exact wpAny_bind (wpAny_loadPart (k _ _ (X _ _ ho)) (wpAny_pure q))
    · cases hcd
  ne := fun h tp dd its n sl X htp => by
    obtain ⟨cd, hcd, _⟩ := any_some T.hd
    refine Bool.eq_false_iff.mpr fun q => ?_
    have e := Value.ref.inj (beq_iff_eq.mp q)
    subst e
    unfold clsIn at hcd
    split at hcd
    · rename_i c' d' cd' sl' ho
      cases (X _ _ ho).symm.trans htp
    · cases hcd
  ca := fun X ⟨_, _, I⟩ k => fn_class T X I k
end
end PySem.W
namespace Fn
open PySem PySem.Spec PyProof.Rows L2
/-- an exception that was made: of the class at C; its one text, if it was made with one -/
def exT (a C t : Addr) : HO := .ext fun h => h.get? a = some ({ cls := .ref C, dict := none, data := .fields #[.ref t, .none, .none, .none, .bool false, .none] } : Obj)
theorem exT_ok {P : Program} {w : World} {H : Hp} {h : Heap} {a C t : Addr} (e : h.get? a = some ({ cls := .ref C, dict := none, data := .fields #[.ref t, .none, .none, .none, .bool false, .none] } : Obj)) : ObjOk P w H h a (exT a C t) :=
  ⟨e, ⟨_, e⟩, fun _ _ z k => k _ z⟩
/-- an instance of the error class at C -/
def IsErr (H : Hp) (a C : Addr) : Prop := (∃ d, H a = some (exo a C d) ∧ ∀ dx, d = some dx → ∃ fs, H dx = some (exd dx fs)) ∨ ∃ t, H a = some (exT a C t)
theorem isErr_at {P : Program} {w : World} {H : Hp} {h : Heap} {a C : Addr} (hok : HOk P w H h) (e : IsErr H a C) : ∃ ox od, PySem.W.InstAt h a ox C od := by
  rcases e with ⟨d, e, hd⟩ | ⟨t, e⟩
  · obtain ⟨t1, ho⟩ := exo_at hok e
    cases d with
    | none => exact ⟨_, none, ho, rfl, rfl, trivial⟩
    | some dx =>
      obtain ⟨fs, ed⟩ := hd dx rfl
      obtain ⟨mA, ⟨o, es, ep, hdo, _⟩, _⟩ := exd_at hok ed
      exact ⟨_, some o, ho, rfl, rfl, hdo⟩
  · have x : ObjOk P w H h a (exT a C t) := hok a _ e
    exact ⟨_, none, x.1, rfl, rfl, trivial⟩
/-- isinstance(e, c), e such an error -/
def rIsErr (K : PySem.W.Frag) : List V → Hp → VK → Prop := fun xs H Q => ∃ (a D : Addr) (c : V) (cv : Value) (b : Bool), xs = [.ref a, c] ∧ IsErr H a D ∧ ExcC K D ∧ ClsV c cv ∧ PySem.W.kitOne K (.ref D) cv = some b ∧ Q (.bl b) H
theorem call_isErr {X : Cx} {K : PySem.W.Frag} (hK : X.K = K := by rfl) : CallR X (.builtin "isinstance") (rIsErr K) := by
  subst hK
  intro pins s σ H xs us Q I r h
  obtain ⟨a, D, c, cv, b, rfl, he, T, hc, e, q⟩ := h
  obtain ⟨u1, u2, rfl, r1, r2⟩ := vals2 r
  cases (show u1 = Value.ref a from r1)
  have e2 := hc.eq r2
  subst e2
  exact PySem.W.kia_one (PySem.W.fn_kitx T) I.kIn (isErr_at I.hok he) e (fun z => nomatch z) fun tk => ⟨.bl b, H, I.kept (t' := tk) fun _ _ z => z, rfl, q⟩

end Fn
namespace Fn
open PySem PySem.Spec PyProof.Rows L2
/-! ### an own class, as it is used -/
/-- an own class over a built-in base, whose instances may bear fields -/
structure OwnX (K : PySem.W.Frag) (C : Addr) : Prop where
  cls : ∃ B newId initId bmB T, BaseX B newId initId bmB T ∧ clsX K C T newId = true
  sa : PySem.W.findIn K (.ref C) "__setattr__" = some (some (.builtin "object.__setattr__"))
  kp : PySem.W.keepIn K (.ref C) = true
section
open Builtin Builtin.ObjectAttr PySem.HandSPX
variable {prog : Program} {w : World} {A : Around} {E : Value → Shared → Prop} {R : Result → Shared → Prop} {h : Heap} {g : Array GenState} {d : Drawn} {t : Nat} {os : OsState}
/-- the first field of a new exception: its dict is made -/
theorem firstField {K : PySem.W.Frag} {f : Str} {tk : Tok} {u : Value} {x C : Addr} {sl : Array Value} {cd : ClassData} (X : K.In h) (hx : h.get? x = some { cls := .ref C, data := .fields sl }) (hc : PySem.W.clsIn K C = some cd)
    (pass : ∀ me, refuseLoop me "__setattr__" cd.mro = pure ()) (ne : cd.mro.isEmpty = false) (ob : cd.mro.contains (.type "object") = true) (hd : cd.hasDict = true) (no : PySem.W.findIn K (.ref C) f = some none)
    (hq : ∀ h' tk' dx, (∀ b o, b ≠ x → h.get? b = some o → h'.get? b = some o) → h.objs.size ≤ dx → dx ≠ x → h'.get? x = some { cls := .ref C, dict := some dx, data := .fields sl } →
      h'.Ns1 dx (fun y => if y = f then some u else none) → R (.ok (.ret .none)) ⟨h', g, d, tk', os⟩) :
    codeAny (model prog w) A (.call (.builtin "object.__setattr__") ⟨[.ref x, .str f tk, u], []⟩) R ⟨h, g, d, t, os⟩ := by
  have J : PySem.W.InstAt h x { cls := .ref C, data := .fields sl } C none := ⟨hx, rfl, rfl, trivial⟩
  have fo := PySem.F.store_object
  have ty := J.type (M := model prog w)
  have lc : PySem.W.Looks (model prog w) h (classData C) cd := PySem.W.looks_clsIn X hc
  have lm : PySem.W.Looks (model prog w) h (mroOf (.ref C)) cd.mro := lc.andThen .now
  have ln : PySem.W.Looks (model prog w) h (storeTaker? none) none := .now
  have nx : x ≠ h.objs.size := Nat.ne_of_lt (Heap.lt_size hx)
  have is : PySem.W.Looks (model prog w) h (isInstance (.ref x) (.type "object")) true := ty.andThen (PySem.W.looks_mroIn X (by
    unfold PySem.W.mroIn
    rw [hc, Option.bind_some, ne, ob]
    rfl))
  refine codeAny_call_builtin fo.slot.plain fo.entry (@PySem.W.check_slot (model prog w) _ _ ⟨h, g, d, t, os⟩ "object.__setattr__" "object" "__setattr__" (.ref x) [.str f tk, u] [] _ fo.kind fo.split is (fo.args (.ref x) (.str f tk) u) ?_)
  rw [PySem.W.osa_eq, refuse_eq]
  refine wpAny_bind (wpAny_bind (ty.at (wpAny_bind (lm.at ?_))))
  rw [pass]
  refine wpAny_pure (wpAny_bind (ty.at (wpAny_bind ((PySem.W.looks_findIn X no).at (wpAny_bind (ln.at ?_))))))
  show wpAny _ _ (storeInOwnDict (.ref x) (.ref C) (.str f tk) f u false) _ _ _
  cases cd with
  | mk c1 c2 c3 c4 c5 c6 c7 c8 c9 c10 c11 =>
    have hd' : c6 = true := hd
    subst hd'
    unfold storeInOwnDict ownDictForStores
    repeat (first | with_reducible refine store_in_new ?_ ?_ | with_reducible refine wpAny_loadPart_at hx ?_ | with_reducible refine lc.at ?_ | wp_step)
    · exact ⟨_, #[], _, (Heap.get?_update_ne _ _ _ _ nx.symm).trans (Heap.get?_push_at rfl rfl), rfl, fun e he => absurd he (by simp), fun _ => rfl⟩
    · intro h' tk' ns sb
      refine hq h' tk' h.objs.size (fun b o nb e => ?_) (Nat.le_refl _) nx.symm ((sb.2 x nx).trans (Heap.get?_update_self _ (Heap.get?_push_of_some _ hx) rfl)) ns
      rw [sb.2 b (Nat.ne_of_lt (Heap.lt_size e)), Heap.get?_update_ne _ _ _ _ nb]
      exact Heap.get?_push_of_some _ e
end
section
variable {X : Cx} {pins : List (Addr × Obj)} {σ : L2.St} {H : Hp} {s : Shared} {a C : Addr} {f : Str} {y : V} {u : Value} {Q : Unit → Shared → Prop} {E : Value → Shared → Prop} {A : Around}
theorem OwnX.mro {K : PySem.W.Frag} (T : OwnX K C) : ∃ cd, PySem.W.clsIn K C = some cd ∧ (∀ me, refuseLoop me "__setattr__" cd.mro = pure ()) ∧ cd.mro.isEmpty = false ∧ cd.mro.contains (.type "object") = true ∧ cd.hasDict = true := by
  obtain ⟨B, n, i, bmB, T0, Z, hc⟩ := T.cls
  obtain ⟨nm, q, N, bs, bm, sn, sub, ab, col, dd, k0, k1, k2, k3, k5, e, ow⟩ := clsX_obj hc
  refine ⟨_, by unfold PySem.W.clsIn; rw [e] <;> rfl, fun me => ownT_pass Z.pass me (.ref C :: bm) ow, rfl, ?_, rfl⟩
  show (Value.ref C :: bm).contains (.type "object") = true
  rw [List.contains_cons, ownT_has _ _ ow, Z.cO, Bool.or_true]
theorem putX_new (T : OwnX X.K C) (I : Inv X pins σ H s) (e : H a = some (exo a C none)) (no : PySem.W.findIn X.K (.ref C) f = some none) (ry : RelV y u)
    (k : ∀ dx s', H dx = none → dx ≠ a → Inv X pins σ (upd (upd H dx (exd dx [(f, y)])) a (exo a C (some dx))) s' → Q () s') : wpAny (model X.prog X.w) A (setAttr (.ref a) f u) Q E s := by
  obtain ⟨cd, c1, c2, c3, c4, c5⟩ := T.mro
  obtain ⟨t1, ho⟩ := exo_at I.hok e
  obtain ⟨h, g, d, t, os⟩ := s
  refine PySem.W.set_plain I.kIn (ox := { cls := .ref C, dict := none, data := .fields #[.ref t1, .none, .none, .none, .bool false, .none] }) (od := none) ⟨ho, rfl, rfl, trivial⟩ T.sa (firstField I.kIn ho c1 c2 c3 c4 c5 no fun h' tk' dx kp ge ne hx ns => ?_)
  have nH : H dx = none := I.hok.fresh ge
  have old : ∀ {b : Addr} {o : Obj}, h.get? b = some o → b ≠ dx := fun q z => absurd (Heap.lt_size q) (by rw [z]; exact Nat.not_lt.mpr ge)
  have off : ∀ {b : Addr}, H b = none → b ≠ a := fun n z => by
    subst z
    rw [e] at n
    cases n
  have both : ∀ {b : Addr} {o : HO}, H b = some o → o ≠ exo a C none → upd (upd H dx (exd dx [(f, y)])) a (exo a C (some dx)) b = some o := fun {b o} q n => by
    have ba : b ≠ a := fun z => by
      subst z
      rw [e] at q
      exact n (Option.some.inj q).symm
    rw [upd_ne ba, upd_ne (ne_of_none q nH)]
    exact q
  have U : Un X.fs [] H (upd (upd H dx (exd dx [(f, y)])) a (exo a C (some dx))) h h' := {
    keep := fun b o q n _ _ => kp b o (off n) q
    slot := fun b o q n _ _ => ⟨_, kp b o (off n) q⟩
    free := fun b o q n _ => (upd_ne (off n)).trans ((upd_ne (old q)).trans n)
    there := fun b o q _ => (Decidable.em (b = a)).elim (fun z => ⟨_, z ▸ hx⟩) fun z => ⟨o, kp b o z q⟩
    tups := fun b xs q => both q fun z => exo_tup z.symm
    frzs := fun b o v q => both q fun z => exo_frz z.symm
    tbls := fun b ps q => ⟨#[], by rw [both q fun z => exo_tbl z.symm]; simp⟩ }
  refine k dx _ nH ne (I.un (t' := tk') U fun b o q => ?_)
  by_cases ba : b = a
  · subst ba
    cases upd_same.symm.trans q
    exact exo_ok hx
  rw [upd_ne ba] at q
  by_cases bd : b = dx
  · subst bd
    cases upd_same.symm.trans q
    exact exd_ok ns (relO_put (fs := []) ry fun _ => True.intro)
  rw [upd_ne bd] at q
  refine (I.hok b o q).stay (fun c v hc z => kp c v ?_ z) (fun c hc => both hc fun z => exo_own z.symm) fun c xs hc => both hc fun z => exo_tup z.symm
  rcases hc with rfl | hc
  · exact ba
  · exact at_ne e hc exo_own
end
/-! ### readings and rules -/
/-- self.f = e, in an own __init__, the first field -/
def tPut (K : PySem.W.Frag) (f : Str) (to te : TE) : TS := fun D σ H => te σ H fun y H1 => to σ H1 fun x H2 => ∃ a C : Addr, x = .ref a ∧ OwnX K C ∧ PySem.W.findIn K (.ref C) f = some none ∧ H2 a = some (exo a C none) ∧
  ∀ dx, H2 dx = none → dx ≠ a → D.nx σ (upd (upd H2 dx (exd dx [(f, y)])) a (exo a C (some dx)))
section
variable {X : Cx} {o e : Expr} {es : List Expr} {to te : TE} {ta : TA} {f x : Str} {p p' pos : Pos}
theorem ps_put (ho : PE X o to) (he : PE X e te) (sw : swapsWith e (some (.Attribute o f p')) pos.line X.env = pure false := by rfl) : PS X (.Assign [.Attribute o f p'] e pos) (tPut X.K f to te) := by
  refine ⟨fun pins s σ H D I h => plainObj_wpAny_Assign_Attribute (thn (he.run pins s σ H _ I h) fun v s1 ⟨y, H1, J, r, q⟩ => thn (ho.run pins s1 σ H1 _ J q) fun u s2 ⟨z, H2, J2, r2, a, C, ez, T, no, ea, q2⟩ => ?_) sw⟩
  subst ez
  cases r2
  exact putX_new T J2 ea no r fun dx s' n ne G => ⟨σ, _, G, q2 dx n ne⟩
/-- C(e): C with an own __init__, whose promise is sp -/
structure MkIni (C : Addr) (sp : Sp) (vs : List V) (H : Hp) (Q : VK) : Prop where
  z : vs.length ≤ 1000
  k : ∀ a, H a = none → sp (.ref a :: vs) (upd H a (exo a C none)) (fun v H2 => v = .non ∧ Q (.ref a) H2) fun _ _ _ => False
def tMkI (C : Addr) (sp : Sp) (ta : TA) : TE := fun σ H Q => ta σ H fun vs H1 => MkIni C sp vs H1 Q
/-- C(e): C without one -/
structure MkOne (C : Addr) (y : V) (H : Hp) (Q : VK) : Prop where
  k : ∀ t a, H t = none → H a = none → t ≠ a → Q (.ref a) (upd (upd H t (.tup [y])) a (exT a C t))
def tMk1 (C : Addr) (te : TE) : TE := fun σ H Q => te σ H fun y H1 => MkOne C y H1 Q
theorem pe_mkI {W : CXT} {C fI : Addr} {k : Nat} {fd : FuncData} {ps : List Str} {sp : Sp} (T : OwnX X.K C) (iC : PySem.W.findIn X.K (.ref C) "__init__" = some (some (.ref fI))) (tI : PySem.W.typeIn X.K (.ref fI) = some (.type "function"))
    (F : FnOk X.prog X.w X.K X.mg X.base W k fI fd ps sp) (hr : Room (k + 1) X.A) (hb : Binds X.K fd ps []) (hx : Passes W X (fun _ _ _ => False)) (hg : Gl X x) (hm : X.mg x = some (.ref C)) (ha : PA X (e :: es) ta)
    (ndb : (x == ("__debug__" : Str)) = false := by decide) (st : starEach (e :: es) X.env = (false, eval e X.env) :: starEach es X.env := by rfl) (pl : (backTo pos (starEach es X.env)).any (·.1) = false := by rfl) :
    PE X (.Call (.Name x p) (e :: es) [] pos) (tMkI C sp ta) := by
  refine ⟨fun pins s σ H Q I h => wpAny_Call_Name_kw (ld_glob I hg hm ?_ ndb)⟩
  refine PySem.W.callWith_K (h₀ := X.base) I.ok.mod.kin T.kp (thn (ha.run pos pins s σ H _ I h) fun us s1 ⟨vs, H1, J, r, sz, q⟩ => ⟨J.kIn, ?_⟩) st pl
  show wpAny _ _ (call (.ref C) us) _ _ _
  obtain ⟨B, n, i, bmB, T0, Z, hc⟩ := T.cls
  obtain ⟨nm, qn, N, bs, bm, sn, sub, ab, col, dd, k0, k1, k2, k3, k5, eC, ow⟩ := clsX_obj hc
  obtain ⟨hp, g, dr, tk, os⟩ := s1
  have ge : hp.objs.size ≤ hp.objs.size + 1 := Nat.le_succ _
  have new : ((hp.push (PySem.W.kdv_tup us)).push (PySem.HandSPX.excO C hp.objs.size)).get? (hp.objs.size + 1) = some (PySem.HandSPX.excO C hp.objs.size) := by heap_get
  have G : Inv X pins σ (upd H1 (hp.objs.size + 1) (exo (hp.objs.size + 1) C none)) ⟨(hp.push (PySem.W.kdv_tup us)).push (PySem.HandSPX.excO C hp.objs.size), g, dr, tk, os⟩ :=
    J.laid (t' := tk) (fun _ _ z => Heap.get?_push_of_some _ (Heap.get?_push_of_some _ z)) ge (exo_ok new)
  have sq := q _ (J.hok.fresh ge)
  have r2 : Vals (V.ref (hp.objs.size + 1) :: vs) (Value.ref (hp.objs.size + 1) :: us) := .cons rfl r
  have ln : (Value.ref (hp.objs.size + 1) :: us ++ []).length = ps.length := by
    rw [List.append_nil]
    exact r2.length.symm.trans (F.len _ _ _ _ sq)
  have bd := hb ⟨(hp.push (PySem.W.kdv_tup us)).push (PySem.HandSPX.excO C hp.objs.size), g, dr, tk, os⟩ (Value.ref (hp.objs.size + 1) :: us) G.kIn ln
  rw [List.append_nil] at bd
  refine wpAny_call (newF_call (Z.new ow) (J.kIn _ _ eC) (PySem.W.looks_findIn J.kIn iC) (fun me => PySem.W.bind_fn J.kIn me tI) (by rw [← r.length, sizeLine_eq]; omega)
    (codeAny_mono (F.run _ X.stack _ _ ⟨Value.ref (hp.objs.size + 1) :: us, []⟩ _ _ _ (fun _ _ _ => False) (hr.make C us []) (G.env0.make C us []) bd r2 sq) fun r s' z => ?_))
  rcases r with er | (_ | _ | _ | u)
  all_goals first
    | exact hx pins σ _ _ er s' G z
    | exact False.elim z
    | skip
  obtain ⟨v, H2, o2, b2, un2, ok2, rv, ev, q2⟩ := z
  subst ev
  obtain ⟨h2, g2, d2, t2, os2⟩ := s'
  cases (show os2 = os from o2)
  exact ⟨rv, .ref (hp.objs.size + 1), H2, G.call (h' := h2) (g' := g2) (d' := d2) (t' := t2) (ch := []) un2 ok2 b2 (fun _ z => absurd z (by simp)), rfl, q2⟩
/-- C(e): C without an own __init__ -/
theorem pe_mk1 {C : Addr} {bmB : List Value} {B newId initId : String} (F : ExcBaseFacts B newId initId bmB) (q : PySem.W.excIn X.K C bmB newId = true) (hm : X.mg x = some (.ref C)) (kC : PySem.W.keepIn X.K (.ref C) = true) (hg : Gl X x)
    (he : PE X e te) (st : starEach [e] X.env = (false, eval e X.env) :: starEach [] X.env := by rfl) (ndb : (x == ("__debug__" : Str)) = false := by decide) :
    PE X (.Call (.Name x p) [e] [] pos) (tMk1 C te) := by
  refine ⟨fun pins s σ H Q I h => wpAny_Call_Name_kw (ld_glob I hg hm ?_ ndb)⟩
  refine PySem.W.callWith_K (h₀ := X.base) I.ok.mod.kin kC ?_ st (by rfl)
  rw [st]
  show wpAny _ _ (spliced ((false, eval e X.env) :: backTo pos (starEach [] X.env))) _ _ s
  refine Calls.spliced_cons (thn (he.run pins s σ H _ I h) fun u s1 ⟨v, H1, J, r, q1⟩ => Calls.spliced_nil ⟨J.kIn, ?_⟩)
  show wpAny _ _ (call (.ref C) [u]) _ _ _
  obtain ⟨bm, N, nm, qn, bs, hd, sn, sub, ab, col, dd, k0, k1, k2, k3, k5, mN, eC, hN, hni, T⟩ := exc_obj J.kIn q
  refine wpAny_call_exc_subT F T eC hN hni (fun h' a hmk => ?_) (by show 1 ≤ sizeLine; rw [sizeLine_eq]; omega)
  obtain ⟨t, ea, tn, et⟩ := hmk.there
  obtain ⟨hp, g, dr, tk, os⟩ := s1
  have na : H1 a = none := J.hok.gone hmk.new
  have nt : H1 t = none := J.hok.gone tn
  have ta : t ≠ a := fun z => by
    subst z
    rw [ea] at et
    cases et
  obtain ⟨G, g1, g2⟩ := restrict h' fun b => decide (b ≠ a)
  have gk : ∀ b, b ≠ a → G.get? b = h'.get? b := fun b hb => g1 b (decide_eq_true hb)
  have ga : G.get? a = none := g2 a (by simp)
  have J1 : Inv X pins σ (upd H1 t (.tup [v])) ⟨G, g, dr, tk, os⟩ := J.laidN (t' := tk) (h' := G) (a := t) (fun b o z => by
      rw [gk b fun y => by
        rw [y, hmk.new] at z
        cases z]
      exact hmk.keeps b o z) tn nt (show ObjOk X.prog X.w _ G t (.tup [v]) from ⟨by show 1 ≤ sizeLine; rw [sizeLine_eq]; omega, [u], .cons r .nil, _, (gk t ta).trans et, rfl, _, rfl⟩)
  have J2 : Inv X pins σ (upd (upd H1 t (.tup [v])) a (exT a C t)) ⟨h', g, dr, tk, os⟩ := J1.laidN (t' := tk) (h' := h') (a := a) (fun b o z => by
      by_cases y : b = a
      · rw [y, ga] at z
        cases z
      · exact (gk b y).symm.trans z) ga ((upd_ne ta.symm).trans na) (exT_ok ea)
  exact ⟨.ref a, _, J2, rfl, q1.k t a nt na ta⟩
/-- what str(e) asks of the class of e -/
structure StrC (K : PySem.W.Frag) (C : Addr) : Prop where
  s : PySem.W.findIn K (.ref C) "__str__" = some (some (.builtin "BaseException.__str__"))
  b : PySem.W.subIn K (.ref C) (.type "BaseException") = some true
/-- str(e), e made with one text -/
def rStrE (K : PySem.W.Frag) : List V → Hp → VK → Prop := fun xs H Q => ∃ a C t x, xs = [.ref a] ∧ H a = some (exT a C t) ∧ H t = some (.tup [.str x]) ∧ StrC K C ∧ Q (.str x) H
theorem call_strE {K : PySem.W.Frag} (hu : X.A.units + 64 < cLine) (hK : X.K = K := by rfl) : CallR X (.type "str") (rStrE K) := by
  subst hK
  intro pins s σ H xs us Q I r h
  obtain ⟨a, C, t, z, rfl, ea, et, T, q⟩ := h
  obtain ⟨u, rfl, r1⟩ := vals1 r
  cases r1
  have oa : ObjOk X.prog X.w H s.heap a (exT a C t) := I.hok a _ ea
  obtain ⟨its, rt, ⟨o, ho, hc, n, hd⟩, _⟩ := I.tuple (SqT.of et)
  obtain ⟨w1, rfl, tk, rfl⟩ := vals1 rt
  exact PySem.P.str_of_C_one (by omega) ⟨I.kIn, _, _, oa.1, rfl, rfl, rfl⟩ ⟨o, n, ho, hc, hd⟩ T.s T.b ⟨.str z, H, I, ⟨_, rfl⟩, q⟩
/-- e.f, e an exception that was made: its own field -/
def tXg (K : PySem.W.Frag) (f : Str) (te : TE) : TE := fun σ H Q => te σ H fun x H1 => ∃ (a C dx : Addr) (fs : List (Str × V)) (v : V), x = .ref a ∧ H1 a = some (exo a C (some dx)) ∧ H1 dx = some (exd dx fs) ∧ XfC K C ∧ PySem.W.findIn K (.ref C) f = some none ∧ fs.lookup f = some v ∧ Q v H1
theorem pe_xg {K : PySem.W.Frag} (he : PE X e te) (hb : attributeBase e f X.env (eval e X.env) = eval e X.env := by rfl) (hK : X.K = K := by rfl) : PE X (.Attribute e f pos) (tXg K f te) := by
  subst hK
  refine ⟨fun pins s σ H Q I h => attr_of hb (thn (he.run pins s σ H _ I h) fun u s1 ⟨x, H1, J, rx, a, C, dx, fs, v, ex, ea, ed, T, no, l, q⟩ => ?_)⟩
  subst ex
  cases rx
  obtain ⟨t1, ho⟩ := exo_at J.hok ea
  obtain ⟨mA, ns, rel⟩ := exd_at J.hok ed
  obtain ⟨od, hd, hl⟩ := lookIn_ns ns
  obtain ⟨u, hu, ru⟩ := RelO.some_of (v := v) (o := mA f) (by rw [← l]; exact rel f)
  have at1 : PySem.W.InstAt s1.heap a { cls := .ref C, dict := some dx, data := .fields #[.ref t1, .none, .none, .none, .bool false, .none] } C (some od) := ⟨ho, rfl, rfl, hd⟩
  exact PySem.HandSPX.exc_get J.kIn at1 T.ga T.gg T.exC (PySem.W.findObj_own T.hdC no rfl (by rw [hl, hu])) (handed_of ru) ⟨v, H1, J.tok _, ru, q⟩
end
end Fn

set_option Elab.async false
set_option maxRecDepth 100000
set_option maxHeartbeats 4000000
/-! Defs that call repr: a promise that is kept where no repr runs as yet. repr of data; text * int. -/
namespace Fn
open PySem PySem.Spec PyProof.Rows L2
/-- a def's promise, where no repr runs -/
structure FnG (P : Program) (w : World) (K : PySem.W.Frag) (mg : Str → Option Value) (base : Heap) (V : CXT) (k : Nat) (f : Addr) (fd : FuncData) (ps : List Str) (sp : Sp) : Prop where
  len : ∀ xs H Q E, sp xs H Q E → xs.length = ps.length
  go : ∀ (B : Around) (fr : List Env) (s : Shared) (H : Hp) (c : Args) (us : List Value) (xs : List L2.V) (Q : VK) (E : XK), B.guards = some [] → Room k B → Env0 P w K mg base B fr s H → BindsTo s fd c (ps.zip us) → Vals xs us → sp xs H Q E →
    codeAny (model P w) B (.call (.ref f) c) (CR V fr P w H s Q E) s
section
variable {P : Program} {w : World} {K : PySem.W.Frag} {mg : Str → Option Value} {base : Heap}
/-- a def by its body -/
theorem okG {x qual : Str} {st : Stmt} {f : Addr} {fd : FuncData} {N ps : List Str} {k : Nat} {sp : Sp} (F : Fun K x qual st f fd) (S : FnScope N ps (defScope st)) (len : ∀ xs H Q E, sp xs H Q E → xs.length = ps.length)
    (hb : ∀ (cdv : Value) (B : Around) (fr : List Env) (s : Shared) (H : Hp) (xs : List V) (Q : VK) (E : XK), B.guards = some [] → Room k (B.deeper (envOfC qual (defScope st) s.heap.objs.size f cdv)) → sp xs H Q E →
      ∃ t, PSs (cxOf CX0 P w K mg base N qual (defScope st) f cdv B fr s H E).nox (defBody st) t ∧ t { nx := fun _ H' => Q .non H', rt := Q } (start N xs) H) : FnG P w K mg base CX0 (k + 1) f fd ps sp := by
  obtain ⟨oc, od, kV, doc, pm, an, cdv, ct, osl, rfl, lk, hcd⟩ := F.ex
  refine ⟨len, fun B fr s H c us xs Q E hg hr e0 hbd rel hsp => ?_⟩
  have ll := len _ _ _ _ hsp
  have kin : K.In s.heap := e0.mod.kin.keeps fun b o e => (e0.bs b o e).1
  have nol : s.heap.NoLimit := e0.mod.nolimit.keeps fun b o e => (e0.bs b o e).1
  have kd : ∀ y ∈ ps.zip us, (defScope st).names.lookup y.1 = some .local ∨ ((defScope st).names.lookup y.1 = some .cell ∧ ((cellsFrom (s.heap.objs.size + 1) (defScope st).names []).lookup y.1).isSome = true) := by
    intro y hy
    refine (S.par y.1 (List.of_mem_zip hy).1).imp id fun q => ⟨q, PySem.W.cellsFrom_some _ _ _ (.inl q)⟩
  refine codeAny_call_function hr.depth (kin _ _ lk) rfl S.co S.gen rfl (PySem.W.codeRec_of kin hcd) (hbd _ _ _ _ (wpAny_newFunctionEnv_cells S.kind kd fun env he s1 y => ?_))
  subst he
  refine ⟨nol.keeps y.toInCall.keep, codeAny_func ?_⟩
  obtain ⟨t, ht, q⟩ := hb cdv B fr s H xs Q E hg (hr.deeper _) hsp
  have J : Inv (cxOf CX0 P w K mg base N qual (defScope st) f cdv B fr s H E) [] (start N xs) H s1 := inv_start S hr.hd e0 ll rel y
  have close : ∀ {σ' : L2.St} {H' : Hp} {v : V} {u : Value} {s' : Shared}, Inv (cxOf CX0 P w K mg base N qual (defScope st) f cdv B fr s H E) [] σ' H' s' → RelV v u → Q v H' → CE fr P w H s Q u s' :=
    fun j rv z => ⟨_, _, j.os, j.bare, j.base, j.hok, rv, z⟩
  refine wpAny_mono (ht.nox.run [] s1 (start N xs) H _ J q) (fun fl s' z => ?_) fun _ _ z => z
  rcases fl with _ | _ | _ | u
  all_goals first
    | (obtain ⟨v, σ', H', j, rv, z⟩ := z
       exact close j rv z)
    | (obtain ⟨_, _, _, z⟩ := z
       exact z.elim)
    | (obtain ⟨σ', H', j, z⟩ := z
       exact close (v := V.non) (u := Value.none) j rfl z)
end
section
variable {X : Cx} {V : CXT} {k : Nat} {f : Addr} {fd : FuncData} {ps : List Str} {sp : Sp} {dvs : List L2.V} {ds : List Value} {E : XK} {x : Str} {p pos : Pos} {e : Expr} {es : List Expr} {t : TA}
theorem pe_callG (F : FnG X.prog X.w X.K X.mg X.base V k f fd ps sp) (gr : X.A.guards = some []) (hr : Room k X.A) (hg : Gl X x) (hm : X.mg x = some (.ref f)) (hk : PySem.W.keepIn X.K (.ref f) = true) (hb : Binds X.K fd ps ds) (hd : Vals dvs ds) (hx : Passes V X E)
    (ha : PA X (e :: es) t) (ndb : (x == ("__debug__" : Str)) = false := by decide) (st : starEach (e :: es) X.env = (false, eval e X.env) :: starEach es X.env := by rfl) (pl : (backTo pos (starEach es X.env)).any (·.1) = false := by rfl) :
    PE X (.Call (.Name x p) (e :: es) [] pos) (tCall sp dvs E t) := by
  refine ⟨fun pins s σ H Q I h => wpAny_Call_Name_kw (ld_glob I hg hm ?_ ndb)⟩
  refine PySem.W.callWith_K (h₀ := X.base) I.ok.mod.kin hk (thn (ha.run pos pins s σ H _ I h) fun us s1 ⟨vs, H1, J, r, q⟩ => ⟨J.kIn, ?_⟩) st pl
  have r2 := r.append hd
  have ln : (us ++ ds).length = ps.length := r2.length.symm.trans (F.len _ _ _ _ q)
  refine wpAny_call (codeAny_mono (F.go X.A X.stack s1 H1 ⟨us, []⟩ (us ++ ds) (vs ++ dvs) Q E gr hr J.env0 (hb s1 us J.kIn ln) r2 q) fun r s' z => ?_)
  rcases r with er | (_ | _ | _ | u)
  all_goals first
    | exact hx pins σ H1 s1 er s' J z
    | exact J.after z
    | exact False.elim z
end
/-- at the outermost call no repr runs -/
theorem law_callG {P : Program} {w : World} {K : PySem.W.Frag} {mg mb : Str → Option Value} {k : Nat} {fa a : Addr} {fd : FuncData} {x : Str} {sp : Sp} {s : Shared} {vs : List Value} {ns : List Int}
    (KX : K.In s.heap) (gl : s.heap.Ns mainGlobals mg) (bl : s.heap.Ns builtinsNs mb) (bb : ∀ x : Str, x ≠ "__name__" → mb x = bootBuiltins x) (lim : s.heap.NoLimit) (gn : s.gens = #[])
    (ha : s.heap.get? a = some { cls := .type "list", data := .seq vs.toArray }) (hi : IntsAre vs ns) (hl : ns.length ≤ sizeLine) (hr : Room k callerA)
    (F : ∀ base : Heap, K.In base → base.Ns mainGlobals mg → FnG P w K mg base CX0 k fa fd [x] sp) (hbind : ∀ (s : Shared) (u : Value), BindsTo s fd ⟨[u], []⟩ [(x, u)])
    (hsp : ∀ H : Hp, Only H → SqL K H a (ns.map V.int) → sp [.ref a] H (fun v _ => v = .bl true) fun _ _ _ => False) :
    codeAny (model P w) callerA (.call (.ref fa) ⟨[.ref a], []⟩) (fun r s' => r = .ok (.ret (.bool true)) ∧ OldK s.heap s'.heap ∧ s'.os = s.os ∧ AllBare s'.gens) s := by
  have rel := vals_ints hi
  have step : ∀ H : Hp, Only H → SqL K H a (ns.map V.int) → HOk P w H s.heap → (∀ b, H b ≠ none → b = a ∧ K.lookup a = none) →
      codeAny (model P w) callerA (.call (.ref fa) ⟨[.ref a], []⟩) (fun r s' => r = .ok (.ret (.bool true)) ∧ OldK s.heap s'.heap ∧ s'.os = s.os ∧ AllBare s'.gens) s := by
    intro H hO hS ok only
    have none_of : ∀ {b : Addr}, (b = a → K.lookup a = none → False) → H b = none := fun {b} n => by
      cases z : H b with
      | none => rfl
      | some u => exact (n (only b (by rw [z]; exact Option.some_ne_none _)).1 (only b (by rw [z]; exact Option.some_ne_none _)).2).elim
    have dict : ∀ {b : Addr} {m : Str → Option Value}, s.heap.Ns b m → (hidT s.heap H).Ns b m := fun {b m} ⟨o, es, ep, e, d, r⟩ => ⟨o, es, ep, hidT_get e (none_of fun z _ => by
      subst z
      rw [ha] at e
      cases e
      cases d), d, r⟩
    have kb : K.In (hidT s.heap H) := fun b o e => hidT_get (KX b o e) (none_of fun z n => by
      subst z
      rw [n] at e
      cases e)
    have md : Mod K mg (hidT s.heap H) := ⟨kb, dict gl, ⟨mb, dict bl, bb⟩, let ⟨mc, h1, h2⟩ := lim; ⟨mc, dict h1, h2⟩⟩
    have e0 : Env0 P w K mg (hidT s.heap H) callerA [] s H := ⟨rfl, md, fun _ _ => of_hidT, Nat.le_of_eq (hidT_size _ _), trivial, fun b hb => absurd (show b ∈ ([] : List Addr) from hb) (by simp), ok, .of_eq gn⟩
    refine codeAny_mono ((F _ kb (dict gl)).go callerA [] s H ⟨[.ref a], []⟩ [.ref a] [.ref a] _ _ rfl hr e0 (hbind s (.ref a)) (.cons rfl .nil) (hsp H hO hS)) fun r s' z => ?_
    rcases r with er | (_ | _ | _ | u)
    all_goals first
      | exact False.elim z
      | skip
    obtain ⟨v, H', os, bare, un, ok', rv, rfl⟩ := z
    cases (show u = Value.bool true from rv)
    refine ⟨rfl, OldK.of_keep fun b o e => ?_, os, bare⟩
    rcases hO b with n | ⟨ob, xs, n⟩
    · exact un.keep b o e n (fun z => absurd (show b ∈ ([] : List Addr) from z) (by simp)) (by simp)
    · have z1 : s.heap.get? b = some ob := (ok b _ n).1
      have z2 : s'.heap.get? b = some ob := (ok' b _ (un.frzs b ob _ n)).1
      rw [z2, ← z1, e]
  cases hk : K.lookup a with
  | some o =>
    have e := KX a o hk
    rw [ha] at e
    cases e
    exact step (fun _ => none) (fun _ => .inl rfl) (.inr ⟨_, vs.toArray, _, hk, rfl, rfl, rfl, by rw [List.size_toArray, hi.length]; exact hl, by simpa using rel⟩) (fun _ _ z => nomatch z) fun _ z => absurd rfl z
  | none =>
    have same : ∀ b, (if b = a then some (HO.frz { cls := .type "list", data := .seq vs.toArray } (.lst (ns.map V.int))) else none) ≠ none → b = a := fun b n => by
      by_cases z : b = a
      · exact z
      · exact absurd (if_neg z) n
    refine step (fun b => if b = a then some (.frz { cls := .type "list", data := .seq vs.toArray } (.lst (ns.map V.int))) else none) (fun b => ?_) (.inl (.inr ⟨_, if_pos rfl⟩)) (fun b u z => ?_) fun b n => ⟨same b n, hk⟩
    · by_cases z : b = a
      · exact .inr ⟨_, _, if_pos z⟩
      · exact .inl (if_neg z)
    · have e := same b fun y => nomatch y.symm.trans z
      subst e
      cases (if_pos rfl).symm.trans z
      exact ⟨ha, by rw [List.length_map]; exact hl, vs, _, rel, ha⟩
theorem walkG {l : PySem.W.OpenLaw} {n k : Nat} {q : Program} {loose : List Str} {XP : (Str → Option Value) → Heap → Prop} {YP : World → Heap → Prop} {d : DefRec} {K : Params → PySem.W.Frag} {sp : World → Sp} {x : Str}
    (hn : l.most = some n) (hn2 : n ≤ sizeLine) (hdf : d.params.defaults = []) (hr : Room k callerA) (hY : ∀ (w : World) (h : Heap), YP w h → (K w.params).In h)
    (F : ∀ (w : World) (mg : Str → Option Value) (fa : Addr) (h : Heap), (K w.params).In h → h.Ns mainGlobals mg → mg d.name = some (.ref fa) →
      ∃ fd : FuncData, (∀ (s : Shared) (u : Value), BindsTo s fd ⟨[u], []⟩ [(x, u)]) ∧ ∀ base : Heap, (K w.params).In base → base.Ns mainGlobals mg → FnG l.prog w (K w.params) mg base CX0 k fa fd [x] (sp w))
    (hsp : ∀ (w : World) (H : Hp) (a : Addr) (ns : List Int), ns.length ≤ n → Only H → SqL (K w.params) H a (ns.map V.int) → sp w [.ref a] H (fun v _ => v = .bl true) fun _ _ _ => False) :
    PySem.W.WalkO q loose XP YP l.row.toRowW d [] (fun f vs => PySem.call f vs) := by
  refine Att.attach_call hn hdf fun w _ s mg mb fa o pm cd doc a vs ns G Y _ _ _ hm ho hi ll gn => ?_
  have kx := hY w _ Y
  obtain ⟨fd, b, f⟩ := F w mg fa _ kx G.T.g hm
  exact law_callG kx G.T.g G.T.b G.T.builtins G.T.nolimit gn ho hi (Nat.le_trans ll hn2) hr f b fun H h1 h2 => hsp w H a ns ll h1 h2

/-! ### repr of data; one datum many times in a list -/
/-- data that repr may be asked of -/
def Rr (K : PySem.W.Frag) (H : Hp) (v : V) (d : PyData) : Prop := (Dp K H v d ∧ d.hasDict = false) ∨ ∃ (a : Addr) (x : Str) (y : V), v = .ref a ∧ d = .dict [(.str x, .tuple [])] ∧ H a = some (.dK [(.inr x, y)]) ∧ Dp K H y (.tuple [])
section
variable {X : Cx} {pins : List (Addr × Obj)} {σ : L2.St} {H : Hp} {s : Shared} {v : V} {u : Value} {d : PyData}
theorem Rr.reads (I : Inv X pins σ H s) (h : Rr X.K H v d) (r : RelV v u) : ∃ as, Reads s.heap u d as ∧ (d.hasDict = true → sysModules ∉ as) := by
  rcases h with ⟨h, n⟩ | ⟨a, x, y, rfl, rfl, e, hy⟩
  · obtain ⟨as, q⟩ := Dp.reads I d v u h r
    exact ⟨as, q, PyData.noDict_hsm n⟩
  · cases r
    obtain ⟨_, ns, vs, kv, o, es, ep, ho, hx, hd, ks, pr, _⟩ := dk_of I.hok e
    cases kv with
    | @cons _ q _ _ k0 kr =>
      cases kr
      obtain ⟨qk, qv⟩ := q
      cases (show Sum.inr x = qk from k0.1)
      obtain ⟨el⟩ := es
      have pr' : Pairs (mixKind X.prog X.w) el [(Sum.inr x, qv)] := pr
      clear pr
      cases pr' with
      | @cons en _ rest _ p1 p2 p3 =>
        cases p3
        obtain ⟨bs, rb⟩ := Dp.reads I _ y qv hy k0.2
        have eb : bs = [] := by
          cases rb with
          | @tuple _ _ ws _ _ _ _ _ _ h4 =>
            generalize ws.toList = l4 at h4
            cases h4
            rfl
        subst eb
        have ek : ∃ t, en.key = Value.str x t := by
          rcases keyIs_shape (k := Sum.inr x) p1 with ⟨_, _, z, _⟩ | ⟨x', t, z, e'⟩
          · cases z
          · cases z
            exact ⟨t, e'⟩
        obtain ⟨t, ek⟩ := ek
        refine ⟨_, Reads.dict ho hx.1 hd (as := []) (bs := []) (ReadsAll.cons (as := []) (bs := []) (by show Reads s.heap en.key (.str x) []; rw [ek]; exact Reads.str x t) .nil) (ReadsAll.cons (as := []) (bs := []) (by show Reads s.heap en.val (.tuple []) []; rw [p2]; exact rb) .nil), fun _ m => ?_⟩
        simp only [List.append_nil, List.mem_singleton] at m
        subst m
        simp at ns
theorem readsAll_rep {h : Heap} {d : PyData} {S : Addr → Prop} : ∀ {n : Nat} {us : List Value}, (∀ z ∈ us, ∃ as, Reads h z d as ∧ ∀ b ∈ as, S b) → us.length = n → ∃ bs, ReadsAll h us (List.replicate n d) bs ∧ ∀ b ∈ bs, S b
  | 0, [], _, _ => ⟨[], .nil, fun _ z => nomatch z⟩
  | n + 1, z :: zs, k, l => by
    obtain ⟨bs, r, m⟩ := readsAll_rep (n := n) (us := zs) (fun y hy => k y (List.mem_cons_of_mem _ hy)) (by simpa using l)
    obtain ⟨as, r1, m1⟩ := k z List.mem_cons_self
    exact ⟨as ++ bs, .cons r1 r, fun b hb => (List.mem_append.mp hb).elim (m1 b) (m b)⟩
theorem rel_rep {v : V} : ∀ {n : Nat} {us : List Value}, Vals (List.replicate n v) us → ∀ z ∈ us, RelV v z
  | 0, _, r, z, h => by
    cases r
    cases h
  | n + 1, _, r, z, h => by
    cases r with
    | cons r1 r2 =>
      cases h with
      | head => exact r1
      | tail _ h => exact rel_rep r2 z h
end
section
variable {X : Cx}
/-- repr of one -/
def rRepr (K : PySem.W.Frag) : List V → Hp → VK → Prop := fun xs H Q => ∃ v d, xs = [v] ∧ Rr K H v d ∧ d.showable = true ∧ d.depth ≤ 40 ∧ d.shown.length ≤ sizeLine ∧ Q (.str d.shown) H
theorem call_reprD {K : PySem.W.Frag} (hg : X.A.guards = some []) (hu : X.A.units + 64 < cLine) (hK : X.K = K := by rfl) : CallR X (.builtin "repr") (rRepr K) := by
  subst hK
  intro pins s σ H xs us Q I r h
  obtain ⟨v, d, rfl, hr, sh, dp, sz, q⟩ := h
  obtain ⟨u, rfl, rv⟩ := vals1 r
  obtain ⟨as, rd, ns⟩ := hr.reads I rv
  have big : ∀ {a : Addr}, Reads s.heap (.ref a) d as → wpAny (model X.prog X.w) X.A (call (.builtin "repr") [.ref a]) (EP X pins σ Q) X.xe s := fun rd =>
    repr_of_reads' rd sh ns hg (by omega) (fun _ _ e => e) (fun h' u tk hk => ⟨.str _, H, I.kept (t' := tk) hk, ⟨_, rfl⟩, q⟩) sz
  cases rd with
  | none => exact PySem.P.repr_of_none ⟨.str _, H, I.tok _, ⟨_, rfl⟩, by simpa only [PyData.shown] using q⟩
  | bool b => exact PySem.P.repr_of_bool ⟨.str _, H, I.tok _, ⟨_, rfl⟩, by simpa only [PyData.shown] using q⟩
  | int i t => exact PySem.P.repr_of_int (by simpa only [PyData.showable, decide_eq_true_eq] using sh) ⟨.str _, H, I.tok _, ⟨_, rfl⟩, by simpa only [PyData.shown] using q⟩
  | str x t => exact PySem.P.repr_of_str ⟨.str _, H, I.tok _, ⟨_, rfl⟩, by simpa only [PyData.shown] using q⟩ (by simpa only [PyData.shown] using sz)
  | list h1 h2 h3 h4 => exact big (.list h1 h2 h3 h4)
  | tuple h1 h2 h3 h4 => exact big (.tuple h1 h2 h3 h4)
  | dict h1 h2 h3 h4 h5 => exact big (.dict h1 h2 h3 h4 h5)
/-- repr of a list that has one datum many times -/
def rReprN (K : PySem.W.Frag) : List V → Hp → VK → Prop := fun xs H Q => ∃ l n v d, xs = [.ref l] ∧ H l = some (.lst (List.replicate (n + 1) v)) ∧ Rr K H v d ∧ d.showable = true ∧ d.depth ≤ 40 ∧ (listText (PyData.shownAll (List.replicate (n + 1) d))).length ≤ sizeLine ∧
  Q (.str (listText (PyData.shownAll (List.replicate (n + 1) d)))) H
theorem all_rep {f : PyData → Bool} {fa : List PyData → Bool} (h0 : fa [] = true) (h1 : ∀ x xs, fa (x :: xs) = (f x && fa xs)) {d : PyData} (h : f d = true) : ∀ n, fa (List.replicate n d) = true
  | 0 => h0
  | n + 1 => by rw [List.replicate_succ, h1, h, all_rep h0 h1 h n]; rfl
theorem any_rep {d : PyData} : ∀ n, PyData.hasDictAll (List.replicate n d) = true → d.hasDict = true
  | 0, h => by simp [PyData.hasDictAll] at h
  | n + 1, h => by
    rw [List.replicate_succ] at h
    simp only [PyData.hasDictAll, Bool.or_eq_true] at h
    exact h.elim id (any_rep n)
theorem depth_rep {d : PyData} {m : Nat} (h : d.depth ≤ m) : ∀ n, PyData.depthAll (List.replicate n d) ≤ m
  | 0 => by simp [PyData.depthAll]
  | n + 1 => by
    rw [List.replicate_succ]
    have := depth_rep h n
    simp only [PyData.depthAll]
    omega
theorem call_reprN {K : PySem.W.Frag} (hg : X.A.guards = some []) (hu : X.A.units + 64 < cLine) (hK : X.K = K := by rfl) : CallR X (.builtin "repr") (rReprN K) := by
  subst hK
  intro pins s σ H xs us Q I r h
  obtain ⟨l, n, v, d, rfl, hl, hr, sh, dp, sz, q⟩ := h
  obtain ⟨u, rfl, rv⟩ := vals1 r
  cases rv
  obtain ⟨its, rl, ⟨o, m, ho, hc, _, hd⟩, hz⟩ := I.list (SqL.of hl)
  have ln : its.length = n + 1 := by rw [← rl.length, List.length_replicate]
  have item : ∀ z ∈ its, ∃ as, Reads s.heap z d as ∧ ∀ b ∈ as, d.hasDict = true → b ≠ sysModules := fun z hz => by
    obtain ⟨as, r1, m⟩ := hr.reads I (rel_rep rl z hz)
    exact ⟨as, r1, fun b hb k e => m k (e ▸ hb)⟩
  obtain ⟨as, h4, m⟩ := readsAll_rep item ln
  have hsh := all_rep (f := PyData.showable) (fa := PyData.showableAll) (by simp [PyData.showableAll]) (fun _ _ => by simp [PyData.showableAll]) sh (n + 1)
  have dpa := depth_rep dp (n + 1)
  obtain ⟨bs, hb, hk⟩ := ReprAllK.of_readsAll (prog := X.prog) (w := X.w) h4 hsh (fun k z => m _ z (any_rep _ k) rfl) (fun t ht => Nat.le_trans (listText_mem_le ht) sz)
  have na : l ∉ bs := not_mem_of_deeper (.list ho hc hd h4) (by simp only [PyData.depth]; omega) hb
  cases its with
  | nil => cases ln
  | cons z zs =>
    refine call_repr_slot (by omega) ⟨o, ho, hc⟩ F.slot_list_repr.toG ?_
    exact call_list_reprK ho hc hd na (by simpa using hk.length_eq) (fun i y e => hk.item i y (by simpa using e)) (by exact hg) (fun b _ => Clear.nil b) (by show X.A.units + 1 + _ < cLine; omega) (fun _ _ e => e)
      (fun h' u tk kp => ⟨_, _, rfl, .str _, H, I.kept (t' := tk) kp, ⟨_, rfl⟩, q⟩) sz
/-- text * n, one sign -/
def repS (a : Str) (n : Nat) : Str := ⟨(List.replicate n a.cps).foldl (· ++ ·) #[]⟩
theorem foldl_size (c : Array Nat) : ∀ (n : Nat) (acc : Array Nat), ((List.replicate n c).foldl (· ++ ·) acc).size = acc.size + n * c.size
  | 0, acc => by simp
  | n + 1, acc => by
    rw [List.replicate_succ, List.foldl_cons, foldl_size c n, Array.size_append, Nat.succ_mul]
    omega
theorem op_mulS : OpR X (binaryOp .Mult) (fun x y H Q => ∃ a k, x = .str a ∧ y = .int k ∧ a.length = 1 ∧ 0 ≤ k ∧ k ≤ 1000 ∧ Q (.str (repS a k.toNat)) H) := by
  intro pins s σ H x y v u Q I rx ry h
  obtain ⟨a, k, rfl, rfl, h1, h0, hk, q⟩ := h
  obtain ⟨t, rfl⟩ := rx
  obtain ⟨t', rfl⟩ := ry
  refine PySem.P.mul_str (by simp; omega) (fun n1 _ => ?_) (fun _ _ => ?_) ?_
  · rw [h1]
    have : (1 : Int) ≤ (2 ^ 63 - 1) / k := Int.le_ediv_of_mul_le (by omega) (by omega)
    omega
  · unfold Builtin.Str.tooLong
    rw [h1]
    exact decide_eq_false (by rw [sizeLine_eq]; omega)
  · have hs : (repS a k.toNat).length ≤ sizeLine := by
      have : (repS a k.toNat).length = 0 + k.toNat * a.length := foldl_size a.cps k.toNat #[]
      rw [this, h1, sizeLine_eq]
      omega
    split
    · rename_i n1
      have e : k = 0 := by omega
      subst e
      exact ⟨by decide, .str _, H, I.tok _, ⟨_, rfl⟩, q⟩
    · split
      · rename_i n1 n2
        have e : k = 1 := by
          rw [Bool.or_eq_true, beq_iff_eq, beq_iff_eq] at n2
          omega
        subst e
        have ea : repS a (1 : Int).toNat = a := by
          show (⟨#[] ++ a.cps⟩ : Str) = a
          rw [Array.empty_append]
        rw [ea] at q
        exact ⟨.str _, H, I, ⟨_, rfl⟩, q⟩
      · exact ⟨hs, .str _, H, I.tok _, ⟨_, rfl⟩, q⟩
end
end Fn

set_option Elab.async false
set_option maxRecDepth 100000
set_option maxHeartbeats 4000000
/-! What the written part says of own error classes, as tests that run; making errors; which classes an error is of. -/
namespace Fn
open PySem PySem.Spec PyProof.Rows L2
structure ErrC (K : PySem.W.Frag) (C : Addr) : Prop where
  x : ExcC K C
  f : XfC K C
  k : PySem.W.keepIn K (.ref C) = true
theorem exB_ok {K : PySem.W.Frag} {C : Addr} (h : exB K C = true) : ErrC K C := by
  simp only [exB, Bool.and_eq_true, decide_eq_true_eq] at h
  obtain ⟨h1, h2, h3, h4, h5, h6⟩ := h
  have f := xfB_ok h1
  exact ⟨⟨f.ga, f.gg, f.exC, f.hdC, h3, h4, h5, h6⟩, f, h2⟩
/-- with an own __init__ at I that keeps the field f -/
structure IniC (K : PySem.W.Frag) (C I : Addr) (f : Str) : Prop where
  o : OwnX K C
  n : PySem.W.findIn K (.ref C) f = some none
  i : PySem.W.findIn K (.ref C) "__init__" = some (some (.ref I))
  t : PySem.W.typeIn K (.ref I) = some (.type "function")
theorem iniB_ok {K : PySem.W.Frag} {C I : Addr} {f : Str} {B newId initId : String} {bmB T : List Value} (Z : BaseX B newId initId bmB T) (e : ErrC K C) (h : iniB K C I f T newId = true) : IniC K C I f := by
  simp only [iniB, Bool.and_eq_true, decide_eq_true_eq] at h
  obtain ⟨h1, h2, h3, h4, h5⟩ := h
  exact ⟨⟨⟨_, _, _, _, _, Z, h1⟩, h2, e.k⟩, h3, h4, h5⟩
theorem strB_ok {K : PySem.W.Frag} {C : Addr} (e : ErrC K C) (h : strB K C = true) : StrC K C := ⟨of_decide_eq_true h, e.x.hs⟩
/-- of which of these classes an error of the class at C is -/
theorem row_at {K : PySem.W.Frag} {C : Addr} {cs : List Value} {bs : List Bool} (h : rowB K C cs bs = true) (i : Nat) {c : Value} {b : Bool} (hc : cs[i]? = some c) (hb : bs[i]? = some b) : PySem.W.kitOne K (.ref C) c = some b := by
  have m : (c, b) ∈ cs.zip bs := List.mem_of_getElem? (i := i) (by rw [List.getElem?_zip_eq_some]; exact ⟨hc, hb⟩)
  exact of_decide_eq_true (List.all_eq_true.mp h _ m)
def marks (bs : List Bool) : Str := Txt.join "" (bs.map fun b => if b then "x" else ".")
/-- an error with its one field -/
def IsE (H : Hp) (a C : Addr) (f : Str) (y : V) : Prop := ∃ dx, H a = some (exo a C (some dx)) ∧ H dx = some (exd dx [(f, y)])
/-- an error that was made with one text -/
def IsT (H : Hp) (a C : Addr) (x : Str) : Prop := ∃ t, H a = some (exT a C t) ∧ H t = some (.tup [.str x])
theorem IsE.same {H H' : Hp} {a C : Addr} {f : Str} {y : V} (h : IsE H a C f y) (e : Same H H') : IsE H' a C f y := by
  obtain ⟨dx, h1, h2⟩ := h
  exact ⟨dx, e _ _ h1, e _ _ h2⟩
theorem IsT.same {H H' : Hp} {a C : Addr} {x : Str} (h : IsT H a C x) (e : Same H H') : IsT H' a C x := by
  obtain ⟨t, h1, h2⟩ := h
  exact ⟨t, e _ _ h1, e _ _ h2⟩
theorem IsE.err {H : Hp} {a C : Addr} {f : Str} {y : V} (h : IsE H a C f y) : IsErr H a C := by
  obtain ⟨dx, h1, h2⟩ := h
  exact .inl ⟨some dx, h1, fun d e => ⟨_, by cases e; exact h2⟩⟩
theorem IsT.err {H : Hp} {a C : Addr} {x : Str} (h : IsT H a C x) : IsErr H a C := by
  obtain ⟨t, h1, _⟩ := h
  exact .inr ⟨t, h1⟩
theorem IsErr.same {H H' : Hp} {a C : Addr} (h : IsErr H a C) (e : Same H H') : IsErr H' a C := by
  rcases h with ⟨d, h1, h2⟩ | ⟨t, h1⟩
  · exact .inl ⟨d, e _ _ h1, fun dx z => (h2 dx z).imp fun fs q => e _ _ q⟩
  · exact .inr ⟨t, e _ _ h1⟩
theorem IsE.but {H H' : Hp} {p a C : Addr} {f : Str} {y : V} (d : Dc H p) (h : IsE H a C f y) (e : But p H H') : IsE H' a C f y := by
  obtain ⟨dx, h1, h2⟩ := h
  obtain ⟨x, y, z, hp⟩ := d
  refine ⟨dx, e _ _ (fun q => ?_) h1, e _ _ (fun q => ?_) h2⟩
  · subst q
    cases hp.symm.trans h1
  · subst q
    cases hp.symm.trans h2
theorem IsT.but {H H' : Hp} {p a C : Addr} {x : Str} (d : Dc H p) (h : IsT H a C x) (e : But p H H') : IsT H' a C x := by
  obtain ⟨t, h1, h2⟩ := h
  obtain ⟨x, y, z, hp⟩ := d
  refine ⟨t, e _ _ (fun q => ?_) h1, e _ _ (fun q => ?_) h2⟩
  · subst q
    cases hp.symm.trans h1
  · subst q
    cases hp.symm.trans h2
/-- what an own __init__ that keeps one field does -/
def spIni (K : PySem.W.Frag) (f : Str) : Sp := fun vs H Q _ => ∃ (a C : Addr) (y : V), vs = [.ref a, y] ∧ OwnX K C ∧ PySem.W.findIn K (.ref C) f = some none ∧ H a = some (exo a C none) ∧
  ∀ dx, H dx = none → dx ≠ a → Q .non (upd (upd H dx (exd dx [(f, y)])) a (exo a C (some dx)))
theorem mk_ini {K : PySem.W.Frag} {C I : Addr} {f : Str} {y : V} {H : Hp} {Q : V → Hp → Prop} (T : IniC K C I f) (k : ∀ a H', H a = none → Same H H' → IsE H' a C f y → Q (.ref a) H') :
    MkIni C (spIni K f) [y] H Q := by
  refine ⟨by show 1 ≤ 1000; decide, fun a na => ⟨a, C, y, rfl, T.o, T.n, upd_same, fun dx nd ne => ⟨rfl, k a _ na (fun b o e => ?_) ⟨dx, upd_same, ?_⟩⟩⟩⟩
  · have ba := ne_of_none e na
    rw [upd_ne ba, upd_ne (fun z => by subst z; rw [upd_ne ba] at nd; rw [nd] at e; cases e), upd_ne ba]
    exact e
  · rw [upd_ne ne]
    exact upd_same
theorem mk_one {C : Addr} {x : Str} {H : Hp} {Q : V → Hp → Prop} (k : ∀ a H', H a = none → Same H H' → IsT H' a C x → Q (.ref a) H') :
    MkOne C (.str x) H Q := by
  refine ⟨fun t a nt na ne => k a _ na (fun b o e => ?_) ⟨t, upd_same, ?_⟩⟩
  · rw [upd_ne (ne_of_none e na), upd_ne (ne_of_none e nt)]
    exact e
  · rw [upd_ne ne]
    exact upd_same
/-- data that may be kept in a field, and shown -/
def Rx (H : Hp) (v : V) (d : PyData) : Prop := (Dx H v d ∧ dictfree d = true ∧ nodice d = true ∧ d.hasDict = false) ∨ ∃ (a p : Addr) (x : Str), v = .ref a ∧ d = .dict [(.str x, .tuple [])] ∧ H a = some (.dK [(.inr x, .ref p)]) ∧ H p = some (.tup [])
theorem Rx.same {H H' : Hp} {v : V} {d : PyData} (h : Rx H v d) (e : Same H H') : Rx H' v d := by
  rcases h with ⟨h1, h2⟩ | ⟨a, p, x, h1, h2, h3, h4⟩
  · exact .inl ⟨h1.same e, h2⟩
  · exact .inr ⟨a, p, x, h1, h2, e _ _ h3, e _ _ h4⟩
theorem Rx.but {H H' : Hp} {q : Addr} {v : V} {d : PyData} (hq : Dc H q) (h : Rx H v d) (e : But q H H') : Rx H' v d := by
  rcases h with ⟨h1, h2, h3, h4⟩ | ⟨a, p, x, h1, h2, h3, h4⟩
  · exact .inl ⟨Dx.but hq e h1 h3, h2, h3, h4⟩
  · obtain ⟨i, j, k, hd⟩ := hq
    refine .inr ⟨a, p, x, h1, h2, e _ _ (fun z => ?_) h3, e _ _ (fun z => ?_) h4⟩
    · subst z
      cases hd.symm.trans h3
    · subst z
      cases hd.symm.trans h4
theorem Rx.rr {K : PySem.W.Frag} {H : Hp} {v : V} {d : PyData} (h : Rx H v d) : Rr K H v d := by
  rcases h with ⟨h1, h2, h3, h4⟩ | ⟨a, p, x, h1, h2, h3, h4⟩
  · exact .inl ⟨h1.dp h2, h4⟩
  · exact .inr ⟨a, x, _, h1, h2, h3, .tup (SqT.of h4) .nil⟩
theorem szn {n : Nat} (h : Nat.ble n 100000 = true) : n ≤ sizeLine := Nat.le_trans (Nat.le_of_ble_eq_true h) (by decide)
theorem hu64 {A : Around} {k : Nat} (hr : Room k A) : A.units + 64 < cLine := by
  have := hr.un
  omega
end Fn

set_option Elab.async false
set_option maxRecDepth 100000
set_option maxHeartbeats 2000000
/-! An own class's __getitem__, __contains__, __eq__ (also behind !=) and __str__, where the objects have a dict. -/
namespace Fn
open PySem PySem.Spec PyProof.Rows L2
/-- own subscripts: what the parser's subscript does is known -/
def IxO (b : Expr) : Prop := ∀ v u, subscripted b true v u = runValue (.builtin "lifetime.subscript" ⟨[v, u], []⟩)
def rIxO (C : Addr) (sp : Sp) (E : XK) : R2 := fun x y H Q => ∃ (a dx : Addr) (fs : List (Str × V)), x = .ref a ∧ H a = some (.ins C dx fs) ∧ sp [x, y] H Q E
/-- x in o -/
def rInO (C : Addr) (sp : Sp) (E : XK) (neg : Bool) : R2 := fun x y H Q => ∃ (a dx : Addr) (fs : List (Str × V)), y = .ref a ∧ H a = some (.ins C dx fs) ∧ sp [y, x] H (fun v H' => ∃ b, v = .bl b ∧ Q (.bl (if neg then !b else b)) H') E
/-- o == y -/
def rEqO (K : PySem.W.Frag) (C : Addr) (sp : Sp) (E : XK) (neg : Bool) : R2 := fun x y H Q => ∃ (a dx : Addr) (fs : List (Str × V)) (tb : Value), x = .ref a ∧ H a = some (.ins C dx fs) ∧ TyX K H y tb ∧ PySem.W.notFirst K C tb = true ∧ sp [x, y] H (fun v H' => ∃ b, v = .bl b ∧ Q (.bl (if neg then !b else b)) H') E
section
variable {X : Cx} {CX : CXT} {pins : List (Addr × Obj)} {σ : L2.St} {H : Hp} {s : Shared} {C g : Addr} {k : Nat} {sp : Sp} {E : XK}
theorem pe_ixO {a b : Expr} {ta tb : TE} {pos : Pos} (hs : PySem.W.findIn X.K (.ref C) "__getitem__" = some (some (.ref g))) (hf : PySem.W.fnIn X.K g = true) (hfn : PySem.W.isFn X.K (.ref g) = true) (F : FnR X.prog X.w X.K X.mg X.base CX k g sp) (hr : Room (k + 1) X.A) (hx : Passes CX X E)
    (ha : PE X a ta) (hb : PE X b tb) (hsl : IxO b := by intro _ _; with_unfolding_all rfl) : PE X (.Subscript a b pos) (tOp (rIxO C sp E) ta tb) := by
  refine ⟨fun pins s σ H Q I h => ?_⟩
  refine Subscript_ (binT ha hb I h fun v u s2 x y H2 I2 rx ry q => ?_)
  obtain ⟨o, dx, fs, rfl, ea, q⟩ := q
  cases (show v = Value.ref o from rx)
  obtain ⟨mA, O, _, _, _, _⟩ := ins_get I2.hok ea
  obtain ⟨od, J, _⟩ := O.look
  obtain ⟨m, hF⟩ := I2.fr
  refine PySem.W.sub_K hF I2.ok.mod.kin J hs hf hfn (wpAny_call (SlX.run_at (us := [.ref o, u]) (ws := [.ref o, y]) F hr.in1 I2.env0.in1 hx I2 (.cons rfl (.cons ry .nil)) q)) (hsl _ _)
theorem op_inO (hs : PySem.W.findIn X.K (.ref C) "__contains__" = some (some (.ref g))) (hfn : PySem.W.isFn X.K (.ref g) = true) (F : FnR X.prog X.w X.K X.mg X.base CX k g sp) (hr : Room k X.A) (hx : Passes CX X E) : OpR X (compareOp .In) (rInO C sp E false) := by
  intro pins s σ H x y v u Q I rx ry h
  obtain ⟨o, dx, fs, rfl, ea, q⟩ := h
  cases (show u = Value.ref o from ry)
  obtain ⟨mA, O, _, _, _, _⟩ := ins_get I.hok ea
  obtain ⟨od, J, _⟩ := O.look
  obtain ⟨m, hF⟩ := I.fr
  refine PySem.W.in_K hF I.ok.mod.kin J hs hfn (wpAny_mono (wpAny_call (SlX.run_at (us := [.ref o, v]) (ws := [.ref o, x]) F hr I.env0 hx I (.cons rfl (.cons rx .nil)) q)) (fun r s' z => ?_) fun _ _ z => z)
  obtain ⟨z', H', I', rz, b, rfl, qz⟩ := z
  cases (show r = Value.bool b from rz)
  exact wpAny_truthy_bool ⟨.bl b, H', I', rfl, qz⟩
theorem op_notInO (hs : PySem.W.findIn X.K (.ref C) "__contains__" = some (some (.ref g))) (hfn : PySem.W.isFn X.K (.ref g) = true) (F : FnR X.prog X.w X.K X.mg X.base CX k g sp) (hr : Room k X.A) (hx : Passes CX X E) : OpR X (compareOp .NotIn) (rInO C sp E true) := by
  intro pins s σ H x y v u Q I rx ry h
  obtain ⟨o, dx, fs, rfl, ea, q⟩ := h
  cases (show u = Value.ref o from ry)
  obtain ⟨mA, O, _, _, _, _⟩ := ins_get I.hok ea
  obtain ⟨od, J, _⟩ := O.look
  obtain ⟨m, hF⟩ := I.fr
  refine PySem.W.notIn_K hF I.ok.mod.kin J hs hfn (wpAny_mono (wpAny_call (SlX.run_at (us := [.ref o, v]) (ws := [.ref o, x]) F hr I.env0 hx I (.cons rfl (.cons rx .nil)) q)) (fun r s' z => ?_) fun _ _ z => z)
  obtain ⟨z', H', I', rz, b, rfl, qz⟩ := z
  cases (show r = Value.bool b from rz)
  exact wpAny_truthy_bool ⟨.bl (!b), H', I', rfl, qz⟩
theorem op_eqO (hs : PySem.W.findIn X.K (.ref C) "__eq__" = some (some (.ref g))) (hfn : PySem.W.isFn X.K (.ref g) = true) (F : FnR X.prog X.w X.K X.mg X.base CX k g sp) (hr : Room k X.A) (hx : Passes CX X E) : OpR X (compareOp .Eq) (rEqO X.K C sp E false) := by
  intro pins s σ H x y v u Q I rx ry h
  obtain ⟨o, dx, fs, tb, rfl, ea, ty, hn, q⟩ := h
  cases (show v = Value.ref o from rx)
  obtain ⟨mA, O, _, _, _, _⟩ := ins_get I.hok ea
  obtain ⟨od, J, _⟩ := O.look
  obtain ⟨m, hF⟩ := I.fr
  obtain ⟨P, kx, hP, _⟩ := kit_of I ry ty
  refine PySem.W.cmp_ofEq (PySem.W.cmp_K (op := .Eq) (tb := tb) hr.units0 hF I.ok.mod.kin J (kx.ty _ _ I.kIn hP) hn hs hfn (wpAny_mono (wpAny_call (SlX.run_at (us := [.ref o, u]) (ws := [.ref o, y]) F hr I.env0 hx I (.cons rfl (.cons ry .nil)) q)) (fun r s' z => ?_) fun _ _ z => z))
  obtain ⟨z', H', I', rz, b, rfl, qz⟩ := z
  cases (show r = Value.bool b from rz)
  exact ⟨.bl b, H', I', rfl, qz⟩
theorem ne_bind (self : Value) : bindSpecial (.builtin "object.__ne__") self = pure (.builtin "object.__ne__", [self]) := PySem.F.cmp_object.ne.bind self
theorem neBound {M : Model} {A : Around} {E : Value → Shared → Prop} {s : Shared} {K : PySem.W.Frag} {x C : Addr} {ox : Obj} {od : Option Obj} {args : List Value} {Q : Option Value → Shared → Prop} (X : K.In s.heap) (I : PySem.W.InstAt s.heap x ox C od) (hs : PySem.W.findIn K (.ref C) "__ne__" = some (some (.builtin "object.__ne__")))
    (h : wpAny M A (call (.builtin "object.__ne__") (.ref x :: args)) (fun v => Q (some v)) E s) : wpAny M A (callSpecialIfBound? (.ref x) "__ne__" args) Q E s := by
  simp only [callSpecialIfBound?, bindSpecialIfBound?]
  refine wpAny_holding (wpAny_bind (wpAny_bind (wpAny_bind (I.type.here ((PySem.W.looks_findIn X hs).here ?_)))))
  refine wpAny_bind (wpAny_askSetting (wpAny_ite ?_))
  have fin : wpAny M A (call (.builtin "object.__ne__") ([.ref x] ++ args) >>= fun v => pure (some v)) Q E s := wpAny_bind (wpAny_mono h (fun v s' h' => wpAny_pure h') fun _ _ h' => h')
  split
  · exact wpAny_bind (wpAny_of_eq (ne_bind _) (wpAny_pure (by exact fin)))
  · exact wpAny_tryCatch (wpAny_bind (wpAny_of_eq (ne_bind _) (wpAny_pure (by exact fin))))
/-- o != y, by the class's own __eq__ -/
theorem op_neO (hne : PySem.W.findIn X.K (.ref C) "__ne__" = some (some (.builtin "object.__ne__"))) (hob : PySem.W.subIn X.K (.ref C) (.type "object") = some true) (hs : PySem.W.findIn X.K (.ref C) "__eq__" = some (some (.ref g))) (hfn : PySem.W.isFn X.K (.ref g) = true)
    (F : FnR X.prog X.w X.K X.mg X.base CX k g sp) (hr : Room (k + 1) X.A) (hx : Passes CX X E) : OpR X (compareOp .NotEq) (rEqO X.K C sp E true) := by
  intro pins s σ H x y v u Q I rx ry h
  obtain ⟨o, dx, fs, tb, rfl, ea, ty, hn, q⟩ := h
  cases (show v = Value.ref o from rx)
  obtain ⟨mA, O, _, _, _, _⟩ := ins_get I.hok ea
  obtain ⟨od, J, _⟩ := O.look
  obtain ⟨m, hF⟩ := I.fr
  obtain ⟨P, kx, hP, _⟩ := kit_of I ry ty
  have hb : PySem.W.Looks (model X.prog X.w) s.heap (typeOf u) tb := kx.ty _ _ I.kIn hP
  have X0 := I.kIn
  have fin : wpAny (model X.prog X.w) X.A.in1 (call (.ref g) [.ref o, u]) (fun r s' => ∃ b, r = .bool b ∧ EP X pins σ Q (.bool (!b)) s') X.xe s :=
    wpAny_mono (wpAny_call (SlX.run_at (us := [.ref o, u]) (ws := [.ref o, y]) F hr.in1 I.env0.in1 hx I (.cons rfl (.cons ry .nil)) q)) (fun r s' z => by
      obtain ⟨z', H', I', rz, b, rfl, qz⟩ := z
      cases (show r = Value.bool b from rz)
      exact ⟨b, rfl, .bl (!b), H', I', rfl, qz⟩) fun _ _ z => z
  have one : wpAny (model X.prog X.w) X.A (tryCompare (.ref o) "__ne__" u) (fun r s' => ∃ v, r = some v ∧ EP X pins σ Q v s') X.xe s := by
    unfold tryCompare
    refine wpAny_bind (neBound X0 J hne (wpAny_call ?_))
    refine codeAny_call_builtin PySem.F.cmp_object.ne.plain PySem.F.cmpEntry_ne (PySem.W.check_slot PySem.F.cmpKind_ne PySem.F.cmpSplit_ne (J.type.andThen (PySem.W.looks_subIn X0 hob)) (PySem.F.cmpArgs_ne _ _) ?_)
    unfold Builtin.«object.__ne__»
    refine wpAny_bind (wpAny_of_eq (a := (Value.ref o, [u])) (by first | rfl | kernel_rfl) ?_)
    refine wpAny_bind (m := cRoomFor _ _) (wpAny_cRoomFor hr.in1.units0 ?_)
    refine wpAny_bind (m := callSpecialIfBound? (.ref o) (Str.ofString "__eq__") [u]) (PySem.W.ifBound_K X0 J hs hfn (wpAny_mono fin (fun r s' z => ?_) fun _ _ z => z))
    obtain ⟨b, rfl, qz⟩ := z
    refine wpAny_bind (m := truthy (.bool b)) (wpAny_truthy_bool ?_)
    exact wpAny_pure (wpAny_pure ⟨_, rfl, qz⟩)
  refine PySem.W.cmp_ofNotEq ?_
  unfold richCompare
  simp only [oneThing_ref]
  refine wpAny_holding (wpAny_bind (wpAny_cRoomFor hr.units0 ?_))
  refine wpAny_bind (J.type.here (wpAny_bind (hb.here ?_)))
  split
  · rename_i q
    have e : PySem.W.subIn X.K tb (.ref C) = some false := by
      rcases Bool.or_eq_true_iff.mp hn with e | e
      · rw [beq_iff_eq.mp e] at q; simp at q
      · exact beq_iff_eq.mp e
    refine wpAny_bind ((PySem.W.looks_subIn X0 e).here ?_)
    simp only [Bool.false_eq_true, if_false]
    refine wpAny_bind (wpAny_mono one (fun r s' z => ?_) fun _ _ e => e)
    obtain ⟨v, rfl, hq⟩ := z
    exact wpAny_pure hq
  · refine wpAny_bind (wpAny_pure ?_)
    simp only [Bool.false_eq_true, if_false]
    refine wpAny_bind (wpAny_mono one (fun r s' z => ?_) fun _ _ e => e)
    obtain ⟨v, rfl, hq⟩ := z
    exact wpAny_pure hq
/-- str(o) by the class's own __str__ -/
def rStrO (C : Addr) (sp : Sp) (E : XK) : List V → Hp → VK → Prop := fun xs H Q => ∃ (a dx : Addr) (fs : List (Str × V)), xs = [.ref a] ∧ H a = some (.ins C dx fs) ∧ sp xs H (fun v H' => ∃ t, v = .str t ∧ Q (.str t) H') E
theorem call_strO (hs : PySem.W.findIn X.K (.ref C) "__str__" = some (some (.ref g))) (hfn : PySem.W.isFn X.K (.ref g) = true) (F : FnR X.prog X.w X.K X.mg X.base CX k g sp) (hr : Room (k + 2) X.A) (hx : Passes CX X E) : CallR X (.type "str") (rStrO C sp E) := by
  intro pins s σ H xs us Q I r h
  obtain ⟨a, dx, fs, rfl, ea, q⟩ := h
  obtain ⟨u, rfl, ru⟩ := vals1 r
  obtain rfl : u = Value.ref a := ru
  obtain ⟨mA, O, _, _, _, _⟩ := ins_get I.hok ea
  obtain ⟨od, J, _⟩ := O.look
  have hr2 : Room k X.A.in1.in1 := (show Room (k + 1) X.A.in1 from Room.in1 hr).in1
  refine PySem.W.kso_call hr2.units0 I.kIn J hs hfn (wpAny_mono (wpAny_call (SlX.run_at (us := [.ref a]) (ws := [.ref a]) F hr2 I.env0.in1.in1 hx I (.cons rfl .nil) q)) (fun r s' z => ?_) fun _ _ z => z)
  obtain ⟨z', H', I', rz, t, rfl, qz⟩ := z
  obtain ⟨tk, rfl⟩ : ∃ tk, r = Value.str t tk := rz
  exact ⟨.str t, H', I', ⟨tk, rfl⟩, qz⟩
end
end Fn

set_option Elab.async false
set_option maxRecDepth 100000
set_option maxHeartbeats 2000000
/-! enumerate over a tuple; max of a list of ints with a default. -/
namespace Fn
open PySem PySem.Spec PyProof.Rows L2
theorem meets_enum1 {v : Value} {o : Obj} {H : Heap → Prop} (B : Begins v o H) :
    Meets (Builtin.«enumerate.__new__» ⟨[.type "enumerate", v], []⟩) (fun _ R s => H s.heap ∧
      R (.ok (.ret (.ref (s.heap.push o).objs.size))) { s with heap := (s.heap.push o).push { cls := .type "enumerate", data := .fields #[.none, .bool false, .ref s.heap.objs.size, rawInt 0, .none, .none] } }) :=
  .of_wp fun prog w A R s h => by
    obtain ⟨hp, g, d, tk, os⟩ := s; obtain ⟨h1, h⟩ := h
    have hsub := sub_enumerate
    have q1 : ∀ {A' : Around} {E : Value → Shared → Prop} {Q : Value → Shared → Prop}, Q (.ref hp.objs.size) ⟨hp.push o, g, d, tk, os⟩ → wpAny (model prog w) A' (pyIter v) Q E ⟨hp, g, d, tk, os⟩ :=
      fun q => B.iter prog w _ _ ⟨hp, g, d, tk, os⟩ _ h1 q
    wp_walk using q1
    refine wpAny_stack_any fun st => wpAny_pure ?_
    split
    · rename_i c _ _ _ _ _
      cases (c == Value.type "enumerate")
      · wp_walk using q1
        exact ⟨_, rfl, h⟩
      · wp_walk using q1
        exact ⟨_, rfl, h⟩
    · wp_walk using q1
      exact ⟨_, rfl, h⟩
section
variable {prog : Program} {w : World} {A : Around} {E : Value → Shared → Prop} {s : Shared}
theorem enum_begins1 {v : Value} {o : Obj} {H : Heap → Prop} {Q : Value → Shared → Prop} (B : Begins v o H) (h1 : H s.heap)
    (h : ∀ h', IsEnum h' (s.heap.objs.size + 1) s.heap.objs.size 0 .none → h'.get? s.heap.objs.size = some o → h'.objs.size = s.heap.objs.size + 2 →
      (∀ b o, s.heap.get? b = some o → h'.get? b = some o) → Q (.ref (s.heap.objs.size + 1)) { s with heap := h' }) :
    wpAny (model prog w) A (call (.type "enumerate") [v]) Q E s := by
  refine callType_new F.called_enumerate (by decide) (F.typeCall_enumerate_1 _) (F.newCall_enumerate_1 _) (fun obj => F.args_object_init_2 obj _) F.entry_enumerate_new
    (meets_enum1 B) ⟨h1, ?_⟩
  have hz : (s.heap.push o).objs.size = s.heap.objs.size + 1 := Heap.size_push ..
  show _ ∧ _
  rw [hz]
  have he : IsEnum ((s.heap.push o).push { cls := .type "enumerate", data := .fields #[.none, .bool false, .ref s.heap.objs.size, rawInt 0, .none, .none] }) (s.heap.objs.size + 1) s.heap.objs.size 0 .none := by
    have := Heap.get?_push_size (s.heap.push o) (o := { cls := .type "enumerate", data := .fields #[.none, .bool false, .ref s.heap.objs.size, rawInt 0, .none, .none] }) rfl
    rw [hz] at this; exact this
  refine ⟨⟨_, he, rfl⟩, h _ he (Heap.get?_push_of_some _ (Heap.get?_push_size _ B.free)) (by rw [Heap.size_push, hz]) fun b o x => Heap.get?_push_of_some _ (Heap.get?_push_of_some _ x)⟩
end
/-- the tuple at a as it stands at each turn, each item in a new pair -/
def IteT (K : PySem.W.Frag) (a : Addr) : It :=
  ⟨fun i H => ∃ (xs : List V) (x : V), SqT K H a xs ∧ xs[i]? = some x, fun i H v H' => ∃ T x, v = .ref T ∧ H T = none ∧ H' = upd H T (.tup [.int (i : Nat), x]) ∧ ∀ xs, SqT K H a xs → xs[i]? = some x, fun i H => ∃ xs : List V, SqT K H a xs ∧ xs.length ≤ i⟩
theorem turn_enumT {P : Program} {w : World} {K : PySem.W.Frag} {elts : List Expr} {kk : Nat} {tpos : Pos} (a e it : Addr) :
    Turn P w K (.Tuple elts kk tpos) (IteT K a) [e, it] e (fun i h => (∃ old, IsEnum h e it ((i : Nat) : Int) old) ∧ h.IsTupleIter it a i ∧ e ≠ it) where
  mem := by simp
  obj := fun i h st b hb => by
    obtain ⟨⟨old, he⟩, ⟨o, ho, hc, hd⟩, _⟩ := st
    have e' : b = e ∨ b = it := by simpa using hb
    rcases e' with z | z
    · rw [z]; exact ⟨_, he, fun v q => nomatch q⟩
    · rw [z]; exact ⟨o, ho, fun v q => by rw [hd] at q; cases q⟩
  keep := fun i h h' st k => let ⟨⟨old, he⟩, hi, hne⟩ := st; ⟨⟨old, k e (by simp) _ he⟩, hi.at fun o q => k it (by simp) o q, hne⟩
  item := by
    intro X hP hw hK hc i pins s σ H E I hf st hg
    subst hP hw hK
    obtain ⟨⟨old, he⟩, hit, hne⟩ := st
    obtain ⟨xs, x, hq, hx⟩ := hg
    obtain ⟨its, rv, p, hz⟩ := I.tuple hq
    have pT : s.heap.IsTuple a its.toArray := p
    obtain ⟨u, hu, ru⟩ := rv.get hx
    have hel : e < s.heap.objs.size := Heap.lt_size he
    have hil : it < s.heap.objs.size := by obtain ⟨_, q, _⟩ := hit; exact Heap.lt_size q
    have hae : a ≠ it := fun z => by
      obtain ⟨o1, q1, c1, _⟩ := hit
      obtain ⟨o2, q2, c2, _⟩ := pT
      rw [z, q1] at q2
      cases q2
      rw [c1] at c2
      exact absurd (Value.type.inj c2) (by decide)
    have hea : e ≠ a := fun z => by
      obtain ⟨o2, q2, c2, _⟩ := pT
      rw [← z] at q2
      have h1 := Option.some.inj (he.symm.trans q2)
      rw [← h1] at c2
      exact absurd (Value.type.inj c2) (by decide)
    have hin : i < its.toArray.size := by
      rw [List.size_toArray]
      exact (List.getElem?_eq_some_iff.mp hu).1
    refine wpAny_pyNext_enum_itemD (Draws.tuple (A := X.A.in1) (show X.A.in1.handled = none from I.ok.hd hc) it a hae its.toArray) he ⟨hit, pT⟩ hin hne (by simp; exact ⟨hne, hea⟩) fun x' h' tk hx' ho hst' hT hsz hk => ?_
    obtain ⟨hit', pT'⟩ := hst'
    have ex : x' = u := by
      have z : its.toArray[i]? = some u := by simpa using hu
      exact Option.some.inj (hx'.symm.trans z)
    subst ex
    refine ⟨_, rfl, wpAny_letOwnedTupleGo_enum (s := { s with heap := h', toks := tk + 1 }) ho fun h'' he' sb => ?_⟩
    have hT2 : h''.get? s.heap.objs.size = some { cls := .type "tuple", data := .seq #[.int i tk, x'] } := (sb.2 _ (Nat.ne_of_gt hel)).trans hT
    have new : ObjOk X.prog X.w (upd H s.heap.objs.size (.tup [.int (i : Nat), x])) h'' s.heap.objs.size (.tup [.int (i : Nat), x]) :=
      ⟨by show 2 ≤ sizeLine; decide, [.int i tk, x'], .cons ⟨_, rfl⟩ (.cons ru .nil), ⟨_, hT2, rfl, _, rfl⟩⟩
    have I1 : Inv X pins σ (upd H s.heap.objs.size (.tup [.int (i : Nat), x])) { s with heap := h'', toks := tk + 1 } :=
      I.turnedNew (ch := [e, it]) (fun b ob hb q => (sb.2 b (fun z => hb (by simp [z]))).trans (hk b ob (fun z => hb (by simp [z])) (fun z => hb (by simp [z])) q)) hf (Nat.le_refl _) new
    refine ⟨.ref s.heap.objs.size, _, I1, rfl, ⟨_, x, rfl, I.hok.fresh (Nat.le_refl _), rfl, fun ys hy => by rw [I.tuple_inj hy hq]; exact hx⟩, ⟨⟨x', ?_⟩, hit'.at fun o q => (sb.2 it (Ne.symm hne)).trans q, hne⟩, fun b hb => ?_⟩
    · have e1 : ((i + 1 : Nat) : Int) = (i : Int) + 1 := by omega
      rw [e1]; exact he'
    · have hb' : b < s.heap.objs.size := by
        have e' : b = e ∨ b = it := by simpa using hb
        rcases e' with z | z
        · rw [z]; exact hel
        · rw [z]; exact hil
      rw [upd_ne (Nat.ne_of_lt hb')]
      exact (hf b hb).1
  done := by
    intro X hP hw hK hc i pins s σ H E I hf st hg
    subst hP hw hK
    obtain ⟨⟨old, he⟩, hit, hne⟩ := st
    obtain ⟨xs, hq, hx⟩ := hg
    obtain ⟨its, rv, p, hz⟩ := I.tuple hq
    have pT : s.heap.IsTuple a its.toArray := p
    obtain ⟨f0, f1, f2, f3, f4, f5⟩ := hf it (by simp)
    have hl := rv.length
    have hT : s.TypeIs (.ref e) "enumerate" := ⟨_, he, rfl⟩
    unfold pyNext
    refine wpAny_bind (wpAny_attempt (wpAny_callSpecial?_slot (name := Str.ofString "__next__") hT F.slot_enumerate_next
      (wpAny_call_entry F.slot_enumerate_next hT F.entry_enumerate_next ?_ (F.args_enumerate_next_1 _))))
    show wpAny _ _ (field (.ref e) 2 >>= _) _ _ _
    refine wpAny_bind (wpAny_field he rfl (x := .ref it) rfl ?_)
    refine wpAny_bind (wpAny_nextOf_tuple_end (I.ok.hd hc) hit pT (by simp; omega) fun h' x he' hx' => ?_)
    obtain ⟨o, ho, hc'⟩ := hx'
    refine wpAny_bind (wpAny_isInstance (T := "StopIteration") (b := true) ⟨o, ho, hc'⟩ isSubtype_stop ?_)
    exact wpAny_pure ⟨rfl, I.turned (t' := s.toks) (fun b o hb q => he' b o hb q) f0 f1 f3 f4 f5⟩
  self := fun A i s Q E st h => let ⟨⟨_, he⟩, _⟩ := st; wpAny_pyIter_enum he h
def iEnumT (K : PySem.W.Frag) (ta : TA) : TI := fun σ H R => ta σ H fun vs H1 => ∃ a xs, vs = [.ref a] ∧ SqT K H1 a xs ∧ R (IteT K a) H1
theorem pi_enumT {X : Cx} {e : Expr} {ta : TA} {p pos tpos : Pos} {elts : List Expr} {kk : Nat} (hg : Gl X "enumerate") (hm : X.mg "enumerate" = none) (ha : PA X [e] ta) (hs : starEach [e] X.env = [(false, eval e X.env)] := by rfl) :
    PI X (.Tuple elts kk tpos) (.Call (.Name "enumerate" p) [e] [] pos) (iEnumT X.K ta) := by
  refine ⟨fun pins s σ H R I h => ?_⟩
  refine Call_ (ld_blt I hg hm boot_enumerate (PyProof.Rows.callWith_type1 (thn (ha.run pos pins s σ H _ I h) fun us s1 ⟨vs, H1, I1, r1, q1⟩ => ?_) hs rfl))
  obtain ⟨a, xs, ex, hq, q⟩ := q1
  subst ex
  cases r1 with
  | cons r rr =>
    cases rr
    cases r
    obtain ⟨its, rv, p', hz⟩ := I1.tuple hq
    refine enum_begins1 (begins_tuple a its.toArray) (show s1.heap.IsTuple a its.toArray from p') fun h' he hit hsz hk => wpAny_pyIter_enum he ?_
    have I2 : Inv X pins σ H1 { s1 with heap := h' } := I1.kept (t' := s1.toks) hk
    refine ⟨s1.heap.objs.size + 1, [s1.heap.objs.size + 1, s1.heap.objs.size], _, _, H1, rfl, I2, turn_enumT a (s1.heap.objs.size + 1) s1.heap.objs.size, ⟨⟨.none, he⟩, ⟨_, hit, rfl, rfl⟩, Nat.succ_ne_self _⟩, fun b hb => ?_, q⟩
    have e' : b = s1.heap.objs.size + 1 ∨ b = s1.heap.objs.size := by simpa using hb
    have hle : s1.heap.objs.size ≤ b := by
      rcases e' with z | z
      · rw [z]; exact Nat.le_add_right _ _
      · rw [z]; exact Nat.le_refl _
    exact I1.fpOk hle (I1.hok.fresh hle)
theorem pi_enumT_k {X : Cx} {K : PySem.W.Frag} {e : Expr} {ta : TA} {p pos tpos : Pos} {elts : List Expr} {kk : Nat} (hg : Gl X "enumerate") (hm : X.mg "enumerate" = none) (ha : PA X [e] ta) (hs : starEach [e] X.env = [(false, eval e X.env)] := by rfl) (hK : X.K = K := by rfl) :
    PI X (.Tuple elts kk tpos) (.Call (.Name "enumerate" p) [e] [] pos) (iEnumT K ta) := by subst hK; exact pi_enumT hg hm ha hs
theorem walk_enumT {K : PySem.W.Frag} {a : Addr} {xs : List V} : Walk (IteT K a) xs.length (fun H => SqT K H a xs) (YPair (fun i => some (.int (i : Nat))) (fun i => xs[i]?)) := by
  refine ⟨fun i _ hi q => ⟨xs, xs[i], q, by simp [hi]⟩, fun _ q => ⟨xs, q, Nat.le_refl _⟩, fun i H v H' _ q y => ?_⟩
  obtain ⟨T, x, h1, h2, h3, h4⟩ := y
  exact ⟨T, .int (i : Nat), x, h1, h2, h3, rfl, h4 xs q⟩
/-! ### max(ns, default=d) -/
def maxI (d : Int) : List Int → Int
  | [] => d
  | n :: r => r.foldl max n
theorem reads_ints {h : Heap} : ∀ {us : List Value} {ns : List Int}, Vals (ns.map V.int) us → ReadsAll h us (ns.map PyData.int) []
  | _, [], r => by cases r; exact .nil
  | _, n :: ns, r => by
    cases r with
    | cons a b =>
      obtain ⟨t, rfl⟩ := (show ∃ t, _ = Value.int n t from a)
      exact .cons (.int _ _) (reads_ints b)
theorem ints_alike (ns : List Int) : PySem.W.AlikeAll (ns.map PyData.int) := by
  refine ⟨fun x hx y hy => ?_, fun x hx => ?_⟩
  · obtain ⟨a, _, rfl⟩ := List.mem_map.mp hx
    obtain ⟨b, _, rfl⟩ := List.mem_map.mp hy
    rfl
  · obtain ⟨a, _, rfl⟩ := List.mem_map.mp hx
    intro z
    cases z
theorem ints_depth : ∀ ns : List Int, PyData.depthAll (ns.map PyData.int) ≤ 1
  | [] => by decide
  | n :: ns => Nat.max_le.mpr ⟨Nat.zero_le _, ints_depth ns⟩
def rMaxDef (K : PySem.W.Frag) : List V → List V → Hp → VK → Prop := fun vs zs H Q => ∃ (a : Addr) (ns : List Int) (d : Int), vs = [.ref a] ∧ zs = [.int d] ∧ SqL K H a (ns.map V.int) ∧ Q (.int (maxI d ns)) H
theorem cr_maxDef {X : Cx} (hc : X.calm = true) (hu : X.A.units + 64 < cLine) : CallRK X (.builtin "max") [Str.ofString "default"] (rMaxDef X.K) := by
  intro pins s σ H xs zs us ws Q I r rz h
  obtain ⟨a, ns, d, rfl, rfl, hs, q⟩ := h
  obtain rfl := Vals.ref1 r
  obtain ⟨w1, rfl, e1⟩ := vals1 rz
  obtain ⟨t, rfl⟩ := (show ∃ t, w1 = Value.int d t from e1)
  obtain ⟨its, rv, hl, _⟩ := I.list hs
  have hd := ints_depth ns
  refine PySem.W.max_list_default (I.ok.hd hc) hl.isList (reads_ints rv) (ints_alike ns) (by omega) (fun e h' tk hk => ?_) fun y ys i v h' tk bs e hv hr hk => ?_
  · cases ns with
    | nil => exact ⟨.int d, H, I.kept hk, ⟨_, rfl⟩, q⟩
    | cons n ns => cases e
  · cases ns with
    | nil => cases e
    | cons n ns =>
      cases e
      rw [PySem.W.maxD_ints] at hr
      cases hr
      exact ⟨.int _, H, I.kept hk, ⟨_, rfl⟩, q⟩
end Fn

set_option Elab.async false
set_option maxRecDepth 100000
set_option maxHeartbeats 2000000
/-! sorted of a list of pairs (text, int). -/
namespace Fn
open PySem PySem.Spec PyProof.Rows L2
theorem refs_its {us : List Value} : ∀ {bs : List Addr}, Vals (bs.map V.ref) us → us = bs.map Value.ref := by
  induction us with
  | nil => intro bs r; cases bs with
    | nil => rfl
    | cons b bs => cases r
  | cons u us ih => intro bs r; cases bs with
    | nil => cases r
    | cons b bs =>
      cases r with
      | cons r1 r2 =>
        rw [ih r2]
        cases (show u = Value.ref b from r1)
        rfl
theorem refs_vals (l : List Addr) : Vals (l.map V.ref) (l.map Value.ref) := by
  induction l with
  | nil => exact .nil
  | cons b l ih => exact .cons rfl ih
def rSortPL (K : PySem.W.Frag) : List V → Hp → VK → Prop := fun vs H Q => ∃ (a : Addr) (bs : List Addr), vs = [V.ref a] ∧ SqL K H a (bs.map V.ref) ∧ (∀ b ∈ bs, ∃ x i, H b = some (.tup [.str x, .int i])) ∧
  ∀ (as : List Addr) (p : Addr), as.Perm bs → as.Pairwise (fun b c => lexS (pairAt H c) (pairAt H b) = false) → H p = none → Q (.ref p) (upd H p (.lst (as.map V.ref)))
theorem cr_sortPL {X : Cx} : CallR X (.builtin "sorted") (rSortPL X.K) := by
  intro pins s σ H vs us Q I r h
  obtain ⟨a, bs, rfl, hs, hL, q⟩ := h
  obtain ⟨its, rv, hl, hz⟩ := I.list hs
  obtain rfl := refs_its rv
  rw [Vals.ref1 r]
  rw [List.length_map] at hz
  let k : Value → Str × Int := fun v => match v with | .ref b => pairAt H b | _ => ("", 0)
  have pk : ∀ v ∈ bs.map Value.ref, IsPairS s.heap v (k v) := by
    intro v hv
    obtain ⟨b, hb, rfl⟩ := List.mem_map.mp hv
    obtain ⟨x, i, hx⟩ := hL b hb
    obtain ⟨_, its, rv, ob, h1, h2, n, h3⟩ := I.hok _ _ hx
    obtain ⟨u1, u2, rfl, ⟨t1, rfl⟩, t2, rfl⟩ := vals2 rv
    have ek : k (.ref b) = (x, i) := by
      show pairAt H b = _
      unfold pairAt
      rw [hx]
    rw [ek]
    exact ⟨b, ob, t1, t2, n, rfl, h1, h2, h3⟩
  refine SrtO.sorted_ord (swo_lexS k) hl.isList (by rw [List.length_map]; exact hz) (fun h2 h₁ a ha kk => pairS_sortable (s := { s with heap := h₁ }) (k := k) (by omega) (fun v hm => pairS_keeps (pk v hm) fun b o e _ => (kk b o e).2) fun o2 e2 c2 => ?_) fun out hs hb => ?_
  · have e3 : some o2 = some (seqObj "list" (bs.map Value.ref).toArray 0) := e2.symm.trans ha
    cases e3
    exact absurd (Value.type.inj c2) (by decide)
  · obtain ⟨as, pas, rfl⟩ := perm_map_inv hb.perm bs rfl
    have hn : H (s.heap.objs.size + 1) = none := I.hok.fresh (Nat.le_succ _)
    obtain ⟨n, ha⟩ := sortedAll_at s.heap (bs.map Value.ref) (as.map Value.ref).toArray
    refine ⟨.ref (s.heap.objs.size + 1), upd H (s.heap.objs.size + 1) (.lst (as.map V.ref)), I.laid (t' := s.toks) (fun _ _ => sortedAll_old) (Nat.le_succ _) ⟨by rw [List.length_map, pas.length_eq]; exact hz, as.map Value.ref, n, refs_vals as, ha⟩, rfl, q as _ pas ?_ hn⟩
    exact List.pairwise_map.mp hs
theorem paired_right {α β : Type} {R : α → β → Prop} : ∀ {l : List α} {m : List β} {i : Nat} {y : β}, Paired R l m → m[i]? = some y → ∃ x, l[i]? = some x ∧ R x y
  | _, _, _, _, .nil, h => by simp at h
  | _, _, 0, _, .cons a _, h => by
    cases (show some _ = some _ from h)
    exact ⟨_, rfl, a⟩
  | _, _, i + 1, _, .cons _ t, h => by
    obtain ⟨x, e, r⟩ := paired_right t (show _ = some _ from h)
    exact ⟨x, e, r⟩
/-- t + u of tuples of any length -/
def rCatB : R2 := fun x y H Q => ∃ (a b : Addr) (xs ys : List V), x = .ref a ∧ y = .ref b ∧ H a = some (.tup xs) ∧ H b = some (.tup ys) ∧ xs.length + ys.length ≤ sizeLine ∧ ∀ (p : Addr) (H' : Hp), Same H H' → H' p = some (.tup (xs ++ ys)) → Q (.ref p) H'
theorem op_catB {X : Cx} : OpR X (binaryOp .Add) rCatB := by
  intro pins s σ H x y v u Q I rx ry h
  obtain ⟨a, b, xs, ys, rfl, rfl, ha, hb, hz, q⟩ := h
  exact op_catA pins s σ H _ _ v u Q I rx ry ⟨a, b, xs, ys, rfl, rfl, SqT.of ha, SqT.of hb, hz, fun e => q b H (Same.refl _) (by rw [e, List.nil_append]; exact hb), fun _ e => q a H (Same.refl _) (by rw [e, List.append_nil]; exact ha), fun _ _ p hp => q p _ (fun c o e => by rw [upd_ne (ne_of_none e hp)]; exact e) upd_same⟩
/-- addresses and the pairs that stand there -/
theorem pairs_pw {H : Hp} : ∀ {as : List Addr} {ps : List (Str × Int)}, Paired (fun b q => H b = some (.tup [.str q.1, .int q.2])) as ps → as.Pairwise (fun b c => lexS (pairAt H c) (pairAt H b) = false) → ps.Pairwise (fun p q => lexS q p = false)
  | _, _, .nil, _ => .nil
  | _, _, .cons (a := a) (b := p) h t, w => by
    have at_ : ∀ {b : Addr} {q : Str × Int}, H b = some (.tup [.str q.1, .int q.2]) → pairAt H b = q := fun e => by
      unfold pairAt
      rw [e]
    obtain ⟨w1, w2⟩ := List.pairwise_cons.mp w
    refine List.pairwise_cons.mpr ⟨fun q hq => ?_, pairs_pw t w2⟩
    obtain ⟨i, hi⟩ := List.getElem?_of_mem hq
    obtain ⟨b, hb, e⟩ := paired_right t hi
    have z := w1 b (List.mem_of_getElem? hb)
    rw [at_ h, at_ e] at z
    exact z
/-- sorted rows of the same pairs, each once, are one row -/
theorem lex_uniq : ∀ {ps qs : List (Str × Int)}, ps.Nodup → qs.Nodup → ps.Pairwise (fun p q => lexS q p = false) → qs.Pairwise (fun p q => lexS q p = false) → (∀ p, p ∈ ps ↔ p ∈ qs) → ps = qs
  | [], [], _, _, _, _, _ => rfl
  | [], q :: qs, _, _, _, _, h => absurd ((h q).mpr List.mem_cons_self) (by simp)
  | p :: ps, [], _, _, _, _, h => absurd ((h p).mp List.mem_cons_self) (by simp)
  | p :: ps, q :: qs, n1, n2, w1, w2, h => by
    obtain ⟨a1, b1⟩ := List.pairwise_cons.mp w1
    obtain ⟨a2, b2⟩ := List.pairwise_cons.mp w2
    obtain ⟨c1, d1⟩ := List.nodup_cons.mp n1
    obtain ⟨c2, d2⟩ := List.nodup_cons.mp n2
    have e : p = q := by
      rcases List.mem_cons.mp ((h p).mp List.mem_cons_self) with e | m1
      · exact e
      · rcases List.mem_cons.mp ((h q).mpr List.mem_cons_self) with e | m2
        · exact e.symm
        · have z1 := a2 p m1
          have z2 := a1 q m2
          rcases lexS_tot z1 with z | z
          · rw [z2] at z
            cases z
          · exact z.symm
    subst e
    rw [lex_uniq d1 d2 b1 b2 fun r => ?_]
    constructor
    · intro m
      rcases List.mem_cons.mp ((h r).mp (List.mem_cons_of_mem _ m)) with rfl | z
      · exact absurd m c1
      · exact z
    · intro m
      rcases List.mem_cons.mp ((h r).mpr (List.mem_cons_of_mem _ m)) with rfl | z
      · exact absurd m c2
      · exact z
end Fn

set_option Elab.async false
set_option maxRecDepth 100000
set_option maxHeartbeats 2000000
/-! A dict against the empty one. -/
namespace Fn
open PySem PySem.Spec PyProof.Rows L2
def rEqDE (neg : Bool) : R2 := fun x y H Q => ∃ (a b : Addr) (ks : List (Key × V)), x = .ref a ∧ y = .ref b ∧ H a = some (.dK ks) ∧ H b = some (.dK []) ∧ Q (.bl (if neg then !ks.isEmpty else ks.isEmpty)) H
theorem op_eqDE {X : Cx} (hu : X.A.units < cLine) : OpR X (compareOp .Eq) (rEqDE false) := by
  intro pins s σ H x y v u Q I rx ry h
  obtain ⟨a, b, ks, rfl, rfl, ea, eb, q⟩ := h
  obtain rfl : v = Value.ref a := rx
  obtain rfl : u = Value.ref b := ry
  obtain ⟨_, ya, va, ra, da⟩ := (show ObjOk X.prog X.w H s.heap a (.dK ks) from I.hok a _ ea)
  obtain ⟨_, yb, vb, rb, db⟩ := (show ObjOk X.prog X.w H s.heap b (.dK []) from I.hok b _ eb)
  have lb : vb.length = 0 := by rw [← rb.length]; rfl
  have la : va.length = ks.length := ra.length.symm
  cases ks with
  | nil =>
    have la' : va.length = 0 := la
    exact PySem.W.keq_eq (knd := mixKind X.prog X.w) (r := true) ya yb da db hu (fun _ => hits_all rb ra fun p hp => (by cases hp)) (fin_bl I q (by rw [la', lb]; rfl))
  | cons k ks =>
    have la' : va.length = ks.length + 1 := la
    exact PySem.W.keq_eq (knd := mixKind X.prog X.w) (r := true) ya yb da db hu (fun e => absurd e (by omega)) (fin_bl I q (by rw [la', lb]; rfl))
end Fn

set_option Elab.async false
set_option linter.all false
set_option maxRecDepth 100000
set_option maxHeartbeats 4000000
/-! try with several clauses, some of them with a name: except A as x: .. / except B: .. -/
namespace Fn
open PySem PySem.Spec PyProof.Rows L2
abbrev Cls1 := Value × Option Nat × (Addr → Value → Option Addr → TS)
/-- what a clause with the name of slot i hands on: the name is gone behind it -/
def offAt (i : Nat) (D : Ends) : Ends := { nx := fun σ' H' => D.nx (σ'.set i none) H', rt := D.rt, bk := fun σ' H' => D.bk (σ'.set i none) H', ct := fun σ' H' => D.ct (σ'.set i none) H' }
def wishOf (D : Ends) (o : Option Nat) (ts : TS) (a : Addr) (σ : L2.St) (H : Hp) : Prop := match o with
  | none => ts D σ H
  | some i => ts (offAt i D) (σ.set i (some (.ref a))) H
def wAny (K : PySem.W.Frag) (Wout : WX) (D : Ends) : List Cls1 → WX
  | [] => Wout
  | (c, o, ts) :: r => fun cls d σ H => ∃ b, PySem.W.exmOne K cls c = some b ∧ (b = true → ∀ a, H a = none → wishOf D o (ts a cls d) a σ H) ∧ (b = false → wAny K Wout D r cls d σ H)
/-- the clauses, each with what its suite promises -/
inductive HdsA (X : Cx) : List ExceptHandler → List Cls1 → Prop
  | nil : HdsA X [] []
  | plain {x : Str} {c : Value} {ts : Addr → Value → Option Addr → TS} {b₀ : Stmt} {suite : List Stmt} {np pos' : Pos} {hds : List ExceptHandler} {l : List Cls1} (hc : Names X x c)
      (hsu : ∀ (a : Addr) (oe : Obj) (cls : Value) (d : Option Addr) (pn : List (Addr × Obj)), Zc cls d oe → (∃ vs, oe.data = .fields vs) → PSs (X.suite a ((a, oe) :: pn)) (b₀ :: suite) (ts a cls d)) (r : HdsA X hds l) :
      HdsA X (.ExceptHandler (some (.Name x np)) none (b₀ :: suite) pos' :: hds) ((c, none, ts) :: l)
  | named {x n : Str} {i : Nat} {c : Value} {ts : Addr → Value → Option Addr → TS} {b₀ : Stmt} {suite : List Stmt} {np pos' : Pos} {hds : List ExceptHandler} {l : List Cls1} (hN : X.N.Nodup) (hi : X.N[i]? = some n) (hln : X.env.kindOf n = some .local) (hc : Names X x c)
      (hsu : ∀ (a : Addr) (oe : Obj) (cls : Value) (d : Option Addr) (pn : List (Addr × Obj)), Zc cls d oe → (∃ vs, oe.data = .fields vs) → PSs (X.suite a ((a, oe) :: pn)) (b₀ :: suite) (ts a cls d)) (r : HdsA X hds l) :
      HdsA X (.ExceptHandler (some (.Name x np)) (some n) (b₀ :: suite) pos' :: hds) ((c, some i, ts) :: l)
section
variable {X : Cx} {body : List Stmt} {h₀ : ExceptHandler} {hds : List ExceptHandler} {l : List Cls1} {pos : Pos} {tb : WX → TS} {Wout : WX}
theorem ps_tryA (hs : X.stack = X.env :: X.outer) (hf : X.env.frame = some X.env.locals) (tk : Takes X Wout)
    (hb : ∀ (W : WX) (pn : List (Addr × Obj)) (xe : Value → Shared → Prop), Takes (X.tr pn xe) W → PassesOwn (model X.prog X.w) X.A X.env xe → PSs (X.tr pn xe) body (tb W))
    (hh : HdsA X (h₀ :: hds) l) : PS X (.Try body (h₀ :: hds) [] [] pos) (fun D σ H => tb (wAny X.K Wout D l) D σ H) := by
  refine ⟨fun pins s σ H D I h => ?_⟩
  have ok := I.ok
  have hfr : X.A.frames = some (X.env :: X.outer) := by rw [ok.frames, hs]
  refine wpAny_Try_except ?_
  refine wpAny_mono ((hb (wAny X.K Wout D l) (X.pn ++ pins) (fun e s₁ => wpAny (model X.prog X.w) X.A (noteFrame e X.env) (fun _ s₂ => wpAny (model X.prog X.w) X.A (setFlight e none) (fun _ s₃ =>
    wpAny (model X.prog X.w) X.A (handleBy e X.env (h₀ :: hds)) (SP X pins D) X.xe s₃) X.xe s₂) X.xe s₁) (fun u s' xx => ?_) PassesOwn.looking).run [] s σ H D (I.toTry _) h) (fun f s1 hsp => ?_) (fun e s1 he => he)
  · obtain ⟨a, B, sI, pins', σ', H', cls, d, rfl, J', nb, up, sky, na, os, ag, w⟩ := xx
    have J : Inv X pins σ' H' sI := J'.ofTry ok
    have sky' : Sky B (X.env :: X.outer) a (Zc cls d) X.env.locals s'.heap := by rw [← hs]; exact sky
    show wpAny (model X.prog X.w) X.A (noteFrame (.ref a) X.env) _ _ _
    refine Sky.land Zc.steady hfr hf sky' fun h3 fl3 up3 => ?_
    have J3 : Inv X pins σ' H' { s' with heap := h3 } := J.landed nb fl3.1 (up.trans up3) os ag
    obtain ⟨oe3, vs3, he3, hz3, hd3⟩ := fl3.there
    have nfr : a ∉ frs (X.env :: X.outer) := fun hm => by
      obtain ⟨_, o', e', hnf⟩ := (fl3.2.2.1).mem hm
      rw [he3] at e'; cases e'
      exact hnf _ hd3
    have nL : a ≠ X.env.locals := fun z => nfr (List.mem_filterMap.mpr ⟨X.env, List.mem_cons_self, by rw [hf, z]⟩)
    have nF : a ∉ X.fs := fun hm => by
      obtain ⟨e, he, q⟩ := List.mem_filterMap.mp hm
      exact nfr (List.mem_filterMap.mpr ⟨e, List.mem_cons_of_mem _ he, q⟩)
    have S3 := J3.suite he3 hd3 na nL nF
    have LT : PySem.W.Looks (model X.prog X.w) h3 (typeOf (.ref a)) cls := fun A Q E s k q => wpAny_typeOf_ref (k _ _ he3) (by rw [hz3.1]; exact q)
    have test : ∀ {x : Str} {c : Value} {np : Pos} {Q : Value → Shared → Prop} {E : Value → Shared → Prop}, Names X x c → Q c { s' with heap := h3 } → wpAny (model X.prog X.w) (X.A.mark (some (.ref a))) (eval (.Name x np) X.env) Q E { s' with heap := h3 } := fun {x c np Q E} hc q => by
      obtain ⟨hg, hdbg, hm | ⟨hm, hv, hnn⟩⟩ := hc
      · exact ld_glob (X := X.suite a ((a, oe3) :: (X.pn ++ pins))) S3 hg hm q hdbg
      · exact ld_blt (X := X.suite a ((a, oe3) :: (X.pn ++ pins))) S3 hg hm hv q hnn hdbg
    have go : ∀ {hds' : List ExceptHandler} {l' : List Cls1}, HdsA X hds' l' → wAny X.K Wout D l' cls d σ' H' →
        wpAny (model X.prog X.w) X.A (handleBy (.ref a) X.env hds') (SP X pins D) X.xe { s' with heap := h3 } := by
      intro hds' l' hk
      induction hk with
      | nil =>
        intro w
        refine wpAny_handleBy_nil ?_
        obtain ⟨k1, k2, k3, oe, vs, T, oT, ts', he, hz, hd, h1, hr⟩ := id fl3
        unfold PySem.passOn
        refine wpAny_bind (wpAny_field he hd h1 ?_)
        rw [if_neg (show ¬ ((Value.ref T == Value.none) = true) from by simp)]
        have fin : wpAny (model X.prog X.w) X.A (setFlight (.ref a) X.env.frame) (fun _ s4 => wpAny (model X.prog X.w) X.A (throw (.ref a) : Sem Flow) (SP X pins D) X.xe s4) X.xe { s' with heap := h3 } := by
          rw [hf]
          refine HandSPX.setFlight_upZ fl3 fun h4 hh4 up4 => wpAny_throw (tk _ _ ?_)
          exact ⟨a, B, sI, pins, σ', H', cls, d, rfl, J, nb, (up.trans up3).trans up4, .inr (.inr (by rw [hs]; exact hh4)), na, os, ag, w⟩
        first
          | exact wpAny_bind (wpAny_pure (wpAny_bind fin))
          | exact wpAny_bind fin
      | @plain x c ts b₀ suite np pos' hds2 l2 hc hsu r ih =>
        rintro ⟨b, hb1, hyes, hno⟩
        refine wpAny_handleBy_cons (codeAny_handlers_test ?_) (by intro q; cases q)
        refine test hc ((PySem.W.exm_one (M := model X.prog X.w) (J3.kIn) LT hb1).here ?_)
        cases b with
        | true =>
          refine codeAny_handlers_suite ?_
          refine HandSPX.lands_againZ fl3 fun h4 fl4 up4 => ?_
          have J4 : Inv X pins σ' H' { s' with heap := h4 } := J.landed nb fl4.1 ((up.trans up3).trans up4) os ag
          obtain ⟨oe4, vs4, he4, hz4, hd4⟩ := fl4.there
          refine wpAny_mono ((hsu a oe4 cls d (X.pn ++ pins) hz4 ⟨_, hd4⟩).run [] _ _ H' _ (J4.suite he4 hd4 na nL nF) (hyes rfl a na)) (fun f s6 hsp => ?_) (fun _ _ z => False.elim z)
          match f, hsp with
          | .next, ⟨σ6, H6, S6, q6⟩ => exact ⟨_, _, S6.unsuite ok, q6⟩
          | .brk, ⟨σ6, H6, S6, q6⟩ => exact ⟨_, _, S6.unsuite ok, q6⟩
          | .cont, ⟨σ6, H6, S6, q6⟩ => exact ⟨_, _, S6.unsuite ok, q6⟩
          | .ret u, ⟨v6, σ6, H6, S6, r6, q6⟩ => exact ⟨_, _, _, S6.unsuite ok, r6, q6⟩
        | false => exact ih (hno rfl)
      | @named x n i c ts b₀ suite np pos' hds2 l2 hN hi hln hc hsu r ih =>
        rintro ⟨b, hb1, hyes, hno⟩
        refine wpAny_handleBy_cons (codeAny_handlers_test ?_) (by intro q; cases q)
        refine test hc ((PySem.W.exm_one (M := model X.prog X.w) (J3.kIn) LT hb1).here ?_)
        cases b with
        | true =>
          refine codeAny_handlers_suite_as ?_
          refine HandSPX.lands_againZ fl3 fun h4 fl4 up4 => ?_
          have J4 : Inv X pins σ' H' { s' with heap := h4 } := J.landed nb fl4.1 ((up.trans up3).trans up4) os ag
          obtain ⟨oe4, vs4, he4, hz4, hd4⟩ := fl4.there
          refine store_ok (X := X.suite a ((a, oe4) :: (X.pn ++ pins))) (v := .ref a) (J4.suite he4 hd4 na nL nF) hN hi (.inl hln) rfl (fun s5 S5 => ?_) (.inr hln)
          refine wpAny_mono ((hsu a oe4 cls d (X.pn ++ pins) hz4 ⟨_, hd4⟩).run [] s5 _ H' _ S5 (hyes rfl a na)) (fun f s6 hsp => ?_) (fun _ _ z => False.elim z)
          have end_ : ∀ {σ6 : L2.St} {H6 : Hp} {Q : Shared → Prop}, Inv (X.suite a ((a, oe4) :: (X.pn ++ pins))) [] σ6 H6 s6 → (∀ s7, Inv X pins (σ6.set i none) H6 s7 → Q s7) →
              wpAny (model X.prog X.w) X.A (do bindName X.env n .none; unbindBehindTheSuite X.env n pos') (fun _ s7 => Q s7) X.xe s6 := fun {σ6 H6 Q} S6 hq => gone_ok (S6.unsuite ok) hN hi hln hq
          match f, hsp with
          | .next, ⟨σ6, H6, S6, q6⟩ => exact end_ S6 fun s7 J7 => ⟨_, _, J7, q6⟩
          | .brk, ⟨σ6, H6, S6, q6⟩ => exact end_ S6 fun s7 J7 => ⟨_, _, J7, q6⟩
          | .cont, ⟨σ6, H6, S6, q6⟩ => exact end_ S6 fun s7 J7 => ⟨_, _, J7, q6⟩
          | .ret u, ⟨v6, σ6, H6, S6, r6, q6⟩ => exact end_ S6 fun s7 J7 => ⟨_, _, _, J7, r6, q6⟩
        | false => exact ih (hno rfl)
    exact go hh w
  · match f, hsp with
    | .next, ⟨σ', H', J', q⟩ => exact wpAny_execs_nil ⟨σ', H', J'.ofTry ok, q⟩
    | .brk, ⟨σ', H', J', q⟩ => exact ⟨σ', H', J'.ofTry ok, q⟩
    | .cont, ⟨σ', H', J', q⟩ => exact ⟨σ', H', J'.ofTry ok, q⟩
    | .ret u, ⟨v, σ', H', J', r, q⟩ => exact ⟨v, σ', H', J'.ofTry ok, r, q⟩
end
end Fn

set_option Elab.async false
set_option maxRecDepth 100000
set_option maxHeartbeats 4000000
/-! What the written part says of the own class ParseError (over ValueError, with a field), as one test that runs. -/
namespace Fn
open PySem PySem.Spec PyProof.Rows L2
structure PrsZ (K : PySem.W.Frag) (mg : Str → Option Value) (c : Ta) (p : Pa) : Prop where
  g : mg "ParseError" = some (.ref p.C)
  o : OexC K p.C
  ini : IniC K p.C p.I "line"
  xf : XfC K p.C
  self : PySem.W.exmOne K (.ref p.C) (.ref p.C) = some true
  notX : PySem.W.exmOne K (.ref c.X) (.ref p.C) = some false
theorem refs_of : ∀ {l : List Value}, ownT tVal l = true → PySem.HandSPX.refsVE l = true
  | l, h => by
    induction l with
    | nil =>
      rcases ownT_cases tVal [] h with ⟨_, _, e, _⟩ | e
      · cases e
      · exact absurd e (by decide)
    | cons a l ih =>
      rcases ownT_cases tVal (a :: l) h with ⟨c, r, e, h2⟩ | e
      · cases e
        exact ih h2
      · rw [e]
        decide +kernel
theorem prsZ {K : PySem.W.Frag} {mg : Str → Option Value} {c : Ta} {p : Pa} (g : mg "ParseError" = some (.ref p.C)) (h : prsB K c.X p.C p.I = true) : PrsZ K mg c p := by
  simp only [prsB, Bool.and_eq_true, decide_eq_true_eq] at h
  obtain ⟨h1, h2, h3, h4, h5⟩ := h
  have e := exB_ok h1
  have i := iniB_ok bVal e h2
  have h2' := h2
  simp only [iniB, Bool.and_eq_true, decide_eq_true_eq] at h2'
  obtain ⟨nm, q, N, bs, bm, sn, sub, ab, col, dd, k0, k1, k2, k3, k5, hl, ho⟩ := clsX_obj h2'.1
  exact ⟨g, ⟨⟨nm, q, N, bs, bm, sn, sub, ab, col, dd, k0, k1, k2, k3, k5, hl, refs_of ho⟩, i.o.sa, e.f.exC, h3, e.k⟩, i, e.f, h4, h5⟩
end Fn

set_option Elab.async false
set_option maxRecDepth 100000
set_option maxHeartbeats 2000000
/-! Texts of terms, and how they are read: by a reader that goes down (of a law), and by one that cuts the text into pieces (of a program). -/
namespace Fn
open PySem PySem.Spec PyProof.Rows L2
open TL (tl joinL spl)
open SX (S)
/-! ### words -/
theorem leaf_codes {x : Str} (h : isLeafD (.str x) = true) : tl x = [95] ∨ tl x = [35] := by
  have g' : ([.str "_", .str "#"] : List PyData).any (fun z => PyData.eqv z (.str x)) = true := h
  simp only [List.any_cons, List.any_nil, Bool.or_false, Bool.or_eq_true] at g'
  rcases g' with z | z
  · have e : ("_" : Str) = x := by simpa [PyData.eqv] using z
    rw [← e]
    exact .inl (by decide +kernel)
  · have e : ("#" : Str) = x := by simpa [PyData.eqv] using z
    rw [← e]
    exact .inr (by decide +kernel)
theorem leaf_of {x : Str} (h : tl x = [95] ∨ tl x = [35]) : isLeafD (.str x) = true := by
  rcases h with h | h
  · have e : x = ("_" : Str) := TL.ext_tl (h.trans (by decide +kernel))
    rw [e]
    decide +kernel
  · have e : x = ("#" : Str) := TL.ext_tl (h.trans (by decide +kernel))
    rw [e]
    decide +kernel
theorem lowZ_iff {c : Nat} : lowZ c = true ↔ 97 ≤ c ∧ c ≤ 122 := by
  have a : ∀ x y : Nat, ([x] < [y]) ↔ x < y := fun x y => by
    constructor
    · intro h
      cases h with
      | rel h => exact h
      | cons h => cases h
    · exact fun h => .rel h
  unfold lowZ
  rw [Bool.and_eq_true, Bool.not_eq_true', Bool.not_eq_true', decide_eq_false_iff_not, decide_eq_false_iff_not, a, a]
  omega
/-- a node's word: a leaf with no argument, or one to eight letters -/
theorem node_word {x : Str} {k : Int} (h : isNodeD (.tuple [.str x, .int k]) = true) : ((tl x = [95] ∨ tl x = [35]) ∧ k = 0) ∨ (1 ≤ (tl x).length ∧ (tl x).length ≤ 8 ∧ (∀ c ∈ tl x, lowZ c = true) ∧ 0 ≤ k ∧ k ≤ 3) := by
  have h' : (if isLeafD (.str x) = true then (isArityD (.int k) && PyData.eqv (.int k) (.int 0)) else (isWordS x && isArityD (.int k))) = true := h
  split at h'
  · rename_i g
    rw [Bool.and_eq_true] at h'
    exact .inl ⟨leaf_codes g, by simpa [PyData.eqv] using h'.2⟩
  · rw [Bool.and_eq_true] at h'
    have w := h'.1
    have a : (isIntD (.int k) && (decide (0 ≤ k) && decide (k ≤ 3))) = true := h'.2
    simp only [Bool.and_eq_true, decide_eq_true_eq] at a
    simp only [isWordS, Bool.and_eq_true, decide_eq_true_eq, List.all_eq_true] at w
    rw [TL.len_tl] at w
    exact .inr ⟨w.1.1, w.1.2, w.2, a.2.1, a.2.2⟩
theorem node_of {x : Str} {k : Nat} (h1 : 1 ≤ (tl x).length) (h2 : (tl x).length ≤ 8) (h3 : ∀ c ∈ tl x, lowZ c = true) (h4 : k ≤ 3) : isNodeD (.tuple [.str x, .int (k : Nat)]) = true := by
  show (if isLeafD (.str x) = true then (isArityD (.int (k : Nat)) && PyData.eqv (.int (k : Nat)) (.int 0)) else (isWordS x && isArityD (.int (k : Nat)))) = true
  rw [if_neg (fun z => ?_)]
  · have a : isArityD (.int (k : Nat)) = true := by
      have t : ∀ k : Nat, k ≤ 3 → isArityD (.int (k : Nat)) = true := by
        intro k hk
        match k, hk with
        | 0, _ => decide +kernel
        | 1, _ => decide +kernel
        | 2, _ => decide +kernel
        | 3, _ => decide +kernel
        | k + 4, h => exact absurd h (by omega)
      exact t k h4
    rw [a, Bool.and_true]
    simp only [isWordS, Bool.and_eq_true, decide_eq_true_eq, List.all_eq_true, TL.len_tl]
    exact ⟨⟨h1, h2⟩, h3⟩
  · rcases leaf_codes z with e | e
    · have := lowZ_iff.mp (h3 95 (by rw [e]; exact List.mem_cons_self))
      omega
    · have := lowZ_iff.mp (h3 35 (by rw [e]; exact List.mem_cons_self))
      omega
theorem leaf_node {x : Str} (h : tl x = [95] ∨ tl x = [35]) : isNodeD (.tuple [.str x, .int ((0 : Nat) : Int)]) = true := by
  show (if isLeafD (.str x) = true then _ else _) = true
  rw [if_pos (leaf_of h)]
  decide +kernel
/-! ### plain terms with any words -/
def IsW : Nat → PyData → Prop
  | 0, _ => False
  | n + 1, d => ∃ (w : Str) (ds : List PyData), d = .tuple [.str w, .tuple ds] ∧ isNodeD (.tuple [.str w, .int (ds.length : Nat)]) = true ∧ ∀ e ∈ ds, IsW n e
def nodesW : Nat → PyData → List PyData
  | n + 1, .tuple [w, .tuple ds] => .tuple [w, .int ds.length] :: ds.flatMap (nodesW n)
  | _, _ => []
def codesW : Nat → PyData → List Nat
  | n + 1, .tuple [.str w, .tuple ds] => if ds.isEmpty then tl w else tl w ++ (40 :: (joinL [44, 32] (ds.map (codesW n)) ++ [41]))
  | _, _ => []
theorem congrM {α β : Type} {f g : α → β} : ∀ {ds : List α}, (∀ e ∈ ds, f e = g e) → ds.map f = ds.map g
  | [], _ => rfl
  | d :: ds, h => by rw [List.map_cons, List.map_cons, h d List.mem_cons_self, congrM fun e he => h e (List.mem_cons_of_mem _ he)]
theorem congrF {α β : Type} {f g : α → List β} : ∀ {ds : List α}, (∀ e ∈ ds, f e = g e) → ds.flatMap f = ds.flatMap g
  | [], _ => rfl
  | d :: ds, h => by rw [List.flatMap_cons, List.flatMap_cons, h d List.mem_cons_self, congrF fun e he => h e (List.mem_cons_of_mem _ he)]
theorem isW_up1 : ∀ {n : Nat} {d : PyData}, IsW n d → IsW (n + 1) d ∧ nodesW (n + 1) d = nodesW n d ∧ codesW (n + 1) d = codesW n d
  | 0, _, h => h.elim
  | n + 1, _, ⟨w, ds, rfl, hw, hds⟩ => by
    refine ⟨⟨w, ds, rfl, hw, fun e he => (isW_up1 (hds e he)).1⟩, ?_, ?_⟩
    · show _ :: ds.flatMap (nodesW (n + 1)) = _ :: ds.flatMap (nodesW n)
      rw [congrF fun e he => (isW_up1 (hds e he)).2.1]
    · show (if ds.isEmpty = true then tl w else tl w ++ (40 :: (joinL [44, 32] (ds.map (codesW (n + 1))) ++ [41]))) = (if ds.isEmpty = true then tl w else tl w ++ (40 :: (joinL [44, 32] (ds.map (codesW n)) ++ [41])))
      rw [congrM fun e he => (isW_up1 (hds e he)).2.2]
theorem isW_up {m n : Nat} (h : m ≤ n) {d : PyData} (hd : IsW m d) : IsW n d ∧ nodesW n d = nodesW m d ∧ codesW n d = codesW m d := by
  induction h with
  | refl => exact ⟨hd, rfl, rfl⟩
  | step _ ih =>
    obtain ⟨a, b, c⟩ := ih
    obtain ⟨a', b', c'⟩ := isW_up1 a
    exact ⟨a', b'.trans b, c'.trans c⟩
theorem nodesW_node : ∀ {n : Nat} {d : PyData}, IsW n d → ∀ e ∈ nodesW n d, isNodeD e = true
  | 0, _, h, _, _ => h.elim
  | n + 1, _, ⟨w, ds, rfl, hw, hds⟩, e, he => by
    rcases List.mem_cons.mp (show e ∈ _ :: ds.flatMap (nodesW n) from he) with rfl | he
    · exact hw
    · obtain ⟨c, hc, he⟩ := List.mem_flatMap.mp he
      exact nodesW_node (hds c hc) e he
theorem codesW_ne : ∀ {n : Nat} {d : PyData}, IsW n d → codesW n d ≠ []
  | 0, _, h => h.elim
  | n + 1, _, ⟨w, ds, rfl, hw, hds⟩ => by
    have w0 : tl w ≠ [] := by
      rcases node_word hw with ⟨e | e, _⟩ | ⟨a, _⟩
      · rw [e]; simp
      · rw [e]; simp
      · intro z
        rw [z] at a
        simp at a
    show (if ds.isEmpty = true then tl w else tl w ++ (40 :: (joinL [44, 32] (ds.map (codesW n)) ++ [41]))) ≠ []
    split
    · exact w0
    · exact fun z => w0 (List.append_eq_nil_iff.mp z).1
/-! ### the reader that goes down -/
def wordAt (s : List Nat) (i : Nat) : List Nat := (s.drop i).takeWhile lowZ
def argsW (rd : List Nat → Nat → Option (PyData × Nat)) (s w : List Nat) : Nat → Nat → List PyData → Option (PyData × Nat)
  | 0, _, _ => none
  | k + 1, i, acc => match rd s i with
    | none => none
    | some (t, j) => if (s.drop j).take 1 = [41] then (if (acc ++ [t]).length < 4 then some (.tuple [.str (S w), .tuple (acc ++ [t])], j + 1) else none)
      else if (s.drop j).take 2 ≠ [44, 32] then none else argsW rd s w k (j + 2) (acc ++ [t])
def rdW : Nat → List Nat → Nat → Option (PyData × Nat)
  | 0, _, _ => none
  | n + 1, s, i =>
    if (s.drop i).take 1 = [95] ∨ (s.drop i).take 1 = [35] then some (.tuple [.str (S ((s.drop i).take 1)), .tuple []], i + 1)
    else if ¬ (0 < (wordAt s i).length ∧ (wordAt s i).length < 9) then none
    else if (s.drop (i + (wordAt s i).length)).take 1 ≠ [40] then some (.tuple [.str (S (wordAt s i)), .tuple []], i + (wordAt s i).length)
    else argsW (rdW n) s (wordAt s i) 4 (i + (wordAt s i).length + 1) []
theorem take1 {l r : List Nat} {c : Nat} (h : l = c :: r) : l.take 1 = [c] := by rw [h]; rfl
theorem of_take1 {l : List Nat} {c : Nat} (h : l.take 1 = [c]) : ∃ r, l = c :: r := by
  cases l with
  | nil => cases h
  | cons a r =>
    cases (show [a] = [c] from h)
    exact ⟨r, rfl⟩
theorem of_take2 {l : List Nat} {c d : Nat} (h : l.take 2 = [c, d]) : ∃ r, l = c :: d :: r := by
  cases l with
  | nil => cases h
  | cons a r =>
    cases r with
    | nil => cases h
    | cons b r =>
      cases (show [a, b] = [c, d] from h)
      exact ⟨r, rfl⟩
theorem drop_of {s a r : List Nat} {i : Nat} (h : s.drop i = a ++ r) : s.drop (i + a.length) = r := by
  rw [← List.drop_drop, h, List.drop_left']
  rfl
theorem joinL_cons {α : List Nat} {p : List Nat} : ∀ {q : List (List Nat)}, q ≠ [] → joinL α (p :: q) = p ++ (α ++ joinL α q)
  | [], h => absurd rfl h
  | _ :: _, _ => rfl
theorem takeWhile_of {p : Nat → Bool} : ∀ {w r : List Nat}, (∀ c ∈ w, p c = true) → (∀ c, r.head? = some c → p c = false) → (w ++ r).takeWhile p = w
  | [], r, _, h => by
    rw [List.nil_append]
    cases r with
    | nil => rfl
    | cons c r => rw [List.takeWhile_cons, if_neg (by rw [h c rfl]; decide)]
  | c :: w, r, hw, h => by
    rw [List.cons_append, List.takeWhile_cons, if_pos (hw c List.mem_cons_self), takeWhile_of (fun x hx => hw x (List.mem_cons_of_mem _ hx)) h]
/-- what may stand behind a term that is read -/
def EndOk (r : List Nat) : Prop := ∀ c, r.head? = some c → lowZ c = false ∧ c ≠ 40
theorem args_read {rd : List Nat → Nat → Option (PyData × Nat)} {s w : List Nat} {f : PyData → List Nat} : ∀ {ts : List PyData} {k i : Nat} {acc : List PyData} {r : List Nat}, (∀ t ∈ ts, ∀ i r, s.drop i = f t ++ r → EndOk r → rd s i = some (t, i + (f t).length)) → ts ≠ [] → ts.length ≤ k → acc.length + ts.length < 4 →
    s.drop i = joinL [44, 32] (ts.map f) ++ (41 :: r) → argsW rd s w k i acc = some (.tuple [.str (S w), .tuple (acc ++ ts)], i + (joinL [44, 32] (ts.map f)).length + 1)
  | [], _, _, _, _, _, h, _, _, _ => absurd rfl h
  | [t], k + 1, i, acc, r, hr, _, _, hl, e => by
    have e1 : s.drop i = f t ++ (41 :: r) := e
    have r1 := hr t List.mem_cons_self i _ e1 (fun c hc => by cases hc; exact ⟨by decide, by decide⟩)
    show (match rd s i with | none => none | some (t, j) => _) = _
    rw [r1]
    show (if (s.drop (i + (f t).length)).take 1 = [41] then _ else _) = _
    rw [if_pos (take1 (drop_of e1)), if_pos (by rw [List.length_append]; exact hl)]
    rfl
  | t :: t2 :: ts, k + 1, i, acc, r, hr, _, hk, hl, e => by
    rw [List.map_cons, joinL_cons (by simp)] at e
    have e1 : s.drop i = f t ++ (44 :: 32 :: (joinL [44, 32] ((t2 :: ts).map f) ++ (41 :: r))) := by rw [e]; simp [List.append_assoc]
    have r1 := hr t List.mem_cons_self i _ e1 (fun c hc => by cases hc; exact ⟨by decide, by decide⟩)
    have e2 := drop_of e1
    have e3 : s.drop (i + (f t).length + 2) = joinL [44, 32] ((t2 :: ts).map f) ++ (41 :: r) := by
      rw [← List.drop_drop, e2]
      rfl
    have r2 := args_read (w := w) (ts := t2 :: ts) (k := k) (i := i + (f t).length + 2) (acc := acc ++ [t]) (fun x hx => hr x (List.mem_cons_of_mem _ hx)) (by simp) (by simp at hk ⊢; omega) (by simp at hl ⊢; omega) e3
    show (match rd s i with | none => none | some (t, j) => _) = _
    rw [r1]
    show (if (s.drop (i + (f t).length)).take 1 = [41] then _ else _) = _
    have ej : joinL [44, 32] ((t :: t2 :: ts).map f) = f t ++ ([44, 32] ++ joinL [44, 32] ((t2 :: ts).map f)) := joinL_cons (by simp)
    rw [if_neg (by rw [take1 e2]; simp), if_neg (fun z => z (by rw [e2]; rfl)), r2, ej]
    simp only [List.append_assoc, List.cons_append, List.nil_append, List.length_append, List.length_cons, List.length_nil]
    congr 2
    omega
theorem read_codes : ∀ {n : Nat} {d : PyData}, IsW n d → ∀ {s r : List Nat} {i : Nat}, s.drop i = codesW n d ++ r → EndOk r → rdW n s i = some (d, i + (codesW n d).length)
  | 0, _, h, _, _, _, _, _ => h.elim
  | n + 1, _, ⟨w, ds, rfl, hw, hds⟩, s, r, i, e, he => by
    rcases node_word hw with ⟨hl, k0⟩ | ⟨a1, a2, a3, _, a5⟩
    · have d0 : ds = [] := List.length_eq_zero_iff.mp (by omega)
      subst d0
      have ec : codesW (n + 1) (.tuple [.str w, .tuple []]) = tl w := rfl
      rw [ec] at e ⊢
      show (if _ then _ else _) = _
      have t1 : (s.drop i).take 1 = tl w := by
        rcases hl with z | z <;> rw [e, z] <;> rfl
      rw [t1, if_pos hl]
      have l1 : (tl w).length = 1 := by rcases hl with z | z <;> rw [z] <;> rfl
      rw [l1, SX.S_tl]
    · have hdL : ∀ c, (tl w).head? = some c → lowZ c = true := fun c hc => a3 c (List.mem_of_mem_head? hc)
      obtain ⟨c0, w0, ew⟩ : ∃ c0 w0, tl w = c0 :: w0 := by
        cases z : tl w with
        | nil => rw [z] at a1; simp at a1
        | cons c w0 => exact ⟨c, w0, rfl⟩
      have lc := lowZ_iff.mp (a3 c0 (by rw [ew]; exact List.mem_cons_self))
      have main : ∀ r', s.drop i = tl w ++ r' → (∀ c, r'.head? = some c → lowZ c = false) → wordAt s i = tl w ∧ ¬ ((s.drop i).take 1 = [95] ∨ (s.drop i).take 1 = [35]) := fun r' e hr => by
        refine ⟨?_, ?_⟩
        · unfold wordAt
          rw [e]
          exact takeWhile_of a3 hr
        · rw [e, ew]
          show ¬ ([c0] = [95] ∨ [c0] = [35])
          rintro (z | z) <;> cases z <;> omega
      by_cases d0 : ds = []
      · subst d0
        have ec : codesW (n + 1) (.tuple [.str w, .tuple []]) = tl w := rfl
        rw [ec] at e ⊢
        obtain ⟨m1, m2⟩ := main r e fun c hc => (he c hc).1
        show (if _ then _ else _) = _
        rw [if_neg m2, m1, if_neg (fun z => z ⟨by omega, by omega⟩), if_pos ?_, SX.S_tl]
        rw [drop_of e]
        intro z
        obtain ⟨r2, rfl⟩ := of_take1 z
        exact (he 40 rfl).2 rfl
      · have ec : codesW (n + 1) (.tuple [.str w, .tuple ds]) = tl w ++ (40 :: (joinL [44, 32] (ds.map (codesW n)) ++ [41])) := if_neg (by simpa using d0)
        rw [ec] at e ⊢
        have e1 : s.drop i = tl w ++ (40 :: (joinL [44, 32] (ds.map (codesW n)) ++ (41 :: r))) := by rw [e]; simp [List.append_assoc]
        obtain ⟨m1, m2⟩ := main _ e1 fun c hc => by cases hc; decide
        have e2 := drop_of e1
        have e3 : s.drop (i + (tl w).length + 1) = joinL [44, 32] (ds.map (codesW n)) ++ (41 :: r) := by
          rw [← List.drop_drop, e2]
          rfl
        show (if _ then _ else _) = _
        rw [if_neg m2, m1, if_neg (fun z => z ⟨by omega, by omega⟩), if_neg (fun z => z (take1 e2))]
        have ar := args_read (rd := rdW n) (s := s) (w := tl w) (f := codesW n) (ts := ds) (k := 4) (acc := []) (fun t ht i r e he => read_codes (hds t ht) e he) d0 (by omega) (by simp; omega) e3
        rw [ar, SX.S_tl, List.nil_append]
        simp only [List.length_append, List.length_cons, List.length_nil]
        congr 2
        omega
theorem args_sound {n : Nat} (ih : ∀ {s : List Nat} {i j : Nat} {t : PyData}, rdW n s i = some (t, j) → IsW n t ∧ s.drop i = codesW n t ++ s.drop j) {s w : List Nat} : ∀ {k i j : Nat} {acc : List PyData} {t : PyData}, argsW (rdW n) s w k i acc = some (t, j) →
    ∃ ts : List PyData, ts ≠ [] ∧ t = .tuple [.str (S w), .tuple (acc ++ ts)] ∧ (∀ x ∈ ts, IsW n x) ∧ (acc ++ ts).length < 4 ∧ s.drop i = joinL [44, 32] (ts.map (codesW n)) ++ (41 :: s.drop j)
  | 0, _, _, _, _, h => by cases h
  | k + 1, i, j, acc, t, h => by
    have h' : (match rdW n s i with | none => none | some (t, j) => if (s.drop j).take 1 = [41] then (if (acc ++ [t]).length < 4 then some (PyData.tuple [.str (S w), .tuple (acc ++ [t])], j + 1) else none) else if (s.drop j).take 2 ≠ [44, 32] then none else argsW (rdW n) s w k (j + 2) (acc ++ [t])) = some (t, j) := h
    cases g : rdW n s i with
    | none => rw [g] at h'; cases h'
    | some p =>
      obtain ⟨t1, j1⟩ := p
      rw [g] at h'
      obtain ⟨w1, e1⟩ := ih g
      have h2 : (if (s.drop j1).take 1 = [41] then (if (acc ++ [t1]).length < 4 then some (PyData.tuple [.str (S w), .tuple (acc ++ [t1])], j1 + 1) else none) else if (s.drop j1).take 2 ≠ [44, 32] then none else argsW (rdW n) s w k (j1 + 2) (acc ++ [t1])) = some (t, j) := h'
      split at h2
      · rename_i z
        obtain ⟨r, er⟩ := of_take1 z
        split at h2
        · rename_i z2
          cases h2
          have e3 : s.drop (j1 + 1) = r := by rw [← List.drop_drop, er]; rfl
          exact ⟨[t1], by simp, rfl, fun x hx => by rw [List.mem_singleton.mp hx]; exact w1, z2, by rw [e3, e1, er]; rfl⟩
        · cases h2
      · split at h2
        · cases h2
        · rename_i z2
          have z3 : (s.drop j1).take 2 = [44, 32] := by
            by_cases q : (s.drop j1).take 2 = [44, 32]
            · exact q
            · exact absurd q z2
          obtain ⟨r, er⟩ := of_take2 z3
          obtain ⟨ts, n0, et, hts, hl, e4⟩ := args_sound (fun h => ih h) h2
          have e5 : s.drop (j1 + 2) = r := by rw [← List.drop_drop, er]; rfl
          refine ⟨t1 :: ts, by simp, by rw [et]; simp [List.append_assoc], fun x hx => ?_, by simpa [List.append_assoc] using hl, ?_⟩
          · rcases List.mem_cons.mp hx with rfl | hx
            · exact w1
            · exact hts x hx
          · rw [List.map_cons, joinL_cons (by simpa using n0), e1, er, ← e5, e4]
            simp [List.append_assoc]
theorem read_sound : ∀ {n : Nat} {s : List Nat} {i j : Nat} {t : PyData}, rdW n s i = some (t, j) → IsW n t ∧ s.drop i = codesW n t ++ s.drop j
  | 0, _, _, _, _, h => by cases h
  | n + 1, s, i, j, t, h => by
    have h' : (if (s.drop i).take 1 = [95] ∨ (s.drop i).take 1 = [35] then some (PyData.tuple [.str (S ((s.drop i).take 1)), .tuple []], i + 1)
      else if ¬ (0 < (wordAt s i).length ∧ (wordAt s i).length < 9) then none
      else if (s.drop (i + (wordAt s i).length)).take 1 ≠ [40] then some (.tuple [.str (S (wordAt s i)), .tuple []], i + (wordAt s i).length)
      else argsW (rdW n) s (wordAt s i) 4 (i + (wordAt s i).length + 1) []) = some (t, j) := h
    have tS : ∀ l : List Nat, tl (S l) = l := fun l => rfl
    have wa : s.drop i = wordAt s i ++ s.drop (i + (wordAt s i).length) := by
      have e : s.drop i = wordAt s i ++ (s.drop i).dropWhile lowZ := (List.takeWhile_append_dropWhile ..).symm
      rw [drop_of e]
      exact e
    split at h'
    · rename_i z
      cases h'
      have zz : tl (S ((s.drop i).take 1)) = [95] ∨ tl (S ((s.drop i).take 1)) = [35] := by rw [tS]; exact z
      refine ⟨⟨_, [], rfl, leaf_node zz, fun e he => by cases he⟩, ?_⟩
      show s.drop i = tl (S ((s.drop i).take 1)) ++ s.drop (i + 1)
      rw [tS, ← List.drop_drop, List.take_append_drop]
    · split at h'
      · cases h'
      · rename_i z1 z2
        have z2 : 0 < (wordAt s i).length ∧ (wordAt s i).length < 9 := Classical.not_not.mp z2
        have lw : ∀ c ∈ tl (S (wordAt s i)), lowZ c = true := fun c hc => by
          have : ∀ l : List Nat, c ∈ l.takeWhile lowZ → lowZ c = true := fun l => by
            induction l with
            | nil => intro h; cases h
            | cons a l ih =>
              intro h
              rw [List.takeWhile_cons] at h
              split at h
              · rename_i ha
                rcases List.mem_cons.mp h with rfl | h
                · exact ha
                · exact ih h
              · cases h
          exact this _ hc
        have wl1 : 1 ≤ (tl (S (wordAt s i))).length := z2.1
        have wl2 : (tl (S (wordAt s i))).length ≤ 8 := Nat.le_of_lt_succ z2.2
        split at h'
        · cases h'
          refine ⟨⟨_, [], rfl, node_of wl1 wl2 lw (k := 0) (by decide), fun e he => by cases he⟩, ?_⟩
          show s.drop i = tl (S (wordAt s i)) ++ s.drop (i + (wordAt s i).length)
          rw [tS]
          exact wa
        · rename_i z3
          have z3 : (s.drop (i + (wordAt s i).length)).take 1 = [40] := Classical.not_not.mp z3
          obtain ⟨r, er⟩ := of_take1 z3
          obtain ⟨ts, n0, et, hts, hl, e4⟩ := args_sound (fun h => read_sound h) h'
          have e5 : s.drop (i + (wordAt s i).length + 1) = r := by rw [← List.drop_drop, er]; rfl
          rw [List.nil_append] at et hl
          refine ⟨⟨_, ts, et, node_of wl1 wl2 lw (by omega), hts⟩, ?_⟩
          have ec : codesW (n + 1) t = wordAt s i ++ (40 :: (joinL [44, 32] (ts.map (codesW n)) ++ [41])) := by
            rw [et]
            exact if_neg (by simpa using n0)
          rw [ec, wa, er, ← e5, e4]
          simp [List.append_assoc]
theorem lt_of_take {s : List Nat} {i c n : Nat} {r : List Nat} (h : (s.drop i).take (n + 1) = c :: r) : i < s.length := by
  rcases Nat.lt_or_ge i s.length with h1 | h1
  · exact h1
  · rw [List.drop_eq_nil_of_le h1, List.take_nil] at h
    cases h
theorem lt2_of_take {s : List Nat} {i : Nat} (h : (s.drop i).take 2 = [44, 32]) : i + 2 ≤ s.length := by
  obtain ⟨r, e⟩ := of_take2 h
  have := congrArg List.length e
  rw [List.length_drop, List.length_cons, List.length_cons] at this
  omega
theorem args_end {rd : List Nat → Nat → Option (PyData × Nat)} (ih : ∀ {s : List Nat} {i j : Nat} {t : PyData}, rd s i = some (t, j) → i ≤ j ∧ j ≤ s.length) {s w : List Nat} : ∀ {k i j : Nat} {acc : List PyData} {t : PyData}, argsW rd s w k i acc = some (t, j) → i ≤ j ∧ j ≤ s.length
  | 0, _, _, _, _, h => by cases h
  | k + 1, i, j, acc, t, h => by
    have h' : (match rd s i with | none => none | some (t, j) => if (s.drop j).take 1 = [41] then (if (acc ++ [t]).length < 4 then some (PyData.tuple [.str (S w), .tuple (acc ++ [t])], j + 1) else none) else if (s.drop j).take 2 ≠ [44, 32] then none else argsW rd s w k (j + 2) (acc ++ [t])) = some (t, j) := h
    cases g : rd s i with
    | none => rw [g] at h'; cases h'
    | some p =>
      obtain ⟨t1, j1⟩ := p
      rw [g] at h'
      obtain ⟨a1, a2⟩ := ih g
      have h2 : (if (s.drop j1).take 1 = [41] then (if (acc ++ [t1]).length < 4 then some (PyData.tuple [.str (S w), .tuple (acc ++ [t1])], j1 + 1) else none) else if (s.drop j1).take 2 ≠ [44, 32] then none else argsW rd s w k (j1 + 2) (acc ++ [t1])) = some (t, j) := h'
      split at h2
      · rename_i z
        have := lt_of_take (n := 0) z
        split at h2
        · cases h2
          omega
        · cases h2
      · split at h2
        · cases h2
        · have := args_end (fun h => ih h) h2
          omega
theorem read_end : ∀ {n : Nat} {s : List Nat} {i j : Nat} {t : PyData}, rdW n s i = some (t, j) → i ≤ j ∧ j ≤ s.length
  | 0, _, _, _, _, h => by cases h
  | n + 1, s, i, j, t, h => by
    have h' : (if (s.drop i).take 1 = [95] ∨ (s.drop i).take 1 = [35] then some (PyData.tuple [.str (S ((s.drop i).take 1)), .tuple []], i + 1)
      else if ¬ (0 < (wordAt s i).length ∧ (wordAt s i).length < 9) then none
      else if (s.drop (i + (wordAt s i).length)).take 1 ≠ [40] then some (.tuple [.str (S (wordAt s i)), .tuple []], i + (wordAt s i).length)
      else argsW (rdW n) s (wordAt s i) 4 (i + (wordAt s i).length + 1) []) = some (t, j) := h
    split at h'
    · rename_i z
      have : i < s.length := by rcases z with z | z <;> exact lt_of_take (n := 0) z
      cases h'
      omega
    · split at h'
      · cases h'
      · rename_i z1 z2
        have a : (wordAt s i).length ≤ (s.drop i).length := (List.takeWhile_prefix _).length_le
        rw [List.length_drop] at a
        have z2 : 0 < (wordAt s i).length ∧ (wordAt s i).length < 9 := Classical.not_not.mp z2
        split at h'
        · cases h'
          omega
        · have := args_end (fun h => read_end h) h'
          omega
end Fn

set_option Elab.async false
set_option maxRecDepth 100000
set_option maxHeartbeats 2000000
/-! The nodes that are told of a text that is cut into pieces. -/
namespace Fn
open PySem PySem.Spec PyProof.Rows L2
open TL (tl joinL spl)
open SX (S)
structure TSt where
  (sg : List (List Nat)) (ar pd : List Nat)
def upTop (P A : List Nat) : List Nat := match P.getLast? with
  | some p => A.modify p (· + 1)
  | none => A
def push1 (st : TSt) (w : List Nat) : TSt := ⟨st.sg ++ [w], upTop st.pd st.ar ++ [0], st.pd ++ [st.sg.length]⟩
def popN (n : Nat) (st : TSt) : TSt := ⟨st.sg, st.ar, st.pd.take (st.pd.length - n)⟩
def rstr (p : List Nat) : List Nat := (p.reverse.dropWhile (· == 41)).reverse
def stepP (st : TSt) (p : List Nat) : TSt := popN (1 + p.length - (rstr p).length) ((spl [40] 0 [] (rstr p)).foldl push1 st)
def toldF (s : List Nat) : TSt := (spl [44, 32] 0 [] s).foldl stepP ⟨[], [], []⟩
/-! ### sizes -/
theorem upTop_len (P A : List Nat) : (upTop P A).length = A.length := by
  unfold upTop
  split
  · rw [List.length_modify]
  · rfl
def TOk (st : TSt) : Prop := st.sg.length = st.ar.length ∧ (∀ p ∈ st.pd, p < st.sg.length) ∧ st.pd.length ≤ st.sg.length
theorem TOk.push {st : TSt} (h : TOk st) (w : List Nat) : TOk (push1 st w) := by
  refine ⟨?_, fun p hp => ?_, by show (st.pd ++ [st.sg.length]).length ≤ (st.sg ++ [w]).length; rw [List.length_append, List.length_append]; exact Nat.add_le_add_right h.2.2 1⟩
  · show (st.sg ++ [w]).length = (upTop st.pd st.ar ++ [0]).length
    rw [List.length_append, List.length_append, upTop_len, h.1]
    rfl
  · show p < (st.sg ++ [w]).length
    rw [List.length_append, List.length_singleton]
    rcases List.mem_append.mp (show p ∈ st.pd ++ [st.sg.length] from hp) with hp | hp
    · have := h.2.1 p hp
      omega
    · rw [List.mem_singleton.mp hp]
      omega
theorem TOk.pop {st : TSt} (h : TOk st) (n : Nat) : TOk (popN n st) := ⟨h.1, fun p hp => h.2.1 p (List.mem_of_mem_take hp), Nat.le_trans (List.length_take_le _ _) (Nat.le_trans (Nat.sub_le _ _) h.2.2) |> fun z => z⟩
theorem TOk.fold {ws : List (List Nat)} : ∀ {st : TSt}, TOk st → TOk (ws.foldl push1 st) := by
  induction ws with
  | nil => exact fun h => h
  | cons w ws ih => exact fun h => ih (h.push w)
/-! ### the pieces of a term's text -/
def pcsL (f : PyData → List (List Nat) → Nat → List (List Nat)) : List PyData → List (List Nat) → Nat → List (List Nat)
  | [], _, _ => []
  | [a], p, c => f a p c
  | a :: b :: r, p, c => f a p 0 ++ pcsL f (b :: r) [] c
def pcs : Nat → PyData → List (List Nat) → Nat → List (List Nat)
  | n + 1, .tuple [.str w, .tuple ds], p, c => if ds.isEmpty then [joinL [40] (p ++ [tl w]) ++ List.replicate c 41] else pcsL (pcs n) ds (p ++ [tl w]) (c + 1)
  | _, _, _, _ => []
def preT (p : List (List Nat)) : List Nat := p.flatMap (· ++ [40])
theorem preT_join : ∀ (p : List (List Nat)) (w : List Nat), joinL [40] (p ++ [w]) = preT p ++ w
  | [], w => rfl
  | a :: p, w => by
    show joinL [40] (a :: (p ++ [w])) = preT (a :: p) ++ w
    rw [joinL_cons (by simp), preT_join p w]
    unfold preT
    rw [List.flatMap_cons]
    simp [List.append_assoc]
theorem joinL_app {α : List Nat} : ∀ {xs ys : List (List Nat)}, xs ≠ [] → ys ≠ [] → joinL α (xs ++ ys) = joinL α xs ++ (α ++ joinL α ys)
  | [], _, h, _ => absurd rfl h
  | [a], ys, _, h => by
    show joinL α (a :: ys) = a ++ (α ++ joinL α ys)
    exact joinL_cons h
  | a :: b :: xs, ys, _, h => by
    have e1 : joinL α ((a :: b :: xs) ++ ys) = a ++ (α ++ joinL α ((b :: xs) ++ ys)) := joinL_cons (by simp)
    have e2 : joinL α (a :: b :: xs) = a ++ (α ++ joinL α (b :: xs)) := joinL_cons (by simp)
    rw [e1, e2, joinL_app (by simp) h]
    simp [List.append_assoc]
theorem pcsL_join {f : PyData → List (List Nat) → Nat → List (List Nat)} {g : PyData → List Nat} : ∀ {ds : List PyData}, (∀ e ∈ ds, ∀ p c, f e p c ≠ [] ∧ joinL [44, 32] (f e p c) = preT p ++ (g e ++ List.replicate c 41)) → ds ≠ [] →
    ∀ p c, pcsL f ds p c ≠ [] ∧ joinL [44, 32] (pcsL f ds p c) = preT p ++ (joinL [44, 32] (ds.map g) ++ List.replicate c 41)
  | [], _, h, _, _ => absurd rfl h
  | [a], h, _, p, c => h a List.mem_cons_self p c
  | a :: b :: ds, h, _, p, c => by
    obtain ⟨n1, e1⟩ := h a List.mem_cons_self p 0
    obtain ⟨n2, e2⟩ := pcsL_join (fun e he => h e (List.mem_cons_of_mem _ he)) (show b :: ds ≠ [] by simp) [] c
    refine ⟨fun z => n1 (List.append_eq_nil_iff.mp z).1, ?_⟩
    show joinL [44, 32] (f a p 0 ++ pcsL f (b :: ds) [] c) = _
    rw [joinL_app n1 n2, e1, e2]
    have ej : joinL [44, 32] ((a :: b :: ds).map g) = g a ++ ([44, 32] ++ joinL [44, 32] ((b :: ds).map g)) := joinL_cons (by simp)
    rw [ej]
    simp [List.append_assoc, preT]
theorem pcs_join : ∀ {n : Nat} {d : PyData}, IsW n d → ∀ p c, pcs n d p c ≠ [] ∧ joinL [44, 32] (pcs n d p c) = preT p ++ (codesW n d ++ List.replicate c 41)
  | 0, _, h, _, _ => h.elim
  | n + 1, _, ⟨w, ds, rfl, hw, hds⟩, p, c => by
    by_cases d0 : ds = []
    · subst d0
      refine ⟨List.cons_ne_nil _ _, ?_⟩
      show joinL [40] (p ++ [tl w]) ++ List.replicate c 41 = preT p ++ (tl w ++ List.replicate c 41)
      rw [preT_join, List.append_assoc]
    · have e1 : pcs (n + 1) (.tuple [.str w, .tuple ds]) p c = pcsL (pcs n) ds (p ++ [tl w]) (c + 1) := if_neg (by simpa using d0)
      have e2 : codesW (n + 1) (.tuple [.str w, .tuple ds]) = tl w ++ (40 :: (joinL [44, 32] (ds.map (codesW n)) ++ [41])) := if_neg (by simpa using d0)
      obtain ⟨a, b⟩ := pcsL_join (f := pcs n) (g := codesW n) (fun e he p c => pcs_join (hds e he) p c) d0 (p ++ [tl w]) (c + 1)
      rw [e1, e2]
      refine ⟨a, ?_⟩
      rw [b]
      unfold preT
      rw [List.flatMap_append, List.replicate_succ]
      simp [List.append_assoc]
/-! ### what the pieces do -/
/-- words without brackets and commas -/
def Bare (w : List Nat) : Prop := 40 ∉ w ∧ 41 ∉ w ∧ 44 ∉ w ∧ w ≠ []
theorem node_bare {x : Str} {k : Int} (h : isNodeD (.tuple [.str x, .int k]) = true) : Bare (tl x) := by
  rcases node_word h with ⟨e | e, _⟩ | ⟨a, _, l, _⟩
  · rw [e]; exact ⟨by decide, by decide, by decide, by decide⟩
  · rw [e]; exact ⟨by decide, by decide, by decide, by decide⟩
  · refine ⟨fun z => ?_, fun z => ?_, fun z => ?_, fun z => by rw [z] at a; simp at a⟩ <;> have := lowZ_iff.mp (l _ z) <;> omega
theorem preT_mem {p : List (List Nat)} (hp : ∀ w ∈ p, Bare w) : 41 ∉ preT p ∧ 44 ∉ preT p := by
  refine ⟨fun z => ?_, fun z => ?_⟩
  all_goals
    obtain ⟨w, hw, hz⟩ := List.mem_flatMap.mp z
    rcases List.mem_append.mp hz with hz | hz
    · first | exact (hp w hw).2.1 hz | exact (hp w hw).2.2.1 hz
    · simp at hz
theorem rstr_rep {x : List Nat} (h : 41 ∉ x) (c : Nat) : rstr (x ++ List.replicate c 41) = x := by
  unfold rstr
  rw [List.reverse_append, List.reverse_replicate]
  have d : ∀ (c : Nat) (y : List Nat), 41 ∉ y → ((List.replicate c 41 ++ y).dropWhile (· == 41)) = y := fun c y hy => by
    induction c with
    | zero =>
      rw [List.replicate_zero, List.nil_append]
      cases y with
      | nil => rfl
      | cons a y =>
        have : a ≠ 41 := fun z => hy (by rw [z]; exact List.mem_cons_self)
        rw [List.dropWhile_cons, if_neg (by simpa using this)]
    | succ c ih =>
      rw [List.replicate_succ, List.cons_append, List.dropWhile_cons, if_pos (by simp)]
      exact ih
  rw [d c x.reverse (by simpa using h), List.reverse_reverse]
theorem pcsL_free {f : PyData → List (List Nat) → Nat → List (List Nat)} : ∀ {ds : List PyData}, (∀ e ∈ ds, ∀ p c, (∀ w ∈ p, Bare w) → ∀ q ∈ f e p c, 44 ∉ q) → ∀ p c, (∀ w ∈ p, Bare w) → ∀ q ∈ pcsL f ds p c, 44 ∉ q
  | [], _, _, _, _, _, h => by cases h
  | [a], h, p, c, hp, q, hq => h a List.mem_cons_self p c hp q hq
  | a :: b :: ds, h, p, c, hp, q, hq => by
    rcases List.mem_append.mp (show q ∈ f a p 0 ++ pcsL f (b :: ds) [] c from hq) with hq | hq
    · exact h a List.mem_cons_self p 0 hp q hq
    · exact pcsL_free (fun e he => h e (List.mem_cons_of_mem _ he)) [] c (fun w hw => by cases hw) q hq
theorem pcs_free : ∀ {n : Nat} {d : PyData}, IsW n d → ∀ p c, (∀ w ∈ p, Bare w) → ∀ q ∈ pcs n d p c, 44 ∉ q
  | 0, _, h, _, _, _, _, _ => h.elim
  | n + 1, _, ⟨w, ds, rfl, hw, hds⟩, p, c, hp, q, hq => by
    have bw := node_bare hw
    have hp2 : ∀ x ∈ p ++ [tl w], Bare x := fun x hx => by
      rcases List.mem_append.mp hx with hx | hx
      · exact hp x hx
      · rw [List.mem_singleton.mp hx]
        exact bw
    by_cases d0 : ds = []
    · subst d0
      have e := List.mem_singleton.mp (show q ∈ [joinL [40] (p ++ [tl w]) ++ List.replicate c 41] from hq)
      rw [e, preT_join]
      intro z
      rcases List.mem_append.mp z with z | z
      · rcases List.mem_append.mp z with z | z
        · exact (preT_mem hp).2 z
        · exact bw.2.2.1 z
      · have := List.eq_of_mem_replicate z
        omega
    · have e1 : pcs (n + 1) (.tuple [.str w, .tuple ds]) p c = pcsL (pcs n) ds (p ++ [tl w]) (c + 1) := if_neg (by simpa using d0)
      rw [e1] at hq
      exact pcsL_free (fun e he p c => pcs_free (hds e he) p c) _ _ hp2 q hq
/-- a node's word and number, as codes -/
def ndC : PyData → List Nat × Nat
  | .tuple [.str w, .int k] => (tl w, k.toNat)
  | _ => ([], 0)
def addT (st : TSt) (N : List (List Nat × Nat)) : TSt := ⟨st.sg ++ N.map Prod.fst, upTop st.pd st.ar ++ N.map Prod.snd, st.pd⟩
theorem pop_pop (st : TSt) (m n : Nat) : popN m (popN n st) = popN (n + m) st := by
  show TSt.mk st.sg st.ar ((st.pd.take (st.pd.length - n)).take ((st.pd.take (st.pd.length - n)).length - m)) = TSt.mk st.sg st.ar (st.pd.take (st.pd.length - (n + m)))
  rw [List.take_take, List.length_take]
  congr 2
  omega
theorem pop_zero (st : TSt) : popN 0 st = st := by
  show TSt.mk st.sg st.ar (st.pd.take (st.pd.length - 0)) = st
  rw [Nat.sub_zero, List.take_length]
theorem pop_push (st : TSt) (w : List Nat) (c : Nat) : popN (1 + c) (push1 st w) = popN c (addT st [(w, 0)]) := by
  show TSt.mk (st.sg ++ [w]) (upTop st.pd st.ar ++ [0]) ((st.pd ++ [st.sg.length]).take ((st.pd ++ [st.sg.length]).length - (1 + c))) = TSt.mk (st.sg ++ [w]) (upTop st.pd st.ar ++ [0]) (st.pd.take (st.pd.length - c))
  congr 1
  rw [List.length_append, List.length_singleton, show st.pd.length + 1 - (1 + c) = st.pd.length - c by omega, List.take_append_of_le_length (by omega)]
theorem TOk.add {st : TSt} (h : TOk st) (N : List (List Nat × Nat)) : TOk (addT st N) := by
  refine ⟨?_, fun p hp => ?_, by show st.pd.length ≤ (st.sg ++ N.map Prod.fst).length; rw [List.length_append]; exact Nat.le_trans h.2.2 (Nat.le_add_right _ _)⟩
  · show (st.sg ++ N.map Prod.fst).length = (upTop st.pd st.ar ++ N.map Prod.snd).length
    rw [List.length_append, List.length_append, upTop_len, List.length_map, List.length_map, h.1]
  · show p < (st.sg ++ N.map Prod.fst).length
    have := h.2.1 p hp
    rw [List.length_append]
    omega
theorem modify_mid : ∀ (A : List Nat) (k : Nat) (B : List Nat), (A ++ k :: B).modify A.length (· + 1) = A ++ (k + 1) :: B
  | [], k, B => rfl
  | a :: A, k, B => by
    show a :: (A ++ k :: B).modify A.length (· + 1) = _
    rw [modify_mid A k B]
    rfl
/-- the trees of a list, added below a word that was pushed -/
theorem add_all {g : PyData → List (List Nat × Nat)} {A : List Nat} {P : List Nat} : ∀ (ds : List PyData) (sg : List (List Nat)) (k : Nat) (B : List Nat), A.length < sg.length →
    ds.foldl (fun st d => addT st (g d)) ⟨sg, A ++ k :: B, P ++ [A.length]⟩ = ⟨sg ++ (ds.flatMap g).map Prod.fst, A ++ (k + ds.length) :: (B ++ (ds.flatMap g).map Prod.snd), P ++ [A.length]⟩
  | [], sg, k, B, _ => by simp
  | d :: ds, sg, k, B, h => by
    have e : addT ⟨sg, A ++ k :: B, P ++ [A.length]⟩ (g d) = ⟨sg ++ (g d).map Prod.fst, A ++ (k + 1) :: (B ++ (g d).map Prod.snd), P ++ [A.length]⟩ := by
      show TSt.mk _ (upTop (P ++ [A.length]) (A ++ k :: B) ++ (g d).map Prod.snd) _ = _
      have u : upTop (P ++ [A.length]) (A ++ k :: B) = A ++ (k + 1) :: B := by
        unfold upTop
        rw [List.getLast?_append, List.getLast?_singleton]
        show (A ++ k :: B).modify A.length (· + 1) = _
        exact modify_mid A k B
      rw [u]
      simp [List.append_assoc]
    rw [List.foldl_cons, e, add_all ds _ _ _ (by rw [List.length_append]; omega)]
    simp only [List.flatMap_cons, List.map_append, List.append_assoc, List.length_cons]
    congr 3
    omega
theorem pcsL_fold {f : PyData → List (List Nat) → Nat → List (List Nat)} {g : PyData → List (List Nat × Nat)} : ∀ {ds : List PyData}, (∀ e ∈ ds, ∀ p c st, (∀ w ∈ p, Bare w) → TOk st → (f e p c).foldl stepP st = popN c (addT (p.foldl push1 st) (g e))) → ds ≠ [] →
    ∀ p c st, (∀ w ∈ p, Bare w) → TOk st → (pcsL f ds p c).foldl stepP st = popN c (ds.foldl (fun st d => addT st (g d)) (p.foldl push1 st))
  | [], _, h, _, _, _, _, _ => absurd rfl h
  | [a], h, _, p, c, st, hp, hs => h a List.mem_cons_self p c st hp hs
  | a :: b :: ds, h, _, p, c, st, hp, hs => by
    show (f a p 0 ++ pcsL f (b :: ds) [] c).foldl stepP st = _
    rw [List.foldl_append, h a List.mem_cons_self p 0 st hp hs, pop_zero]
    rw [pcsL_fold (fun e he => h e (List.mem_cons_of_mem _ he)) (show b :: ds ≠ [] by simp) [] c _ (fun w hw => by cases hw) (hs.fold.add _)]
    rfl
theorem pcs_fold : ∀ {n : Nat} {d : PyData}, IsW n d → ∀ p c st, (∀ w ∈ p, Bare w) → TOk st → (pcs n d p c).foldl stepP st = popN c (addT (p.foldl push1 st) ((nodesW n d).map ndC))
  | 0, _, h, _, _, _, _, _ => h.elim
  | n + 1, _, ⟨w, ds, rfl, hw, hds⟩, p, c, st, hp, hs => by
    have bw := node_bare hw
    have hp2 : ∀ x ∈ p ++ [tl w], Bare x := fun x hx => by
      rcases List.mem_append.mp hx with hx | hx
      · exact hp x hx
      · rw [List.mem_singleton.mp hx]
        exact bw
    by_cases d0 : ds = []
    · subst d0
      show stepP st (joinL [40] (p ++ [tl w]) ++ List.replicate c 41) = popN c (addT (p.foldl push1 st) [(tl w, 0)])
      unfold stepP
      have nf : 41 ∉ joinL [40] (p ++ [tl w]) := by
        rw [preT_join]
        intro z
        rcases List.mem_append.mp z with z | z
        · exact (preT_mem hp).1 z
        · exact bw.2.1 z
      rw [rstr_rep nf, TL.spl_join (by simp) (fun q hq => (hp2 q hq).1), List.foldl_append, List.length_append, List.length_replicate]
      rw [show 1 + ((joinL [40] (p ++ [tl w])).length + c) - (joinL [40] (p ++ [tl w])).length = 1 + c by omega]
      exact pop_push _ _ _
    · have e1 : pcs (n + 1) (.tuple [.str w, .tuple ds]) p c = pcsL (pcs n) ds (p ++ [tl w]) (c + 1) := if_neg (by simpa using d0)
      rw [e1, pcsL_fold (g := fun d => (nodesW n d).map ndC) (fun e he p c st hp hs => pcs_fold (hds e he) p c st hp hs) d0 _ _ _ hp2 hs, List.foldl_append]
      have hst : TOk (p.foldl push1 st) := hs.fold
      generalize p.foldl push1 st = q at hst
      have eP : [tl w].foldl push1 q = ⟨q.sg ++ [tl w], upTop q.pd q.ar ++ 0 :: [], q.pd ++ [(upTop q.pd q.ar).length]⟩ := by
        show push1 q (tl w) = _
        unfold push1
        rw [upTop_len, hst.1]
      rw [eP, add_all ds _ _ _ (by rw [upTop_len, List.length_append, List.length_singleton, hst.1]; omega)]
      have eN : (nodesW (n + 1) (.tuple [.str w, .tuple ds])).map ndC = (tl w, ds.length) :: ds.flatMap fun d => (nodesW n d).map ndC := by
        show (_ :: (ds.flatMap (nodesW n)).map ndC) = _
        rw [List.map_flatMap]
        rfl
      rw [eN]
      show TSt.mk _ _ ((q.pd ++ [(upTop q.pd q.ar).length]).take ((q.pd ++ [(upTop q.pd q.ar).length]).length - (c + 1))) = TSt.mk _ _ (q.pd.take (q.pd.length - c))
      rw [List.length_append, List.length_singleton, show q.pd.length + 1 - (c + 1) = q.pd.length - c by omega, List.take_append_of_le_length (by omega)]
      simp only [List.append_assoc, List.cons_append, List.nil_append, Nat.zero_add]
      rfl
theorem told_codes {n : Nat} {d : PyData} (h : IsW n d) : toldF (codesW n d) = ⟨((nodesW n d).map ndC).map Prod.fst, ((nodesW n d).map ndC).map Prod.snd, []⟩ := by
  obtain ⟨n0, ej⟩ := pcs_join h [] 0
  have e : codesW n d = joinL [44, 32] (pcs n d [] 0) := by
    rw [ej]
    simp [preT]
  unfold toldF
  rw [e, TL.spl_join n0 (pcs_free h [] 0 fun w hw => by cases hw), pcs_fold h [] 0 _ (fun w hw => by cases hw) ⟨rfl, (fun p hp => by cases hp), Nat.le_refl _⟩, pop_zero]
  show TSt.mk ([] ++ _) (upTop [] [] ++ _) [] = _
  rfl
/-! ### any row of nodes that makes one tree is that of a term -/
def oneN : Nat → List Nat → Bool
  | m, [] => m == 0
  | 0, _ :: _ => false
  | m + 1, k :: r => oneN (m + k) r
theorem forest : ∀ (ps : List PyData) (m : Nat), (∀ e ∈ ps, isNodeD e = true) → oneN m (ps.map fun e => (ndC e).2) = true → ∃ ts : List PyData, ts.length = m ∧ (∀ t ∈ ts, IsW ps.length t) ∧ ts.flatMap (nodesW ps.length) = ps
  | [], m, _, h => by
    have : m = 0 := by simpa [oneN] using h
    subst this
    exact ⟨[], rfl, (fun t ht => by cases ht), rfl⟩
  | e :: ps, 0, _, h => by cases h
  | e :: ps, m + 1, hn, h => by
    have ne := hn e List.mem_cons_self
    obtain ⟨x, k, rfl, k0, k3⟩ := node_shape ne
    obtain ⟨ts, hl, hw, hf⟩ := forest ps (m + k.toNat) (fun e he => hn e (List.mem_cons_of_mem _ he)) h
    have lk : (ts.take k.toNat).length = k.toNat := by rw [List.length_take]; omega
    have ek : ((ts.take k.toNat).length : Int) = k := by rw [lk]; omega
    have up : ∀ {l : List PyData}, (∀ t ∈ l, IsW ps.length t) → l.flatMap (nodesW (ps.length + 1)) = l.flatMap (nodesW ps.length) := fun hl => congrF fun t ht => (isW_up1 (hl t ht)).2.1
    have hd : ∀ t ∈ ts.drop k.toNat, IsW ps.length t := fun t ht => hw t (List.mem_of_mem_drop ht)
    refine ⟨.tuple [.str x, .tuple (ts.take k.toNat)] :: ts.drop k.toNat, by rw [List.length_cons, List.length_drop]; omega, fun t ht => ?_, ?_⟩
    · rcases List.mem_cons.mp ht with rfl | ht
      · exact ⟨x, _, rfl, by rw [ek]; exact ne, fun t ht => hw t (List.mem_of_mem_take ht)⟩
      · exact (isW_up1 (hd t ht)).1
    · rw [List.flatMap_cons]
      show (PyData.tuple [.str x, .int (ts.take k.toNat).length] :: (ts.take k.toNat).flatMap (nodesW ps.length)) ++ (ts.drop k.toNat).flatMap (nodesW (ps.length + 1)) = _
      rw [up hd, ek, List.cons_append, ← List.flatMap_append, List.take_append_drop, hf]
/-! ### the text of a row of nodes -/
theorem textsW_row {n : Nat} {pd : PyData → Str × Int} (hpd : ∀ x k, pd (.tuple [.str x, .int k]) = (x, k)) (ih : ∀ {d : PyData}, IsW n d → ∀ (l : List (Str × Int)), textsF ((nodesW n d).map pd ++ l) = S (codesW n d) :: textsF l) :
    ∀ {ds : List PyData}, (∀ e ∈ ds, IsW n e) → ∀ (l : List (Str × Int)), textsF ((ds.flatMap (nodesW n)).map pd ++ l) = ds.map (fun d => S (codesW n d)) ++ textsF l
  | [], _, l => rfl
  | d :: ds, h, l => by
    rw [List.flatMap_cons, List.map_append, List.append_assoc, ih (h d List.mem_cons_self), textsW_row hpd ih (fun e he => h e (List.mem_cons_of_mem _ he))]
    rfl
theorem textsW_app {pd : PyData → Str × Int} (hpd : ∀ x k, pd (.tuple [.str x, .int k]) = (x, k)) : ∀ {n : Nat} {d : PyData}, IsW n d → ∀ (l : List (Str × Int)), textsF ((nodesW n d).map pd ++ l) = S (codesW n d) :: textsF l
  | 0, _, h, _ => h.elim
  | n + 1, _, ⟨w, ds, rfl, hw, hds⟩, l => by
    have r := textsW_row hpd (fun h => textsW_app hpd h) hds l
    show textsF (pd (.tuple [.str w, .int (ds.length : Nat)]) :: ((ds.flatMap (nodesW n)).map pd ++ l)) = _
    rw [hpd]
    show (if decide (((ds.length : Nat) : Int) > 0) = true then w ++ "(" ++ Txt.join ", " ((textsF ((ds.flatMap (nodesW n)).map pd ++ l)).take (Int.toNat (ds.length : Nat))) ++ ")" else w) :: (textsF ((ds.flatMap (nodesW n)).map pd ++ l)).drop (Int.toNat (ds.length : Nat)) = _
    rw [r, Int.toNat_natCast, List.take_left' (by rw [List.length_map]), List.drop_left' (by rw [List.length_map])]
    congr 1
    by_cases d0 : ds = []
    · subst d0
      rw [if_neg (by decide)]
      exact (SX.S_tl w).symm
    · have l1 : 0 < ds.length := List.length_pos_iff.mpr d0
      rw [if_pos (decide_eq_true (by omega))]
      have e2 : codesW (n + 1) (.tuple [.str w, .tuple ds]) = tl w ++ (40 :: (joinL [44, 32] (ds.map (codesW n)) ++ [41])) := if_neg (by simpa using d0)
      refine TL.ext_tl ?_
      rw [e2, TL.join_eq]
      show tl (w ++ "(" ++ Str.join ", " _ ++ ")") = _
      rw [TL.tl_append, TL.tl_append, TL.tl_append, TL.tl_join, List.map_map, show tl ("(" : Str) = [40] by decide +kernel, show tl (")" : Str) = [41] by decide +kernel, show tl (", " : Str) = [44, 32] by decide +kernel]
      show tl w ++ [40] ++ joinL [44, 32] (ds.map (codesW n)) ++ [41] = _
      simp [List.append_assoc]
theorem flat_join {S0 : List Nat} {f : PyData → List PyData} {g : PyData → List Nat} : ∀ {ds : List PyData}, (∀ e ∈ ds, (f e).length ≤ (g e).length) → (ds.flatMap f).length ≤ (joinL S0 (ds.map g)).length
  | [], _ => Nat.zero_le _
  | [a], h => by
    have := h a List.mem_cons_self
    rw [List.flatMap_cons, List.flatMap_nil, List.append_nil]
    exact this
  | a :: b :: ds, h => by
    have ej : joinL S0 ((a :: b :: ds).map g) = g a ++ (S0 ++ joinL S0 ((b :: ds).map g)) := joinL_cons (by simp)
    have r := flat_join (S0 := S0) (f := f) (g := g) (ds := b :: ds) fun e he => h e (List.mem_cons_of_mem _ he)
    have h1 := h a List.mem_cons_self
    rw [ej, List.flatMap_cons, List.length_append, List.length_append, List.length_append]
    omega
theorem nodes_le : ∀ {n : Nat} {d : PyData}, IsW n d → (nodesW n d).length ≤ (codesW n d).length
  | 0, _, h => h.elim
  | n + 1, _, ⟨w, ds, rfl, hw, hds⟩ => by
    have w1 : 1 ≤ (tl w).length := by
      rcases node_word hw with ⟨e | e, _⟩ | ⟨a, _⟩
      · rw [e]; exact Nat.le_refl _
      · rw [e]; exact Nat.le_refl _
      · exact a
    by_cases d0 : ds = []
    · subst d0
      exact w1
    · have e2 : codesW (n + 1) (.tuple [.str w, .tuple ds]) = tl w ++ (40 :: (joinL [44, 32] (ds.map (codesW n)) ++ [41])) := if_neg (by simpa using d0)
      have r := flat_join (S0 := [44, 32]) (f := nodesW n) (g := codesW n) (ds := ds) fun e he => nodes_le (hds e he)
      rw [e2]
      show (ds.flatMap (nodesW n)).length + 1 ≤ _
      rw [List.length_append, List.length_cons, List.length_append]
      omega
/-! ### the last number of a word -/
def lastV : List (Str × Int) → Str → Option Int
  | [], _ => none
  | q :: qs, w => match lastV qs w with
    | some k => some k
    | none => if q.1 = w then some q.2 else none
theorem last_mem : ∀ {qs : List (Str × Int)} {w : Str} {k : Int}, lastV qs w = some k → (w, k) ∈ qs
  | [], _, _, h => by cases h
  | q :: qs, w, k, h => by
    have h' : (match lastV qs w with | some k => some k | none => if q.1 = w then some q.2 else none) = some k := h
    cases g : lastV qs w with
    | some k' =>
      rw [g] at h'
      cases h'
      exact List.mem_cons_of_mem _ (last_mem g)
    | none =>
      rw [g] at h'
      have h2 : (if q.1 = w then some q.2 else none) = some k := h'
      split at h2
      · rename_i e
        cases h2
        rw [← e]
        exact List.mem_cons_self
      · cases h2
theorem last_some : ∀ {qs : List (Str × Int)} {q : Str × Int}, q ∈ qs → ∃ k, lastV qs q.1 = some k
  | a :: qs, q, h => by
    show ∃ k, (match lastV qs q.1 with | some k => some k | none => if a.1 = q.1 then some a.2 else none) = some k
    cases g : lastV qs q.1 with
    | some k => exact ⟨k, rfl⟩
    | none =>
      rcases List.mem_cons.mp h with rfl | h
      · exact ⟨q.2, if_pos rfl⟩
      · obtain ⟨k, e⟩ := last_some h
        rw [e] at g
        cases g
theorem one_last {ps : List (Str × Int)} : (∀ p ∈ ps, lastV ps p.1 = some p.2) ↔ OneEach ps := by
  constructor
  · intro h p hp q hq e
    have a := h p hp
    rw [e, h q hq] at a
    exact (Option.some.inj a).symm
  · intro h p hp
    obtain ⟨k, e⟩ := last_some hp
    have z : k = p.2 := h _ (last_mem e) p hp rfl
    rw [e, z]
theorem merge_val : ∀ (qs : List (Str × Int)) (acc : List (Key × V)) (w : Str), valV (mergeK acc (qs.map kvOf)) (.inr w) = match lastV qs w with
    | some k => some (.int k)
    | none => valV acc (.inr w)
  | [], acc, w => rfl
  | q :: qs, acc, w => by
    show valV (mergeK (putK acc (kvOf q).1 (kvOf q).2) (qs.map kvOf)) (.inr w) = _
    rw [merge_val qs]
    show (match lastV qs w with | some k => some (V.int k) | none => valV (putK acc (kvOf q).1 (kvOf q).2) (.inr w)) = (match (match lastV qs w with | some k => some k | none => if q.1 = w then some q.2 else none) with | some k => some (V.int k) | none => valV acc (.inr w))
    cases g : lastV qs w with
    | some k => rfl
    | none =>
      rw [valV_put]
      show (if (Sum.inr w : Key) = Sum.inr q.1 then some (V.int q.2) else valV acc (.inr w)) = (match (if q.1 = w then some q.2 else none) with | some k => some (V.int k) | none => valV acc (.inr w))
      by_cases e : q.1 = w
      · rw [if_pos e, if_pos (by rw [e])]
      · rw [if_neg e, if_neg (fun z => e (Sum.inr.inj z).symm)]
end Fn

set_option Elab.async false
set_option linter.all false
set_option maxRecDepth 100000
set_option maxHeartbeats 4000000
/-! tuple(zip(a, b)) of two lists of the same length: a new tuple of new pairs. -/
namespace Fn
open PySem PySem.Spec PyProof.Rows L2
theorem zip_nolen : typeLookup (.type "zip") "__len__" = pure none := by rw [typeLookup_type, builtinLookup_eq_fast]; kernel_rfl
theorem zip_nohint : typeLookup (.type "zip") "__length_hint__" = pure none := by rw [typeLookup_type, builtinLookup_eq_fast]; kernel_rfl
section
variable {prog : Program} {w : World} {A : Around} {E : Value → Shared → Prop} {s : Shared}
/-- the zip z over two lists, i items drawn, which stand at as; S the list that holds them -/
structure ZSt (z TI TO i1 i2 l1 l2 S : Addr) (xs ys : Array Value) (i : Nat) (h : Heap) (as : List Addr) : Prop where
  now : (as = [] ∧ IsZip h z TI TO .none) ∨ ∃ T f oT, IsZipHeld h z TI TO T f ∧ h.get? T = some oT ∧ T ≠ z ∧ T ≠ i1 ∧ T ≠ i2 ∧ T ≠ S
  hTI : IsPair h TI (.ref i1) (.ref i2)
  hTO : ∃ a b, IsPair h TO a b
  h1 : h.IsListIter i1 l1 i
  h2 : h.IsListIter i2 l2 i
  hl1 : h.IsList l1 xs
  hl2 : h.IsList l2 ys
  len : as.length = i
  nd : as.Nodup
  pairs : ∀ (j : Nat) (a : Addr), as[j]? = some a → a ≠ z ∧ a ≠ TO ∧ a ≠ i1 ∧ a ≠ i2 ∧ a ≠ S ∧ ∃ x y, xs[j]? = some x ∧ ys[j]? = some y ∧ IsPair h a x y
variable {z TI TO i1 i2 l1 l2 S : Addr} {xs ys : Array Value}
/-- how S stands apart -/
structure SApart (z TI TO i1 i2 l1 l2 S : Addr) : Prop where
  z : S ≠ z
  TI : S ≠ TI
  TO : S ≠ TO
  i1 : S ≠ i1
  i2 : S ≠ i2
  l1 : S ≠ l1
  l2 : S ≠ l2
theorem ZSt.keep {i : Nat} {h h' : Heap} {as : List Addr} (B : SApart z TI TO i1 i2 l1 l2 S) (Z : ZSt z TI TO i1 i2 l1 l2 S xs ys i h as) (k : ∀ b o, b ≠ S → h.get? b = some o → h'.get? b = some o) : ZSt z TI TO i1 i2 l1 l2 S xs ys i h' as where
  now := by
    rcases Z.now with ⟨e, q⟩ | ⟨T, f, oT, q, t, a, b, c, d⟩
    · exact .inl ⟨e, k _ _ B.z.symm q⟩
    · exact .inr ⟨T, f, oT, k _ _ B.z.symm q, k _ _ d t, a, b, c, d⟩
  hTI := k _ _ B.TI.symm Z.hTI
  hTO := Z.hTO.elim fun a ⟨b, q⟩ => ⟨a, b, k _ _ B.TO.symm q⟩
  h1 := Z.h1.at fun o q => k _ _ B.i1.symm q
  h2 := Z.h2.at fun o q => k _ _ B.i2.symm q
  hl1 := Z.hl1.at fun o q => k _ _ B.l1.symm q
  hl2 := Z.hl2.at fun o q => k _ _ B.l2.symm q
  len := Z.len
  nd := Z.nd
  pairs := fun j a hj => by
    obtain ⟨n1, n2, n3, n4, n5, x, y, e1, e2, p⟩ := Z.pairs j a hj
    exact ⟨n1, n2, n3, n4, n5, x, y, e1, e2, k _ _ n5 p⟩
theorem zip_step (D : ZipApart z TI TO i1 i2 l1 l2) (B : SApart z TI TO i1 i2 l1 l2 S) {i : Nat} {as : List Addr} {x y : Value} {Q : Option Value → Shared → Prop} (Z : ZSt z TI TO i1 i2 l1 l2 S xs ys i s.heap as) (hx : xs[i]? = some x) (hy : ys[i]? = some y) (hS : S < s.heap.objs.size)
    (hQ : ∀ h', ZSt z TI TO i1 i2 l1 l2 S xs ys (i + 1) h' (as ++ [s.heap.objs.size]) → (∀ b o, b ≠ z → b ≠ TO → b ≠ i1 → b ≠ i2 → s.heap.get? b = some o → h'.get? b = some o) → Q (some (.ref s.heap.objs.size)) { s with heap := h' }) :
    wpAny (model prog w) A (pyNext (.ref z)) Q E s := by
  have old : ∀ (j : Nat) (a : Addr), as[j]? = some a → a < s.heap.objs.size := fun j a hj => by
    obtain ⟨_, _, _, _, _, _, _, _, _, p⟩ := Z.pairs j a hj
    exact Heap.lt_size p
  have fin : ∀ h' : Heap, ((∃ T f oT, IsZipHeld h' z TI TO T f ∧ h'.get? T = some oT ∧ T ≠ z ∧ T ≠ i1 ∧ T ≠ i2 ∧ T ≠ S)) → (∃ a b, IsPair h' TO a b) → h'.IsListIter i1 l1 (i + 1) → h'.IsListIter i2 l2 (i + 1) → IsPair h' s.heap.objs.size x y →
      (∀ b o, b ≠ z → b ≠ TO → b ≠ i1 → b ≠ i2 → s.heap.get? b = some o → h'.get? b = some o) → ZSt z TI TO i1 i2 l1 l2 S xs ys (i + 1) h' (as ++ [s.heap.objs.size]) := fun h' hz ht a1 a2 p k => by
    have hzl : z < s.heap.objs.size := by
      rcases Z.now with ⟨_, q⟩ | ⟨T, f, oT, q, _⟩ <;> exact Heap.lt_size q
    obtain ⟨o1, q1, _⟩ := Z.h1
    obtain ⟨o2, q2, _⟩ := Z.h2
    obtain ⟨o3, q3, _⟩ := Z.hl1
    obtain ⟨o4, q4, _⟩ := Z.hl2
    refine ⟨.inr hz, k _ _ D.TIz D.TITO D.TIi1 D.TIi2 Z.hTI, ht, a1, a2, Z.hl1.at fun o q => k _ _ D.l1z D.l1TO D.l1i1 D.l1i2 q, Z.hl2.at fun o q => k _ _ D.l2z D.l2TO D.l2i1 D.l2i2 q, by rw [List.length_append, Z.len]; rfl, ?_, fun j a hj => ?_⟩
    · refine List.nodup_append.mpr ⟨Z.nd, List.nodup_cons.mpr ⟨List.not_mem_nil, .nil⟩, fun a ha b hb e => ?_⟩
      obtain ⟨j, hj⟩ := List.mem_iff_getElem?.mp ha
      rw [List.mem_singleton.mp hb] at e
      exact absurd (old j a hj) (by rw [e]; exact Nat.lt_irrefl _)
    · rcases Nat.lt_trichotomy j as.length with hl | hl | hl
      · rw [List.getElem?_append_left hl] at hj
        obtain ⟨n1, n2, n3, n4, n5, u, v, e1, e2, pp⟩ := Z.pairs j a hj
        exact ⟨n1, n2, n3, n4, n5, u, v, e1, e2, k _ _ n1 n2 n3 n4 pp⟩
      · subst hl
        have ea : s.heap.objs.size = a := by simpa using hj
        subst ea
        have nTO : s.heap.objs.size ≠ TO := by
          obtain ⟨_, _, q⟩ := Z.hTO
          exact Nat.ne_of_gt (Heap.lt_size q)
        refine ⟨Nat.ne_of_gt hzl, nTO, Nat.ne_of_gt (Heap.lt_size q1), Nat.ne_of_gt (Heap.lt_size q2), Nat.ne_of_gt hS, x, y, by rw [Z.len]; exact hx, by rw [Z.len]; exact hy, p⟩
      · rw [List.getElem?_eq_none (by rw [List.length_append, List.length_singleton]; omega)] at hj
        cases hj
  have hl1 := Z.hl1
  have hl2 := Z.hl2
  obtain ⟨a, b, hTO⟩ := Z.hTO
  have hzl : z < s.heap.objs.size ∧ i1 < s.heap.objs.size ∧ i2 < s.heap.objs.size := by
    obtain ⟨o1, q1, _⟩ := Z.h1
    obtain ⟨o2, q2, _⟩ := Z.h2
    refine ⟨?_, Heap.lt_size q1, Heap.lt_size q2⟩
    rcases Z.now with ⟨_, q⟩ | ⟨T, f, oT, q, _⟩ <;> exact Heap.lt_size q
  rcases Z.now with ⟨e, q⟩ | ⟨T, f, oT, q, hT, t1, t2, t3, t4⟩
  · refine wpAny_pyNext_zip_item D q Z.hTI hTO Z.h1 Z.h2 hl1 hl2 hx hy fun h' b1 b2 b3 b4 b5 b6 b7 => hQ h' (fin h' ⟨s.heap.objs.size, false, _, b1, b5, Nat.ne_of_gt hzl.1, Nat.ne_of_gt hzl.2.1, Nat.ne_of_gt hzl.2.2, Nat.ne_of_gt hS⟩ ⟨_, _, b2⟩ b3 b4 b5 b7) b7
  · refine wpAny_pyNext_zip_item_held D q hT Z.hTI Z.h1 Z.h2 hl1 hl2 hx hy fun h' b1 b3 b4 b5 b6 b7 => hQ h' (fin h' ⟨T, true, oT, b1, b7 _ _ t1 t2 t3 hT, t1, t2, t3, t4⟩ ⟨a, b, b7 _ _ D.TOz D.TOi1 D.TOi2 hTO⟩ b3 b4 b5 fun c o c1 c2 c3 c4 e => b7 c o c1 c3 c4 e) fun c o c1 c2 c3 c4 e => b7 c o c1 c3 c4 e
theorem zip_stop (hh : A.handled = none) (D : ZipApart z TI TO i1 i2 l1 l2) {i : Nat} {as : List Addr} {Q : Option Value → Shared → Prop} (Z : ZSt z TI TO i1 i2 l1 l2 S xs ys i s.heap as) (hend : xs[i]? = none ∨ ys[i]? = none)
    (hQ : ∀ h', (∀ b o, b ≠ z → b ≠ TO → b ≠ i1 → b ≠ i2 → s.heap.get? b = some o → h'.get? b = some o) → Q none { s with heap := h' }) :
    wpAny (model prog w) A (pyNext (.ref z)) Q E s := by
  obtain ⟨a, b, hTO⟩ := Z.hTO
  rcases Z.now with ⟨e, q⟩ | ⟨T, f, oT, q, hT, t1, t2, t3, t4⟩
  · exact wpAny_pyNext_zip_end hh D q Z.hTI hTO Z.h1 Z.h2 Z.hl1 Z.hl2 hend hQ
  · exact wpAny_pyNext_zip_end_held hh D q hT Z.hTI Z.h1 Z.h2 Z.hl1 Z.hl2 hend fun h' k => hQ h' fun c o c1 c2 c3 c4 e => k c o c1 c3 c4 e
/-- the list S is filled -/
theorem zip_fill {R : Result → Shared → Prop} (hh : A.handled = none) (D : ZipApart z TI TO i1 i2 l1 l2) (B : SApart z TI TO i1 i2 l1 l2 S) (he : xs.size = ys.size) (hn : xs.size ≤ sizeLine) (res : Value) {h₁ : Heap}
    (hR : ∀ (h' : Heap) (acc : Array Value) (c : Nat) (as : List Addr), (∀ b o, b ≠ S → b ≠ z → b ≠ TO → b ≠ i1 → b ≠ i2 → h₁.get? b = some o → h'.get? b = some o) → h'.get? S = some { cls := .type "list", dict := none, data := .seq acc c, slots := #[] } → acc.toList = as.map Value.ref → as.length = xs.size → as.Nodup →
      (∀ (j : Nat) (a : Addr), as[j]? = some a → h₁.objs.size ≤ a ∧ ∃ x y, xs[j]? = some x ∧ ys[j]? = some y ∧ IsPair h' a x y) → R (.ok (.ret res)) { s with heap := h' }) :
    ∀ (k i : Nat) (h : Heap) (c : Nat) (acc : Array Value) (as : List Addr), xs.size - i = k → i ≤ xs.size → ZSt z TI TO i1 i2 l1 l2 S xs ys i h as → (∀ b o, b ≠ S → b ≠ z → b ≠ TO → b ≠ i1 → b ≠ i2 → h₁.get? b = some o → h.get? b = some o) →
      h.get? S = some { cls := .type "list", dict := none, data := .seq acc c, slots := #[] } → acc.toList = as.map Value.ref → h₁.objs.size ≤ h.objs.size → (∀ a ∈ as, h₁.objs.size ≤ a) →
      codeAny (model prog w) A (.builtin "list.extend.loop" ⟨[.ref S, .ref z, res], []⟩) R { s with heap := h } := by
  intro k
  induction k with
  | zero =>
    intro i h c acc as hk hi Z kp hS hacc hz1 low
    refine codeAny_builtin PySem.F.entry_extend_loop ?_
    rw [Around.under_plainId PySem.F.plain_extend_loop _]
    show wpAny _ A.in1 (pyNext (.ref z) >>= _) _ _ _
    refine wpAny_bind (zip_stop (s := { s with heap := h }) (A := A.in1) hh D Z (.inl (Array.getElem?_eq_none (by omega))) fun h' k => ?_)
    refine wpAny_pure (hR h' acc c as (fun b o n0 n1 n2 n3 n4 e => k b o n1 n2 n3 n4 (kp b o n0 n1 n2 n3 n4 e)) (k S _ B.z B.TO B.i1 B.i2 hS) hacc (by rw [Z.len]; omega) Z.nd fun j a hj => ?_)
    obtain ⟨n1, n2, n3, n4, n5, x, y, e1, e2, p⟩ := Z.pairs j a hj
    exact ⟨low a (List.mem_of_getElem? hj), x, y, e1, e2, k a _ n1 n2 n3 n4 p⟩
  | succ k ih =>
    intro i h c acc as hk hi Z kp hS hacc hz1 low
    have hlt : i < xs.size := by omega
    have hsz : acc.size = i := by rw [← Array.length_toList, hacc, List.length_map, Z.len]
    refine codeAny_builtin PySem.F.entry_extend_loop ?_
    rw [Around.under_plainId PySem.F.plain_extend_loop _]
    show wpAny _ A.in1 (pyNext (.ref z) >>= _) _ _ _
    refine wpAny_bind (zip_step (s := { s with heap := h }) (A := A.in1) D B Z (Array.getElem?_eq_getElem hlt) (Array.getElem?_eq_getElem (by omega)) (Heap.lt_size hS) fun h' Z' k' => ?_)
    have hS' := k' S _ B.z B.TO B.i1 B.i2 hS
    show wpAny _ A.in1 (updateSeq S (·.push (.ref h.objs.size)) >>= _) _ _ _
    refine wpAny_bind ?_
    have up : ∀ b o, b ≠ S → h'.get? b = some o → (h'.update S (Obj.mapSeq (·.push (Value.ref h.objs.size)))).get? b = some o := fun b o hb e => (Heap.get?_update_other _ _ (Ne.symm hb)).trans e
    have hnew : h.objs.size < h'.objs.size := by
      obtain ⟨_, _, _, _, _, _, _, _, _, p⟩ := Z'.pairs as.length h.objs.size (by simp)
      exact Heap.lt_size p
    refine wpAny_updateSeq (s := { s with heap := h' }) hS' rfl (wpAny_pure ⟨plainId_quiet PySem.F.plain_extend_loop _, ih (i + 1) _ _ (acc.push (.ref h.objs.size)) (as ++ [h.objs.size]) (by omega) hlt (Z'.keep B up)
      (fun b o n0 n1 n2 n3 n4 e => up b o n0 (k' b o n1 n2 n3 n4 (kp b o n0 n1 n2 n3 n4 e))) (Heap.get?_update_self _ hS' rfl) ?_ ?_ ?_⟩) (by rw [hsz]; omega) (by show (acc.push _).size ≤ sizeLine + 1; rw [Array.size_push, hsz]; omega)
    · rw [Array.toList_push, hacc, List.map_append]
      rfl
    · show h₁.objs.size ≤ (h'.update S _).objs.size
      rw [(Heap.SameBut.update ..).1]
      omega
    · intro a ha
      rcases List.mem_append.mp ha with ha | ha
      · exact low a ha
      · rw [List.mem_singleton.mp ha]
        exact hz1
theorem zip_collect {R : List Value → Shared → Prop} (hh : A.handled = none) (D : ZipApart z TI TO i1 i2 l1 l2) (he : xs.size = ys.size) (hn : xs.size ≤ sizeLine)
    (hz : IsZip s.heap z TI TO .none) (hTI : IsPair s.heap TI (.ref i1) (.ref i2)) {a b : Value} (hTO : IsPair s.heap TO a b) (h1 : s.heap.IsListIter i1 l1 0) (h2 : s.heap.IsListIter i2 l2 0) (hl1 : s.heap.IsList l1 xs) (hl2 : s.heap.IsList l2 ys)
    (h : ∀ (h' : Heap) (as : List Addr), (∀ b o, b ≠ z → b ≠ TO → b ≠ i1 → b ≠ i2 → s.heap.get? b = some o → h'.get? b = some o) → as.length = xs.size → as.Nodup →
      (∀ (j : Nat) (a : Addr), as[j]? = some a → s.heap.objs.size ≤ a ∧ ∃ x y, xs[j]? = some x ∧ ys[j]? = some y ∧ IsPair h' a x y) → R (as.map Value.ref) { s with heap := h' }) :
    wpAny (model prog w) A (collect (.ref z)) R E s := by
  obtain ⟨o1, q1, _⟩ := id h1
  obtain ⟨o2, q2, _⟩ := id h2
  obtain ⟨o3, q3, _⟩ := id hl1
  obtain ⟨o4, q4, _⟩ := id hl2
  have B : SApart z TI TO i1 i2 l1 l2 s.heap.objs.size := ⟨Nat.ne_of_gt (Heap.lt_size hz), Nat.ne_of_gt (Heap.lt_size hTI), Nat.ne_of_gt (Heap.lt_size hTO), Nat.ne_of_gt (Heap.lt_size q1), Nat.ne_of_gt (Heap.lt_size q2), Nat.ne_of_gt (Heap.lt_size q3), Nat.ne_of_gt (Heap.lt_size q4)⟩
  unfold collect
  refine wpAny_bind (wpAny_runValue (codeAny_builtin PySem.F.entry_proto_collect ?_))
  rw [Around.under_plainId PySem.F.plain_proto_collect _]
  show wpAny _ A.in1 (newList [] >>= fun l => again (.builtin "list.__iadd__" ⟨[l, .ref z], []⟩)) _ _ s
  refine wpAny_bind (wpAny_newObj_type ?_)
  refine wpAny_pure ⟨plainId_quiet PySem.F.plain_list_iadd _, codeAny_builtin PySem.F.entry_list_iadd ?_⟩
  rw [Around.under_plainId PySem.F.plain_list_iadd _]
  have pu : ∀ b o, s.heap.get? b = some o → (s.heap.push { cls := .type "list", data := .seq ([] : List Value).toArray }).get? b = some o := fun b o e => Heap.get?_push_of_some _ e
  have hzP : IsZip (s.heap.push { cls := .type "list", data := .seq ([] : List Value).toArray }) z TI TO .none := pu _ _ hz
  have hT : ({ s with heap := s.heap.push { cls := .type "list", data := .seq ([] : List Value).toArray } } : Shared).TypeIs (.ref z) "zip" := ⟨_, hzP, rfl⟩
  show wpAny _ A.in1 (Builtin.List.listExtendWith (.ref s.heap.objs.size) (.ref z) (.ref s.heap.objs.size)) _ _ _
  unfold Builtin.List.listExtendWith
  refine wpAny_bind (wpAny_typeOf hT ?_)
  have e1 : Builtin.List.listSameRef (.ref s.heap.objs.size) (.ref z) = false := by simp [Builtin.List.listSameRef, B.z]
  have e2 : (Value.type "zip" == Value.type "list") = false := by decide
  have e3 : (Value.type "zip" == Value.type "tuple") = false := by decide
  simp only [e1, e2, e3, Bool.or_false, Bool.false_eq_true, if_false]
  refine wpAny_bind (wpAny_pyIter_zip (s := { s with heap := s.heap.push { cls := .type "list", data := .seq ([] : List Value).toArray } }) hzP ?_)
  refine wpAny_bind (wpAny_holding ?_)
  unfold Builtin.List.listLengthHint
  refine wpAny_bind (wpAny_specialOf hT zip_nolen ?_)
  show wpAny _ A.in1 (specialOf (Value.ref z) (Str.ofString "__length_hint__") >>= _) _ _ _
  refine wpAny_bind (wpAny_specialOf hT zip_nohint ?_)
  refine wpAny_pure ?_
  show wpAny _ A.in1 (rule "list.extend.makes-room" >>= fun _ => Builtin.List.listTouch (.ref s.heap.objs.size) >>= fun _ =>
    again (.builtin "list.extend.loop" ⟨[.ref s.heap.objs.size, .ref z, .ref s.heap.objs.size], []⟩)) _ _ _
  refine wpAny_bind (wpAny_rule ?_)
  have hS₁ : (s.heap.push { cls := .type "list", data := .seq ([] : List Value).toArray }).get? s.heap.objs.size = some { cls := .type "list", data := .seq ([] : List Value).toArray } := Heap.get?_push_size _ rfl
  refine wpAny_bind ?_
  show wpAny _ A.in1 (updateSeq s.heap.objs.size (·.push .none) >>= fun _ => updateSeq s.heap.objs.size (·.pop)) _ _ _
  refine wpAny_bind (wpAny_updateSeq hS₁ rfl ?_)
  have hS₂ := Heap.get?_update_self (Obj.mapSeq (·.push Value.none)) hS₁ rfl
  refine wpAny_updateSeq hS₂ rfl ?_
  have hS₃ := Heap.get?_update_self (Obj.mapSeq (·.pop)) hS₂ rfl
  have oth : ∀ b o, b ≠ s.heap.objs.size → s.heap.get? b = some o →
      (((s.heap.push { cls := .type "list", data := .seq ([] : List Value).toArray }).update s.heap.objs.size (Obj.mapSeq (·.push Value.none))).update s.heap.objs.size (Obj.mapSeq (·.pop))).get? b = some o :=
    fun b o hb e => (Heap.get?_update_other _ _ (Ne.symm hb)).trans ((Heap.get?_update_other _ _ (Ne.symm hb)).trans (pu b o e))
  have old : ∀ b o, s.heap.get? b = some o → b ≠ s.heap.objs.size := fun b o e => Nat.ne_of_lt (Heap.lt_size e)
  refine wpAny_pure ⟨plainId_quiet PySem.F.plain_extend_loop _, zip_fill (s := s) (A := A) (h₁ := s.heap) hh D B he hn _ (fun h' acc c as k hS' hacc hl nd pr => ?_) xs.size 0 _ _ #[] [] (Nat.sub_zero _) (Nat.zero_le _)
    ⟨.inl ⟨rfl, oth _ _ B.z.symm hz⟩, oth _ _ B.TI.symm hTI, ⟨_, _, oth _ _ B.TO.symm hTO⟩, h1.at fun o e => oth _ _ B.i1.symm e, h2.at fun o e => oth _ _ B.i2.symm e, hl1.at fun o e => oth _ _ B.l1.symm e, hl2.at fun o e => oth _ _ B.l2.symm e, rfl, .nil, fun j a e => by simp at e⟩
    (fun b o n0 _ _ _ _ e => oth b o n0 e) hS₃ rfl ?_ (fun a ha => by cases ha)⟩
  · show wpAny _ A (load s.heap.objs.size >>= _) _ _ _
    refine wpAny_bind (wpAny_load (s := { s with heap := h' }) hS' ?_)
    refine wpAny_pure ?_
    show R acc.toList _
    rw [hacc]
    exact h h' as (fun b o n1 n2 n3 n4 e => k b o (old b o e) n1 n2 n3 n4 e) hl nd pr
  · rw [(Heap.SameBut.update ..).1, (Heap.SameBut.update ..).1, Heap.size_push]
    exact Nat.le_succ _
theorem zip_code {Q₁ : Value → Shared → Prop} (hh : A.handled = none) (D : ZipApart z TI TO i1 i2 l1 l2) (he : xs.size = ys.size) (hn : xs.size ≤ sizeLine)
    (hz : IsZip s.heap z TI TO .none) (hTI : IsPair s.heap TI (.ref i1) (.ref i2)) {a b : Value} (hTO : IsPair s.heap TO a b) (h1 : s.heap.IsListIter i1 l1 0) (h2 : s.heap.IsListIter i2 l2 0) (hl1 : s.heap.IsList l1 xs) (hl2 : s.heap.IsList l2 ys)
    (h : ∀ (h' : Heap) (as : List Addr), (∀ b o, b ≠ z → b ≠ TO → b ≠ i1 → b ≠ i2 → s.heap.get? b = some o → h'.get? b = some o) → as.length = xs.size → as.Nodup →
      (∀ (j : Nat) (a : Addr), as[j]? = some a → s.heap.objs.size ≤ a ∧ ∃ x y, xs[j]? = some x ∧ ys[j]? = some y ∧ IsPair h' a x y) → Q₁ (.ref h'.objs.size) { s with heap := h'.push { cls := .type "tuple", data := .seq (as.map Value.ref).toArray } }) :
    codeAny (model prog w) A (.call (.builtin "tuple.__new__") ⟨[.type "tuple", .ref z], []⟩) (wants Q₁ E) s := by
  refine codeAny_of_tree ?_
  show wpAny _ A.in1 (do checkBuiltinCall "tuple.__new__" ⟨[.type "tuple", .ref z], []⟩; again (.builtin "tuple.__new__" ⟨[.type "tuple", .ref z], []⟩)) _ _ s
  refine wpAny_bind (wpAny_of_eq (F.newCall_tuple_1 _) (wpAny_pure ⟨plainId_quiet F.plain_tuple_new _, codeAny_builtin F.entry_tuple_new ?_⟩))
  rw [Around.under_plainId F.plain_tuple_new _]
  have hsub := sub_tuple_self
  have hinit := init_tuple_lookup
  have hmh := madeHere_tuple
  have hTy : s.TypeIs (.ref z) "zip" := ⟨_, hz, rfl⟩
  have hh1 : A.in1.handled = none := hh
  wp_walk using wpAny_typeOf hTy, zip_collect (A := A.in1) hh1 D he hn hz hTI hTO h1 h2 hl1 hl2
  intro h' as k hl nd pr
  show wpAny _ _ (Builtin.Tuple.tupleExact (as.map Value.ref).toArray >>= fun v => ret v) _ _ _
  unfold Builtin.Tuple.tupleExact
  refine wpAny_bind (wpAny_newObj_type ?_ (by show (as.map Value.ref).toArray.size ≤ sizeLine; rw [List.size_toArray, List.length_map, hl]; exact hn))
  exact wpAny_pure (h h' as k hl nd pr)
theorem call_tupZip {Q : Value → Shared → Prop} (hh : A.handled = none) (D : ZipApart z TI TO i1 i2 l1 l2) (he : xs.size = ys.size) (hn : xs.size ≤ sizeLine)
    (hz : IsZip s.heap z TI TO .none) (hTI : IsPair s.heap TI (.ref i1) (.ref i2)) {a b : Value} (hTO : IsPair s.heap TO a b) (h1 : s.heap.IsListIter i1 l1 0) (h2 : s.heap.IsListIter i2 l2 0) (hl1 : s.heap.IsList l1 xs) (hl2 : s.heap.IsList l2 ys)
    (h : ∀ (h' : Heap) (as : List Addr), (∀ b o, b ≠ z → b ≠ TO → b ≠ i1 → b ≠ i2 → s.heap.get? b = some o → h'.get? b = some o) → as.length = xs.size → as.Nodup →
      (∀ (j : Nat) (a : Addr), as[j]? = some a → s.heap.objs.size ≤ a ∧ ∃ x y, xs[j]? = some x ∧ ys[j]? = some y ∧ IsPair h' a x y) → Q (.ref h'.objs.size) { s with heap := h'.push { cls := .type "tuple", data := .seq (as.map Value.ref).toArray } }) :
    wpAny (model prog w) A (call (.type "tuple") [.ref z]) Q E s := by
  refine callType_codes (Q₁ := fun obj s₁ => s₁.TypeIs obj "tuple" ∧ Q obj s₁) F.called_tuple (F.typeCall_tuple_1 _) F.entry_object_init
    (zip_code (A := A.in1) hh D he hn hz hTI hTO h1 h2 hl1 hl2 fun h' as k hl nd pr => ⟨⟨_, Heap.get?_push_size _ rfl, rfl⟩, h h' as k hl nd pr⟩) fun obj s₁ h₁ => ?_
  exact ⟨h₁.1, F.args_object_init_2 obj _, object_init_meets F.called_tuple.init.lookup F.called_tuple.made (by decide) prog w A.in1 _ s₁ ⟨h₁.1, rfl, h₁.2⟩⟩
end
/-! ### several new objects at once -/
def putN (H : Hp) (ns : List (Addr × HO)) : Hp := fun b => match ns.lookup b with
  | some o => some o
  | none => H b
theorem lookup_mem {ns : List (Addr × HO)} {b : Addr} {o : HO} (h : ns.lookup b = some o) : (b, o) ∈ ns := by
  induction ns with
  | nil => cases h
  | cons q ns ih =>
    obtain ⟨c, u⟩ := q
    rw [List.lookup_cons] at h
    by_cases e : b = c
    · rw [show (b == c) = true from beq_iff_eq.mpr e] at h
      cases h
      rw [e]
      exact List.mem_cons_self
    · rw [show (b == c) = false from beq_eq_false_iff_ne.mpr e] at h
      exact List.mem_cons_of_mem _ (ih h)
theorem lookup_nodup {ns : List (Addr × HO)} (nd : (ns.map Prod.fst).Nodup) {b : Addr} {o : HO} (h : (b, o) ∈ ns) : ns.lookup b = some o := by
  induction ns with
  | nil => cases h
  | cons q ns ih =>
    obtain ⟨c, u⟩ := q
    have nd' := List.nodup_cons.mp nd
    rw [List.lookup_cons]
    rcases List.mem_cons.mp h with e | h
    · cases e
      rw [show (b == b) = true from beq_iff_eq.mpr rfl]
    · have e : b ≠ c := fun z => nd'.1 (by rw [← z]; exact List.mem_map.mpr ⟨_, h, rfl⟩)
      rw [show (b == c) = false from beq_eq_false_iff_ne.mpr e]
      exact ih nd'.2 h
theorem putN_at {H : Hp} {ns : List (Addr × HO)} (nd : (ns.map Prod.fst).Nodup) {b : Addr} {o : HO} (h : (b, o) ∈ ns) : putN H ns b = some o := by
  unfold putN
  rw [lookup_nodup nd h]
theorem putN_same {H : Hp} {ns : List (Addr × HO)} (fr : ∀ q ∈ ns, H q.1 = none) : Same H (putN H ns) := fun b o e => by
  unfold putN
  cases g : ns.lookup b with
  | none => exact e
  | some u =>
    rw [fr _ (lookup_mem g)] at e
    cases e
section
variable {X : Cx} {pins : List (Addr × Obj)} {σ : L2.St} {H : Hp} {s : Shared} {h' : Heap} {tk : Nat} {ns : List (Addr × HO)}
theorem laid_many (I : Inv X pins σ H s) (hk : ∀ b o, s.heap.get? b = some o → h'.get? b = some o) (low : ∀ q ∈ ns, s.heap.objs.size ≤ q.1) (new : ∀ q ∈ ns, ObjOk X.prog X.w (putN H ns) h' q.1 q.2) : Inv X pins σ (putN H ns) { s with heap := h', toks := tk } := by
  have fr : ∀ q ∈ ns, H q.1 = none := fun q hq => I.hok.fresh (low q hq)
  have kp := putN_same fr
  refine I.call' (ch := []) rfl ⟨fun b o q _ _ _ => hk b o q, fun b o q _ _ _ => ⟨o.slots, hk b o q⟩, fun b o q n _ => ?_, fun b o q _ => ⟨o, hk b o q⟩, fun b xs q => kp b _ q, fun b o u q => kp b _ q, fun b ps q => ⟨#[], by rw [kp b _ q]; simp⟩⟩ (fun b u q => ?_) I.bare fun b z => by simp at z
  · have nm : ns.lookup b = none := by
      cases g : ns.lookup b with
      | none => rfl
      | some u => exact absurd (Heap.lt_size q) (Nat.not_lt.mpr (low _ (lookup_mem g)))
    unfold putN
    rw [nm]
    exact n
  · cases g : ns.lookup b with
    | some v =>
      have e : putN H ns b = some v := by unfold putN; rw [g]
      rw [e] at q
      cases q
      exact new _ (lookup_mem g)
    | none =>
      have e : putN H ns b = H b := by unfold putN; rw [g]
      rw [e] at q
      exact (I.hok b u q).stay (fun d v _ y => hk d v y) (fun d y => kp d _ y) fun d xs y => kp d _ y
end
theorem zipNs {α : Type} (f : α → HO) : ∀ (as : List Addr) (qs : List α), as.length = qs.length → (List.zipWith (fun a q => (a, f q)) as qs).map Prod.fst = as
  | [], [], _ => rfl
  | a :: as, q :: qs, h => by
    show a :: _ = _
    rw [zipNs f as qs (Nat.succ.inj h)]
theorem zipNs_at {α : Type} {f : α → HO} {H' : Hp} : ∀ {as : List Addr} {qs : List α}, as.length = qs.length → (∀ a o, (a, o) ∈ List.zipWith (fun a q => (a, f q)) as qs → H' a = some o) → Paired (fun a q => H' a = some (f q)) as qs
  | [], [], _, _ => .nil
  | a :: as, q :: qs, h, k => .cons (k a _ List.mem_cons_self) (zipNs_at (Nat.succ.inj h) fun b o m => k b o (List.mem_cons_of_mem _ m))
/-- what tuple(zip(a, b)) wishes -/
def tTupZip (K : PySem.W.Frag) (ta : TA) : TE := fun σ H Q => ta σ H fun vs H1 => ∃ (a b : Addr) (xs ys : List V), vs = [.ref a, .ref b] ∧ SqL K H1 a xs ∧ SqL K H1 b ys ∧ xs.length = ys.length ∧
  ∀ (as : List Addr) (p : Addr) (H' : Hp), Same H1 H' → H1 p = none → H' p = some (.tup (as.map V.ref)) → Paired (fun t q => H' t = some (.tup [q.1, q.2])) as (xs.zip ys) → Q (.ref p) H'
theorem pe_tupZip {X : Cx} {e e2 : Expr} {ta : TA} {p p2 pos pos2 : Pos} (hc : X.calm = true) (hg : Gl X "tuple") (hm : X.mg "tuple" = none) (hg2 : Gl X "zip") (hm2 : X.mg "zip" = none) (ha : PA X [e, e2] ta)
    (hs : starEach [e, e2] X.env = (false, eval e X.env) :: starEach [e2] X.env := by rfl) (hpl : (backTo pos2 (starEach [e2] X.env)).any (·.1) = false := by rfl)
    (hs2 : starEach [.Call (.Name "zip" p2) [e, e2] [] pos2] X.env = (false, eval (.Call (.Name "zip" p2) [e, e2] [] pos2) X.env) :: starEach [] X.env := by rfl) :
    PE X (.Call (.Name "tuple" p) [.Call (.Name "zip" p2) [e, e2] [] pos2] [] pos) (tTupZip X.K ta) := by
  refine ⟨fun pins s σ H Q I h => ?_⟩
  refine Call_ (ld_blt I hg hm boot_tuple (PyProof.Rows.callWith_type1 (args_cons (Call_ (ld_blt I hg2 hm2 PyProof.Rows.boot_zip (PyProof.Rows.callWith_type1 (thn (ha.run pos2 pins s σ H _ I h) fun us s1 ⟨vs, H1, I1, r1, q1⟩ => ?_) hs hpl))) hs2) hs2 rfl))
  obtain ⟨a, b, xs, ys, ex, hqx, hqy, hl, q⟩ := q1
  subst ex
  cases r1 with
  | cons r rr =>
    cases rr with
    | cons r' rr =>
      cases rr
      cases r
      cases r'
      obtain ⟨its, rv, p1, hz1⟩ := I1.list hqx
      obtain ⟨its2, rv2, p2, hz2⟩ := I1.list hqy
      have la : a < s1.heap.objs.size := p1.lt
      have lb : b < s1.heap.objs.size := p2.lt
      have e1 := rv.length
      have e2 := rv2.length
      refine call_zip_2 p1.isList p2.isList fun h' hz hTI hTO h1 h2 hsz hk => args_nil ?_
      have D := PySem.W.ktu_apart s1.heap.objs.size a b la lb
      refine call_tupZip (s := { s1 with heap := h' }) (I1.ok.hd hc) D (by simp; omega) (by rw [List.size_toArray]; omega) hz hTI hTO h1 h2 (p1.isList.at fun o e => hk _ o e) (p2.isList.at fun o e => hk _ o e) fun h'' as k hla nd pr => ?_
      have lz : as.length = (xs.zip ys).length := by rw [hla, List.length_zip, List.size_toArray]; omega
      have low : ∀ a ∈ as, s1.heap.objs.size ≤ a := fun x hx => by
        obtain ⟨j, hj⟩ := List.mem_iff_getElem?.mp hx
        have := (pr j x hj).1
        have : h'.objs.size ≤ x := this
        omega
      have up : ∀ x ∈ as, x < h''.objs.size := fun x hx => by
        obtain ⟨j, hj⟩ := List.mem_iff_getElem?.mp hx
        obtain ⟨_, _, _, _, _, pp⟩ := pr j x hj
        exact Heap.lt_size pp
      have k1 : ∀ c o, s1.heap.get? c = some o → h''.get? c = some o := fun c o e => by
        have lt := Heap.lt_size e
        exact k c o (Nat.ne_of_lt (Nat.lt_add_right 4 lt)) (Nat.ne_of_lt (Nat.lt_add_right 3 lt)) (Nat.ne_of_lt lt) (Nat.ne_of_lt (Nat.lt_add_right 1 lt)) (hk c o e)
      have hsz2 : s1.heap.objs.size ≤ h''.objs.size := by
        exact Nat.le_of_lt (Nat.lt_of_le_of_lt (Nat.le_add_right _ 2) (Heap.lt_size (k _ _ D.TIz D.TITO D.TIi1 D.TIi2 hTI)))
      have pushK : ∀ c o, h''.get? c = some o → (h''.push { cls := .type "tuple", data := .seq (as.map Value.ref).toArray }).get? c = some o := fun c o e => Heap.get?_push_of_some _ e
      have ndN : (((h''.objs.size, HO.tup (as.map V.ref)) :: List.zipWith (fun a (q : V × V) => (a, HO.tup [q.1, q.2])) as (xs.zip ys)).map Prod.fst).Nodup := by
        rw [List.map_cons, zipNs (fun q : V × V => HO.tup [q.1, q.2]) as _ lz]
        exact List.nodup_cons.mpr ⟨fun hm => Nat.lt_irrefl _ (up _ hm), nd⟩
      have mem : ∀ (c : Addr) (o : HO), (c, o) ∈ List.zipWith (fun a (q : V × V) => (a, HO.tup [q.1, q.2])) as (xs.zip ys) → ∃ (j : Nat) (x y : V), as[j]? = some c ∧ xs[j]? = some x ∧ ys[j]? = some y ∧ o = .tup [x, y] := fun c o m => by
        obtain ⟨j, hj⟩ := List.mem_iff_getElem?.mp m
        rw [List.getElem?_zipWith] at hj
        cases ej : as[j]? with
        | none => rw [ej] at hj; cases hj
        | some c' =>
          cases ez : (xs.zip ys)[j]? with
          | none => rw [ej, ez] at hj; cases hj
          | some q' =>
            rw [ej, ez] at hj
            cases hj
            obtain ⟨z1, z2⟩ := List.getElem?_zip_eq_some.mp ez
            exact ⟨j, _, _, ej, z1, z2, rfl⟩
      have I2 := laid_many (ns := (h''.objs.size, HO.tup (as.map V.ref)) :: List.zipWith (fun a (q : V × V) => (a, HO.tup [q.1, q.2])) as (xs.zip ys)) (tk := s1.toks) I1 (fun c o e => pushK c o (k1 c o e)) (fun q hq => by
        rcases List.mem_cons.mp hq with rfl | hq
        · exact hsz2
        · obtain ⟨j, x, y, ej, _⟩ := mem q.1 q.2 hq
          exact low _ (List.mem_of_getElem? ej)) (fun q hq => by
        rcases List.mem_cons.mp hq with rfl | hq
        · refine ⟨by rw [List.length_map]; rw [lz, List.length_zip]; omega, as.map Value.ref, LiI.vals_refs as, IsTup.new _ _⟩
        · obtain ⟨j, x, y, ej, ex, ey, eo⟩ := mem q.1 q.2 hq
          rw [eo]
          obtain ⟨_, u, v, f1, f2, pp⟩ := pr j q.1 ej
          obtain ⟨u', g1, r1⟩ := rv.get ex
          obtain ⟨v', g2, r2⟩ := rv2.get ey
          have : u = u' := by
            have z : some u' = some u := by rw [← g1]; simpa using f1
            exact (Option.some.inj z).symm
          subst this
          have : v = v' := by
            have z : some v' = some v := by rw [← g2]; simpa using f2
            exact (Option.some.inj z).symm
          subst this
          exact ⟨by show 2 ≤ sizeLine; decide, [u, v], .cons r1 (.cons r2 .nil), ⟨_, pushK _ _ pp, rfl, _, rfl⟩⟩)
      have fr : ∀ q ∈ (h''.objs.size, HO.tup (as.map V.ref)) :: List.zipWith (fun a (q : V × V) => (a, HO.tup [q.1, q.2])) as (xs.zip ys), H1 q.1 = none := fun q hq => by
        rcases List.mem_cons.mp hq with rfl | hq
        · exact I1.hok.fresh hsz2
        · obtain ⟨j, x, y, ej, _⟩ := mem q.1 q.2 hq
          exact I1.hok.fresh (low _ (List.mem_of_getElem? ej))
      refine ⟨.ref h''.objs.size, _, I2, rfl, q as h''.objs.size _ (putN_same fr) (I1.hok.fresh hsz2) (putN_at ndN List.mem_cons_self) (zipNs_at (f := fun q : V × V => HO.tup [q.1, q.2]) lz fun c o m => putN_at ndN (List.mem_cons_of_mem _ m))⟩
end Fn

set_option Elab.async false
set_option maxRecDepth 100000
set_option maxHeartbeats 2000000
/-! An item of a list read within l[i] += x; texts as lists of codes in the readings. -/
namespace Fn
open PySem PySem.Spec PyProof.Rows L2
open TL (tl)
open SX (S)
theorem get_listP {X : Cx} : PGet X (fun x y H Q => ∃ (p : Addr) (xs : List V) (i : Nat) (v : V), x = .ref p ∧ y = .int (i : Nat) ∧ H p = some (.lst xs) ∧ xs[i]? = some v ∧ Q v H) := by
  intro pins s σ H o i ov iv Q I ro ri h
  obtain ⟨p, xs, k, v, rfl, rfl, hp, hv, q⟩ := h
  cases ro
  obtain ⟨t, rfl⟩ := ri
  obtain ⟨its, n, r, ho, hz⟩ := I.lst hp
  obtain ⟨u, hu, ru⟩ := r.get hv
  have hl := r.length
  have hn := line63
  have lt : k < its.length := (List.getElem?_eq_some_iff.mp hu).1
  exact wpAny_getItem_list (items := its.toArray) ⟨_, ho, rfl, _, rfl⟩ (by omega) (by omega) (by simpa using hu) ⟨v, H, I, ru, q⟩
theorem split_tl {x y : Str} {b : List Nat} (e : tl y = b) (hb : b ≠ []) (hk : b.all (· < 256) = true) : Txt.split x y = (TL.spl b 0 [] (tl x)).map S := by
  have ey : y = S b := by rw [← e]
  have z := SX.split_S (a := tl x) hb hk
  rw [SX.S_tl] at z
  rw [ey]
  exact z
theorem dropWhile_take {α : Type} (p : α → Bool) : ∀ l : List α, (l.dropWhile p) = l.drop (l.takeWhile p).length
  | [] => rfl
  | a :: l => by
    rw [List.dropWhile_cons, List.takeWhile_cons]
    split
    · exact dropWhile_take p l
    · rfl
theorem rstr_tl (x : Str) : tl (Txt.rstripChars x ")") = rstr (tl x) := by
  have e0 : ∀ c, (")" : Str).cps.contains c = (c == 41) := fun c => by
    have : (")" : Str).cps = #[41] := by decide +kernel
    rw [this]
    simp [Array.contains]
  have e1 : (fun c => (")" : Str).cps.contains c) = (fun c => c == 41) := funext e0
  have e2 : rstr (tl x) = (tl x).take ((tl x).length - ((tl x).reverse.takeWhile (· == 41)).length) := by
    unfold rstr
    rw [dropWhile_take, List.reverse_drop, List.reverse_reverse, List.length_reverse]
  have e3 : stripLo (fun c => (")" : Str).cps.contains c) false x = 0 := rfl
  have e4 : stripHi (fun c => (")" : Str).cps.contains c) true x 0 = (tl x).length - ((tl x).reverse.takeWhile (· == 41)).length := by
    unfold stripHi
    rw [if_pos rfl, List.drop_zero, e1, TL.len_tl]
  have e5 : tl (Builtin.Str.strSub x 0 ((tl x).length - ((tl x).reverse.takeWhile (· == 41)).length)) = rstr (tl x) := by
    rw [TL.tl_strSub, e2, List.drop_zero, Nat.sub_zero]
  unfold Txt.rstripChars Txt.stripBy
  split
  · rename_i h
    have h2 : stripHi (fun c => (")" : Str).cps.contains c) true x 0 = x.length := by
      have h' : (stripLo (fun c => (")" : Str).cps.contains c) false x == 0 && stripHi (fun c => (")" : Str).cps.contains c) true x (stripLo (fun c => (")" : Str).cps.contains c) false x) == x.length) = true := h
      rw [e3, Bool.and_eq_true, beq_iff_eq, beq_iff_eq] at h'
      exact h'.2
    rw [e4, TL.len_tl] at h2
    rw [e2, h2, List.take_length]
  · show tl (Builtin.Str.strSub x (stripLo (fun c => (")" : Str).cps.contains c) false x) (stripHi (fun c => (")" : Str).cps.contains c) true x (stripLo (fun c => (")" : Str).cps.contains c) false x))) = _
    rw [e3, e4]
    exact e5
theorem tl_S (l : List Nat) : tl (S l) = l := rfl
theorem spl_len (b : List Nat) : ∀ (l : List Nat) (k : Nat) (acc : List Nat), (TL.spl b k acc l).length ≤ l.length + 1
  | [], k, acc => by rw [TL.spl_nil]; exact Nat.le_refl _
  | c :: r, 0, acc => by
    show (if TL.pre b (c :: r) = true then acc :: TL.spl b (b.length - 1) [] r else TL.spl b 0 (acc ++ [c]) r).length ≤ r.length + 1 + 1
    split
    · exact Nat.succ_le_succ (spl_len b r _ _)
    · exact Nat.le_succ_of_le (spl_len b r _ _)
  | c :: r, k + 1, acc => Nat.le_succ_of_le (spl_len b r k acc)
theorem spl_mem (b : List Nat) : ∀ (l : List Nat) (k : Nat) (acc : List Nat), ∀ p ∈ TL.spl b k acc l, p.length ≤ acc.length + l.length
  | [], k, acc, p, h => by
    rw [TL.spl_nil] at h
    rw [List.mem_singleton.mp h]
    exact Nat.le_refl _
  | c :: r, 0, acc, p, h => by
    have h' : p ∈ (if TL.pre b (c :: r) = true then acc :: TL.spl b (b.length - 1) [] r else TL.spl b 0 (acc ++ [c]) r) := h
    split at h'
    · rcases List.mem_cons.mp h' with rfl | h'
      · exact Nat.le_add_right _ _
      · have := spl_mem b r _ _ p h'
        rw [List.length_cons]
        have e : ([] : List Nat).length = 0 := rfl
        omega
    · have := spl_mem b r _ _ p h'
      rw [List.length_append, List.length_singleton] at this
      rw [List.length_cons]
      omega
  | c :: r, k + 1, acc, p, h => by
    have := spl_mem b r k acc p h
    rw [List.length_cons]
    omega
theorem rstr_le (p : List Nat) : (rstr p).length ≤ p.length := by
  unfold rstr
  rw [dropWhile_take, List.length_reverse, List.length_drop, List.length_reverse]
  omega
/-- the three lists of told_nodes -/
structure TAt (H H' : Hp) (p1 p2 pd : Addr) (st : TSt) : Prop where
  same : Same H H'
  l1 : H' p1 = some (.lst (st.sg.map fun w => V.str (S w)))
  l2 : H' p2 = some (.lst (st.ar.map fun n => V.int (n : Nat)))
  l3 : H' pd = some (.lst (st.pd.map fun n => V.int (n : Nat)))
  n12 : p1 ≠ p2
  n1d : p1 ≠ pd
  n2d : p2 ≠ pd
  f1 : H p1 = none
  f2 : H p2 = none
  fd : H pd = none
  ok : TOk st
theorem TAt.step {H H' H2 : Hp} {p1 p2 pd : Addr} {st : TSt} (h : TAt H H' p1 p2 pd st) (s : Same H' H2) : TAt H H2 p1 p2 pd st := ⟨h.same.trans s, s _ _ h.l1, s _ _ h.l2, s _ _ h.l3, h.n12, h.n1d, h.n2d, h.f1, h.f2, h.fd, h.ok⟩
theorem set_modify : ∀ (ar : List Nat) (b k : Nat), ar[b]? = some k → (ar.map fun n => V.int (n : Nat)).set b (V.int ((k : Int) + 1)) = (ar.modify b (· + 1)).map fun n => V.int (n : Nat)
  | [], _, _, h => by cases h
  | a :: ar, 0, k, h => by
    cases h
    rfl
  | a :: ar, b + 1, k, h => by
    have ih := set_modify ar b k h
    show V.int (a : Nat) :: (ar.map fun n => V.int (n : Nat)).set b (V.int ((k : Int) + 1)) = V.int (a : Nat) :: (ar.modify b (· + 1)).map fun n => V.int (n : Nat)
    rw [ih]
theorem ixN_nat {n b : Nat} (h : b < n) : ixN n (b : Int) = some b := by
  unfold ixN
  rw [if_pos (by omega), if_pos (by omega), Int.toNat_natCast]
/-- the arities, with one more below the last that is pending -/
theorem TAt.up {H H' : Hp} {p1 p2 pd : Addr} {st : TSt} (h : TAt H H' p1 p2 pd st) : TAt H (upd H' p2 (.lst ((upTop st.pd st.ar).map fun n => V.int (n : Nat)))) p1 p2 pd ⟨st.sg, upTop st.pd st.ar, st.pd⟩ :=
  ⟨fun b o e => by rw [upd_ne (fun z => by rw [z, h.f2] at e; cases e)]; exact h.same _ _ e, by rw [upd_ne h.n12]; exact h.l1, upd_same, by rw [upd_ne h.n2d.symm]; exact h.l3, h.n12, h.n1d, h.n2d, h.f1, h.f2, h.fd, ⟨by rw [upTop_len]; exact h.ok.1, h.ok.2⟩⟩
theorem TAt.push {H H' : Hp} {p1 p2 pd : Addr} {st : TSt} {w : List Nat} (h : TAt H H' p1 p2 pd ⟨st.sg, upTop st.pd st.ar, st.pd⟩) : TAt H (upd (upd (upd H' pd (.lst ((st.pd.map fun n => V.int (n : Nat)) ++ [V.int (st.sg.length : Nat)]))) p1 (.lst ((st.sg.map fun w => V.str (S w)) ++ [V.str (S w)]))) p2 (.lst (((upTop st.pd st.ar).map fun n => V.int (n : Nat)) ++ [V.int 0]))) p1 p2 pd (push1 st w) := by
  refine ⟨fun b o e => ?_, ?_, ?_, ?_, h.n12, h.n1d, h.n2d, h.f1, h.f2, h.fd, TOk.push (st := st) ⟨h.ok.1.trans (upTop_len _ _), h.ok.2⟩ w⟩
  · rw [upd_ne (fun z => by rw [z, h.f2] at e; cases e), upd_ne (fun z => by rw [z, h.f1] at e; cases e), upd_ne (fun z => by rw [z, h.fd] at e; cases e)]
    exact h.same _ _ e
  · rw [upd_ne h.n12, upd_same]
    show _ = some (HO.lst ((st.sg ++ [w]).map fun w => V.str (S w)))
    rw [List.map_append]
    rfl
  · rw [upd_same]
    show _ = some (HO.lst ((upTop st.pd st.ar ++ [0]).map fun n => V.int (n : Nat)))
    rw [List.map_append]
    rfl
  · rw [upd_ne h.n2d.symm, upd_ne h.n1d.symm, upd_same]
    show _ = some (HO.lst ((st.pd ++ [st.sg.length]).map fun n => V.int (n : Nat)))
    rw [List.map_append]
    rfl
theorem spl_sub (b : List Nat) : ∀ (l : List Nat) (k : Nat) (acc : List Nat), ∀ p ∈ TL.spl b k acc l, ∀ c ∈ p, c ∈ acc ∨ c ∈ l
  | [], k, acc, p, h, c, hc => by
    rw [TL.spl_nil] at h
    rw [List.mem_singleton.mp h] at hc
    exact .inl hc
  | a :: r, 0, acc, p, h, c, hc => by
    have h' : p ∈ (if TL.pre b (a :: r) = true then acc :: TL.spl b (b.length - 1) [] r else TL.spl b 0 (acc ++ [a]) r) := h
    split at h'
    · rcases List.mem_cons.mp h' with rfl | h'
      · exact .inl hc
      · rcases spl_sub b r _ _ p h' c hc with h | h
        · cases h
        · exact .inr (List.mem_cons_of_mem _ h)
    · rcases spl_sub b r _ _ p h' c hc with h | h
      · rcases List.mem_append.mp h with h | h
        · exact .inl h
        · exact .inr (by rw [List.mem_singleton.mp h]; exact List.mem_cons_self)
      · exact .inr (List.mem_cons_of_mem _ h)
  | a :: r, k + 1, acc, p, h, c, hc => by
    rcases spl_sub b r k acc p h c hc with h | h
    · exact .inl h
    · exact .inr (List.mem_cons_of_mem _ h)
theorem rstr_sub {p : List Nat} {c : Nat} (h : c ∈ rstr p) : c ∈ p := by
  unfold rstr at h
  rw [dropWhile_take] at h
  exact List.mem_reverse.mp (List.mem_of_mem_drop (List.mem_reverse.mp h))
theorem push_all {W : List Nat → Prop} : ∀ (ws : List (List Nat)) (st : TSt), (∀ w ∈ st.sg, W w) → (∀ w ∈ ws, W w) → ∀ w ∈ (ws.foldl push1 st).sg, W w
  | [], st, h, _ => h
  | a :: ws, st, h, h2 => push_all ws (push1 st a) (fun w hw => by
      rcases List.mem_append.mp (show w ∈ st.sg ++ [a] from hw) with hw | hw
      · exact h w hw
      · rw [List.mem_singleton.mp hw]
        exact h2 a List.mem_cons_self) fun w hw => h2 w (List.mem_cons_of_mem _ hw)
theorem step_all {W : List Nat → Prop} : ∀ (ps : List (List Nat)) (st : TSt), (∀ w ∈ st.sg, W w) → (∀ p ∈ ps, ∀ w ∈ TL.spl [40] 0 [] (rstr p), W w) → ∀ w ∈ (ps.foldl stepP st).sg, W w
  | [], st, h, _ => h
  | a :: ps, st, h, h2 => step_all ps (stepP st a) (push_all _ st h (h2 a List.mem_cons_self)) fun p hp => h2 p (List.mem_cons_of_mem _ hp)
/-- the signs that are told of a text are made of its codes -/
theorem told_sub (s : List Nat) : ∀ w ∈ (toldF s).sg, w.length ≤ s.length ∧ ∀ c ∈ w, c ∈ s := by
  refine step_all (W := fun w => w.length ≤ s.length ∧ ∀ c ∈ w, c ∈ s) _ _ (fun w h => by cases h) fun p hp w hw => ⟨?_, fun c hc => ?_⟩
  · have a := spl_mem [40] (rstr p) 0 [] w hw
    have b := rstr_le p
    have d := spl_mem [44, 32] s 0 [] p hp
    have e : ([] : List Nat).length = 0 := rfl
    omega
  · rcases spl_sub [40] (rstr p) 0 [] w hw c hc with h | h
    · cases h
    · rcases spl_sub [44, 32] s 0 [] p hp c (rstr_sub h) with h | h
      · cases h
      · exact h
theorem tw_get {p : Nat → Bool} : ∀ {l : List Nat} {j : Nat}, j < (l.takeWhile p).length → ∃ c, l[j]? = some c ∧ p c = true
  | [], j, h => by simp at h
  | a :: l, j, h => by
    rw [List.takeWhile_cons] at h
    split at h
    · rename_i ha
      cases j with
      | zero => exact ⟨a, rfl, ha⟩
      | succ j =>
        obtain ⟨c, h1, h2⟩ := tw_get (l := l) (j := j) (by simpa using h)
        exact ⟨c, h1, h2⟩
    · simp at h
theorem tw_end {p : Nat → Bool} : ∀ {l : List Nat} {c : Nat}, l[(l.takeWhile p).length]? = some c → p c = false
  | [], c, h => by simp at h
  | a :: l, c, h => by
    rw [List.takeWhile_cons] at h
    split at h
    · exact tw_end (l := l) (by simpa using h)
    · rename_i ha
      cases (show some a = some c from h)
      simpa using ha
theorem word_low {s : List Nat} {i j : Nat} (h : j < (wordAt s i).length) : ∃ c, s[i + j]? = some c ∧ lowZ c = true := by
  obtain ⟨c, h1, h2⟩ := tw_get h
  rw [List.getElem?_drop] at h1
  exact ⟨c, h1, h2⟩
theorem word_end {s : List Nat} {i c : Nat} (h : s[i + (wordAt s i).length]? = some c) : lowZ c = false := by
  refine tw_end (l := s.drop i) ?_
  rw [List.getElem?_drop]
  exact h
theorem word_len {s : List Nat} {i : Nat} (h : i ≤ s.length) : i + (wordAt s i).length ≤ s.length := by
  have a : (wordAt s i).length ≤ (s.drop i).length := (List.takeWhile_prefix _).length_le
  rw [List.length_drop] at a
  omega
theorem cut_tl (z : Str) (a b : Nat) : tl (cutS z (some (a : Int)) (some (b : Int))) = ((tl z).drop a).take (b - a) := by
  show (tl z |>.drop (HT.sIx z.length 0 (some (a : Int)))).take (HT.sIx z.length z.length (some (b : Int)) - HT.sIx z.length 0 (some (a : Int))) = _
  rw [HT.sIx_nat, HT.sIx_nat, TL.len_tl]
  rcases Nat.le_total a (tl z).length with ha | ha
  · rw [Nat.min_eq_left ha]
    rcases Nat.le_total b (tl z).length with hb | hb
    · rw [Nat.min_eq_left hb]
    · rw [Nat.min_eq_right hb, List.take_of_length_le (by rw [List.length_drop]; omega), List.take_of_length_le (by rw [List.length_drop]; omega)]
  · rw [Nat.min_eq_right ha, List.drop_length, List.take_nil, List.drop_eq_nil_of_le ha, List.take_nil]
end Fn

set_option Elab.async false
set_option linter.all false
set_option maxRecDepth 100000
set_option maxHeartbeats 4000000
/-! Lambdas: heaps in which code objects and their tables come; a law whose defs make lambdas. -/
namespace Fn
open PySem PySem.Spec PyProof.Rows L2 LamX
/-! ### what stays: all but the contents of lists and the tables -/
def EvN (H H' : Hp) : Prop := ∀ (a : Addr) (o : HO), H a = some o → (∀ ps, o ≠ .tbl ps) → (∃ xs ys, o = .lst xs ∧ H' a = some (.lst ys)) ∨ H' a = some o
theorem EvN.refl (H : Hp) : EvN H H := fun _ _ h _ => .inr h
theorem EvN.trans {H H1 H2 : Hp} (x : EvN H H1) (y : EvN H1 H2) : EvN H H2 := fun a o h n => by
  rcases x a o h n with ⟨xs, ys, rfl, h1⟩ | h1
  · rcases y a _ h1 (fun _ z => nomatch z) with ⟨_, zs, _, h2⟩ | h2
    · exact .inl ⟨_, zs, rfl, h2⟩
    · exact .inl ⟨_, ys, rfl, h2⟩
  · exact y a o h1 n
theorem EvN.ofEv {H H' : Hp} (x : Ev2 H H') : EvN H H' := fun a o h _ => x a o h
theorem EvN.ofExt {H H' : Hp} (x : ExtN H H') : EvN H H' := fun a o h n => .inr (x a o h n)
theorem xOf {H H' : Hp} (x : Same H H') : ExtN H H' := fun a o h _ => x a o h
theorem xl {H H' : Hp} {a : Addr} {xs : List V} (x : ExtN H H') (h : H a = some (.lst xs)) : H' a = some (.lst xs) := x a _ h fun _ z => nomatch z
theorem xt {H H' : Hp} {a : Addr} {xs : List V} (x : ExtN H H') (h : H a = some (.tup xs)) : H' a = some (.tup xs) := x a _ h fun _ z => nomatch z
theorem xd {H H' : Hp} {a : Addr} {xs : List (Key × V)} (x : ExtN H H') (h : H a = some (.dK xs)) : H' a = some (.dK xs) := x a _ h fun _ z => nomatch z
theorem xdc {H H' : Hp} {p : Addr} (x : ExtN H H') (h : Dc H p) : Dc H' p := by
  obtain ⟨i, j, k, e⟩ := h
  exact ⟨i, j, k, xl x e⟩
mutual
theorem Dx.ext {H H' : Hp} (e : ExtN H H') : ∀ {d : PyData} {v : V}, Dx H v d → Dx H' v d
  | .none, _, h => by cases h; exact .non
  | .bool b, _, h => by cases h; exact .bl b
  | .int i, _, h => by cases h; exact .int i
  | .str x, _, h => by cases h; exact .str x
  | .list ds, _, h => by
    cases h with
    | lst h1 h2 => exact .lst (xl e h1) (DxAll.ext e h2)
  | .tuple ds, _, h => by
    cases h with
    | tup h1 h2 => exact .tup (xt e h1) (DxAll.ext e h2)
  | .dict kvs, _, h => by
    cases h with
    | dct h1 => exact .dct (xd e h1)
theorem DxAll.ext {H H' : Hp} (e : ExtN H H') : ∀ {ds : List PyData} {vs : List V}, DxAll H vs ds → DxAll H' vs ds
  | [], _, h => by cases h; exact .nil
  | d :: ds, _, h => by
    cases h with
    | cons h1 h2 => exact .cons (Dx.ext e h1) (DxAll.ext e h2)
end
/-- the tables stay where only lists change -/
theorem Tabs.ev {T : List (Addr × Str)} {H H' : Hp} (t : Tabs T H) (e : Ev2 H H') : Tabs T H' := fun p hp => by
  obtain ⟨ps, h1, h2, h3⟩ := t p hp
  have st : ∀ {a : Addr} {o : HO}, H a = some o → (∀ xs, o ≠ .lst xs) → H' a = some o := fun {a o} q n => by
    rcases e a o q with ⟨xs, _, z, _⟩ | z
    · exact absurd z (n xs)
    · exact z
  refine ⟨ps, st h1 (fun _ z => nomatch z), h2, fun pos cv hc => ?_⟩
  obtain ⟨c, e1, e2⟩ := h3 pos cv hc
  exact ⟨c, e1, st e2 fun xs z => by
    unfold CodeO at z
    cases z⟩
theorem Tabs.same {T : List (Addr × Str)} {H H' : Hp} (t : Tabs T H) (e : Same H H') : Tabs T H' := t.ext e
/-- the script, in a heap that knows of nothing else but tables -/
def Only2 (H : Hp) : Prop := ∀ b, H b = none ∨ (∃ ps, H b = some (.tbl ps)) ∨ ∃ o xs, H b = some (.frz o (.lst xs))
def ScrN (K : PySem.W.Frag) (H : Hp) (a : Addr) (xs : List V) : Prop := ∀ H', EvN H H' → SqL K H' a xs
theorem scrN_of {K : PySem.W.Frag} {H : Hp} {a : Addr} {xs : List V} (hO : Only2 H) (h : SqL K H a xs) : ScrN K H a xs := fun H' e => by
  rcases h with (h | ⟨o, h⟩) | h
  · rcases hO a with q | ⟨_, q⟩ | ⟨_, _, q⟩ <;> rw [q] at h <;> cases h
  · rcases e a _ h (fun _ z => nomatch z) with ⟨_, _, z, _⟩ | z
    · cases z
    · exact .inl (.inr ⟨o, z⟩)
  · exact .inr h
theorem ScrN.mono {K : PySem.W.Frag} {H H' : Hp} {a : Addr} {xs : List V} (h : ScrN K H a xs) (e : EvN H H') : ScrN K H' a xs := fun _ e2 => h _ (e.trans e2)
theorem ScrN.now {K : PySem.W.Frag} {H : Hp} {a : Addr} {xs : List V} (h : ScrN K H a xs) : SqL K H a xs := h _ (.refl _)
/-! ### a law whose defs make lambdas, where no repr runs -/
theorem law_callTG {P : Program} {w : World} {K : PySem.W.Frag} {mg mb : Str → Option Value} {k : Nat} {fa a : Addr} {cs : List (Addr × Addr)} {fd : FuncData} {x : Str} {sp : Sp} {s : Shared} {vs : List Value} {ns : List Int}
    (KX : K.In s.heap) (gl : s.heap.Ns mainGlobals mg) (bl : s.heap.Ns builtinsNs mb) (bb : ∀ x : Str, x ≠ "__name__" → mb x = bootBuiltins x) (lim : s.heap.NoLimit) (gn : s.gens = #[])
    (tab : ∀ p ∈ cs, s.heap.get? p.2 = some { cls := .none, data := .fields #[] }) (off : ∀ p ∈ cs, K.lookup p.2 = none) (cod : ∀ p ∈ cs, PySem.W.CodeHd s.heap p.1 p.2)
    (bmain : ∃ (bm : Addr) (ob : Obj), mg "__builtins__" = some (.ref bm) ∧ bm ≠ builtinsNs ∧ s.heap.get? bm = some ob ∧ ob.cls = .type "module" ∧ ob.dict = some builtinsNs ∧ ob.data = .plain)
    (ha : s.heap.get? a = some { cls := .type "list", data := .seq vs.toArray }) (hi : IntsAre vs ns) (hl : ns.length ≤ sizeLine) (hr : Room k callerA)
    (F : ∀ base : Heap, K.In base → base.Ns mainGlobals mg → (∀ p ∈ cs, TabB base mg p.1 p.2) → FnG P w K mg base CX0 k fa fd [x] sp) (hbind : ∀ (s : Shared) (u : Value), BindsTo s fd ⟨[u], []⟩ [(x, u)])
    (hsp : ∀ H : Hp, Only2 H → (∀ p ∈ cs, H p.2 = some (.tbl #[])) → SqL K H a (ns.map V.int) → sp [.ref a] H (fun v _ => v = .bl true) fun _ _ _ => False) :
    codeAny (model P w) callerA (.call (.ref fa) ⟨[.ref a], []⟩) (fun r s' => r = .ok (.ret (.bool true)) ∧ OldK s.heap s'.heap ∧ s'.os = s.os ∧ AllBare s'.gens) s := by
  have rel := vals_ints hi
  obtain ⟨tl, etl⟩ : ∃ tl : List Addr, tl = cs.map (·.2) := ⟨_, rfl⟩
  have inT : ∀ p ∈ cs, p.2 ∈ tl := fun p hp => by
    rw [etl]
    exact List.mem_map.mpr ⟨p, hp, rfl⟩
  have ofT : ∀ b ∈ tl, ∃ p ∈ cs, p.2 = b := fun b hb => by
    rw [etl] at hb
    exact List.mem_map.mp hb
  have emp : ∀ b ∈ tl, s.heap.get? b = some { cls := .none, data := .fields #[] } := fun b hb => by
    obtain ⟨p, hp, rfl⟩ := ofT b hb
    exact tab p hp
  have aT : a ∉ tl := fun z => by
    have q := emp a z
    rw [ha] at q
    cases congrArg Obj.data (Option.some.inj q)
  have step : ∀ H : Hp, Only2 H → (∀ b ∈ tl, H b = some (.tbl #[])) → SqL K H a (ns.map V.int) → HOk P w H s.heap → (∀ b, H b ≠ none → (b = a ∧ K.lookup a = none) ∨ b ∈ tl) →
      codeAny (model P w) callerA (.call (.ref fa) ⟨[.ref a], []⟩) (fun r s' => r = .ok (.ret (.bool true)) ∧ OldK s.heap s'.heap ∧ s'.os = s.os ∧ AllBare s'.gens) s := by
    intro H hO hT hS ok only
    have gone : ∀ {b : Addr} {o : Obj}, s.heap.get? b = some o → (∀ vs n, o.data ≠ .seq vs n) → o.data ≠ .fields #[] → H b = none := fun {b o} e n1 n2 => by
      cases z : H b with
      | none => rfl
      | some u =>
        rcases only b (by rw [z]; exact Option.some_ne_none _) with ⟨y, _⟩ | y
        · subst y
          rw [ha] at e
          cases e
          exact absurd rfl (n1 _ _)
        · rw [emp b y] at e
          cases e
          exact absurd rfl n2
    have seen : ∀ {b : Addr} {o : Obj}, s.heap.get? b = some o → (∀ vs n, o.data ≠ .seq vs n) → o.data ≠ .fields #[] → (hidT s.heap H).get? b = some o := fun e n1 n2 => hidT_get e (gone e n1 n2)
    have dict : ∀ {b : Addr} {m : Str → Option Value}, s.heap.Ns b m → (hidT s.heap H).Ns b m := fun {b m} ⟨o, es, ep, e, d, r⟩ => ⟨o, es, ep, seen e (fun _ _ z => by rw [d] at z; cases z) (fun z => by rw [d] at z; cases z), d, r⟩
    have kb : K.In (hidT s.heap H) := fun b o e => hidT_get (KX b o e) (by
      cases z : H b with
      | none => rfl
      | some u =>
        rcases only b (by rw [z]; exact Option.some_ne_none _) with ⟨y, n⟩ | y
        · subst y
          rw [n] at e
          cases e
        · obtain ⟨p, hp, rfl⟩ := ofT b y
          rw [off p hp] at e
          cases e)
    have md : Mod K mg (hidT s.heap H) := ⟨kb, dict gl, ⟨mb, dict bl, bb⟩, let ⟨mc, h1, h2⟩ := lim; ⟨mc, dict h1, h2⟩⟩
    have gP : ∀ {b : Addr} {m : Str → Option Value}, s.heap.Ns b m → b ∉ tl := fun {b m} ⟨o, es, ep, e, d, _⟩ z => by
      rw [emp b z] at e
      cases e
      cases d
    have tb : ∀ p ∈ cs, TabB (hidT s.heap H) mg p.1 p.2 := fun p hp => by
      refine ⟨?_, ?_, fun z => gP gl (by rw [z]; exact inT p hp)⟩
      · obtain ⟨o, us, file, tf, flags, tg, inF, text, tt, e1, r1, r2, r3, r⟩ := cod p hp
        exact ⟨o, us, file, tf, flags, tg, inF, text, tt, seen e1 (fun _ _ z => by rw [r2] at z; cases z) (fun z => by
          rw [r2] at z
          cases z
          simp at r3), r1, r2, r3, r⟩
      · obtain ⟨bm, ob, b1, b2, b3, b4, b5, b6⟩ := bmain
        refine ⟨bm, ob, b1, b2, fun q => ?_, fun q => ?_, seen b3 (fun _ _ z => by rw [b6] at z; cases z) (fun z => by rw [b6] at z; cases z), b4, b5, b6⟩
        · obtain ⟨o, es, ep, e, d, _⟩ := gl
          rw [q, e] at b3
          cases b3
          rw [d] at b6
          cases b6
        · rw [q, tab p hp] at b3
          cases b3
          cases b6
    have e0 : Env0 P w K mg (hidT s.heap H) callerA [] s H := ⟨rfl, md, fun _ _ => of_hidT, Nat.le_of_eq (hidT_size _ _), trivial, fun b hb => absurd (show b ∈ ([] : List Addr) from hb) (by simp), ok, .of_eq gn⟩
    refine codeAny_mono ((F _ kb (dict gl) tb).go callerA [] s H ⟨[.ref a], []⟩ [.ref a] [.ref a] _ _ rfl hr e0 (hbind s (.ref a)) (.cons rfl .nil) (hsp H hO (fun p hp => hT _ (inT p hp)) hS)) fun r s' z => ?_
    rcases r with er | (_ | _ | _ | u)
    all_goals first
      | exact False.elim z
      | skip
    obtain ⟨v, H', os, bare, un, ok', rv, rfl⟩ := z
    cases (show u = Value.bool true from rv)
    have keep : ∀ b o, b ∉ tl → s.heap.get? b = some o → s'.heap.get? b = some o := fun b o nb e => by
      rcases hO b with n | ⟨ps, n⟩ | ⟨ob, xs, n⟩
      · exact un.keep b o e n (fun z => absurd (show b ∈ ([] : List Addr) from z) (by simp)) (by simp)
      · rcases only b (by rw [n]; exact Option.some_ne_none _) with ⟨y, _⟩ | y
        · subst y
          have q : s.heap.get? b = some { cls := .none, data := .fields ps } := ok b _ n
          rw [ha] at q
          cases congrArg Obj.data (Option.some.inj q)
        · exact absurd y nb
      · have z1 : s.heap.get? b = some ob := (ok b _ n).1
        have z2 : s'.heap.get? b = some ob := (ok' b _ (un.frzs b ob _ n)).1
        rw [z2, ← z1, e]
    have more : ∀ b ∈ tl, ∃ m : Array Value, s'.heap.get? b = some { cls := .none, data := .fields m } := fun b hb => by
      obtain ⟨m, z⟩ := un.tbls b #[] (hT b hb)
      exact ⟨_, ok' b _ z⟩
    refine ⟨rfl, ⟨fun b o e => ?_, fun b o e => ?_⟩, os, bare⟩
    · by_cases hb : b ∈ tl
      · obtain ⟨m, hm⟩ := more b hb
        obtain ⟨p, hp, rfl⟩ := ofT b hb
        rw [tab p hp] at e
        cases e
        exact .inr (.inl ⟨((cod p hp).tab (tab p hp)).isCodeTable, rfl, #[], m, rfl, by rw [Array.empty_append]; exact hm⟩)
      · exact .inl (keep b o hb e)
    · by_cases hb : b ∈ tl
      · obtain ⟨m, hm⟩ := more b hb
        exact ⟨_, hm⟩
      · exact ⟨o, keep b o hb e⟩
  cases hk : K.lookup a with
  | some o =>
    have e := KX a o hk
    rw [ha] at e
    cases e
    refine step (fun b => if b ∈ tl then some (.tbl #[]) else none) (fun b => ?_) (fun b hb => if_pos hb) (.inr ⟨_, vs.toArray, _, hk, rfl, rfl, rfl, by rw [List.size_toArray, hi.length]; exact hl, by simpa using rel⟩) (fun b u z => ?_) fun b z => ?_
    · by_cases hb : b ∈ tl
      · exact .inr (.inl ⟨_, if_pos hb⟩)
      · exact .inl (if_neg hb)
    · by_cases hb : b ∈ tl
      · cases (if_pos hb).symm.trans z
        exact emp b hb
      · cases (if_neg hb).symm.trans z
    · by_cases hb : b ∈ tl
      · exact .inr hb
      · exact absurd (if_neg hb) z
  | none =>
    refine step (fun b => if b = a then some (HO.frz { cls := .type "list", data := .seq vs.toArray } (.lst (ns.map V.int))) else if b ∈ tl then some (.tbl #[]) else none) (fun b => ?_) (fun b hb => ?_) (.inl (.inr ⟨_, if_pos rfl⟩)) (fun b u z => ?_) fun b n => ?_
    · by_cases h1 : b = a
      · exact .inr (.inr ⟨_, _, if_pos h1⟩)
      · by_cases h2 : b ∈ tl
        · exact .inr (.inl ⟨_, (if_neg h1).trans (if_pos h2)⟩)
        · exact .inl ((if_neg h1).trans (if_neg h2))
    · exact (if_neg fun z => aT (by rw [← z]; exact hb)).trans (if_pos hb)
    · by_cases h1 : b = a
      · cases (if_pos h1).symm.trans z
        subst h1
        exact ⟨ha, by rw [List.length_map]; exact hl, vs, _, rel, ha⟩
      · by_cases h2 : b ∈ tl
        · cases (if_pos h2).symm.trans ((if_neg h1).symm.trans z)
          exact emp b h2
        · cases (if_neg h2).symm.trans ((if_neg h1).symm.trans z)
    · by_cases h1 : b = a
      · exact .inl ⟨h1, hk⟩
      · by_cases h2 : b ∈ tl
        · exact .inr h2
        · exact absurd ((if_neg h1).trans (if_neg h2)) n
theorem tab_code {K : PySem.W.Frag} {x : Str} {f c P : Addr} {oc : Value} {od : Option Addr} {fd : FuncData} {sl : Array (Option Value)} (g : PySem.W.nsIn K mainGlobals x = some (some (.ref f))) (l : K.lookup f = some ⟨oc, od, .func fd, sl⟩) (t : PySem.W.tabIn K x = some (c, P)) : fd.code = .ref c := by
  unfold PySem.W.tabIn at t
  rw [g] at t
  simp only [l] at t
  split at t
  · rename_i c2 hc
    split at t
    · split at t
      · cases t
        exact hc
      · cases t
    · cases t
  · cases t
/-- a def that makes lambdas: its code object is known -/
theorem okGC {P : Program} {w : World} {K : PySem.W.Frag} {mg : Str → Option Value} {base : Heap} {x qual : Str} {st : Stmt} {f c : Addr} {fd : FuncData} {N ps : List Str} {k : Nat} {sp : Sp} (F : Fun K x qual st f fd) (hc : fd.code = .ref c) (S : FnScope N ps (defScope st)) (len : ∀ xs H Q E, sp xs H Q E → xs.length = ps.length)
    (hb : ∀ (B : Around) (fr : List Env) (s : Shared) (H : Hp) (xs : List V) (Q : VK) (E : XK), B.guards = some [] → Room k (B.deeper (envOfC qual (defScope st) s.heap.objs.size f (.ref c))) → sp xs H Q E →
      ∃ t, PSs (cxOf CX0 P w K mg base N qual (defScope st) f (.ref c) B fr s H E).nox (defBody st) t ∧ t { nx := fun _ H' => Q .non H', rt := Q } (start N xs) H) : FnG P w K mg base CX0 (k + 1) f fd ps sp := by
  obtain ⟨oc, od, kV, doc, pm, an, cdv, ct, osl, rfl, lk, hcd⟩ := F.ex
  obtain rfl : cdv = .ref c := hc
  refine ⟨len, fun B fr s H a us xs Q E hg hr e0 hbd rel hsp => ?_⟩
  have ll := len _ _ _ _ hsp
  have kin : K.In s.heap := e0.mod.kin.keeps fun b o e => (e0.bs b o e).1
  have nol : s.heap.NoLimit := e0.mod.nolimit.keeps fun b o e => (e0.bs b o e).1
  have kd : ∀ y ∈ ps.zip us, (defScope st).names.lookup y.1 = some .local ∨ ((defScope st).names.lookup y.1 = some .cell ∧ ((cellsFrom (s.heap.objs.size + 1) (defScope st).names []).lookup y.1).isSome = true) := by
    intro y hy
    refine (S.par y.1 (List.of_mem_zip hy).1).imp id fun q => ⟨q, PySem.W.cellsFrom_some _ _ _ (.inl q)⟩
  refine codeAny_call_function hr.depth (kin _ _ lk) rfl S.co S.gen rfl (PySem.W.codeRec_of kin hcd) (hbd _ _ _ _ (wpAny_newFunctionEnv_cells S.kind kd fun env he s1 y => ?_))
  subst he
  refine ⟨nol.keeps y.toInCall.keep, codeAny_func ?_⟩
  obtain ⟨t, ht, q⟩ := hb B fr s H xs Q E hg (hr.deeper _) hsp
  have J : Inv (cxOf CX0 P w K mg base N qual (defScope st) f (.ref c) B fr s H E) [] (start N xs) H s1 := inv_start S hr.hd e0 ll rel y
  have close : ∀ {σ' : L2.St} {H' : Hp} {v : V} {u : Value} {s' : Shared}, Inv (cxOf CX0 P w K mg base N qual (defScope st) f (.ref c) B fr s H E) [] σ' H' s' → RelV v u → Q v H' → CE fr P w H s Q u s' :=
    fun j rv z => ⟨_, _, j.os, j.bare, j.base, j.hok, rv, z⟩
  refine wpAny_mono (ht.nox.run [] s1 (start N xs) H _ J q) (fun fl s' z => ?_) fun _ _ z => z
  rcases fl with _ | _ | _ | u
  all_goals first
    | (obtain ⟨v, σ', H', j, rv, z⟩ := z
       exact close j rv z)
    | (obtain ⟨_, _, _, z⟩ := z
       exact z.elim)
    | (obtain ⟨σ', H', j, z⟩ := z
       exact close (v := V.non) (u := Value.none) j rfl z)
/-- the law's facts at the head's heap: cs, code objects and their tables -/
structure LawT (P : Program) (w : World) (K : PySem.W.Frag) (mg : Str → Option Value) (h : Heap) (k : Nat) (fa : Addr) (x : Str) (cs : List (Addr × Addr)) (sp : Sp) : Prop where
  tab : ∀ p ∈ cs, h.get? p.2 = some { cls := .none, data := .fields #[] }
  off : ∀ p ∈ cs, K.lookup p.2 = none
  cod : ∀ p ∈ cs, PySem.W.CodeHd h p.1 p.2
  run : ∃ fd : FuncData, (∀ (s : Shared) (u : Value), BindsTo s fd ⟨[u], []⟩ [(x, u)]) ∧ ∀ base : Heap, K.In base → base.Ns mainGlobals mg → (∀ p ∈ cs, TabB base mg p.1 p.2) → FnG P w K mg base CX0 k fa fd [x] sp
theorem walkTG {l : PySem.W.OpenLaw} {n k : Nat} {q : Program} {loose : List Str} {XP : (Str → Option Value) → Heap → Prop} {YP : World → Heap → Prop} {d : DefRec} {K : Params → PySem.W.Frag} {x : Str}
    (hn : l.most = some n) (hn2 : n ≤ sizeLine) (hdf : d.params.defaults = []) (hr : Room k callerA) (hY : ∀ (w : World) (h : Heap), YP w h → (K w.params).In h)
    (F : ∀ (w : World) (mean : ExcName → Option Value) (mg mb : Str → Option Value) (fa : Addr) (h : Heap), Top q (PySem.W.looseW q loose) mean mg mb h → (K w.params).In h → h.Ns mainGlobals mg → mg d.name = some (.ref fa) →
      ∃ (cs : List (Addr × Addr)) (sp : Sp), LawT l.prog w (K w.params) mg h k fa x cs sp ∧
        ∀ (H : Hp) (a : Addr) (ns : List Int), ns.length ≤ n → Only2 H → (∀ p ∈ cs, H p.2 = some (.tbl #[])) → SqL (K w.params) H a (ns.map V.int) → sp [.ref a] H (fun v _ => v = .bl true) fun _ _ _ => False) :
    PySem.W.WalkO q loose XP YP l.row.toRowW d [] (fun f vs => PySem.call f vs) := by
  refine Att.attach_call hn hdf fun w _ s mg mb fa o pm cd doc a vs ns G Y _ _ _ hm ho hi ll gn => ?_
  have kx := hY w _ Y
  obtain ⟨cs, sp, L, hs⟩ := F w _ mg mb fa _ G.T kx G.T.g hm
  obtain ⟨fd, b, f⟩ := L.run
  exact law_callTG kx G.T.g G.T.b G.T.builtins G.T.nolimit gn L.tab L.off L.cod G.T.bmain ho hi (Nat.le_trans ll hn2) hr f b fun H h1 h2 h3 => hs H a ns ll h1 h2 h3
end Fn

set_option Elab.async false
set_option linter.all false
set_option maxRecDepth 100000
set_option maxHeartbeats 4000000
/-! raise C(e), C an own class over any built-in base, with an own __init__. -/
namespace Fn
open PySem PySem.Spec PyProof.Rows L2
section
variable {X : Cx} {o e : Expr} {es : List Expr} {to te : TE} {ta : TA} {f x : Str} {p p' pos : Pos}
theorem pmk_any {W : CXT} {C fI : Addr} {k : Nat} {fd : FuncData} {ps : List Str} {sp : Sp} (T : OwnX X.K C) (rs : Raises X (.ref C)) (iC : PySem.W.findIn X.K (.ref C) "__init__" = some (some (.ref fI))) (tI : PySem.W.typeIn X.K (.ref fI) = some (.type "function"))
    (F : FnOk X.prog X.w X.K X.mg X.base W k fI fd ps sp) (hr : Room (k + 1) X.A) (hb : Binds X.K fd ps []) (hx : Passes W X (fun _ _ _ => False)) (hg : Gl X x) (hm : X.mg x = some (.ref C)) (ha : PA X (e :: es) ta)
    (ndb : (x == ("__debug__" : Str)) = false := by decide) (st : starEach (e :: es) X.env = (false, eval e X.env) :: starEach es X.env := by rfl) (pl : (backTo pos (starEach es X.env)).any (·.1) = false := by rfl) :
    PMk X (.Call (.Name x p) (e :: es) [] pos) (tMkO C sp [] ta) := by
  intro pins s σ H Q I h
  refine wpAny_Call_Name_kw (ld_glob I hg hm ?_ ndb)
  refine PySem.W.callWith_K (h₀ := X.base) I.ok.mod.kin T.kp (thn (ha.run pos pins s σ H _ I h) fun us s1 ⟨vs, H1, J, r, sz, q⟩ => ⟨J.kIn, ?_⟩) st pl
  show wpAny _ _ (call (.ref C) us) _ _ _
  obtain ⟨B, n, i, bmB, T0, Z, hc⟩ := T.cls
  obtain ⟨nm, qn, N, bs, bm, sn, sub, ab, col, dd, k0, k1, k2, k3, k5, eC, ow⟩ := clsX_obj hc
  obtain ⟨hp, g, dr, tk, os⟩ := s1
  have ge : hp.objs.size ≤ hp.objs.size + 1 := Nat.le_succ _
  have up : ∀ b o, hp.get? b = some o → ((hp.push (PySem.W.kdv_tup us)).push (PySem.HandSPX.excO C hp.objs.size)).get? b = some o := fun _ _ z => Heap.get?_push_of_some _ (Heap.get?_push_of_some _ z)
  have new : ((hp.push (PySem.W.kdv_tup us)).push (PySem.HandSPX.excO C hp.objs.size)).get? (hp.objs.size + 1) = some (PySem.HandSPX.excO C hp.objs.size) := by heap_get
  have G : Inv X pins σ (upd H1 (hp.objs.size + 1) (exo (hp.objs.size + 1) C none)) ⟨(hp.push (PySem.W.kdv_tup us)).push (PySem.HandSPX.excO C hp.objs.size), g, dr, tk, os⟩ :=
    J.laid (t' := tk) up ge (exo_ok new)
  have sq := q _ (J.hok.fresh ge)
  rw [List.append_nil] at sq
  have r2 : Vals (V.ref (hp.objs.size + 1) :: vs) (Value.ref (hp.objs.size + 1) :: us) := .cons rfl r
  have ln : (Value.ref (hp.objs.size + 1) :: us ++ []).length = ps.length := by
    rw [List.append_nil]
    exact r2.length.symm.trans (F.len _ _ _ _ sq)
  have bd := hb ⟨(hp.push (PySem.W.kdv_tup us)).push (PySem.HandSPX.excO C hp.objs.size), g, dr, tk, os⟩ (Value.ref (hp.objs.size + 1) :: us) G.kIn ln
  rw [List.append_nil] at bd
  refine wpAny_call (newF_call (Z.new ow) (J.kIn _ _ eC) (PySem.W.looks_findIn J.kIn iC) (fun me => PySem.W.bind_fn J.kIn me tI) (by rw [← r.length, sizeLine_eq]; omega)
    (codeAny_mono (F.run _ X.stack _ _ ⟨Value.ref (hp.objs.size + 1) :: us, []⟩ _ _ _ (fun _ _ _ => False) (hr.make C us []) (G.env0.make C us []) bd r2 sq) fun r s' z => ?_))
  rcases r with er | (_ | _ | _ | u)
  all_goals first
    | exact hx pins σ _ _ er s' G z
    | exact False.elim z
    | skip
  obtain ⟨v, H2, o2, b2, un2, ok2, rv, ev, d, fs, ea, ed, hd1, q2⟩ := z
  subst ev
  obtain ⟨h2, g2, d2, t2, os2⟩ := s'
  exact ⟨rv, mk_end rs J ge up un2 ok2 o2 b2 ea ed hd1 q2⟩
end
end Fn

set_option Elab.async false
set_option linter.all false
set_option maxRecDepth 100000
set_option maxHeartbeats 4000000
/-! A def that calls what it got within a try, and tells by a text what came of it; such a def called with a lambda. -/
namespace Fn
open PySem PySem.Spec PyProof.Rows L2 LamX
theorem takes_len {X : Cx} {W : WX} (tk : Takes X W) : Takes X (fun c d σ H => σ.length = X.N.length → W c d σ H) := fun u s' ⟨a, B, sI, pins, σ, H, cls, d, e, I, nb, up, sky, na, os, ag, w⟩ =>
  tk u s' ⟨a, B, sI, pins, σ, H, cls, d, e, I, nb, up, sky, na, os, ag, w I.len⟩
/-- what comes of an exception: the clauses, from any values of the def's n names -/
def eMet (K : PySem.W.Frag) (n : Nat) (fine : Str) (l : List Cls1) (Q : VK) : XK := fun cls d H => ∀ σ : L2.St, σ.length = n → wAny K (fun _ _ _ _ => False) { nx := fun _ H' => Q (.str fine) H', rt := Q } l cls d σ H
def TMet (K : PySem.W.Frag) (n : Nat) (fine : Str) (l : List Cls1) : (XK → Hp → VK → Prop) → Hp → VK → Prop := fun tl H Q => tl (eMet K n fine l Q) H fun _ H' => Q (.str fine) H'
theorem gives_met {X : Cx} {Ng : List Str} {x a q fine : Str} {sg : Scope} {g : Addr} {cdg : Value} {j : Nat} {p1 p2 p3 p5 p6 p8 : Pos} {h₀ : ExceptHandler} {hds : List ExceptHandler} {l : List Cls1} (h0 : ∀ f : Addr, (L2.start Ng [V.ref f])[0]? = some (some (V.ref f)))
    (hh : ∀ (s : Shared) (H : Hp), HdsA (cxOf CX0 X.prog X.w X.K X.mg X.base Ng x sg g cdg X.A X.stack s H C8.E0).nox (h₀ :: hds) l) :
    GivesTo X Ng x sg g cdg [.Try [.Expr (.Call (.Name a p1) [] [] p2) p3] (h₀ :: hds) [] [] p8, .Return (some (.Constant (.str fine) j p5)) p6] a q (TMet X.K Ng.length fine l) := by
  intro f c' s H Q tl act hc h
  refine ⟨_, pss_cons (ps_tryA (X := (cxOf CX0 X.prog X.w X.K X.mg X.base Ng x sg g cdg X.A X.stack s H C8.E0).nox)
      (tb := fun W D σ H => ∃ Ech : XK, (∀ cls d σ' H', Ech cls d H' → σ'.length = Ng.length → W cls d σ' H') ∧ σ[0]? = some (some (.ref f)) ∧ H c' = some (CodeO c' q) ∧ tl Ech H fun _ H' => D.nx σ H')
      rfl rfl L2.takes0 (fun W pn xe tk _ => ?_) (hh s H)) (pss_one (ps_ret pe_str)), ?_⟩
  · refine ⟨fun pins s' σ H' D I h' => ?_⟩
    obtain ⟨Ech, hW, h1, h2, h3⟩ := h'
    have hp := act _ pn xe Ech p1 p2 (takes_len tk) hW
    have hq := pss_one (ps_expr (pos := p3) hp)
    exact hq.run pins s' σ H' D I ⟨h1, h2, h3⟩
  · exact ⟨eMet X.K Ng.length fine l Q, fun cls d σ' H' e hl => e σ' hl, h0 f, hc, h⟩
/-- x(lambda: body), by what is known of the def x -/
theorem pe_lam {X : Cx} {T : List (Addr × Str)} {TT : (XK → Hp → VK → Prop) → Hp → VK → Prop} {x a q : Str} {g c P : Addr} {k : Nat} {st : Stmt} {fd : FuncData} {Ng : List Str} {params : Arguments} {body : Expr} {scope : Scope} {t : XK → TE} {p lpos pos : Pos}
    (hg : Gl X x) (C : Cal X.K X.mg x g fd [a]) (F : Fun X.K x x st g fd) (Sg : FnScope Ng [a] (defScope st)) (hN : Ng[0]? = some a) (hv : Vis (defScope st) a) (hG : ∀ cdv, GivesTo X Ng x (defScope st) g cdv (defBody st) a (X.env.qual ++ "<lambda>") TT)
    (TB : TabB X.base X.mg c P) (hcode : X.env.code = .ref c) (hmT : (P, q) ∈ T) (hu : ∀ p ∈ T, p.1 = P → p.2 = q) (hr : Room (k + 2) X.A)
    (hbody : ∀ (A : Around) (outer : List Env) (s : Shared) (H : Hp) (E : XK) (f c' : Addr), Room k (A.deeper (lamEnv X scope s.heap.objs.size f c')) → PE (lamCx X A outer s H E scope f c') body (t E))
    (hq : X.env.qual ++ "<lambda>" = q := by rfl) (L : lamSB X.env.scope scope = true := by decide +kernel) (hdef : defaultsOf params X.env = ([], []) := by rfl)
    (hbind : ∀ (q : Str) (cl : List (Str × Addr)) (pm cv ctv : Value), bindArgs (PySem.W.kla_fn "<lambda>" q params body scope cl pm cv ctv) ⟨[], []⟩ = pure [] := by intros; rfl)
    (hdb : (x == ("__debug__" : Str)) = false := by decide) (hd : (a == ("__debug__" : Str)) = false := by decide) (hcd : (a == ("__classdict__" : Str)) = false := by decide) :
    PE X (.Call (.Name x p) [.Lambda params body scope lpos] [] pos) (tLam T TT t) := by
  obtain ⟨oc, od, kV, doc, pm, an, cdv, ct, osl, rfl, lk, hcg⟩ := F.ex
  subst hq
  exact pe_lamcall hg C.m C.k lk hcg C.b Sg hN hv (hG cdv) TB hcode hmT hu hr (lamS_by L) hdef hbind hbody hdb hd hcd
/-- a lambda's body may let out what it calls lets out -/
theorem passLam {X : Cx} {A : Around} {outer : List Env} {s : Shared} {H : Hp} {E : XK} {scope : Scope} {f c' : Addr} : Passes (L2.CX X.prog X.w) (lamCx X A outer s H E scope f c') E := fun pins σ H s e s' I h =>
  passes_call (X := lamCx X A outer _ _ E scope f c') (W := fun cls d _ H => E cls d H) (takes_of rfl rfl rfl rfl) (fun _ _ _ _ z => z) pins σ H s e s' I h
theorem passLamAt {X : Cx} {A : Around} {outer : List Env} {s : Shared} {H : Hp} {E : XK} {scope : Scope} {f c' : Addr} (σ : L2.St) : PassesAt (L2.CX X.prog X.w) (lamCx X A outer s H E scope f c') σ E := fun pins H s e s' I h => passLam pins σ H s e s' I h
theorem two_mem0 {a b : Addr} {x y : Str} : (a, x) ∈ [(a, x), (b, y)] := List.mem_cons_self
theorem two_mem1 {a b : Addr} {x y : Str} : (b, y) ∈ [(a, x), (b, y)] := List.mem_cons_of_mem _ List.mem_cons_self
theorem two_one0 {a b : Addr} {x y : Str} (n : a ≠ b) : ∀ p ∈ [(a, x), (b, y)], p.1 = a → p.2 = x := fun p hp e => by
  rcases List.mem_cons.mp hp with rfl | hp
  · rfl
  · rcases List.mem_cons.mp hp with rfl | hp
    · exact absurd e.symm n
    · cases hp
theorem two_one1 {a b : Addr} {x y : Str} (n : a ≠ b) : ∀ p ∈ [(a, x), (b, y)], p.1 = b → p.2 = y := fun p hp e => by
  rcases List.mem_cons.mp hp with rfl | hp
  · exact absurd e n
  · rcases List.mem_cons.mp hp with rfl | hp
    · rfl
    · cases hp
end Fn

set_option Elab.async false
set_option linter.all false
set_option maxRecDepth 100000
set_option maxHeartbeats 4000000
/-! A piece of a tuple: one end, whether it is the tuple itself or a new one. -/
namespace Fn
open PySem PySem.Spec PyProof.Rows L2
def rSlB : V → Option Int → Option Int → Hp → VK → Prop := fun x lo hi H Q => ∃ (a : Addr) (xs : List V) (i j : Nat), x = .ref a ∧ H a = some (.tup xs) ∧ HT.sIx xs.length 0 lo = i ∧ HT.sIx xs.length xs.length hi = j ∧
  ∀ (b : Addr) (H' : Hp), Same H H' → H' b = some (.tup ((xs.drop i).take (j - i))) → Q (.ref b) H'
theorem sl_tupB {X : Cx} : SlR X rSlB := by
  intro pins s σ H x v vl vu lo hi sl Q I rx hs pl pu h
  obtain ⟨a, xs, i, j, rfl, hT, e1, e2, q⟩ := h
  refine sl_tupA pins s σ H _ v vl vu lo hi sl Q I rx hs pl pu ⟨a, xs, rfl, SqT.of hT, fun z => ?_, fun z b hb => ?_⟩
  · rw [e1, e2] at z
    obtain ⟨rfl, rfl⟩ := z
    refine q a H (Same.refl H) ?_
    rw [List.drop_zero, Nat.sub_zero, List.take_length]
    exact hT
  · refine q b _ (fun c o e => by rw [upd_ne (ne_of_none e hb)]; exact e) ?_
    rw [upd_same]
    unfold cutV
    rw [e1, e2]
end Fn

set_option Elab.async false
set_option linter.all false
set_option maxRecDepth 100000
set_option maxHeartbeats 4000000
/-! l.extend(t), t a tuple. -/
namespace Fn
open PySem PySem.Spec PySem.AutoSeq1
/-- the list grows by what the tuple holds, whatever else its object has -/
theorem grow_by (a c : Addr) (xs ys : Array Value) (k j : Nat) (dd : Option Addr) (slo : Array (Option Value)) (short : ¬(!xs.isEmpty && Builtin.List.listTooLong (xs.size + ys.size)) = true) (fit : xs.size ≤ sizeLine) (fits : xs.size + ys.size ≤ sizeLine + 1) :
    Meets (Builtin.«list.extend» ⟨[.ref a, .ref c], []⟩) (fun _ R st => st.heap.get? a = some { cls := .type "list", data := .seq xs k } ∧ st.heap.get? c = some { cls := .type "tuple", dict := dd, data := .seq ys j, slots := slo } ∧ R (.ok (.ret Value.none)) { st with heap := st.heap.update a (Obj.mapSeq fun z => z ++ ys), toks := st.toks }) :=
  .of_wp fun prog w A R st h => by
    obtain ⟨heap, gens, dr, tks, os⟩ := st
    obtain ⟨atA, atC, done⟩ := h
    have i0 := idx_int
    have i1 := sub_tuple_tuple
    have i2 := sub_list_list
    have i3 := sub_tuple_list
    have i4 := sub_list_tuple
    have room : (xs ++ ys).size ≤ sizeLine + 1 := by
      rw [Array.size_append]
      exact fits
    wp_walk using (wpAny_updateSeq atA rfl (hz := fit) (_hz' := room)), wpAny_loadPart' atA, wpAny_loadPart' atC
    exact ⟨_, rfl, done⟩
end Fn
namespace Fn
open PySem PySem.Spec PyProof.Rows L2
def rExtendT : V → List V → Hp → VK → Prop := fun x vs H Q => ∃ l b xs zs, x = .ref l ∧ vs = [.ref b] ∧ H l = some (.lst xs) ∧ H b = some (.tup zs) ∧ xs.length + zs.length ≤ 100000 ∧ Q .non (upd H l (.lst (xs ++ zs)))
theorem mt_extendT {X : Cx} : MtM X "list.extend" rExtendT := by
  intro pins s σ H x vs v us Q I rx rv h
  obtain ⟨l, b, xs, zs, rfl, rfl, hH, hB, hz, q⟩ := h
  cases rx
  obtain ⟨u, rfl, ru⟩ := rv.one
  cases ru
  obtain ⟨z, its, n, r, hl, e⟩ := I.lstM hH
  obtain ⟨its2, r2, ⟨⟨c2, d2, da2, sl2⟩, ho2, hc2, n2, hd2⟩, _⟩ := I.tuple (SqT.of hB)
  cases hc2
  cases hd2
  have l1 := r.length
  have l2 := r2.length
  have hsz : its.toArray.size + its2.toArray.size ≤ sizeLine := by rw [List.size_toArray, List.size_toArray, sizeLine_eq]; omega
  have hlong : ¬ (!its.toArray.isEmpty && Builtin.List.listTooLong (its.toArray.size + its2.toArray.size)) = true := by
    rw [notLongL hsz, Bool.and_false]
    exact Bool.false_ne_true
  refine call_meets F.slot_list_extend ⟨_, e, rfl⟩ F.entry_list_extend (F.args_list_extend_2 _ _)
    (grow_by l b its.toArray its2.toArray n n2 d2 sl2 hlong (by rw [List.size_toArray, sizeLine_eq]; omega) (by omega)) ⟨e, ho2, ?_⟩
  refine ⟨.non, _, I.lset (its' := its ++ its2) hH e (by simp) (r.append r2) ?_, rfl, q⟩
  rw [List.length_append, sizeLine_eq]
  omega
end Fn

set_option Elab.async false
set_option linter.all false
set_option maxRecDepth 100000
set_option maxHeartbeats 4000000
/-! a & b and a | b by an own def of a's class, b of another kind or of the same class. -/
namespace PySem.W
open PySem PySem.Calls PyProof.Rows Builtin
section
variable {prog : Program} {w : World} {A : Around} {E : Value → Shared → Prop} {s : Shared} {K : Frag} {x C L f : Addr} {h₀ : Heap} {m : Str → Option Value} {ox : Obj} {od : Option Obj}
theorem inPython_own {M : Model} {h : Heap} {nm : String} (X : K.In h) (hs : findIn K (.ref C) (PySem.dunder nm) = some (some (.ref f))) (hr : findIn K (.ref C) (dunderR nm) = some none) : Looks M h (numberSlotInPython (.ref C) nm) true := by
  intro A Q E s k q
  unfold numberSlotInPython
  refine wpAny_bind (looks_findIn X hs A _ E s k ?_)
  refine wpAny_bind (wpAny_pure ?_)
  refine wpAny_bind (looks_findIn X hr A _ E s k ?_)
  refine wpAny_bind (wpAny_pure ?_)
  exact wpAny_pure q
theorem binop1_other {nm : String} {b : Value} {n : String} {rt : Bool} {o : Option Value} {Q : Value → Shared → Prop} (F : Fr h₀ L s.heap m) (X₀ : K.In h₀) (I : InstAt s.heap x ox C od) (hb : Looks (model prog w) s.heap (typeOf b) (.type n)) (hc : selfFirst K C = true)
    (hs : findIn K (.ref C) (PySem.dunder nm) = some (some (.ref f))) (hr : findIn K (.ref C) (dunderR nm) = some none) (hf : isFn K (.ref f) = true) (sub : subIn K (.type n) (.ref C) = some false)
    (fills : fillsNumberSlot (.type n) nm = pure rt) (look : typeLookup (.type n) (dunderR nm) = pure o)
    (h : wpAny (model prog w) A (call (.ref f) [.ref x, b]) (CmpBack Q) E s) : wpAny (model prog w) A (binaryOp1 nm (.ref x) b) (fun v s' => ∃ u, v = some u ∧ Q u s') E s := by
  have X := X₀.keeps F.keep
  obtain ⟨cd, hcd, hm⟩ := any_some hc
  obtain ⟨rest, hm⟩ : ∃ rest, cd.mro = .ref C :: rest := by
    cases q : cd.mro with
    | nil => rw [q] at hm; cases hm
    | cons a r => rw [q] at hm; exact ⟨r, by rw [List.head?_cons] at hm; cases (beq_iff_eq.mp hm); rfl⟩
  have ne : (Value.ref C == Value.type n) = false := by rfl
  have fin : wpAny (model prog w) A (tryMethod (.ref x) (PySem.dunder nm) b) (fun v s' => ∃ u, v = some u ∧ Q u s') E s := by
    unfold tryMethod
    refine wpAny_bind (special_fn X I hs (beq_iff_eq.mp hf) (wpAny_mono h (fun v s' hv => ?_) fun _ _ e => e))
    cases v <;> first | exact hv.elim | exact wpAny_pure ⟨_, rfl, hv⟩
  have e2 : numberSlotInPython (.type n) nm = (pure false : Sem Bool) := by
    unfold numberSlotInPython
    rfl
  unfold binaryOp1
  refine wpAny_bind (I.type.here (wpAny_bind (hb.here (wpAny_bind ((fills_K X hcd hm hs).here ?_)))))
  rw [ne]
  simp only [Bool.false_eq_true, if_false, fills, pure_bind, Bool.true_and]
  cases rt with
  | false =>
    simp only [Bool.false_eq_true, if_false, pure_bind, Bool.false_and, if_true]
    refine wpAny_bind (wpAny_mono fin (fun v s' z => ?_) fun _ _ e => e)
    obtain ⟨u, rfl, q⟩ := z
    exact wpAny_pure ⟨u, rfl, q⟩
  | true =>
    simp only [Bool.false_eq_true, if_false, pure_bind, Bool.true_and, if_true]
    refine wpAny_bind ((looks_subIn X sub).here ?_)
    simp only [Bool.false_eq_true, if_false, Bool.not_false, if_true]
    refine wpAny_bind ((inPython_own X hs hr).here ?_)
    simp only [Bool.false_eq_true, if_false, Bool.not_false, if_true, e2, pure_bind, look]
    refine wpAny_bind (wpAny_mono fin (fun v s' z => ?_) fun _ _ e => e)
    obtain ⟨u, rfl, q⟩ := z
    exact wpAny_pure ⟨u, rfl, q⟩
theorem binop_other {op : Operator} {b : Value} {n : String} {rt : Bool} {o : Option Value} {Q : Value → Shared → Prop} (F : Fr h₀ L s.heap m) (X₀ : K.In h₀) (I : InstAt s.heap x ox C od) (hb : Looks (model prog w) s.heap (typeOf b) (.type n)) (hc : selfFirst K C = true)
    (hs : findIn K (.ref C) (PySem.dunder op.info.2) = some (some (.ref f))) (hr : findIn K (.ref C) (dunderR op.info.2) = some none) (hf : isFn K (.ref f) = true) (sub : subIn K (.type n) (.ref C) = some false)
    (fills : fillsNumberSlot (.type n) op.info.2 = pure rt) (look : typeLookup (.type n) (dunderR op.info.2) = pure o)
    (h : wpAny (model prog w) A (call (.ref f) [.ref x, b]) (CmpBack Q) E s) : wpAny (model prog w) A (binaryOp op (.ref x) b) Q E s := by
  have k := binop1_other F X₀ I hb hc hs hr hf sub fills look h
  unfold binaryOp
  refine wpAny_holding (wpAny_bind ?_)
  refine wpAny_mono k (fun v s' z => ?_) fun _ _ e => e
  obtain ⟨u, rfl, q⟩ := z
  exact wpAny_pure q
end
end PySem.W
namespace Fn
open PySem PySem.Spec PyProof.Rows L2
/-- what the built-in kinds have of & and | -/
def Bits (nm : String) (n : String) : Prop := ∃ (rt : Bool) (o : Option Value), fillsNumberSlot (.type n) nm = pure rt ∧ typeLookup (.type n) (dunderR nm) = pure o
theorem bits_and : ∀ n ∈ tyNs, Bits "and" n := by
  intro n hn
  simp only [tyNs, List.mem_cons, List.not_mem_nil, or_false] at hn
  rcases hn with rfl | rfl | rfl | rfl | rfl | rfl | rfl
  · exact ⟨false, none, by kernel_rfl, by kernel_rfl⟩
  · exact ⟨true, some (.builtin "bool.__rand__"), by kernel_rfl, by kernel_rfl⟩
  · exact ⟨true, some (.builtin "int.__rand__"), by kernel_rfl, by kernel_rfl⟩
  · exact ⟨false, none, by kernel_rfl, by kernel_rfl⟩
  · exact ⟨false, none, by kernel_rfl, by kernel_rfl⟩
  · exact ⟨false, none, by kernel_rfl, by kernel_rfl⟩
  · exact ⟨false, none, by kernel_rfl, by kernel_rfl⟩
theorem bits_or : ∀ n ∈ tyNs, Bits "or" n := by
  intro n hn
  simp only [tyNs, List.mem_cons, List.not_mem_nil, or_false] at hn
  rcases hn with rfl | rfl | rfl | rfl | rfl | rfl | rfl
  · exact ⟨false, none, by kernel_rfl, by kernel_rfl⟩
  · exact ⟨true, some (.builtin "bool.__ror__"), by kernel_rfl, by kernel_rfl⟩
  · exact ⟨true, some (.builtin "int.__ror__"), by kernel_rfl, by kernel_rfl⟩
  · exact ⟨false, none, by kernel_rfl, by kernel_rfl⟩
  · exact ⟨false, none, by kernel_rfl, by kernel_rfl⟩
  · exact ⟨false, none, by kernel_rfl, by kernel_rfl⟩
  · exact ⟨true, some (.builtin "dict.__ror__"), by kernel_rfl, by kernel_rfl⟩
/-- what the written part says of the class, for & and | -/
structure BitC (K : PySem.W.Frag) (C : Addr) : Prop where
  self : PySem.W.selfFirst K C = true
  sub : ∀ n ∈ tyNs, PySem.W.subIn K (.type n) (.ref C) = some false
theorem bitC {K : PySem.W.Frag} {C : Addr} (h : bitB K C = true) : BitC K C := by
  obtain ⟨h1, h2⟩ := Bool.and_eq_true_iff.mp h
  exact ⟨h1, fun n hn => of_decide_eq_true (List.all_eq_true.mp h2 n hn)⟩
def rBitO (K : PySem.W.Frag) (C : Addr) (sp : Sp) (E : XK) : R2 := fun x y H Q => ∃ (a dx : Addr) (fs : List (Str × V)) (tb : Value), x = .ref a ∧ H a = some (.ins C dx fs) ∧ TyX K H y tb ∧ (tb = .ref C ∨ ∃ n ∈ tyNs, tb = .type n) ∧ sp [x, y] H Q E
theorem back_of {v : V} {u : Value} {Q : Value → Shared → Prop} {s : Shared} (r : RelV v u) (q : Q u s) : PySem.W.CmpBack Q u s := by
  cases v with
  | non => cases r; exact q
  | bl b => cases r; exact q
  | int i =>
    obtain ⟨t, rfl⟩ := r
    exact q
  | str x =>
    obtain ⟨t, rfl⟩ := r
    exact q
  | ref a => cases r; exact q
  | byt b =>
    first
      | (obtain ⟨t, rfl⟩ := r; exact q)
      | (cases r; exact q)
  | flt b =>
    first
      | (obtain ⟨t, rfl⟩ := r; exact q)
      | (cases r; exact q)
  | ty b =>
    first
      | (cases r; exact q)
      | (obtain ⟨t, rfl⟩ := r; exact q)
section
variable {X : Cx} {CX : CXT} {C g : Addr} {k : Nat} {sp : Sp} {E : XK} {op : Operator}
theorem op_bitO (bits : ∀ n ∈ tyNs, Bits op.info.2 n) (Z : BitC X.K C) (hs : PySem.W.findIn X.K (.ref C) (PySem.dunder op.info.2) = some (some (.ref g))) (hr' : PySem.W.findIn X.K (.ref C) (dunderR op.info.2) = some none) (hfn : PySem.W.isFn X.K (.ref g) = true)
    (F : FnR X.prog X.w X.K X.mg X.base CX k g sp) (hr : Room k X.A) (hx : Passes CX X E) : OpR X (binaryOp op) (rBitO X.K C sp E) := by
  intro pins s σ H x y v u Q I rx ry h
  obtain ⟨o, dx, fs, tb, rfl, ea, ty, hb, q⟩ := h
  cases (show v = Value.ref o from rx)
  obtain ⟨mA, O, _, _, _, _⟩ := ins_get I.hok ea
  obtain ⟨od, J, _⟩ := O.look
  obtain ⟨m, hF⟩ := I.fr
  obtain ⟨P, kx, hP, _⟩ := kit_of I ry ty
  have lb := kx.ty (model X.prog X.w) _ I.kIn hP
  have run : wpAny (model X.prog X.w) X.A (call (.ref g) [.ref o, u]) (PySem.W.CmpBack (fun u s' => EP X pins σ Q u s')) X.xe s :=
    wpAny_mono (wpAny_call (SlX.run_at (us := [.ref o, u]) (ws := [.ref o, y]) F hr I.env0 hx I (.cons rfl (.cons ry .nil)) q)) (fun r s' z => by
      obtain ⟨z', H', I', rz, qz⟩ := z
      exact back_of rz ⟨z', H', I', rz, qz⟩) fun _ _ z => z
  rcases hb with rfl | ⟨n, hn, rfl⟩
  · exact PySem.W.binop_K hF I.ok.mod.kin J lb Z.self hs hfn run
  · obtain ⟨rt, ot, f1, f2⟩ := bits n hn
    exact PySem.W.binop_other hF I.ok.mod.kin J lb Z.self hs hr' hfn (Z.sub n hn) f1 f2 run
end
end Fn

set_option Elab.async false
set_option linter.all false
set_option maxRecDepth 100000
set_option maxHeartbeats 4000000
/-! The facts of the own classes InvalidOperation and UnknownPlace, beside those of InvalidTerm and ParseError; which clause takes which of them. -/
namespace Fn
open PySem PySem.Spec PyProof.Rows L2
structure ErrZ (K : PySem.W.Frag) (mg : Str → Option Value) (c : Ta) (p : Pa) (e : Ea) : Prop where
  gO : mg "InvalidOperation" = some (.ref e.O)
  gU : mg "UnknownPlace" = some (.ref e.U)
  exc : PySem.W.excIn K e.O tVal "ValueError.__new__" = true
  kO : PySem.W.keepIn K (.ref e.O) = true
  rO : PySem.W.subIn K (.ref e.O) (.type "BaseException") = some true
  tO : PySem.W.typeIn K (.ref e.O) = some (.type "type")
  ini : IniC K e.U e.I "spot"
  xf : XfC K e.U
  rU : PySem.W.subIn K (.ref e.U) (.type "BaseException") = some true
  tU : PySem.W.typeIn K (.ref e.U) = some (.type "type")
  bit : BitC K c.T
  rand : PySem.W.findIn K (.ref c.T) (dunderR "and") = some none
  ror : PySem.W.findIn K (.ref c.T) (dunderR "or") = some none
  exm : ∀ i j : Nat, i < 4 → j < 4 → PySem.W.exmOne K (.ref (four c p e i)) (.ref (four c p e j)) = some (i == j)
theorem errZ {K : PySem.W.Frag} {mg : Str → Option Value} {c : Ta} {p : Pa} {e : Ea} (gO : mg "InvalidOperation" = some (.ref e.O)) (gU : mg "UnknownPlace" = some (.ref e.U)) (x : PySem.W.excIn K e.O tVal "ValueError.__new__" = true) (h : errB K c p e = true) : ErrZ K mg c p e := by
  simp only [errB, Bool.and_eq_true, decide_eq_true_eq] at h
  obtain ⟨h1, h2, h3, h4, h5, h6, h8, h9, h10, h7⟩ := h
  have y := exB_ok h4
  exact ⟨gO, gU, x, h1, h2, h3, iniB_ok bLok y h5, y.f, y.f.exC, h6, bitC h8, h9, h10, fun i j hi hj => of_decide_eq_true (List.all_eq_true.mp (List.all_eq_true.mp h7 i (List.mem_range.mpr hi)) j (List.mem_range.mpr hj))⟩
/-- the making of an exception that keeps y in the field f -/
theorem mkO_any {K : PySem.W.Frag} {C I : Addr} {f : Str} {H : Hp} {y : V} {E : XK} (R : IniC K C I f) (k : ∀ (dx : Addr) (H' : Hp), Same H H' → H' dx = some (.xd [(f, y)]) → E (.ref C) (some dx) H') :
    ([y].length ≤ 1000 ∧ ∀ a, H a = none → spIni K f (.ref a :: ([y] ++ [])) (upd H a (exo a C none)) (fun v H3 => v = .non ∧ ∃ (d : Addr) (fs : List (Str × V)), H3 a = some (exo a C (some d)) ∧ H3 d = some (exd d fs) ∧ H d = none ∧ E (.ref C) (some d) (upd (del H3 a) d (.xd fs))) fun _ _ _ => False) := by
  refine ⟨by show 1 ≤ 1000; decide, fun a na => ⟨a, C, y, rfl, R.o, R.n, upd_same, fun dx nd ne => ?_⟩⟩
  have nd' : H dx = none := by rw [upd_ne ne] at nd; exact nd
  refine ⟨rfl, dx, _, upd_same, by rw [upd_ne ne]; exact upd_same, nd', k dx _ (fun b o e => ?_) upd_same⟩
  have ba : b ≠ a := ne_of_none e na
  have bd : b ≠ dx := ne_of_none e nd'
  rw [upd_ne bd, del_ne ba, upd_ne ba, upd_ne bd, upd_ne ba]
  exact e
/-! ### the clauses of a def that tells which of the four came -/
section
variable {K : PySem.W.Frag} {c : Ta} {p : Pa} {e : Ea} {mg : Str → Option Value} {W : WX} {D : Ends} {t0 t1 t2 t3 : Addr → Value → Option Addr → TS} {i2 i3 : Nat} {d : Option Addr} {σ : L2.St} {H : Hp}
abbrev cl4 (c : Ta) (p : Pa) (e : Ea) (i2 i3 : Nat) (t0 t1 t2 t3 : Addr → Value → Option Addr → TS) : List Cls1 := [(.ref c.X, none, t0), (.ref e.O, none, t1), (.ref e.U, some i2, t2), (.ref p.C, some i3, t3)]
theorem met0 (Z : ErrZ K mg c p e) (h : ∀ a, H a = none → t0 a (.ref c.X) d D σ H) : wAny K W D (cl4 c p e i2 i3 t0 t1 t2 t3) (.ref c.X) d σ H :=
  ⟨true, Z.exm 0 0 (by decide) (by decide), fun _ a n => h a n, fun z => nomatch z⟩
theorem met1 (Z : ErrZ K mg c p e) (h : ∀ a, H a = none → t1 a (.ref e.O) d D σ H) : wAny K W D (cl4 c p e i2 i3 t0 t1 t2 t3) (.ref e.O) d σ H :=
  ⟨false, Z.exm 1 0 (by decide) (by decide), (fun z => nomatch z), fun _ => ⟨true, Z.exm 1 1 (by decide) (by decide), fun _ a n => h a n, fun z => nomatch z⟩⟩
theorem met2 (Z : ErrZ K mg c p e) (h : ∀ a, H a = none → t2 a (.ref e.U) d (offAt i2 D) (σ.set i2 (some (.ref a))) H) : wAny K W D (cl4 c p e i2 i3 t0 t1 t2 t3) (.ref e.U) d σ H :=
  ⟨false, Z.exm 2 0 (by decide) (by decide), (fun z => nomatch z), fun _ => ⟨false, Z.exm 2 1 (by decide) (by decide), (fun z => nomatch z), fun _ => ⟨true, Z.exm 2 2 (by decide) (by decide), fun _ a n => h a n, fun z => nomatch z⟩⟩⟩
theorem met3 (Z : ErrZ K mg c p e) (h : ∀ a, H a = none → t3 a (.ref p.C) d (offAt i3 D) (σ.set i3 (some (.ref a))) H) : wAny K W D (cl4 c p e i2 i3 t0 t1 t2 t3) (.ref p.C) d σ H :=
  ⟨false, Z.exm 3 0 (by decide) (by decide), (fun z => nomatch z), fun _ => ⟨false, Z.exm 3 1 (by decide) (by decide), (fun z => nomatch z), fun _ => ⟨false, Z.exm 3 2 (by decide) (by decide), (fun z => nomatch z), fun _ => ⟨true, Z.exm 3 3 (by decide) (by decide), fun _ a n => h a n, fun z => nomatch z⟩⟩⟩⟩
end
end Fn

set_option Elab.async false
set_option linter.all false
set_option maxRecDepth 100000
set_option maxHeartbeats 4000000
/-! repr of data, the empty dict among them. -/
namespace Fn
open PySem PySem.Spec PyProof.Rows L2
def Rq (K : PySem.W.Frag) (H : Hp) (v : V) (d : PyData) : Prop := Rr K H v d ∨ ∃ a : Addr, v = .ref a ∧ d = .dict [] ∧ H a = some (.dK [])
section
variable {X : Cx}
def rReprE (K : PySem.W.Frag) : List V → Hp → VK → Prop := fun xs H Q => ∃ v d, xs = [v] ∧ Rq K H v d ∧ d.showable = true ∧ d.depth ≤ 40 ∧ d.shown.length ≤ sizeLine ∧ Q (.str d.shown) H
theorem call_reprE {K : PySem.W.Frag} (hg : X.A.guards = some []) (hu : X.A.units + 64 < cLine) (hK : X.K = K := by rfl) : CallR X (.builtin "repr") (rReprE K) := by
  intro pins s σ H xs us Q I r h
  obtain ⟨v, d, e, hr, sh, dp, sz, q⟩ := h
  rcases hr with hr | ⟨a, rfl, rfl, ha⟩
  · exact call_reprD hg hu hK pins s σ H xs us Q I r ⟨v, d, e, hr, sh, dp, sz, q⟩
  · subst hK e
    obtain ⟨u, rfl, rv⟩ := vals1 r
    cases rv
    obtain ⟨_, ns, vs, kv, o, es, ep, ho, hx, hd, ks, pr, _⟩ := dk_of I.hok ha
    cases kv
    obtain ⟨el⟩ := es
    have pr' : Pairs (mixKind X.prog X.w) el [] := pr
    cases pr'
    have rd : Reads s.heap (.ref a) (.dict []) ([] ++ [] ++ [a]) := Reads.dict ho hx.1 hd (as := []) (bs := []) .nil .nil
    refine repr_of_reads' rd sh (fun _ m => ?_) hg (by omega) (fun _ _ e => e) (fun h' u tk hk => ⟨.str _, H, I.kept (t' := tk) hk, ⟨_, rfl⟩, q⟩) sz
    simp only [List.append_nil, List.nil_append, List.mem_singleton] at m
    subst m
    simp at ns
end
end Fn

set_option Elab.async false
set_option linter.all false
set_option maxRecDepth 100000
set_option maxHeartbeats 4000000
/-! o.m() by a positional promise; a walk over the keys of a dict that was made there. -/
namespace Fn
open PySem PySem.Spec PyProof.Rows L2
theorem pe_methR0 {X : Cx} {CX : CXT} {k : Nat} {C f : Addr} {m : Str} {sp : Sp} {E : XK} {o : Expr} {ta : TE} {apos pos : Pos} {pl : Sem Bool} (ho : PE X o ta) (c : Cls X.K C) (hm : Meth X.K C m f)
    (F : FnR X.prog X.w X.K X.mg X.base CX k f sp) (hr : Room k X.A) (hx : Passes CX X E)
    (ht : eval (.Call (.Attribute o m apos) [] [] pos) X.env = (do let ov ← eval o X.env; standAt apos.atName; let (f, first) ← holding [ov] (getMethod ov m pl); callWith pos f first (backTo pos (starEach [] X.env)) (backToKw pos (keywordEach [] X.env))) := by rfl) :
    PE X (.Call (.Attribute o m apos) [] [] pos) (tMethR C m sp E ta tNil) := ⟨fun pins s σ H Q I h => by
  refine PySem.W.methodCall_KW (pl := pl) (thn (ho.run pins s σ H _ I h) fun u s1 z => ?_) ht
  obtain ⟨x, H1, I1, rx, a, dx, fs, ex, ea, l, q⟩ := z
  subst ex
  obtain rfl : u = Value.ref a := rx
  refine getmeth_ok I1 ea c hm l (PySem.W.callWith_K0 (first := [.ref a]) I1.kIn hm.kp ?_)
  exact wpAny_call (run_fnR (us := [.ref a]) (vs := [.ref a]) F hr hx I1 (.cons rfl .nil) q)⟩
def iKeysN (td : TE) : TI := fun σ H R => td σ H fun x H1 => ∃ d u kvs, x = .ref d ∧ H1 d = some u ∧ DM d u kvs ∧ ∀ o, R (Mtk d o u kvs) (upd H1 d (.frz o u))
theorem pi_keysN {X : Cx} {tg e : Expr} {td : TE} (he : PE X e td) : PI X tg e (iKeysN td) := by
  refine ⟨fun pins s σ H R I h => ?_⟩
  refine thn (he.run pins s σ H _ I h) fun v s1 ⟨x, H1, I1, rx, d, u, kvs, ex, hd, D, q⟩ => ?_
  subst ex
  obtain rfl : v = Value.ref d := rx
  obtain ⟨o, I2⟩ := I1.lock hd D.mut
  obtain ⟨hs, hz, es, ep, hdt, hr, ent⟩ := frzM I2 (o := o) upd_same D
  exact wpAny_pyIter_dict_raw hs hr (pi_one (tk := s1.toks) I2 _ (turn_keysM D _ hdt) ⟨_, Heap.get?_push_size _ rfl, rfl, rfl⟩ (q o))
theorem op_bitOk {X : Cx} {K : PySem.W.Frag} {CX : CXT} {C g : Addr} {k : Nat} {sp : Sp} {E : XK} {op : Operator} (hK : X.K = K) (bits : ∀ n ∈ tyNs, Bits op.info.2 n) (Z : BitC K C) (hs : PySem.W.findIn K (.ref C) (PySem.dunder op.info.2) = some (some (.ref g)))
    (hr' : PySem.W.findIn K (.ref C) (dunderR op.info.2) = some none) (hfn : PySem.W.isFn K (.ref g) = true) (F : FnR X.prog X.w K X.mg X.base CX k g sp) (hr : Room k X.A) (hx : Passes CX X E) : OpR X (binaryOp op) (rBitO K C sp E) := by
  subst hK
  exact op_bitO bits Z hs hr' hfn F hr hx
end Fn

set_option Elab.async false
set_option linter.all false
set_option maxRecDepth 100000
set_option maxHeartbeats 4000000
/-! x != {}: x a dict with keys of texts and ints, or None, a list, an int, a text. -/
namespace Fn
open PySem PySem.Spec PyProof.Rows L2 PySem.SeqAt PySem.AutoSeq1
theorem sub_dict (T : String) (h : (isSubtype (.type T) (.type "dict") = pure false) := by rw [isSubtype_type]; kernel_rfl) : isSubtype (.type T) (.type "dict") = pure false := h
theorem sub_of_dict (T : String) (h : (isSubtype (.type "dict") (.type T) = pure false) := by rw [isSubtype_type]; kernel_rfl) : isSubtype (.type "dict") (.type T) = pure false := h
section
variable {prog : Program} {w : World} {A : Around} {E : Value → Shared → Prop} {s : Shared} {d : Addr} {Q : Value → Shared → Prop}
/-- the dict's own answer to what is no dict -/
theorem dict_declines {x : Value} {T : String} (hd : s.TypeIs (.ref d) "dict") (hx : s.TypeIs x T) (sub : isSubtype (.type T) (.type "dict") = pure false) (q : Q .notImplemented s) : wpAny (model prog w) A (call (.builtin "dict.__ne__") [.ref d, x]) Q E s := by
  refine wpAny_call_entry PySem.F.slot_dict_ne hd PySem.F.entry_dict_ne ?_ (PySem.F.args_dict_ne_2 _ _)
  show wpAny _ _ (Builtin.Dict.dictSlotArgs "__ne__" ⟨[.ref d, x], []⟩ >>= fun _ => _) _ _ s
  unfold Builtin.Dict.dictSlotArgs
  refine wpAny_bind (wpAny_bind (wpAny_notOrdered_dict hd (wpAny_pure (wpAny_bind (wpAny_isInstance (T := T) hx sub ?_)))))
  simp only [Bool.not_false, if_true]
  wp_walk
  exact ⟨_, rfl, q⟩
/-- x against a dict, where both leave it to the other -/
theorem ne_dict {x : Value} {T id : String} (hd : s.TypeIs (.ref d) "dict") (hx : s.TypeIs x T) (ne : (Value.type T != Value.type "dict") = true) (s1 : isSubtype (.type T) (.type "dict") = pure false) (s2 : isSubtype (.type "dict") (.type T) = pure false) (sl : Slot T (cmpInfo .NotEq).2.1 id)
    (left : ∀ Q' : Value → Shared → Prop, Q' .notImplemented s → wpAny (model prog w) A (call (.builtin id) [x, .ref d]) Q' E s) (same : ∀ Q' : Bool → Shared → Prop, Q' false s → wpAny (model prog w) A (isSame x (.ref d)) Q' E s) (hu : A.units < cLine) (q : Q (.bool true) s) :
    wpAny (model prog w) A (compareOp .NotEq x (.ref d)) Q E s :=
  rc_ne_decline_or (k := false) hx hd ne s2 sl PySem.F.slot_dict_ne_refl left (fun Q' z => dict_declines hd hx s1 z) same (.inr hu) q
end
theorem int_declines (b : Int) (u : Tok) (l : Addr) (es : Array DictEntry) (ep : Nat) (dd : Option Addr) (sl : Array (Option Value)) :
    Meets (Builtin.«int.__ne__» ⟨[.int b u, .ref l], []⟩) (fun _ R s => s.heap.get? l = some { cls := .type "dict", dict := dd, data := .dict es ep, slots := sl } ∧ R (.ok (.ret .notImplemented)) s) :=
  .of_wp fun prog w A R s h => by
    obtain ⟨hp, g, dr, tk, os⟩ := s; obtain ⟨hl, h⟩ := h
    wp_walk using wpAny_load hl
    exact ⟨_, rfl, h⟩
theorem str_declines (b : Str) (u : Tok) (l : Addr) (es : Array DictEntry) (ep : Nat) (dd : Option Addr) (sl : Array (Option Value)) :
    Meets (Builtin.«str.__ne__» ⟨[.str b u, .ref l], []⟩) (fun _ R s => s.heap.get? l = some { cls := .type "dict", dict := dd, data := .dict es ep, slots := sl } ∧ R (.ok (.ret .notImplemented)) s) :=
  .of_wp fun prog w A R s h => by
    obtain ⟨hp, g, dr, tk, os⟩ := s; obtain ⟨hl, h⟩ := h
    wp_walk using wpAny_load hl
    exact ⟨_, rfl, h⟩
theorem list_declines (l c : Addr) (xs : Array Value) (n : Nat) (d1 : Option Addr) (sl1 : Array (Option Value)) (es : Array DictEntry) (ep : Nat) (dd : Option Addr) (sl : Array (Option Value)) :
    Meets (Builtin.«list.__ne__» ⟨[.ref c, .ref l], []⟩) (fun _ R s => s.heap.get? c = some { cls := .type "list", dict := d1, data := .seq xs n, slots := sl1 } ∧ s.heap.get? l = some { cls := .type "dict", dict := dd, data := .dict es ep, slots := sl } ∧ R (.ok (.ret .notImplemented)) s) :=
  .of_wp fun prog w A R s h => by
    obtain ⟨hp, g, dr, tk, os⟩ := s; obtain ⟨hc, hl, h⟩ := h
    have f1 : isSubtype (.type "dict") (.type "list") = pure false := sub_of_dict "list"
    wp_walk using wpAny_loadPart' hc, wpAny_load hl
    exact ⟨_, rfl, h⟩
def rNeE (K : PySem.W.Frag) : R2 := fun x y H Q => ∃ b : Addr, y = .ref b ∧ H b = some (.dK []) ∧
  ((∃ (a : Addr) (ks : List (Key × V)), x = .ref a ∧ H a = some (.dK ks) ∧ Q (.bl (!ks.isEmpty)) H) ∨
    (Q (.bl true) H ∧ (x = .non ∨ (∃ i, x = .int i) ∨ (∃ z, x = .str z) ∨ ∃ a xs, x = .ref a ∧ H a = some (.lst xs))))
theorem op_neE {X : Cx} {K : PySem.W.Frag} (hu : X.A.units < cLine) (hK : X.K = K := by rfl) : OpR X (compareOp .NotEq) (rNeE K) := by
  intro pins s σ H x y v u Q I rx ry h
  obtain ⟨b, rfl, eb, h⟩ := h
  obtain rfl : u = Value.ref b := ry
  obtain ⟨_, yb, vb, rb, db⟩ := (show ObjOk X.prog X.w H s.heap b (.dK []) from I.hok b _ eb)
  have tb := db.typeIs
  rcases h with ⟨a, ks, rfl, ea, q⟩ | ⟨q, h⟩
  · obtain rfl : v = Value.ref a := rx
    obtain ⟨_, ya, va, ra, da⟩ := (show ObjOk X.prog X.w H s.heap a (.dK ks) from I.hok a _ ea)
    have lb : vb.length = 0 := by rw [← rb.length]; rfl
    have la : va.length = ks.length := ra.length.symm
    cases ks with
    | nil =>
      have la' : va.length = 0 := la
      exact PySem.W.keq_ne (knd := mixKind X.prog X.w) (r := true) ya yb da db hu (fun _ => hits_all rb ra fun p hp => (by cases hp)) (fin_bl I q (by rw [la', lb]; rfl))
    | cons k ks =>
      have la' : va.length = ks.length + 1 := la
      exact PySem.W.keq_ne (knd := mixKind X.prog X.w) (r := true) ya yb da db hu (fun e => absurd e (by omega)) (fin_bl I q (by rw [la', lb]; rfl))
  · have fin : EP X pins σ Q (.bool true) s := ⟨.bl true, H, I, rfl, q⟩
    obtain ⟨⟨oc, od, oa, os⟩, es, ep, ho, hx, hd⟩ : ∃ (o : Obj) (es : Array DictEntry) (ep : Nat), s.heap.get? b = some o ∧ o.cls = .type "dict" ∧ o.data = .dict es ep := by
      obtain ⟨o, es, ep, ho, hx, hd, _⟩ := db
      exact ⟨o, es, ep, ho, hx.1, hd⟩
    have hx : oc = .type "dict" := hx
    have hd : oa = .dict es ep := hd
    subst hx hd
    rcases h with rfl | ⟨i, rfl⟩ | ⟨z, rfl⟩ | ⟨a, xs, rfl, ha⟩
    · cases (show v = Value.none from rx)
      exact ne_dict tb (T := "NoneType") rfl (by decide) (sub_dict "NoneType") (sub_of_dict "NoneType") PySem.F.slot_NoneType_ne (fun _ hq => call_gives PySem.F.slot_NoneType_ne rfl PySem.F.entry_NoneType_ne (PySem.F.args_NoneType_ne_2 _ _) (NoneType___ne___none_ref_0 b) hq)
        (fun _ hq => wpAny_of_eq (rfl : isSame .none (.ref b) = pure false) hq) hu fin
    · obtain ⟨t, rfl⟩ := (show ∃ t, v = Value.int i t from rx)
      exact ne_dict tb (T := "int") (typeIs_int s i t) (by decide) (sub_dict "int") (sub_of_dict "int") PySem.F.slot_int_ne (fun _ hq => call_meets PySem.F.slot_int_ne (typeIs_int s i t) PySem.F.entry_int_ne (PySem.F.args_int_ne_2 _ _) (int_declines i t b es ep _ _) ⟨ho, hq⟩)
        (fun _ hq => wpAny_of_eq (rfl : isSame (.int i t) (.ref b) = pure false) hq) hu fin
    · obtain ⟨t, rfl⟩ := (show ∃ t, v = Value.str z t from rx)
      exact ne_dict tb (T := "str") (typeIs_str s z t) (by decide) (sub_dict "str") (sub_of_dict "str") PySem.F.slot_str_ne (fun _ hq => call_meets PySem.F.slot_str_ne (typeIs_str s z t) PySem.F.entry_str_ne (PySem.F.args_str_ne_2 _ _) (str_declines z t b es ep _ _) ⟨ho, hq⟩)
        (fun _ hq => wpAny_of_eq (rfl : isSame (.str z t) (.ref b) = pure false) hq) hu fin
    · cases (show v = Value.ref a from rx)
      obtain ⟨its, r, ⟨⟨cc, cd, ca, cs⟩, n, hc, ec, _, ed⟩, hz⟩ := I.list (SqL.of ha)
      have ec : cc = .type "list" := ec
      have ed : ca = .seq its.toArray n := ed
      subst ec ed
      have ta : s.TypeIs (.ref a) "list" := ⟨_, hc, rfl⟩
      have nab : ¬ a = b := fun z => by
        subst z
        rw [ha] at eb
        cases eb
      exact ne_dict tb (T := "list") ta (by decide) (sub_dict "list") (sub_of_dict "list") PySem.F.slot_list_ne (fun _ hq => call_meets PySem.F.slot_list_ne ta PySem.F.entry_list_ne (PySem.F.args_list_ne_2 _ _) (list_declines b a its.toArray n _ _ es ep _ _) ⟨hc, ho, hq⟩)
        (fun _ hq => wpAny_isSame_ref_other nab hc ho (fun z => absurd (show Value.type "list" = Value.type "tuple" from z) (by decide)) hq) hu fin
end Fn

set_option Elab.async false
set_option linter.all false
set_option maxRecDepth 100000
set_option maxHeartbeats 4000000
/-! What the clauses of such a def tell: a text; a text and the repr of a field. -/
namespace Fn
open PySem PySem.Spec PyProof.Rows L2
theorem PSs_imp {X : Cx} {b : List Stmt} {t u : TS} (h : PSs X b t) (f : ∀ D σ H, u D σ H → t D σ H) : PSs X b u := ⟨fun pins s σ H D I q => h.run pins s σ H D I (f D σ H q)⟩
def tSay (x : Str) : Addr → Value → Option Addr → TS := fun _ _ _ D _ H => D.rt (.str x) H
theorem say_plain {X : Cx} {a : Addr} {cls : Value} {d : Option Addr} {x : Str} {j : Nat} {p1 p2 : Pos} : PSs X [.Return (some (.Constant (.str x) j p1)) p2] (tSay x a cls d) := PSs_imp (pss_one (ps_ret pe_str)) fun D σ H q => q
/-- a field's repr behind a text -/
structure Said (K : PySem.W.Frag) (pre f : Str) (d : Option Addr) (H : Hp) (Q : VK) : Prop where
  ex : ∃ (dd : Addr) (fs : List (Str × V)) (v : V) (dt : PyData), d = some dd ∧ H dd = some (.xd fs) ∧ fs.lookup f = some v ∧ Rq K H v dt ∧ dt.showable = true ∧ dt.depth ≤ 40 ∧ dt.shown.length ≤ 5000 ∧ Q (.str (pre ++ dt.shown)) H
def tSayF (K : PySem.W.Frag) (C : Addr) (i : Nat) (pre f : Str) : Addr → Value → Option Addr → TS := fun a cls d D σ H => σ[i]? = some (some (.ref a)) ∧ cls = .ref C ∧ Said K pre f d H D.rt
theorem say_named {X : Cx} {a C : Addr} {oe : Obj} {cls : Value} {d : Option Addr} {pn : List (Addr × Obj)} {pre n f : Str} {i j : Nat} {p1 p2 p3 p4 p5 p6 p7 : Pos} (T : XfC X.K C) (hno : PySem.W.findIn X.K (.ref C) f = some none) (hz : Zc cls d oe) (hf : ∃ vs, oe.data = .fields vs)
    (hN : X.N[i]? = some n) (hv : Vis X.env.scope n) (hg : X.A.guards = some []) (hu : X.A.units + 64 < cLine) (gr : Gl X "repr") (mr : X.mg "repr" = none) (hp : pre.length ≤ 1000)
    (hd : (n == ("__debug__" : Str)) = false := by decide) (hcd : (n == ("__classdict__" : Str)) = false := by decide) (hb : attributeBase (.Name n p3) f X.env (eval (.Name n p3) X.env) = eval (.Name n p3) X.env := by rfl) :
    PSs (X.suite a ((a, oe) :: pn)) [.Return (some (.BinOp (.Constant (.str pre) j p1) .Add (.Call (.Name "repr" p2) [.Attribute (.Name n p3) f p4] [] p5) p6)) p7] (tSayF X.K C i pre f a cls d) := by
  refine PSs_imp (pss_one (ps_ret (pe_op op_add_str pe_str (pe_callB (call_reprE (K := X.K) (by exact hg) (by exact hu)) gr mr (by decide +kernel) (pa_cons (pe_xf T hno hz hf (pe_var (i := i) hN hv hd hcd) hb) pa_nil))))) fun D σ H ⟨h1, h2, ⟨dd, fs, v, dt, e1, e2, e3, e4, e5, e6, e7, q⟩⟩ => ?_
  refine ⟨_, h1, rfl, h2, dd, fs, v, e1, e2, e3, v, dt, rfl, e4, e5, e6, Nat.le_trans e7 (by decide), ?_⟩
  exact ⟨_, _, rfl, rfl, by rw [sizeLine_eq]; omega, q⟩
end Fn

set_option Elab.async false
set_option linter.all false
set_option maxRecDepth 100000
set_option maxHeartbeats 4000000
/-! Written dicts whose keys are tuples: of texts and numbers (told as such a dict), of truth values, too (told by pairs of values). -/
namespace Fn
open PySem PySem.Spec PyProof.Rows L2
theorem store_cons {prog : Program} {w : World} {A : Around} {E : Value → Shared → Prop} {s : Shared} {d : Addr} {k v : Value} {r : List (Value × Value)} {Q : PUnit → Shared → Prop}
    (h : wpAny (model prog w) A (dictSet d k v) (fun _ s' => wpAny (model prog w) A (storeAll d r) Q E s') E s) : wpAny (model prog w) A (storeAll d ((k, v) :: r)) Q E s := by
  unfold storeAll at h ⊢
  rw [List.forIn_cons]
  refine wpAny_bind (wpAny_bind (wpAny_mono h (fun u s' q => ?_) fun _ _ e => e))
  exact wpAny_pure q
theorem store_nil {prog : Program} {w : World} {A : Around} {E : Value → Shared → Prop} {s : Shared} {d : Addr} {Q : PUnit → Shared → Prop} (h : Q ⟨⟩ s) : wpAny (model prog w) A (storeAll d []) Q E s := by
  unfold storeAll
  rw [List.forIn_nil]
  exact wpAny_pure h
def KeysT (H : Hp) (ps : List (V × V)) (kvs : List (List Key × V)) : Prop := Paired (fun p kv => ∃ b, p = (V.ref b, kv.2) ∧ H b = some (.tup (kv.1.map kV))) ps kvs
theorem upd_id {H : Hp} {a : Addr} {o : HO} (h : H a = some o) : upd H a o = H := by
  funext b
  by_cases e : b = a
  · rw [e, upd_same, h]
  · rw [upd_ne e]
theorem at_none {κ : Type} [DecidableEq κ] {xs : List (κ × Addr × Value)} {k : κ} (h : k ∉ xs.map Prod.fst) : atKey xs k = none := by
  unfold atKey
  rw [List.find?_eq_none.mpr fun x hx e => h (List.mem_map.mpr ⟨x, hx, of_decide_eq_true e⟩)]
  rfl
theorem pairApp {α β : Type} {F : α → β → Prop} : ∀ {as cs : List α} {bs ds : List β}, Paired F as bs → Paired F cs ds → Paired F (as ++ cs) (bs ++ ds)
  | _, _, _, _, .nil, r => r
  | _, _, _, _, .cons a h, r => .cons a (pairApp h r)
theorem kt_fst {H : Hp} : ∀ {kvs : List (List Key × V)} {xs : List (List Key × Addr × Value)}, KT H kvs xs → xs.map Prod.fst = kvs.map Prod.fst
  | [], [], _ => rfl
  | [], _ :: _, h => by cases h
  | _ :: _, [], h => by cases h
  | k :: kvs, x :: xs, h => by
    cases h with
    | cons a r => rw [List.map_cons, List.map_cons, kt_fst r, a.1]
section
variable {X : Cx} {pins : List (Addr × Obj)} {σ : L2.St} {d : Addr} {Q : PUnit → Shared → Prop} {A : Around} {E : Value → Shared → Prop}
theorem dispT_loop (hu : A.units < cLine) : ∀ {rest : List (V × V)} {vs : List (Value × Value)} {kvs acc : List (List Key × V)} {H : Hp} {s : Shared}, L2.Inv X pins σ H s → H d = some (.dT acc) → VV rest vs → KeysT H rest kvs →
    (acc.map Prod.fst ++ kvs.map Prod.fst).Nodup → acc.length + kvs.length ≤ 15 → (∀ s', L2.Inv X pins σ (upd H d (.dT (acc ++ kvs))) s' → Q ⟨⟩ s') → wpAny (model X.prog X.w) A (storeAll d vs) Q E s
  | [], vs, kvs, acc, H, s, I, hd, hv, hk, nd, hl, q => by
    cases hk
    cases hv
    refine store_nil (q _ ?_)
    rw [List.append_nil, upd_id hd]
    exact I
  | p :: rest, vs, kvs, acc, H, s, I, hd, hv, hk, nd, hl, q => by
    cases hk with
    | @cons _ kv _ kvs h hk =>
    cases hv with
    | @cons _ uv _ vs r hv =>
    obtain ⟨b, rfl, hb⟩ := h
    obtain ⟨u, v⟩ := uv
    obtain ⟨r1, r2⟩ := r
    cases (show u = Value.ref b from r1)
    obtain ⟨z, hs, xs, kt, D⟩ := dt_of I.hok hd
    have bd : b ≠ d := fun e => by rw [e, hd] at hb; cases hb
    have nk : kv.1 ∉ xs.map Prod.fst := by
      rw [kt_fst kt]
      intro m
      rw [List.nodup_append] at nd
      exact nd.2.2 _ m kv.1 (by rw [List.map_cons]; exact List.mem_cons_self) rfl
    have lx : xs.length = acc.length := (Paired.length kt).symm
    rw [List.length_cons] at hl
    have big : 15 ≤ sizeLine := by rw [sizeLine_eq]; decide
    refine store_cons (wpAny_dictSet_heap (knd := tupleKind (mixKind X.prog X.w)) hu (key_of I.hok hb) D (fun h' D' sb => ?_) (by omega))
    rw [show storedH xs kv.1 b v = xs ++ [(kv.1, b, v)] from by
      unfold storedH
      rw [at_none nk]
      rfl] at D'
    obtain ⟨o, es, ep, g, ex, dat, tol, _, ndx⟩ := id D'
    have I' := d_write (ob := .dT (acc ++ [kv])) (t' := s.toks + (tupleKind (mixKind X.prog X.w)).draws kv.1) I (by rw [hd]; exact True.intro) sb ⟨o, g⟩ ⟨by rw [List.length_append]; show acc.length + 1 ≤ sizeLine; omega, hs, xs ++ [(kv.1, b, v)], by
      refine pairApp (L2.Paired.mapP kt fun p q e => ⟨e.1, ?_, e.2.2⟩) (.cons ⟨rfl, by rw [upd_ne bd]; exact hb, r2⟩ .nil)
      rw [upd_ne (fun z => by
        have := e.2.1
        rw [z, hd] at this
        cases this)]
      exact e.2.1, o, es, ep, g, ex, dat, tol, ndx⟩
    refine dispT_loop hu I' upd_same hv (L2.Paired.mapP hk fun p q e => ?_) ?_ (by rw [List.length_append]; show acc.length + 1 + kvs.length ≤ 15; omega) fun s' I2 => q s' ?_
    · obtain ⟨b', e1, e2⟩ := e
      exact ⟨b', e1, by rw [upd_ne (fun z => by rw [z, hd] at e2; cases e2)]; exact e2⟩
    · rw [List.map_append, List.append_assoc]
      exact nd
    · rw [upd_upd, List.append_assoc] at I2
      exact I2
end
/-- {k: v, ..} whose keys are different tuples of texts and numbers -/
def tDispT (trs : List (TE × TE)) : TE := fun σ H Q => ∀ p, H p = none → tPairs trs σ (upd H p (.dT [])) fun ps H2 => H2 p = some (.dT []) ∧ ∃ kvs : List (List Key × V), KeysT H2 ps kvs ∧ (kvs.map Prod.fst).Nodup ∧ kvs.length ≤ 15 ∧ Q (.ref p) (upd H2 p (.dT kvs))
theorem pe_dispT {X : Cx} {pos : Pos} {keys : List (Option Expr)} {values : List Expr} {trs : List (TE × TE)} (hu : X.A.units < cLine) (h : PPs X pos keys values trs) (h1 : (keys.all fun x => x.isSome) = true) (h2 : keys.length = values.length) (h3 : keys ≠ []) (h4 : keys.length ≤ 15) :
    PE X (.Dict keys values pos) (tDispT trs) := by
  refine ⟨fun pins s σ H Q I q => ?_⟩
  refine wpAny_Dict_any h1 h2 h3 h4 ?_
  have I0 : L2.Inv X pins σ (upd H s.heap.objs.size (.dT [])) { s with heap := s.heap.push { cls := .type "dict", data := .dict #[] } } :=
    I.laid (t' := s.toks) (fun b u e => Heap.get?_push_of_some _ e) (Nat.le_refl _) (dt_empty s.heap I.big)
  refine wpAny_mono (h.run pins _ σ _ _ I0 (q _ (I.hok.fresh (Nat.le_refl _)))) (fun vs s' z => ?_) fun _ _ e => e
  obtain ⟨ps, H', I', hv, hd, kvs, hk, nd, hl, q'⟩ := z
  refine dispT_loop hu I' hd hv hk (by rw [List.map_nil, List.nil_append]; exact nd) (by simpa using hl) fun s'' I2 => ?_
  exact ⟨.ref _, _, I2, rfl, q'⟩
/-- a text, a number, a truth value or None -/
def leafK : V → Option NestedKey
  | .non => some .none
  | .bl b => some (.num (if b = true then 1 else 0))
  | .int i => some (.num i)
  | .str x => some (.text x)
  | _ => none
theorem leaf_is {h : Heap} {x : V} {u : Value} {k : NestedKey} (r : RelV x u) (e : leafK x = some k) : NestedIs h k u ∧ k.depth = 0 := by
  cases x with
  | non => cases e; cases (show u = Value.none from r); exact ⟨.none, by simp [NestedKey.depth]⟩
  | bl b => cases e; cases (show u = Value.bool b from r); exact ⟨.bool rfl, by simp [NestedKey.depth]⟩
  | int i => cases e; obtain ⟨t, rfl⟩ := (show ∃ t, u = Value.int i t from r); exact ⟨.int i t, by simp [NestedKey.depth]⟩
  | str y => cases e; obtain ⟨t, rfl⟩ := (show ∃ t, u = Value.str y t from r); exact ⟨.text y t, by simp [NestedKey.depth]⟩
  | _ => cases e
theorem leaf_all {h : Heap} : ∀ {xs : List V} {us : List Value}, Vals xs us → (∀ x ∈ xs, (leafK x).isSome = true) → ∃ ks, NestedAll h ks us ∧ NestedKey.depthAll ks = 0
  | [], [], _, _ => ⟨[], .nil, by simp [NestedKey.depthAll]⟩
  | [], _ :: _, h, _ => by cases h
  | _ :: _, [], h, _ => by cases h
  | x :: xs, u :: us, r, hl => by
    cases r with
    | cons a r =>
      obtain ⟨ks, h1, h2⟩ := leaf_all (h := h) r fun y hy => hl y (List.mem_cons_of_mem _ hy)
      obtain ⟨k, e⟩ := Option.isSome_iff_exists.mp (hl x List.mem_cons_self)
      obtain ⟨h3, h4⟩ := leaf_is (h := h) a e
      exact ⟨k :: ks, .cons h3 h1, by simp only [NestedKey.depthAll, h2, h4]; rfl⟩
/-- {k: v} whose key is a tuple of plain values -/
def tDispN (trs : List (TE × TE)) : TE := fun σ H Q => ∀ p, H p = none → tPairs trs σ (upd H p (.dT [])) fun ps H2 => H2 p = some (.dT []) ∧ ∃ (b : Addr) (v : V) (xs : List V), ps = [(.ref b, v)] ∧ H2 b = some (.tup xs) ∧ (∀ x ∈ xs, (leafK x).isSome = true) ∧
  Q (.ref p) (upd H2 p (MxO p [(.ref b, v)]))
theorem pe_dispN {X : Cx} {pos : Pos} {keys : List (Option Expr)} {values : List Expr} {trs : List (TE × TE)} (hu : X.A.units + 64 < cLine) (h : PPs X pos keys values trs) (h1 : (keys.all fun x => x.isSome) = true) (h2 : keys.length = values.length) (h3 : keys ≠ []) (h4 : keys.length ≤ 15) :
    PE X (.Dict keys values pos) (tDispN trs) := by
  refine ⟨fun pins s σ H Q I q => ?_⟩
  refine wpAny_Dict_any h1 h2 h3 h4 ?_
  have I0 : L2.Inv X pins σ (upd H s.heap.objs.size (.dT [])) { s with heap := s.heap.push { cls := .type "dict", data := .dict #[] } } :=
    I.laid (t' := s.toks) (fun b u e => Heap.get?_push_of_some _ e) (Nat.le_refl _) (dt_empty s.heap I.big)
  refine wpAny_mono (h.run pins _ σ _ _ I0 (q _ (I.hok.fresh (Nat.le_refl _)))) (fun vs s' z => ?_) fun _ _ e => e
  generalize s.heap.objs.size = d at z
  obtain ⟨ps, H', I', hv, hd, b, v, xs, rfl, hb, hx, q'⟩ := z
  cases hv with
  | @cons _ uv _ vs r hv =>
  cases hv
  obtain ⟨u, vv⟩ := uv
  obtain ⟨r1, r2⟩ := r
  cases (show u = Value.ref b from r1)
  obtain ⟨z, hs, ys, kt, o, es, ep, g, ex, dat, tol, _, _⟩ := dt_of I'.hok hd
  cases kt
  obtain ⟨_, its, rt, o', g1, g2, n, g3⟩ := (show ObjOk X.prog X.w H' s'.heap b (.tup xs) from I'.hok b _ hb)
  obtain ⟨ks, ka, kd⟩ := leaf_all (h := s'.heap) rt hx
  have his : (nestedKind X.prog X.w).is s'.heap (.tup ks) b := ⟨.tup g1 g2 g3 (by simpa using ka), by simp only [NestedKey.depth, kd]; decide⟩
  have D : Heap.DictOfH (nestedKind X.prog X.w) s'.heap d [] := ⟨o, es, ep, g, ex, dat, tol, (fun x hx => nomatch hx), List.nodup_nil⟩
  refine store_cons (wpAny_dictSet_heap (knd := nestedKind X.prog X.w) (show X.A.units + 8 < cLine by omega) his D (fun h' D' sb => ?_) (by simp))
  have D' : Heap.DictOfH (nestedKind X.prog X.w) h' d [(.tup ks, b, vv)] := D'
  obtain ⟨es', ep', raw, sz, he⟩ := D'.raw
  have ent : EntV [(V.ref b, v)] es' := by
    refine ⟨sz, fun i k w hk => ?_⟩
    have i0 : i = 0 := by
      have := (List.getElem?_eq_some_iff.mp hk).1
      simp at this
      exact this
    subst i0
    cases hk
    have l0 : 0 < es'.size := by rw [sz]; exact Nat.one_pos
    obtain ⟨y, h1, h2, h3, _⟩ := he 0 l0
    cases h1
    exact ⟨es'[0], Array.getElem?_eq_getElem l0, by rw [h2]; rfl, by rw [h3]; exact r2⟩
  refine store_nil ?_
  refine ⟨.ref d, _, d_write (ob := MxO d [(V.ref b, v)]) (t' := s'.toks + (nestedKind X.prog X.w).draws (.tup ks)) I' (by rw [hd]; exact True.intro) sb (let ⟨q, hq, _⟩ := raw; ⟨q, hq⟩) ?_, rfl, q'⟩
  refine ⟨⟨hs, by rw [sizeLine_eq]; exact Nat.le_of_ble_eq_true rfl, es', ep', raw, ent⟩, (let ⟨q, hq, _⟩ := raw; ⟨q, hq⟩), fun h1 h2 p kk => ?_⟩
  obtain ⟨p1, p2, es1, ep1, r1, e1⟩ := p
  exact ⟨p1, p2, es1, ep1, r1.at kk, e1⟩
/-- a walk over the keys of a dict, whatever they are -/
def iKeysU (td : TE) : TI := fun σ H R => td σ H fun x H1 => ∃ d o, x = .ref d ∧ ((∃ u kvs, H1 d = some (.frz o u) ∧ DM d u kvs ∧ R (Mtk d o u kvs) H1) ∨ ∃ kvs, H1 d = some (.frz o (.dT kvs)) ∧ R (Itkt d o kvs) H1)
theorem pi_keysU {X : Cx} {tg e : Expr} {td : TE} (he : PE X e td) : PI X tg e (iKeysU td) := by
  refine ⟨fun pins s σ H R I h => ?_⟩
  refine thn (he.run pins s σ H _ I h) fun v s1 ⟨x, H1, I1, rx, d, o, ex, z⟩ => ?_
  subst ex
  obtain rfl : v = Value.ref d := rx
  rcases z with ⟨u, kvs, hd, D, q⟩ | ⟨kvs, hd, q⟩
  · obtain ⟨hs, hz, es, ep, hdt, hr, ent⟩ := frzM I1 hd D
    exact wpAny_pyIter_dict_raw hs hr (pi_one (tk := s1.toks) I1 _ (turn_keysM D _ hdt) ⟨_, Heap.get?_push_size _ rfl, rfl, rfl⟩ q)
  · obtain ⟨hs, ho, hx, es, ep, hdt, hz, _⟩ := I1.frzT hd
    refine iter_keys hs ho hx hdt ?_
    rw [hz]
    exact pi_one (tk := s1.toks) I1 _ (turn_keysT _ hdt) ⟨_, Heap.get?_push_size _ rfl, rfl, rfl⟩ q
end Fn

set_option Elab.async false
set_option linter.all false
set_option maxRecDepth 100000
set_option maxHeartbeats 4000000
/-! The facts of the own classes InvalidTable, InvalidRows, InvalidProgram, InvalidOperation and ParseError, and that nothing plain is a Program; which clause takes which. What is never reached; the smaller of two numbers, or of two rows of numbers. -/
namespace Fn
open PySem PySem.Spec PyProof.Rows L2
structure TexZ (K : PySem.W.Frag) (mg : Str → Option Value) (x : Xa) : Prop where
  gB : mg "InvalidTable" = some (.ref x.B)
  gR : mg "InvalidRows" = some (.ref x.R)
  gP : mg "InvalidProgram" = some (.ref x.P)
  gO : mg "InvalidOperation" = some (.ref x.O)
  gC : mg "ParseError" = some (.ref x.C)
  gG : mg "Program" = some (.ref x.G)
  exc : ∀ i < 4, PySem.W.excIn K (five x i) tVal "ValueError.__new__" = true
  keep : ∀ i < 4, PySem.W.keepIn K (.ref (five x i)) = true
  sub : ∀ i < 4, PySem.W.subIn K (.ref (five x i)) (.type "BaseException") = some true
  ty : ∀ i < 4, PySem.W.typeIn K (.ref (five x i)) = some (.type "type")
  o : OexC K x.C
  ini : IniC K x.C x.I "line"
  xf : XfC K x.C
  exm : ∀ i j : Nat, i < 5 → j < 5 → PySem.W.exmOne K (.ref (five x i)) (.ref (five x j)) = some (i == j)
  kit : ∀ n ∈ tyNs, PySem.W.kitOne K (.type n) (.ref x.G) = some false
theorem four_of {p : Nat → Prop} (h0 : p 0) (h1 : p 1) (h2 : p 2) (h3 : p 3) : ∀ i < 4, p i
  | 0, _ => h0
  | 1, _ => h1
  | 2, _ => h2
  | 3, _ => h3
  | n + 4, h => absurd h (by omega)
theorem texZ {K : PySem.W.Frag} {mg : Str → Option Value} {x : Xa} (gB : mg "InvalidTable" = some (.ref x.B)) (gR : mg "InvalidRows" = some (.ref x.R)) (gP : mg "InvalidProgram" = some (.ref x.P)) (gO : mg "InvalidOperation" = some (.ref x.O)) (gC : mg "ParseError" = some (.ref x.C)) (gG : mg "Program" = some (.ref x.G))
    (eB : PySem.W.excIn K x.B tVal "ValueError.__new__" = true) (eR : PySem.W.excIn K x.R tVal "ValueError.__new__" = true) (eP : PySem.W.excIn K x.P tVal "ValueError.__new__" = true) (eO : PySem.W.excIn K x.O tVal "ValueError.__new__" = true) (h : texB K x = true) : TexZ K mg x := by
  simp only [texB, Bool.and_eq_true, decide_eq_true_eq] at h
  obtain ⟨h0, h1, h2, h3, h4, h5⟩ := h
  have e := exB_ok h1
  have i := iniB_ok bVal e h2
  have h2' := h2
  simp only [iniB, Bool.and_eq_true, decide_eq_true_eq] at h2'
  obtain ⟨nm, q, N, bs, bm, sn, sub, ab, col, dd, k0, k1, k2, k3, k5, hl, ho⟩ := clsX_obj h2'.1
  have f4 : ∀ i < 4, PySem.W.keepIn K (.ref (five x i)) = true ∧ PySem.W.subIn K (.ref (five x i)) (.type "BaseException") = some true ∧ PySem.W.typeIn K (.ref (five x i)) = some (.type "type") := fun i hi => by
    have z := List.all_eq_true.mp h0 i (List.mem_range.mpr hi)
    simp only [Bool.and_eq_true, decide_eq_true_eq] at z
    exact z
  exact ⟨gB, gR, gP, gO, gC, gG, four_of eB eR eP eO, fun i hi => (f4 i hi).1, fun i hi => (f4 i hi).2.1, fun i hi => (f4 i hi).2.2,
    ⟨⟨nm, q, N, bs, bm, sn, sub, ab, col, dd, k0, k1, k2, k3, k5, hl, refs_of ho⟩, i.o.sa, e.f.exC, h3, e.k⟩, i, e.f, fun i j hi hj => of_decide_eq_true (List.all_eq_true.mp (List.all_eq_true.mp h5 i (List.mem_range.mpr hi)) j (List.mem_range.mpr hj)),
    fun n hn => of_decide_eq_true (List.all_eq_true.mp h4 n hn)⟩
section
variable {K : PySem.W.Frag} {mg : Str → Option Value} {x : Xa} {W : WX} {D : Ends} {t0 t1 t2 t3 t4 : Addr → Value → Option Addr → TS} {i4 : Nat} {d : Option Addr} {σ : L2.St} {H : Hp}
abbrev cl5 (x : Xa) (i4 : Nat) (t0 t1 t2 t3 t4 : Addr → Value → Option Addr → TS) : List Cls1 := [(.ref x.B, none, t0), (.ref x.R, none, t1), (.ref x.P, none, t2), (.ref x.O, none, t3), (.ref x.C, some i4, t4)]
theorem tex0 (Z : TexZ K mg x) (h : ∀ a, H a = none → t0 a (.ref x.B) d D σ H) : wAny K W D (cl5 x i4 t0 t1 t2 t3 t4) (.ref x.B) d σ H :=
  ⟨true, Z.exm 0 0 (by decide) (by decide), fun _ a n => h a n, fun z => nomatch z⟩
theorem tex1 (Z : TexZ K mg x) (h : ∀ a, H a = none → t1 a (.ref x.R) d D σ H) : wAny K W D (cl5 x i4 t0 t1 t2 t3 t4) (.ref x.R) d σ H :=
  ⟨false, Z.exm 1 0 (by decide) (by decide), (fun z => nomatch z), fun _ => ⟨true, Z.exm 1 1 (by decide) (by decide), fun _ a n => h a n, fun z => nomatch z⟩⟩
theorem tex2 (Z : TexZ K mg x) (h : ∀ a, H a = none → t2 a (.ref x.P) d D σ H) : wAny K W D (cl5 x i4 t0 t1 t2 t3 t4) (.ref x.P) d σ H :=
  ⟨false, Z.exm 2 0 (by decide) (by decide), (fun z => nomatch z), fun _ => ⟨false, Z.exm 2 1 (by decide) (by decide), (fun z => nomatch z), fun _ => ⟨true, Z.exm 2 2 (by decide) (by decide), fun _ a n => h a n, fun z => nomatch z⟩⟩⟩
theorem tex3 (Z : TexZ K mg x) (h : ∀ a, H a = none → t3 a (.ref x.O) d D σ H) : wAny K W D (cl5 x i4 t0 t1 t2 t3 t4) (.ref x.O) d σ H :=
  ⟨false, Z.exm 3 0 (by decide) (by decide), (fun z => nomatch z), fun _ => ⟨false, Z.exm 3 1 (by decide) (by decide), (fun z => nomatch z), fun _ => ⟨false, Z.exm 3 2 (by decide) (by decide), (fun z => nomatch z), fun _ => ⟨true, Z.exm 3 3 (by decide) (by decide), fun _ a n => h a n, fun z => nomatch z⟩⟩⟩⟩
theorem tex4 (Z : TexZ K mg x) (h : ∀ a, H a = none → t4 a (.ref x.C) d (offAt i4 D) (σ.set i4 (some (.ref a))) H) : wAny K W D (cl5 x i4 t0 t1 t2 t3 t4) (.ref x.C) d σ H :=
  ⟨false, Z.exm 4 0 (by decide) (by decide), (fun z => nomatch z), fun _ => ⟨false, Z.exm 4 1 (by decide) (by decide), (fun z => nomatch z), fun _ => ⟨false, Z.exm 4 2 (by decide) (by decide), (fun z => nomatch z), fun _ => ⟨false, Z.exm 4 3 (by decide) (by decide), (fun z => nomatch z), fun _ => ⟨true, Z.exm 4 4 (by decide) (by decide), fun _ a n => h a n, fun z => nomatch z⟩⟩⟩⟩⟩
end
/-! ### what is never reached -/
theorem pe_dead {X : Cx} {e : Expr} : PE X e (fun _ _ _ => False) := ⟨fun _ _ _ _ _ _ h => h.elim⟩
theorem pa_starK {X : Cx} {K : PySem.W.Frag} {e : Expr} {es : List Expr} {te : TE} {t : TA} {p : Pos} (h : PE X e te) (h2 : PA X es t) (hK : X.K = K := by rfl) (hs : starEach (.Starred e p :: es) X.env = (true, eval e X.env) :: starEach es X.env := by rfl) : PA X (.Starred e p :: es) (StX.tStar K te t) := by
  subst hK
  exact StX.pa_star h h2 hs
/-! ### less: two numbers, or two tuples of numbers -/
def rLtU (K : PySem.W.Frag) : R2 := fun x y H Q => (∃ i j : Int, x = .int i ∧ y = .int j ∧ Q (.bl (decide (i < j))) H) ∨ rLtT K x y H Q
theorem op_ltU {X : Cx} {K : PySem.W.Frag} (hu : X.A.units < cLine) (hK : X.K = K := by rfl) : OpR X (compareOp .Lt) (rLtU K) := fun pins s σ H x y u v Q I r1 r2 h => by
  subst hK
  rcases h with ⟨i, j, e1, e2, q⟩ | h
  · exact op_lt pins s σ H x y u v Q I r1 r2 ⟨i, j, e1, e2, q⟩
  · exact op_ltT hu pins s σ H x y u v Q I r1 r2 h
end Fn

set_option Elab.async false
set_option linter.all false
set_option maxRecDepth 100000
set_option maxHeartbeats 4000000
/-! Written values: a text, a number, None, a truth value, an empty dict, and tuples and lists of such, as data that lie in what is new. -/
namespace Fn
open PySem PySem.Spec PyProof.Rows L2
/-- what is new in a heap -/
def newIn (H H' : Hp) : Hp := fun b => if (H b).isSome = true then none else H' b
section
variable {H H1 H2 : Hp}
theorem newIn_at {b : Addr} (n : H b = none) : newIn H H1 b = H1 b := by
  unfold newIn
  rw [n]
  rfl
theorem newIn_some {b : Addr} {o : HO} (h : newIn H H1 b = some o) : H b = none ∧ H1 b = some o := by
  unfold newIn at h
  cases z : H b with
  | none => rw [z] at h; exact ⟨rfl, h⟩
  | some x => rw [z] at h; cases h
theorem newIn_l (s : Same H1 H2) : Same (newIn H H1) (newIn H H2) := fun b o h => by
  obtain ⟨n, e⟩ := newIn_some h
  rw [newIn_at n]
  exact s _ _ e
theorem newIn_r (s : Same H H1) : Same (newIn H1 H2) (newIn H H2) := fun b o h => by
  obtain ⟨n, e⟩ := newIn_some h
  have n0 : H b = none := by
    cases z : H b with
    | none => rfl
    | some x => rw [s _ _ z] at n; cases n
  rw [newIn_at n0]
  exact e
theorem newIn_all : Same (newIn H H1) H1 := fun b o h => (newIn_some h).2
theorem newIn_del {p : Addr} {o : HO} (hp : H p = some o) : Same (newIn H H1) (del H1 p) := fun b q h => by
  obtain ⟨n, e⟩ := newIn_some h
  rw [del_ne (fun z => by rw [z, hp] at n; cases n)]
  exact e
theorem new_none {p : Addr} (s : Same H H1) (n : H1 p = none) : H p = none := by
  cases z : H p with
  | none => rfl
  | some x => rw [s _ _ z] at n; cases n
theorem upd_sm {p : Addr} {o : HO} (n : H p = none) : Same H (upd H p o) := fun b q h => by
  rw [upd_ne (fun z => by rw [z, n] at h; cases h)]
  exact h
end
theorem PE_imp {X : Cx} {e : Expr} {t u : TE} (h : PE X e t) (f : ∀ σ H Q, u σ H Q → t σ H Q) : PE X e u := ⟨fun pins s σ H Q I q => h.run pins s σ H Q I (f σ H Q q)⟩
theorem PA_imp {X : Cx} {es : List Expr} {t u : TA} (h : PA X es t) (f : ∀ σ H Q, u σ H Q → t σ H Q) : PA X es u := ⟨fun pos pins s σ H Q I q => h.run pos pins s σ H Q I (f σ H Q q)⟩
def tLit (d : PyData) : TE := fun _ H Q => ∀ v H', Same H H' → Dx (newIn H H') v d → Q v H'
def tLits (ds : List PyData) : TA := fun _ H Q => ∀ vs H', Same H H' → DxAll (newIn H H') vs ds → Q vs H'
section
variable {X : Cx}
theorem lit_non {j : Nat} {pos : Pos} : PE X (.Constant .none j pos) (tLit .none) := PE_imp pe_non fun σ H Q q => q _ H (Same.refl H) .non
theorem lit_int {i : Int} {j : Nat} {pos : Pos} : PE X (.Constant (.int i) j pos) (tLit (.int i)) := PE_imp pe_int fun σ H Q q => q _ H (Same.refl H) (.int i)
theorem lit_str {x : Str} {j : Nat} {pos : Pos} : PE X (.Constant (.str x) j pos) (tLit (.str x)) := PE_imp pe_str fun σ H Q q => q _ H (Same.refl H) (.str x)
theorem lit_of {e : Expr} {v : V} {d : PyData} (h : PE X e (tC v)) (hd : ∀ H, Dx H v d) : PE X e (tLit d) := PE_imp h fun σ H Q q => q _ H (Same.refl H) (hd _)
theorem lit_bl {b : Bool} {j : Nat} {pos : Pos} : PE X (.Constant (.bool b) j pos) (tLit (.bool b)) := PE_imp pe_bl fun σ H Q q => q _ H (Same.refl H) (.bl b)
theorem lit_neg {i : Int} {j : Nat} {p1 p2 : Pos} : PE X (.UnaryOp .USub (.Constant (.int i) j p1) p2) (tLit (.int (-i))) := PE_imp (pe_un un_neg pe_int) fun σ H Q q => ⟨_, rfl, q _ H (Same.refl H) (.int _)⟩
theorem lit_pow {i j : Int} {k l : Nat} {p1 p2 p3 : Pos} (c : CPowW i j) : PE X (.BinOp (.Constant (.int i) k p1) .Pow (.Constant (.int j) l p2) p3) (tLit (.int (i ^ j.toNat))) := PE_imp (pe_op op_powW pe_int pe_int) fun σ H Q q => ⟨_, _, rfl, rfl, c, q _ H (Same.refl H) (.int _)⟩
theorem lits_nil : PA X [] (tLits []) := PA_imp pa_nil fun σ H Q q => q [] H (Same.refl H) .nil
theorem lits_cons {e : Expr} {es : List Expr} {d : PyData} {ds : List PyData} (h : PE X e (tLit d)) (h2 : PA X es (tLits ds)) (hs : starEach (e :: es) X.env = (false, eval e X.env) :: starEach es X.env := by rfl) : PA X (e :: es) (tLits (d :: ds)) :=
  PA_imp (pa_cons h h2 hs) fun σ H Q q => fun v H1 s1 x1 vs H2 s2 x2 => q (v :: vs) H2 (s1.trans s2) (.cons (x1.same (newIn_l s2)) (x2.same (newIn_r s1)))
theorem lit_tup {es : List Expr} {ds : List PyData} {k : Nat} {pos : Pos} (h : PA X es (tLits ds)) (hl : ds.length ≤ 1000 := by decide) : PE X (.Tuple es k pos) (tLit (.tuple ds)) :=
  PE_imp (pe_tup h) fun σ H Q q => fun vs H1 s1 x1 => ⟨by rw [x1.len, sizeLine_eq]; omega, fun p n => q (.ref p) _ (s1.trans (upd_sm n)) (.tup (by rw [newIn_at (new_none s1 n)]; exact upd_same) (x1.same (newIn_l (upd_sm n))))⟩
theorem lit_lst {es : List Expr} {ds : List PyData} {pos : Pos} (h : PA X es (tLits ds)) (hl : ds.length ≤ 1000 := by decide) : PE X (.List es pos) (tLit (.list ds)) :=
  PE_imp (pe_lst h) fun σ H Q q => fun vs H1 s1 x1 => ⟨by rw [x1.len, sizeLine_eq]; omega, fun p n => q (.ref p) _ (s1.trans (upd_sm n)) (.lst (by rw [newIn_at (new_none s1 n)]; exact upd_same) (x1.same (newIn_l (upd_sm n))))⟩
theorem lit_dict {pos : Pos} : PE X (.Dict [] [] pos) (tLit (.dict [])) := PE_imp pe_dnewK fun σ H Q q => fun p n => q (.ref p) _ (upd_sm n) (.dct (by rw [newIn_at n]; exact upd_same))
end
end Fn

set_option Elab.async false
set_option linter.all false
set_option maxRecDepth 100000
set_option maxHeartbeats 4000000
/-! Numbers and rows of numbers as texts: how a word, a row, rows with a separator of two signs are told, and that what was written is told again. -/
namespace Fn
open PySem PySem.Spec PyProof.Rows L2
open TL NumText
def dgC (c : Nat) : Bool := decide (48 ≤ c) && decide (c ≤ 57)
theorem dgC_iff {c : Nat} : dgC c = true ↔ 48 ≤ c ∧ c ≤ 57 := by
  unfold dgC
  rw [Bool.and_eq_true, decide_eq_true_eq, decide_eq_true_eq]
def okW (w : List Nat) : Bool := decide (1 ≤ w.length) && (decide (w.length ≤ 60) && (w.all dgC && (decide (w.head? ≠ some 48) || decide (w = [48]))))
/-- a word as a number -/
def numW (w : List Nat) : Option Int := if okW w = true then some (digitsVal w : Nat) else none
def optAll {α : Type} : List (Option α) → Option (List α)
  | [] => some []
  | none :: _ => none
  | some a :: r => match optAll r with
    | some l => some (a :: l)
    | none => none
theorem optAll_map {α : Type} (l : List α) : optAll (l.map some) = some l := by
  induction l with
  | nil => rfl
  | cons a r ih => simp only [List.map_cons, optAll, ih]
theorem optAll_none {α : Type} {l : List (Option α)} : optAll l = none ↔ none ∈ l := by
  induction l with
  | nil => simp [optAll]
  | cons a r ih =>
    cases a with
    | none => simp [optAll]
    | some a =>
      cases e : optAll r with
      | none => simp [optAll, e, ih.mp e]
      | some m =>
        have : ¬ none ∈ r := fun z => by rw [ih.mpr z] at e; cases e
        simp [optAll, e, this]
theorem optAll_some {α : Type} {l : List (Option α)} {m : List α} : optAll l = some m ↔ l = m.map some := by
  constructor
  · intro h
    induction l generalizing m with
    | nil => cases h; rfl
    | cons a r ih =>
      cases a with
      | none => cases h
      | some a =>
        cases e : optAll r with
        | none => simp [optAll, e] at h
        | some k =>
          simp [optAll, e] at h
          subst h
          rw [ih e]
          rfl
  · rintro rfl
    exact optAll_map m
/-- a row -/
def numsC (t : List Nat) : Option (List Int) := if t = [45] then some [] else optAll ((spl [32] 0 [] t).map numW)
def numI (i : Int) : List Nat := numL i.toNat
def numsS (l : List Int) : List Nat := if l = [] then [45] else joinL [32] (l.map numI)
/-- numbers that can be told again -/
def NumOk (i : Int) : Prop := 0 ≤ i ∧ i < 10 ^ 60
theorem numL_head {n : Nat} (h : 0 < n) : (numL n).head? ≠ some 48 := by
  induction n using Nat.strongRecOn with
  | _ n ih =>
    by_cases h10 : n < 10
    · rw [numL_lt h10]
      simp
      omega
    · rw [numL_step (by omega)]
      have hd : 0 < n / 10 := Nat.div_pos (by omega) (by omega)
      have := ih (n / 10) (by omega) hd
      have ne := numL_ne (n / 10)
      cases e : numL (n / 10) with
      | nil => exact absurd e ne
      | cons a r =>
        rw [e] at this
        exact this
theorem numW_num {n : Nat} (h : n < 10 ^ 60) : numW (numL n) = some (n : Int) := by
  have o : okW (numL n) = true := by
    unfold okW
    simp only [Bool.and_eq_true, Bool.or_eq_true, decide_eq_true_eq]
    refine ⟨List.length_pos_iff.mpr (numL_ne n), numL_len (by decide) h, List.all_eq_true.mpr fun c hc => ?_, ?_⟩
    · exact dgC_iff.mpr (numL_digits n c hc)
    · by_cases h0 : 0 < n
      · exact .inl (numL_head h0)
      · obtain rfl : n = 0 := by omega
        exact .inr (numL_lt (by decide))
  unfold numW
  rw [if_pos o, numL_val]
theorem numI_ok {i : Int} (h : NumOk i) : numW (numI i) = some i := by
  obtain ⟨h0, h1⟩ := h
  have e : ((i.toNat : Nat) : Int) = i := Int.toNat_of_nonneg h0
  have l : i.toNat < 10 ^ 60 := by
    have : ((i.toNat : Nat) : Int) < ((10 ^ 60 : Nat) : Int) := by rw [e]; exact h1
    exact Int.ofNat_lt.mp this
  unfold numI
  rw [numW_num l, e]
theorem numI_dig {i : Int} {c : Nat} (h : c ∈ numI i) : 48 ≤ c ∧ c ≤ 57 := numL_digits _ c h
theorem joinL_mem {s : List Nat} {c : Nat} : ∀ {ps : List (List Nat)}, c ∈ joinL s ps → c ∈ s ∨ ∃ p ∈ ps, c ∈ p
  | [], h => by cases h
  | [p], h => .inr ⟨p, List.mem_singleton_self _, h⟩
  | p :: q :: r, h => by
    have h2 : c ∈ p ++ (s ++ joinL s (q :: r)) := h
    rcases List.mem_append.mp h2 with h2 | h2
    · exact .inr ⟨p, List.mem_cons_self, h2⟩
    · rcases List.mem_append.mp h2 with h2 | h2
      · exact .inl h2
      · rcases joinL_mem h2 with h3 | ⟨x, hx, h3⟩
        · exact .inl h3
        · exact .inr ⟨x, List.mem_cons_of_mem _ hx, h3⟩
theorem numsS_signs {l : List Int} {c : Nat} (h : c ∈ numsS l) : c = 45 ∨ c = 32 ∨ (48 ≤ c ∧ c ≤ 57) := by
  unfold numsS at h
  split at h
  · simp at h
    exact .inl h
  · rcases joinL_mem h with h | ⟨p, hp, h⟩
    · simp at h
      exact .inr (.inl h)
    · obtain ⟨i, _, rfl⟩ := List.mem_map.mp hp
      exact .inr (.inr (numI_dig h))
theorem numsC_numsS {l : List Int} (h : ∀ i ∈ l, NumOk i) : numsC (numsS l) = some l := by
  unfold numsC numsS
  by_cases e : l = []
  · subst e
    rfl
  · rw [if_neg e]
    have hp : ∀ p ∈ l.map numI, (32 : Nat) ∉ p := fun p hp z => by
      obtain ⟨i, _, rfl⟩ := List.mem_map.mp hp
      have := numI_dig z
      omega
    have ne : l.map numI ≠ [] := fun z => e (List.map_eq_nil_iff.mp z)
    rw [if_neg, TL.spl_join ne hp, List.map_map, show l.map (numW ∘ numI) = l.map some from List.map_congr_left fun i hi => numI_ok (h i hi), optAll_map]
    intro z
    have hne : joinL [32] (l.map numI) ≠ [] := by rw [z]; exact List.cons_ne_nil _ _
    cases l with
    | nil => exact e rfl
    | cons i r =>
      have : (45 : Nat) ∈ joinL [32] ((i :: r).map numI) := by rw [z]; exact List.mem_singleton_self _
      rcases joinL_mem this with h | ⟨p, hp, h⟩
      · simp at h
      · obtain ⟨i, _, rfl⟩ := List.mem_map.mp hp
        have := numI_dig h
        omega
/-- which signs a row that is told can hold -/
theorem numW_signs {w : List Nat} {i : Int} (h : numW w = some i) : ∀ c ∈ w, 48 ≤ c ∧ c ≤ 57 := by
  unfold numW at h
  split at h
  · rename_i o
    unfold okW at o
    simp only [Bool.and_eq_true] at o
    exact fun c hc => dgC_iff.mp (List.all_eq_true.mp o.2.2.1 c hc)
  · cases h
theorem digits_lt {w : List Nat} (h : ∀ c ∈ w, 48 ≤ c ∧ c ≤ 57) : digitsVal w < 10 ^ w.length := by
  suffices H : ∀ (l : List Nat) (a m : Nat), (∀ c ∈ l, 48 ≤ c ∧ c ≤ 57) → a < 10 ^ m → l.foldl (fun acc c => acc * 10 + (c - 48)) a < 10 ^ (m + l.length) by
    have := H w 0 0 h (by decide)
    rw [Nat.zero_add] at this
    exact this
  intro l
  induction l with
  | nil => exact fun a m _ ha => ha
  | cons c r ih =>
    intro a m hr ha
    have hc := hr c List.mem_cons_self
    have := ih (a * 10 + (c - 48)) (m + 1) (fun x hx => hr x (List.mem_cons_of_mem _ hx)) (by rw [Nat.pow_succ]; omega)
    rw [show m + (c :: r).length = m + 1 + r.length by rw [List.length_cons]; omega]
    exact this
/-! ### cutting, in general -/
theorem pre_app {S l : List Nat} (h : pre S l = true) : l = S ++ l.drop S.length := by
  have e : l.take S.length = S := eq_of_beq h
  calc l = l.take S.length ++ l.drop S.length := (List.take_append_drop _ _).symm
    _ = S ++ l.drop S.length := by rw [e]
theorem par_spl {S : List Nat} (hS : S ≠ []) : ∀ (l acc : List Nat), (par S acc l = none ∧ spl S 0 acc l = [acc ++ l]) ∨ ∃ a r, par S acc l = some (a, r) ∧ spl S 0 acc l = a :: spl S 0 [] r ∧ acc ++ l = a ++ (S ++ r)
  | [], acc => .inl ⟨rfl, by rw [spl_nil, List.append_nil]⟩
  | c :: r, acc => by
    cases h : pre S (c :: r) with
    | true =>
      refine .inr ⟨acc, (c :: r).drop S.length, par_hit h, ?_, by rw [← pre_app h]⟩
      rw [spl_hit h, spl_pass]
      have : (c :: r).drop S.length = r.drop (S.length - 1) := by
        have l0 : 0 < S.length := List.length_pos_iff.mpr hS
        obtain ⟨n, hn⟩ : ∃ n, S.length = n + 1 := ⟨S.length - 1, by omega⟩
        rw [hn]
        rfl
      rw [this]
    | false =>
      rw [par_miss h, spl_miss h]
      have e : acc ++ c :: r = (acc ++ [c]) ++ r := by simp
      rw [e]
      exact par_spl hS r (acc ++ [c])
theorem spl_ne {S : List Nat} (hS : S ≠ []) (l : List Nat) : spl S 0 [] l ≠ [] := by
  rcases par_spl hS l [] with ⟨_, h⟩ | ⟨a, r, _, h, _⟩ <;> rw [h] <;> exact List.cons_ne_nil _ _
theorem joinL_step {S p : List Nat} {ps : List (List Nat)} (h : ps ≠ []) : joinL S (p :: ps) = p ++ (S ++ joinL S ps) := by
  cases ps with
  | nil => exact absurd rfl h
  | cons q r => rfl
theorem spl_back {S : List Nat} (hS : S ≠ []) : ∀ (n : Nat) (l : List Nat), l.length ≤ n → joinL S (spl S 0 [] l) = l := by
  intro n
  induction n with
  | zero =>
    intro l hl
    obtain rfl : l = [] := List.length_eq_zero_iff.mp (by omega)
    rw [spl_nil]
    rfl
  | succ n ih =>
    intro l hl
    rcases par_spl hS l [] with ⟨_, h⟩ | ⟨a, r, _, h, e⟩
    · rw [h]
      rfl
    · rw [h, joinL_step (spl_ne hS r), ih r ?_]
      · exact e.symm
      · have := congrArg List.length e
        simp only [List.nil_append, List.length_append] at this
        have l0 : 0 < S.length := List.length_pos_iff.mpr hS
        omega
theorem count_join {S : List Nat} {c : Nat} : ∀ {ps : List (List Nat)} {p : List Nat}, p ∈ ps → p.count c + (ps.length - 1) * S.count c ≤ (joinL S ps).count c
  | [q], p, h => by
    obtain rfl := List.mem_singleton.mp h
    show p.count c + 0 * _ ≤ p.count c
    omega
  | q :: q2 :: r, p, h => by
    have e : (joinL S (q :: q2 :: r)).count c = q.count c + (S.count c + (joinL S (q2 :: r)).count c) := by
      show (q ++ (S ++ joinL S (q2 :: r))).count c = _
      rw [List.count_append, List.count_append]
    rw [e]
    have en : ((q :: q2 :: r).length - 1) * S.count c = (r.length + 1) * S.count c := rfl
    rw [en, Nat.add_mul]
    rcases List.mem_cons.mp h with rfl | h
    · have := count_join (S := S) (c := c) (List.mem_cons_self (a := q2) (l := r))
      have e2 : ((q2 :: r).length - 1) * S.count c = r.length * S.count c := rfl
      rw [e2] at this
      omega
    · have := count_join (S := S) (c := c) h
      have e2 : ((q2 :: r).length - 1) * S.count c = r.length * S.count c := rfl
      rw [e2] at this
      omega
/-- a piece holds no more of a sign than the whole; there are no more pieces than one more than the separator's signs -/
theorem spl_count {S l p : List Nat} {c : Nat} (hS : S ≠ []) (h : p ∈ spl S 0 [] l) : p.count c + ((spl S 0 [] l).length - 1) * S.count c ≤ l.count c := by
  have := count_join (S := S) (c := c) h
  rw [spl_back hS l.length l (Nat.le_refl _)] at this
  exact this
theorem spl_num {S l : List Nat} {c : Nat} (hc : c ∈ S) : (spl S 0 [] l).length ≤ l.count c + 1 := by
  have hS : S ≠ [] := List.ne_nil_of_mem hc
  obtain ⟨p, hp⟩ := List.exists_mem_of_ne_nil _ (spl_ne hS l)
  have := spl_count (c := c) hS hp
  have c1 : 1 ≤ S.count c := List.count_pos_iff.mpr hc
  have := Nat.le_mul_of_pos_right ((spl S 0 [] l).length - 1) c1
  omega
theorem joinL_has {S : List Nat} {c : Nat} : ∀ {ps : List (List Nat)}, 2 ≤ ps.length → c ∈ S → c ∈ joinL S ps
  | [], h, _ => by simp at h
  | [_], h, _ => by simp at h
  | p :: q :: r, _, h => by
    show c ∈ p ++ (S ++ joinL S (q :: r))
    exact List.mem_append_right _ (List.mem_append_left _ h)
theorem mem_join {S p : List Nat} {c : Nat} : ∀ {ps : List (List Nat)}, p ∈ ps → c ∈ p → c ∈ joinL S ps
  | [q], h, hc => by
    obtain rfl := List.mem_singleton.mp h
    exact hc
  | q :: q2 :: r, h, hc => by
    show c ∈ q ++ (S ++ joinL S (q2 :: r))
    rcases List.mem_cons.mp h with rfl | h
    · exact List.mem_append_left _ hc
    · exact List.mem_append_right _ (List.mem_append_right _ (mem_join h hc))
theorem spl_sign {S l : List Nat} {c : Nat} (hS : S ≠ []) (h : c ∈ l) : c ∈ S ∨ ∃ p ∈ spl S 0 [] l, c ∈ p := by
  rw [← spl_back hS l.length l (Nat.le_refl _)] at h
  exact joinL_mem h
theorem numsC_signs {t : List Nat} {l : List Int} (h : numsC t = some l) : ∀ c ∈ t, c = 45 ∨ c = 32 ∨ (48 ≤ c ∧ c ≤ 57) := by
  intro c hc
  unfold numsC at h
  split at h
  · rename_i e
    rw [e] at hc
    simp at hc
    exact .inl hc
  · rw [optAll_some] at h
    rcases spl_sign (S := [32]) (by decide) hc with h1 | ⟨p, hp, h1⟩
    · simp at h1
      exact .inr (.inl h1)
    · have hm : numW p ∈ (spl [32] 0 [] t).map numW := List.mem_map_of_mem hp
      rw [h] at hm
      obtain ⟨i, _, hi⟩ := List.mem_map.mp hm
      exact .inr (.inr (numW_signs hi.symm c h1))
theorem numsC_len {t : List Nat} {l : List Int} (h : numsC t = some l) : l.length ≤ t.count 32 + 1 := by
  unfold numsC at h
  split at h
  · cases h
    exact Nat.zero_le _
  · rw [optAll_some] at h
    have := congrArg List.length h
    rw [List.length_map, List.length_map] at this
    rw [← this]
    exact spl_num (by simp)
theorem numsC_ok {t : List Nat} {l : List Int} (h : numsC t = some l) : ∀ i ∈ l, NumOk i := by
  intro i hi
  unfold numsC at h
  split at h
  · cases h
    cases hi
  · rw [optAll_some] at h
    have hm : some i ∈ (spl [32] 0 [] t).map numW := by
      rw [h]
      exact List.mem_map_of_mem hi
    obtain ⟨w, _, hw⟩ := List.mem_map.mp hm
    unfold numW at hw
    split at hw
    · rename_i o
      cases hw
      unfold okW at o
      simp only [Bool.and_eq_true, decide_eq_true_eq] at o
      refine ⟨Int.natCast_nonneg _, ?_⟩
      have := digits_lt (w := w) fun c hc => dgC_iff.mp (List.all_eq_true.mp o.2.2.1 c hc)
      have l60 : (10 : Nat) ^ w.length ≤ 10 ^ 60 := Nat.pow_le_pow_right (by decide) o.2.1
      have : (digitsVal w : Int) < ((10 ^ 60 : Nat) : Int) := Int.ofNat_lt.mpr (by omega)
      exact this
    · cases hw
end Fn

set_option Elab.async false
set_option linter.all false
set_option maxRecDepth 100000
set_option maxHeartbeats 4000000
/-! The facts of the own class ParseError alone; a def that calls what it got within a try, and returns a list of what came of it, or the line that the ParseError keeps; one table of code. -/
namespace Fn
open PySem PySem.Spec PyProof.Rows L2 LamX
structure PexZ (K : PySem.W.Frag) (mg : Str → Option Value) (p : Pa) : Prop where
  gC : mg "ParseError" = some (.ref p.C)
  o : OexC K p.C
  ini : IniC K p.C p.I "line"
  xf : XfC K p.C
  self : PySem.W.exmOne K (.ref p.C) (.ref p.C) = some true
theorem pexZ {K : PySem.W.Frag} {mg : Str → Option Value} {p : Pa} (g : mg "ParseError" = some (.ref p.C)) (h : pexB K p.C p.I = true) : PexZ K mg p := by
  simp only [pexB, Bool.and_eq_true, decide_eq_true_eq] at h
  obtain ⟨h1, h2, h3, h4⟩ := h
  have e := exB_ok h1
  have i := iniB_ok bVal e h2
  have h2' := h2
  simp only [iniB, Bool.and_eq_true, decide_eq_true_eq] at h2'
  obtain ⟨nm, q, N, bs, bm, sn, sub, ab, col, dd, k0, k1, k2, k3, k5, hl, ho⟩ := clsX_obj h2'.1
  exact ⟨g, ⟨⟨nm, q, N, bs, bm, sn, sub, ab, col, dd, k0, k1, k2, k3, k5, hl, refs_of ho⟩, i.o.sa, e.f.exC, h3, e.k⟩, i, e.f, h4⟩
/-- what comes of an exception -/
def eGot (K : PySem.W.Frag) (n : Nat) (l : List Cls1) (Q : VK) : XK := fun cls d H => ∀ σ : L2.St, σ.length = n → wAny K (fun _ _ _ _ => False) { nx := fun _ H' => Q .non H', rt := Q } l cls d σ H
def TGot (K : PySem.W.Frag) (n : Nat) (l : List Cls1) : (XK → Hp → VK → Prop) → Hp → VK → Prop := fun tl H Q => tl (eGot K n l Q) H fun v H' => ([v] : List V).length ≤ sizeLine ∧ ∀ p, H' p = none → Q (.ref p) (upd H' p (.lst [v]))
theorem gives_got {X : Cx} {Ng : List Str} {x a q : Str} {sg : Scope} {g : Addr} {cdg : Value} {p1 p2 p3 p4 p8 : Pos} {h₀ : ExceptHandler} {hds : List ExceptHandler} {l : List Cls1} (h0 : ∀ f : Addr, (L2.start Ng [V.ref f])[0]? = some (some (V.ref f)))
    (hh : ∀ (s : Shared) (H : Hp), HdsA (cxOf CX0 X.prog X.w X.K X.mg X.base Ng x sg g cdg X.A X.stack s H C8.E0).nox (h₀ :: hds) l) :
    GivesTo X Ng x sg g cdg [.Try [.Return (some (.List [.Call (.Name a p1) [] [] p2] p4)) p3] (h₀ :: hds) [] [] p8] a q (TGot X.K Ng.length l) := by
  intro f c' s H Q tl act hc h
  refine ⟨_, pss_one (ps_tryA (X := (cxOf CX0 X.prog X.w X.K X.mg X.base Ng x sg g cdg X.A X.stack s H C8.E0).nox)
      (tb := fun W D σ H => ∃ Ech : XK, (∀ cls d σ' H', Ech cls d H' → σ'.length = Ng.length → W cls d σ' H') ∧ σ[0]? = some (some (.ref f)) ∧ H c' = some (CodeO c' q) ∧ tl Ech H fun v H' => ([v] : List V).length ≤ sizeLine ∧ ∀ p, H' p = none → D.rt (.ref p) (upd H' p (.lst [v])))
      rfl rfl L2.takes0 (fun W pn xe tk _ => ?_) (hh s H)), ?_⟩
  · refine ⟨fun pins s' σ H' D I h' => ?_⟩
    obtain ⟨Ech, hW, h1, h2, h3⟩ := h'
    have hp := act _ pn xe Ech p1 p2 (takes_len tk) hW
    have hq := pss_one (ps_ret (pos := p3) (pe_lst (pos := p4) (pa_cons hp pa_nil)))
    exact hq.run pins s' σ H' D I ⟨h1, h2, h3⟩
  · exact ⟨eGot X.K Ng.length l Q, fun cls d σ' H' e hl => e σ' hl, h0 f, hc, h⟩
/-- one clause, by the name error: what the exception keeps as its line -/
def tLine (C : Addr) (i : Nat) (f : Str) : Addr → Value → Option Addr → TS := fun a cls d D σ H => σ[i]? = some (some (.ref a)) ∧ cls = .ref C ∧ ∃ (dd : Addr) (fs : List (Str × V)) (v : V), d = some dd ∧ H dd = some (.xd fs) ∧ fs.lookup f = some v ∧ D.rt v H
theorem line_named {X : Cx} {a C : Addr} {oe : Obj} {cls : Value} {d : Option Addr} {pn : List (Addr × Obj)} {n f : Str} {i : Nat} {p3 p4 p7 : Pos} (T : XfC X.K C) (hno : PySem.W.findIn X.K (.ref C) f = some none) (hz : Zc cls d oe) (hf : ∃ vs, oe.data = .fields vs)
    (hN : X.N[i]? = some n) (hv : Vis X.env.scope n)
    (hd : (n == ("__debug__" : Str)) = false := by decide) (hcd : (n == ("__classdict__" : Str)) = false := by decide) (hb : attributeBase (.Name n p3) f X.env (eval (.Name n p3) X.env) = eval (.Name n p3) X.env := by rfl) :
    PSs (X.suite a ((a, oe) :: pn)) [.Return (some (.Attribute (.Name n p3) f p4)) p7] (tLine C i f a cls d) := by
  refine PSs_imp (pss_one (ps_ret (pe_xf T hno hz hf (pe_var (i := i) hN hv hd hcd) hb))) fun D σ H ⟨h1, h2, dd, fs, v, e1, e2, e3, q⟩ => ?_
  exact ⟨_, h1, rfl, h2, dd, fs, v, e1, e2, e3, q⟩
theorem tab_mem1 {a : Addr} {x : Str} : (a, x) ∈ [(a, x)] := List.mem_cons_self
theorem tab_one1 {a : Addr} {x : Str} : ∀ p ∈ [(a, x)], p.1 = a → p.2 = x := fun p hp _ => by
  cases List.mem_singleton.mp hp
  rfl
end Fn

set_option Elab.async false
set_option linter.all false
set_option maxRecDepth 100000
set_option maxHeartbeats 4000000
/-! sorted of tuples of ints of any lengths, empty ones among them: of a list, of a set, of a dict's keys. -/
namespace Fn
open PySem PySem.Spec PyProof.Rows L2
/-! ### the order -/
theorem sum_lex : ∀ l m : List Int, PyProof.Rows.lexLt itemOrd (l.map Sum.inl) (m.map Sum.inl) = HT.lexLt l m
  | [], [] => rfl
  | [], _ :: _ => rfl
  | _ :: _, [] => rfl
  | x :: r, y :: t => by
    rw [List.map_cons, List.map_cons, HT.lexLt_cons]
    by_cases e : x = y
    · subst e
      rw [if_pos rfl, lex_self, sum_lex r t]
    · rw [if_neg e, lex_diff (fun z => e (Sum.inl.inj z))]
      rfl
section
variable {prog : Program} {w : World} {A : Around} {E : Value → Shared → Prop} {s : Shared}
theorem tupItems_ints {i : Nat} : ∀ {vs : List Value} {ns : List Int}, IntsAre vs ns → tupItems (fun _ => false) i vs = some (ns.map Sum.inl) := by
  intro vs ns h
  induction h generalizing i with
  | nil => rfl
  | @cons n t vs ns h ih =>
    show (if (false : Bool) = true then none else (tupItems (fun _ => false) (i + 1) _).map (Sum.inl n :: ·)) = _
    rw [if_neg Bool.false_ne_true, ih]
    rfl
theorem tupKey_ints {h : Heap} {v : Value} {ns : List Int} (x : TS.TupInts h v ns) : tupKey h (fun _ => false) v = some (ns.map Sum.inl) := by
  obtain ⟨a, xs, rfl, ⟨o, ho, hc, n, hd⟩, i⟩ := x
  unfold tupKey
  simp only [ho, hd]
  exact tupItems_ints i
theorem lt_tuples {x y : Value} {ns ms : List Int} {Q : Bool → Shared → Prop} (hx : TS.TupInts s.heap x ns) (hy : TS.TupInts s.heap y ms) (h : Q (HT.lexLt ns ms) s) : wpAny (model prog w) A (keyLt' (tuples' true) x y) Q E s := by
  refine tup_ltAt (shape := fun _ => false) true A E x y _ _ (tupKey_ints hx) (tupKey_ints hy) ?_
  show Q (PyProof.Rows.lexLt itemOrd (ns.map Sum.inl) (ms.map Sum.inl)) s
  rw [sum_lex]
  exact h
theorem lt_general {x y : Value} {ns ms : List Int} {Q : Bool → Shared → Prop} (hu : A.units < cLine) (hx : TS.TupInts s.heap x ns) (hy : TS.TupInts s.heap y ms) (h : Q (HT.lexLt ns ms) s) : wpAny (model prog w) A (keyLt' general' x y) Q E s := by
  obtain ⟨a, xs, rfl, ta, ia⟩ := hx
  obtain ⟨b, ys, rfl, tb, ib⟩ := hy
  show wpAny (model prog w) A (oneLt' false (.ref a) (.ref b)) Q E s
  exact PySem.W.kat_one _ _ (HT.lt_tupInts ta tb ia ib hu h)
theorem lt_oneType {x y : Value} {ns ms : List Int} {Q : Bool → Shared → Prop} (hu : A.units < cLine) (hx : TS.TupInts s.heap x ns) (hy : TS.TupInts s.heap y ms) (h : Q (HT.lexLt ns ms) s) : wpAny (model prog w) A (keyLt' oneType' x y) Q E s := by
  obtain ⟨a, xs, rfl, ta, ia⟩ := hx
  obtain ⟨b, ys, rfl, tb, ib⟩ := hy
  obtain ⟨⟨cls, dd, data, sl⟩, ho, hc, n, hd⟩ := id ta
  obtain ⟨⟨cls2, dd2, data2, sl2⟩, ho2, hc2, n2, hd2⟩ := id tb
  simp only at hc hd hc2 hd2
  subst hc hd hc2 hd2
  rw [keyLt'_oneType, oneLt'_eq]
  simp only [if_true]
  refine wpAny_bind (wpAny_cRoomFor hu ?_)
  refine wpAny_bind (wpAny_callSpecialIfBound?_slot ⟨_, ho, rfl⟩ PySem.F.slot_tuple_lt (call_meets PySem.F.slot_tuple_lt ⟨_, ho, rfl⟩ PySem.F.entry_tuple_lt (PySem.F.args_tuple_lt_2 _ _) (HT.tuple_lt_ints a b xs ys n n2 dd dd2 sl sl2 ns ms ia ib) ⟨ho, ho2, ?_⟩))
  exact wpAny_truthy_bool h
/-! ### which order the sort takes -/
theorem mapM_to {M : Model} {α β : Type} {f : α → Sem β} {g : α → β} : ∀ (l : List α) {Q : List β → Shared → Prop}, (∀ v ∈ l, ∀ (Q' : β → Shared → Prop), Q' (g v) s → wpAny M A (f v) Q' E s) → Q (l.map g) s → wpAny M A (l.mapM f) Q E s
  | [], _, _, h => by rw [List.mapM_nil]; exact wpAny_pure h
  | x :: l, Q, hf, h => by
    rw [List.mapM_cons]
    exact wpAny_bind (hf x (.head _) _ (wpAny_bind (mapM_to l (Q := fun bs s' => wpAny M A (pure (g x :: bs)) Q E s') (fun v hv => hf v (.tail _ hv)) (wpAny_pure h))))
def fstAt (h : Heap) : Value → Option Value
  | .ref a => match h.get? a with
    | some o => match o.data with
      | .seq xs _ => xs[0]?
      | _ => none
    | none => none
  | _ => none
theorem fst_none {h : Heap} {v : Value} {ns : List Int} (x : TS.TupInts h v ns) : (fstAt h v).isSome = !ns.isEmpty := by
  obtain ⟨a, xs, rfl, ⟨o, ho, hc, n, hd⟩, i⟩ := x
  unfold fstAt
  simp only [ho, hd]
  rw [← Array.getElem?_toList]
  cases i' : xs.toList with
  | nil =>
    rw [i'] at i
    cases i
    rfl
  | cons v r =>
    rw [i'] at i
    cases i
    rfl
theorem first_here {M : Model} {v : Value} {ns : List Int} {Q : Option Value → Shared → Prop} (x : TS.TupInts s.heap v ns) (h : Q (fstAt s.heap v) s) : wpAny M A (firstOfTuple' v) Q E s := by
  obtain ⟨a, xs, rfl, ⟨o, ho, hc, n, hd⟩, i⟩ := x
  have e : fstAt s.heap (.ref a) = xs[0]? := by
    unfold fstAt
    simp only [ho, hd]
  rw [e] at h
  rw [PySem.W.kas_first_eq]
  have ty : PySem.W.Looks M s.heap (typeOf (.ref a)) (.type "tuple") := (PySem.W.Looks.ld ho).andThen (by rw [hc]; exact .now)
  refine wpAny_bind (ty.here ?_)
  rw [if_neg (by simp)]
  exact wpAny_bind (listItems_at ho hd (wpAny_pure h))
theorem kind_mixed {M : Model} {vs : List Value} {v₁ : Value} {rest : List Value} {k : Value → List Int} {Q : SortKind → Shared → Prop} (e : vs = v₁ :: rest) (hp : ∀ v ∈ vs, TS.TupInts s.heap v (k v)) (h0 : ∃ v ∈ vs, k v = [])
    (h : Q (if (k v₁).isEmpty then oneType' else general') s) : wpAny M A (keyKind' vs.toArray) Q E s := by
  rw [keyKind'_eq, List.mapM_toArray, map_eq_pure_bind]
  refine wpAny_bind (wpAny_bind (mapM_to _ (g := fstAt s.heap) (fun v hv Q' hq => first_here (hp v hv) hq) (wpAny_pure ?_)))
  obtain ⟨v0, m0, e0⟩ := h0
  have n0 : ((vs.map (fstAt s.heap)).toArray.all (·.isSome)) = false := by
    rw [List.all_toArray, List.all_map, List.all_eq_false]
    refine ⟨v0, m0, ?_⟩
    show ¬ (fstAt s.heap v0).isSome = true
    rw [fst_none (hp v0 m0), e0]
    decide
  rw [if_neg (by rw [n0]; exact Bool.false_ne_true)]
  have f1 : (((vs.map (fstAt s.heap)).toArray[0]?).bind id).isSome = !(k v₁).isEmpty := by
    rw [e]
    show (fstAt s.heap v₁).isSome = _
    exact fst_none (hp v₁ (by rw [e]; exact List.mem_cons_self))
  cases ek : (k v₁).isEmpty with
  | false =>
    rw [ek] at f1 h
    rw [if_pos (show _ = true from f1)]
    exact wpAny_pure h
  | true =>
    rw [ek] at f1 h
    rw [if_neg (show ¬ _ = true by rw [f1]; decide)]
    rw [oneTypeOnly'_eq, List.mapM_toArray, map_eq_pure_bind]
    refine wpAny_bind (wpAny_bind (wpAny_bind (PySem.W.kas_mapM (r := Value.type "tuple") _ (fun v hv Q' hq => ?_) (wpAny_pure ?_))))
    · obtain ⟨a, xs, rfl, ⟨o, ho, hc, n, hd⟩, i⟩ := hp v hv
      have ty : PySem.W.Looks M s.heap (typeOf (.ref a)) (.type "tuple") := (PySem.W.Looks.ld ho).andThen (by rw [hc]; exact .now)
      exact ty.here hq
    · have hall : ((List.map (fun _ => Value.type "tuple") vs).toArray.all fun x => x == Value.type "tuple") = true := by
        simp only [List.all_toArray, List.all_map, List.all_eq_true]
        intro _ _
        exact beq_self_eq_true (Value.type "tuple")
      have h0 : (List.map (fun _ => Value.type "tuple") vs).toArray[0]? = some (Value.type "tuple") := by rw [e]; simp
      rw [h0]
      simp only [hall, if_true]
      exact wpAny_pure (wpAny_pure h)
theorem tups_firsts {h : Heap} {k : Value → List Int} : ∀ vs : List Value, (∀ v ∈ vs, TS.TupInts h v (k v)) → (∀ v ∈ vs, k v ≠ []) → ∃ fs : List Value, TupsOf h (fun _ => false) vs fs ∧ fs.length = vs.length
  | [], _, _ => ⟨[], .nil, rfl⟩
  | v :: r, hp, hn => by
    obtain ⟨fs, h1, h2⟩ := tups_firsts r (fun u hu => hp u (List.mem_cons_of_mem _ hu)) (fun u hu => hn u (List.mem_cons_of_mem _ hu))
    obtain ⟨a, xs, rfl, ⟨o, ho, hc, n, hd⟩, i⟩ := hp v List.mem_cons_self
    have ne := hn _ (List.mem_cons_self (a := Value.ref a) (l := r))
    cases i' : xs.toList with
    | nil =>
      rw [i'] at i
      generalize k (.ref a) = kk at *
      cases i
      exact absurd rfl ne
    | cons f rr =>
      rw [i'] at i
      generalize k (.ref a) = kk at *
      cases i with
      | cons m t =>
        refine ⟨_ :: fs, .cons ⟨a, o, xs, n, rfl, ho, hc, hd, by rw [← Array.getElem?_toList, i']; rfl, fun _ => ⟨_, _, rfl⟩, fun z => absurd z Bool.false_ne_true⟩ h1, by rw [List.length_cons, List.length_cons, h2]⟩
theorem tups_sortable {a : Addr} {vs : List Value} {k : Value → List Int} (h2 : 2 ≤ vs.length) (hu : A.units < cLine) (hp : ∀ v ∈ vs, TS.TupInts s.heap v (k v)) (ha : ∀ o, s.heap.get? a = some o → o.cls ≠ .type "tuple") :
    SrtO.SortableO prog w A s a vs fun v u => HT.lexLt (k v) (k u) := by
  intro h' keep
  have hp' : ∀ v ∈ vs, TS.TupInts h' v (k v) := fun v hm => (hp v hm).keeps fun b o e c => keep b o (fun z => by subst z; exact ha o e c) e
  by_cases he : ∀ v ∈ vs, k v ≠ []
  · obtain ⟨fs, t, lf⟩ := tups_firsts vs hp' he
    refine ⟨tuples' true, fun Q E hq => tup_kind (s := { s with heap := h' }) (shape := fun _ => false) (by omega) t hq, fun p q mp mq => ?_⟩
    exact lt_tuples (s := { s with heap := h' }) (hp' _ mp) (hp' _ mq) ⟨rfl, rfl⟩
  · have h0 : ∃ v ∈ vs, k v = [] := by
      apply Classical.byContradiction
      intro z
      exact he fun v hv w => z ⟨v, hv, w⟩
    cases vs with
    | nil => simp at h2
    | cons v₁ rest =>
      refine ⟨if (k v₁).isEmpty then oneType' else general', fun Q E hq => kind_mixed (s := { s with heap := h' }) rfl hp' h0 hq, fun p q mp mq => ?_⟩
      cases (k v₁).isEmpty with
      | true => exact lt_oneType (s := { s with heap := h' }) hu (hp' _ mp) (hp' _ mq) ⟨rfl, rfl⟩
      | false => exact lt_general (s := { s with heap := h' }) hu (hp' _ mp) (hp' _ mq) ⟨rfl, rfl⟩
end
/-! ### the three -/
def vI : V → Int
  | .int i => i
  | _ => 0
/-- the ints of the tuple that stands at an address -/
def intsAt (H : Hp) (a : Addr) : List Int := match H a with
  | some (.tup xs) => xs.map vI
  | _ => []
theorem intsAt_of {H : Hp} {a : Addr} {l : List Int} (h : H a = some (.tup (l.map V.int))) : intsAt H a = l := by
  unfold intsAt
  rw [h]
  show (l.map V.int).map vI = l
  rw [List.map_map]
  exact List.map_id l
def IsTupI (H : Hp) (a : Addr) : Prop := ∃ l : List Int, H a = some (.tup (l.map V.int))
theorem IsTupI.at {H : Hp} {a : Addr} (h : IsTupI H a) : H a = some (.tup ((intsAt H a).map V.int)) := by
  obtain ⟨l, e⟩ := h
  rw [intsAt_of e]
  exact e
def kAt (H : Hp) : Value → List Int
  | .ref b => intsAt H b
  | _ => []
theorem tupI_at {X : Cx} {pins : List (Addr × Obj)} {σ : L2.St} {H : Hp} {s : Shared} {b : Addr} (I : Inv X pins σ H s) (h : IsTupI H b) : TS.TupInts s.heap (.ref b) (kAt H (.ref b)) := by
  obtain ⟨_, its, rv, ob⟩ := I.hok _ _ h.at
  exact ⟨b, its.toArray, rfl, ob, show IntsAre its.toArray.toList (intsAt H b) by simpa using rv.ints⟩
/-- sorted(xs) of a list -/
def rSortUL (K : PySem.W.Frag) : List V → Hp → VK → Prop := fun vs H Q => ∃ (a : Addr) (bs : List Addr), vs = [V.ref a] ∧ SqL K H a (bs.map V.ref) ∧ (∀ b ∈ bs, IsTupI H b) ∧
  ∀ (as : List Addr) (p : Addr), as.Perm bs → as.Pairwise (fun b c => HT.lexLt (intsAt H c) (intsAt H b) = false) → H p = none → Q (.ref p) (upd H p (.lst (as.map V.ref)))
theorem cr_sortUL {X : Cx} (hu : X.A.units + 64 < cLine) : CallR X (.builtin "sorted") (rSortUL X.K) := by
  intro pins s σ H vs us Q I r h
  obtain ⟨a, bs, rfl, hs, hL, q⟩ := h
  obtain ⟨its, rv, hl, hz⟩ := I.list hs
  obtain rfl := refs_its rv
  rw [Vals.ref1 r]
  rw [List.length_map] at hz
  have pk : ∀ v ∈ bs.map Value.ref, TS.TupInts s.heap v (kAt H v) := by
    intro v hv
    obtain ⟨b, hb, rfl⟩ := List.mem_map.mp hv
    exact tupI_at I (hL b hb)
  refine SrtO.sorted_ord (NtL.swo_lexL (kAt H)) hl.isList (by rw [List.length_map]; exact hz) (fun h2 h₁ a ha kk => tups_sortable (s := { s with heap := h₁ }) (k := kAt H) h2 (by simp only [Around.in1]; omega) (fun v hm => (pk v hm).keeps fun b o e _ => (kk b o e).2) fun o2 e2 c2 => ?_) fun out hs hb => ?_
  · have e3 : some o2 = some (seqObj "list" (bs.map Value.ref).toArray 0) := e2.symm.trans ha
    cases e3
    exact absurd (Value.type.inj c2) (by decide)
  · obtain ⟨as, pas, rfl⟩ := perm_map_inv hb.perm bs rfl
    have hn : H (s.heap.objs.size + 1) = none := I.hok.fresh (Nat.le_succ _)
    obtain ⟨n, ha⟩ := sortedAll_at s.heap (bs.map Value.ref) (as.map Value.ref).toArray
    refine ⟨.ref (s.heap.objs.size + 1), upd H (s.heap.objs.size + 1) (.lst (as.map V.ref)), I.laid (t' := s.toks) (fun _ _ => sortedAll_old) (Nat.le_succ _) ⟨by rw [List.length_map, pas.length_eq]; exact hz, as.map Value.ref, n, refs_vals as, ha⟩, rfl, q as _ pas ?_ hn⟩
    exact List.pairwise_map.mp hs
/-- sorted(s) of a set -/
def rSortUS (P : Program) (w : World) : List V → Hp → VK → Prop := fun vs H Q => ∃ (a : Addr) (L : List (Addr × List Int)), vs = [V.ref a] ∧ H a = some (SetTO P w a L) ∧ (∀ p ∈ L, H p.1 = some (.tup (p.2.map V.int))) ∧
  ∀ (as : List Addr) (p : Addr), as.Perm (L.map Prod.fst) → (L.map Prod.snd).Nodup → L.length < 64 → as.Pairwise (fun b c => HT.lexLt (intsAt H c) (intsAt H b) = false) → H p = none → Q (.ref p) (upd H p (.lst (as.map V.ref)))
theorem cr_sortUS {X : Cx} (hc : X.calm = true) (hu : X.A.units + 64 < cLine) : CallR X (.builtin "sorted") (rSortUS X.prog X.w) := by
  intro pins s σ H vs us Q I r h
  obtain ⟨a, L, rfl, ha, hL, q⟩ := h
  have RT := I.hok a _ ha
  obtain ⟨es, ep, t, R⟩ := SetT0.full RT.1 fun p hp => I.isT (SqT.of (hL p hp))
  obtain ⟨o, ho, hex, hd⟩ := id R.ob
  have hsz := R.size
  have hfew := R.few
  rw [Vals.ref1 r]
  have pk : ∀ b ∈ L.map Prod.fst, TS.TupInts s.heap (.ref b) (kAt H (.ref b)) := by
    intro b hb
    obtain ⟨p, hp, rfl⟩ := List.mem_map.mp hb
    exact tupI_at I ⟨_, hL p hp⟩
  refine Calls.call_function_entry kind_sorted plain_sorted entry_sorted (args_sorted1 _) ?_
  unfold Builtin.«sorted»
  refine wpAny_bind (m := checkCount "sorted" 1 1 _) (wpAny_pure ?_)
  refine wpAny_bind (collect_set (P := X.prog) (w := X.w) (A := X.A.in1) (I.ok.hd hc) ⟨o, ho, hex.1, hd⟩ R.fits (by unfold scanBound; omega) R.tab.ris R.led fun s1 vs k1 hz g1 o1 pm => ?_)
  have hes : es.toList.map (·.2) = (L.map Prod.fst).map Value.ref := by
    rw [R.rows]
    unfold rowsOf
    rw [List.map_map, List.map_map]
    rfl
  rw [hes] at pm
  obtain ⟨as0, pas0, rfl⟩ := perm_map_inv pm (L.map Prod.fst) rfl
  have hvl : (as0.map Value.ref).length < 64 := by rw [List.length_map, pas0.length_eq, List.length_map]; exact hfew
  refine wpAny_bind (wpAny_newList ?_ (by rw [sizeLine_eq]; omega))
  have hoL : (s1.heap.push (seqObj "list" (as0.map Value.ref).toArray 0)).get? s1.heap.objs.size = some (seqObj "list" (as0.map Value.ref).toArray 0) := Heap.get?_push_size _ rfl
  have pk1 : ∀ v ∈ as0.map Value.ref, TS.TupInts (s1.heap.push (seqObj "list" (as0.map Value.ref).toArray 0)) v (kAt H v) := by
    intro v hv
    obtain ⟨b, hb, rfl⟩ := List.mem_map.mp hv
    exact (pk b (pas0.mem_iff.mp hb)).keeps fun c u e _ => Heap.get?_push_of_some _ (k1 c u e)
  refine wpAny_bind (wpAny_holding (wpAny_call_entry slot_list_sort ⟨_, hoL, rfl⟩ entry_list_sort (SrtO.list_sort_ord (s := { s1 with heap := s1.heap.push (seqObj "list" (as0.map Value.ref).toArray 0) }) (NtL.swo_lexL (kAt H)) hoL (by rw [sizeLine_eq]; omega) (fun h2 => tups_sortable h2 (by simp only [Around.in1]; omega) pk1 fun o2 e2 c2 => ?_) fun out hs hb => ⟨_, rfl, ?_⟩) (args_list_sort _)))
  · have e3 : some o2 = some (seqObj "list" (as0.map Value.ref).toArray 0) := e2.symm.trans hoL
    cases e3
    exact absurd (Value.type.inj c2) (by decide)
  · obtain ⟨as, pas, rfl⟩ := perm_map_inv hb.perm as0 rfl
    obtain ⟨c, hcl⟩ := sortedHeap_at (vs := as0.map Value.ref) (out := (as.map Value.ref).toArray) hoL
    have keep : ∀ b u, s.heap.get? b = some u → (sortedHeap (s1.heap.push (seqObj "list" (as0.map Value.ref).toArray 0)) s1.heap.objs.size (as0.map Value.ref) (as.map Value.ref).toArray).get? b = some u := fun b u e => by
      have q := k1 b u e
      have hlt := Heap.lt_size q
      rw [sortedHeap_old (Nat.ne_of_lt hlt) (by rw [size_push']; exact Nat.lt_succ_of_lt hlt)]
      exact Heap.get?_push_of_some _ q
    have hn : H s1.heap.objs.size = none := I.hok.fresh hz
    have hlen : (as.map V.ref).length ≤ sizeLine := by rw [List.length_map, pas.length_eq, sizeLine_eq]; rw [List.length_map] at hvl; omega
    have J : Inv X pins σ (upd H s1.heap.objs.size (.lst (as.map V.ref))) { s with heap := sortedHeap (s1.heap.push (seqObj "list" (as0.map Value.ref).toArray 0)) s1.heap.objs.size (as0.map Value.ref) (as.map Value.ref).toArray, gens := s1.gens, drawn := s1.drawn, toks := s1.toks } :=
      I.call (ch := []) (Un.laid keep hz hn) (I.hok.laid keep hz ⟨hlen, as.map Value.ref, c, refs_vals as, hcl⟩) (by rw [g1]; exact I.bare) (fun _ z => nomatch z)
    refine wpAny_pure ⟨_, rfl, ?_⟩
    have e : ({ s1 with heap := sortedHeap (s1.heap.push (seqObj "list" (as0.map Value.ref).toArray 0)) s1.heap.objs.size (as0.map Value.ref) (as.map Value.ref).toArray } : Shared) = { s with heap := sortedHeap (s1.heap.push (seqObj "list" (as0.map Value.ref).toArray 0)) s1.heap.objs.size (as0.map Value.ref) (as.map Value.ref).toArray, gens := s1.gens, drawn := s1.drawn, toks := s1.toks } := by
      cases s1
      cases s
      cases o1
      rfl
    refine ⟨.ref s1.heap.objs.size, _, by rw [← e] at J; exact J, rfl, q as _ (pas.trans pas0) R.nd hfew ?_ hn⟩
    exact List.pairwise_map.mp hs
/-- sorted(d) of a dict whose keys are tuples of ints -/
def rSortUD : List V → Hp → VK → Prop := fun vs H Q => ∃ (a : Addr) (kvs : List (List Key × V)) (ks : List (List Int)), vs = [V.ref a] ∧ H a = some (.dT kvs) ∧ kvs.map Prod.fst = ks.map (fun l => l.map Sum.inl) ∧
  ∀ (as : List Addr) (p : Addr), (as.map (intsAt H)).Perm ks → (∀ b ∈ as, IsTupI H b) → as.Pairwise (fun b c => HT.lexLt (intsAt H c) (intsAt H b) = false) → H p = none → Q (.ref p) (upd H p (.lst (as.map V.ref)))
theorem kv_ints : ∀ {ks : List (List Int)} {xs : List (List Key × Addr × Value)} {H : Hp}, xs.map Prod.fst = ks.map (fun l => l.map Sum.inl) → (∀ y ∈ xs, H y.2.1 = some (.tup (y.1.map kV))) → (xs.map fun y => intsAt H y.2.1) = ks ∧ ∀ y ∈ xs, IsTupI H y.2.1
  | [], [], _, _, _ => ⟨rfl, fun y hy => by cases hy⟩
  | [], _ :: _, _, e, _ => by cases e
  | _ :: _, [], _, e, _ => by cases e
  | l :: ks, y :: xs, H, e, h => by
    injection e with e1 e2
    have e1 : y.1 = l.map Sum.inl := e1
    obtain ⟨i1, i2⟩ := kv_ints e2 fun z hz => h z (List.mem_cons_of_mem _ hz)
    have hy := h y List.mem_cons_self
    rw [e1, List.map_map] at hy
    have hy : H y.2.1 = some (.tup (l.map V.int)) := hy
    refine ⟨by rw [List.map_cons, i1, intsAt_of hy], fun z hz => ?_⟩
    rcases List.mem_cons.mp hz with rfl | hz
    · exact ⟨l, hy⟩
    · exact i2 z hz
theorem pr_fst {H : Hp} : ∀ {kvs : List (List Key × V)} {xs : List (List Key × Addr × Value)}, Paired (fun (p : List Key × V) (q : List Key × Addr × Value) => p.1 = q.1 ∧ H q.2.1 = some (.tup (p.1.map kV)) ∧ RelV p.2 q.2.2) kvs xs → xs.map Prod.fst = kvs.map Prod.fst
  | _, _, .nil => rfl
  | _, _, .cons a t => by rw [List.map_cons, List.map_cons, pr_fst t, a.1]
theorem pr_at {H : Hp} : ∀ {kvs : List (List Key × V)} {xs : List (List Key × Addr × Value)}, Paired (fun (p : List Key × V) (q : List Key × Addr × Value) => p.1 = q.1 ∧ H q.2.1 = some (.tup (p.1.map kV)) ∧ RelV p.2 q.2.2) kvs xs → ∀ y ∈ xs, H y.2.1 = some (.tup (y.1.map kV))
  | _, _, .nil, y, hy => by cases hy
  | _, _, .cons a t, y, hy => by
    rcases List.mem_cons.mp hy with rfl | hy
    · rw [← a.1]
      exact a.2.1
    · exact pr_at t y hy
theorem cr_sortUD {X : Cx} (hc : X.calm = true) (hu : X.A.units + 64 < cLine) : CallR X (.builtin "sorted") rSortUD := by
  intro pins s σ H vs us Q I r h
  obtain ⟨a, kvs, ks, rfl, ha, hks, q⟩ := h
  rw [Vals.ref1 r]
  obtain ⟨z, lo, xs, hp, o, es, ep, ho, hx, hd, he, hnd⟩ := I.hok a _ ha
  have hfst : xs.map Prod.fst = ks.map (fun l => l.map Sum.inl) := by
    rw [← hks]
    exact pr_fst hp
  have hk : ∀ y ∈ xs, H y.2.1 = some (.tup (y.1.map kV)) := pr_at hp
  obtain ⟨ik, it⟩ := kv_ints hfst hk
  have hlen : es.size = xs.length := by
    have := congrArg List.length he
    rw [List.length_map, Array.length_toList] at this
    exact this
  have hxl : xs.length ≤ sizeLine := by
    have := congrArg List.length (pr_fst hp)
    rw [List.length_map, List.length_map] at this
    omega
  refine Calls.call_function_entry kind_sorted plain_sorted entry_sorted (args_sorted1 _) ?_
  unfold Builtin.«sorted»
  refine wpAny_bind (m := checkCount "sorted" 1 1 _) (wpAny_pure ?_)
  refine wpAny_bind (PySem.W.kdu_collect (A := X.A.in1) (PySem.KdlSrc.rawDict (es := es) (ep := ep) lo) (I.ok.hd hc) ⟨o, ho, hx, hd⟩ (by rw [hlen]; exact hxl) fun h' tk acc hkk hacc => ?_)
  have hal : acc.toList = (xs.map fun y => y.2.1).map Value.ref := by
    refine List.ext_getElem? fun i => ?_
    rw [List.map_map, List.getElem?_map]
    cases hy : xs[i]? with
    | none =>
      have := List.getElem?_eq_none_iff.mp hy
      rw [Array.getElem?_toList, Array.getElem?_eq_none (by rw [hacc.1, hlen]; exact this)]
      rfl
    | some y =>
      have li := (List.getElem?_eq_some_iff.mp hy).1
      have la : i < acc.size := by rw [hacc.1, hlen]; exact li
      obtain ⟨hi, e⟩ := hacc.2 i acc[i] (Array.getElem?_eq_getElem la)
      rw [Array.getElem?_toList, Array.getElem?_eq_getElem la, e]
      have e2 : es.toList[i]? = some (entryOfKey (tupleKind (mixKind X.prog X.w)) y) := by
        rw [he, List.getElem?_map, hy]
        rfl
      rw [Array.getElem?_toList, Array.getElem?_eq_getElem hi] at e2
      rw [Option.some.inj e2]
      rfl
  rw [hal]
  have I1 : Inv X pins σ H { s with heap := h', toks := tk } := I.kept hkk
  have pk : ∀ b ∈ xs.map (fun y => y.2.1), TS.TupInts h' (.ref b) (kAt H (.ref b)) := by
    intro b hb
    obtain ⟨y, hy, rfl⟩ := List.mem_map.mp hb
    exact tupI_at I1 (it y hy)
  refine wpAny_bind (wpAny_newList ?_ (by rw [List.length_map, List.length_map]; exact hxl))
  have hoL : (h'.push (seqObj "list" ((xs.map fun y => y.2.1).map Value.ref).toArray 0)).get? h'.objs.size = some (seqObj "list" ((xs.map fun y => y.2.1).map Value.ref).toArray 0) := Heap.get?_push_size _ rfl
  have pk1 : ∀ v ∈ (xs.map fun y => y.2.1).map Value.ref, TS.TupInts (h'.push (seqObj "list" ((xs.map fun y => y.2.1).map Value.ref).toArray 0)) v (kAt H v) := by
    intro v hv
    obtain ⟨b, hb, rfl⟩ := List.mem_map.mp hv
    exact (pk b hb).keeps fun c u e _ => Heap.get?_push_of_some _ e
  show wpAny _ _ _ _ _ { s with heap := h'.push (seqObj "list" ((xs.map fun y => y.2.1).map Value.ref).toArray 0), toks := tk }
  refine wpAny_bind (wpAny_holding (wpAny_call_entry slot_list_sort ⟨_, hoL, rfl⟩ entry_list_sort (SrtO.list_sort_ord (s := { s with heap := h'.push (seqObj "list" ((xs.map fun y => y.2.1).map Value.ref).toArray 0), toks := tk }) (NtL.swo_lexL (kAt H)) hoL (by rw [List.length_map, List.length_map]; exact hxl) (fun h2 => tups_sortable h2 (by simp only [Around.in1]; omega) pk1 fun o2 e2 c2 => ?_) fun out hs hb => ⟨_, rfl, ?_⟩) (args_list_sort _)))
  · have e3 : some o2 = some (seqObj "list" ((xs.map fun y => y.2.1).map Value.ref).toArray 0) := e2.symm.trans hoL
    cases e3
    exact absurd (Value.type.inj c2) (by decide)
  · obtain ⟨as, pas, rfl⟩ := perm_map_inv hb.perm (xs.map fun y => y.2.1) rfl
    obtain ⟨c, hcl⟩ := sortedHeap_at (vs := (xs.map fun y => y.2.1).map Value.ref) (out := (as.map Value.ref).toArray) hoL
    have hlen2 : (as.map V.ref).length ≤ sizeLine := by rw [List.length_map, pas.length_eq, List.length_map]; exact hxl
    refine wpAny_pure ⟨_, rfl, .ref h'.objs.size, upd H h'.objs.size (.lst (as.map V.ref)), I1.laid (t' := tk) (fun b u e => ?_) (Nat.le_refl _) ⟨hlen2, as.map Value.ref, c, refs_vals as, hcl⟩, rfl, q as _ ?_ ?_ ?_ (I1.hok.fresh (Nat.le_refl _))⟩
    · have hb : b < h'.objs.size := Heap.lt_size e
      rw [PyProof.Rows.sortedHeap_old (Nat.ne_of_lt hb) (by rw [size_push']; exact Nat.lt_succ_of_lt hb)]
      exact Heap.get?_push_of_some _ e
    · rw [← ik]
      have := pas.map (intsAt H)
      rw [List.map_map] at this
      exact this
    · intro b hb
      obtain ⟨y, hy, rfl⟩ := List.mem_map.mp (pas.mem_iff.mp hb)
      exact it y hy
    · exact List.pairwise_map.mp hs
/-- the same, the empty dict among them -/
def rSortDD : List V → Hp → VK → Prop := fun xs H Q => rSortUD xs H Q ∨ ∃ a, xs = [V.ref a] ∧ H a = some (.dK []) ∧ ∀ p, H p = none → Q (.ref p) (upd H p (.lst []))
theorem cr_sortDD {X : Cx} (hc : X.calm = true) (hu : X.A.units + 64 < cLine) : CallR X (.builtin "sorted") rSortDD := by
  intro pins s σ H vs us Q I r h
  rcases h with h | ⟨a, rfl, ha, q⟩
  · exact cr_sortUD hc hu pins s σ H vs us Q I r h
  · refine call_sortedD hc pins s σ H _ us Q I r ⟨a, [], [], rfl, .inl ha, rfl, by decide, fun ys p pm _ np => ?_⟩
    cases pm.eq_nil
    exact q p np
/-- set(t) of a tuple of ints -/
def rSetTup (K : PySem.W.Frag) (w : World) : List V → Hp → VK → Prop := fun xs H Q => ∃ (t : Addr) (ns : List Int), xs = [V.ref t] ∧ SqT K H t (ns.map V.int) ∧ ns.length ≤ 1000 ∧ ∀ (a : Addr) (c : Nat), H a = none → c ≤ ns.length → Q (.ref a) (upd H a (SetO w a (fun j => decide (j ∈ ns)) c))
theorem cr_setTup {X : Cx} (hc : X.calm = true) : CallR X (.type "set") (rSetTup X.K X.w) := by
  intro pins s σ H xs us Q I r h
  obtain ⟨t, ns, rfl, hq, hz, q⟩ := h
  rw [Vals.ref1 r]
  obtain ⟨its, rv, hT, _⟩ := I.tuple hq
  refine call_set_tupI (P := X.prog) (w := X.w) ns (I.ok.hd hc) (show s.heap.IsTuple t its.toArray from hT) (by simpa using rv.ints) (by unfold scanBound; omega) fun h' tk c R hcn k => ?_
  exact ⟨.ref s.heap.objs.size, upd H s.heap.objs.size (SetO X.w s.heap.objs.size (fun j => decide (j ∈ ns)) c), I.laid (t' := tk) k (Nat.le_refl _) (setO_new R), rfl, q _ c (I.hok.fresh (Nat.le_refl _)) hcn⟩
end Fn

set_option Elab.async false
set_option linter.all false
set_option maxRecDepth 100000
set_option maxHeartbeats 4000000
/-! dict(l) of a list of pairs whose keys are tuples; enumerate over a list. -/
namespace Fn
open PySem PySem.Spec PyProof.Rows L2
/-- the pairs at these addresses: a key's ints and texts, where it stands, its value -/
def EntU (H : Hp) (bs : List Addr) (ts : List (List Key × Addr × V)) : Prop := Paired (fun (b : Addr) (t : List Key × Addr × V) => H b = some (.tup [.ref t.2.1, t.2.2]) ∧ H t.2.1 = some (.tup (t.1.map kV))) bs ts
def rDictU (K : PySem.W.Frag) : List V → Hp → VK → Prop := fun xs H Q =>
  (∃ (a : Addr) (bs : List Addr) (ts : List (List Key × Addr × V)), xs = [.ref a] ∧ SqL K H a (bs.map V.ref) ∧ EntU H bs ts ∧ (ts.map Prod.fst).Nodup ∧ ∀ p, H p = none → Q (.ref p) (upd H p (.dT (ts.map fun t => (t.1, t.2.2))))) ∨
    ∃ a, xs = [.ref a] ∧ SqL K H a [] ∧ ∀ p, H p = none → Q (.ref p) (upd H p (.dK []))
theorem stored_all {P : Type} [DecidableEq P] : ∀ {ps xs : List (P × Addr × Value)}, ((xs ++ ps).map Prod.fst).Nodup → storedAllH xs ps = xs ++ ps
  | [], xs, _ => by rw [List.append_nil]; rfl
  | p :: ps, xs, h => by
    have nk : p.1 ∉ xs.map Prod.fst := by
      intro m
      rw [List.map_append, List.nodup_append] at h
      exact h.2.2 _ m p.1 (by rw [List.map_cons]; exact List.mem_cons_self) rfl
    have e : storedH xs p.1 p.2.1 p.2.2 = xs ++ [p] := by
      unfold storedH
      rw [at_none nk]
      rfl
    show storedAllH (storedH xs p.1 p.2.1 p.2.2) ps = _
    rw [e, stored_all (by rw [List.append_assoc]; exact h), List.append_assoc]
    rfl
section
variable {X : Cx} {pins : List (Addr × Obj)} {σ : L2.St} {H : Hp} {s : Shared}
theorem ents_of (I : Inv X pins σ H s) : ∀ {bs : List Addr} {ts : List (List Key × Addr × V)}, EntU H bs ts → ∃ ps : List (List Key × Addr × Value), ps.map Prod.fst = ts.map Prod.fst ∧ ps.length = bs.length ∧ KT H (ts.map fun t => (t.1, t.2.2)) ps ∧
    ∀ (j : Nat) (q : List Key × Addr × Value), ps[j]? = some q → ∃ b, bs[j]? = some b ∧ s.heap.IsTuple b #[.ref q.2.1, q.2.2] ∧ H q.2.1 = some (.tup (q.1.map kV))
  | _, _, .nil => ⟨[], rfl, rfl, .nil, fun j q e => by simp at e⟩
  | _, _, .cons (a := b) (b := t) h r => by
    obtain ⟨ps, h1, h2, h3, h4⟩ := ents_of I r
    obtain ⟨_, its, rv, ob⟩ := I.hok _ _ h.1
    obtain ⟨u, y, rfl, ru, ry⟩ := vals2 rv
    cases (show u = Value.ref t.2.1 from ru)
    refine ⟨(t.1, t.2.1, y) :: ps, by rw [List.map_cons, List.map_cons, h1], by rw [List.length_cons, List.length_cons, h2], .cons ⟨rfl, h.2, ry⟩ h3, fun j q e => ?_⟩
    cases j with
    | zero =>
      cases (show some (t.1, t.2.1, y) = some q from e)
      exact ⟨b, rfl, ob, h.2⟩
    | succ j =>
      obtain ⟨b', e1, e2, e3⟩ := h4 j q (by simpa using e)
      exact ⟨b', by simpa using e1, e2, e3⟩
end
theorem call_dictU {X : Cx} {K : PySem.W.Frag} (hc : X.calm = true) (hu : X.A.units + 64 < cLine) (hK : X.K = K := by rfl) : CallR X (.type "dict") (rDictU K) := by
  subst hK
  intro pins s σ H xs us Q I r q
  rcases q with ⟨a, bs, ts, rfl, hq, hE, hn, q⟩ | ⟨a, rfl, hq, q⟩
  · obtain ⟨u, rfl, rx⟩ := vals1 r
    cases rx
    obtain ⟨its, rv, pl, hz⟩ := I.list hq
    have ei := refs_at rv
    subst ei
    rw [List.length_map] at hz
    obtain ⟨ps, hf, hl, hkt, hps⟩ := ents_of I hE
    obtain ⟨o, n, ho, ho2, hd, hdat⟩ := pl
    have hnd : (ps.map Prod.fst).Nodup := by rw [hf]; exact hn
    have ok : PlainSeq "list" s.heap a (bs.map Value.ref).toArray ∧ PairItems s.heap (bs.map Value.ref).toArray (fun j => bs.getD j 0) (ps.map fun t => (Value.ref t.2.1, t.2.2)) := by
      refine ⟨⟨o, n, ho, ho2, hd, hdat⟩, by simp [hl], fun j k v e => ?_⟩
      rw [List.getElem?_map] at e
      cases ep : ps[j]? with
      | none => rw [ep] at e; cases e
      | some q =>
        rw [ep] at e
        cases e
        obtain ⟨b, e1, e2, e3⟩ := hps j q ep
        have eb : bs.getD j 0 = b := by rw [List.getD_eq_getElem?_getD, e1]; rfl
        show (bs.map Value.ref).toArray[j]? = some (Value.ref (bs.getD j 0)) ∧ PairAt s.heap (bs.getD j 0) _ _
        rw [eb]
        exact ⟨by simp [e1], .inl e2⟩
    refine PySem.call_dict_pairsH (knd := tupleKind (mixKind X.prog X.w)) (ps := ps) (PairArg.list a (bs.map Value.ref).toArray (fun j => bs.getD j 0) (ps.map fun t => (Value.ref t.2.1, t.2.2))) (I.ok.hd hc) (by show X.A.in1.in1.units < cLine; simp only [Around.in1]; omega) ok
      ⟨by rw [List.length_map], fun i key v e => ?_⟩ (fun h' hk x hx => ?_) (by rw [List.length_map, hl]; exact hz) fun h' tk hD hk => ?_
    · have e : (ps.map fun t => (Value.ref t.2.1, t.2.2))[i]? = some (key, v) := e
      rw [List.getElem?_map] at e
      cases ep : ps[i]? with
      | none => rw [ep] at e; cases e
      | some q =>
        rw [ep] at e
        cases e
        exact ⟨q.1, q.2.1, rfl, rfl⟩
    · obtain ⟨j, hj⟩ := List.getElem?_of_mem hx
      obtain ⟨b, e1, e2, e3⟩ := hps j x hj
      obtain ⟨o', items, m, ho', hc', hd', hi⟩ := key_of I.hok e3
      exact ⟨o', items, m, hk _ _ (Nat.ne_of_lt (Heap.lt_size ho')) (by simp) ho', hc', hd', hi⟩
    · rw [stored_all (xs := []) (by rw [List.nil_append]; exact hnd), List.nil_append] at hD
      obtain ⟨o', es, ep, g, ex, dat, tol, _, ndx⟩ := hD
      have hm : (s.heap.objs.size == sysModules) = false := beq_eq_false_iff_ne.mpr (Nat.ne_of_gt I.big)
      have fr := I.hok.fresh (Nat.le_refl s.heap.objs.size)
      have kt2 : KT (upd H s.heap.objs.size (.dT (ts.map fun t => (t.1, t.2.2)))) (ts.map fun t => (t.1, t.2.2)) ps := L2.Paired.mapP hkt fun p q e => ⟨e.1, by rw [upd_ne (fun z => by have := e.2.1; rw [z, fr] at this; cases this)]; exact e.2.1, e.2.2⟩
      exact ⟨.ref s.heap.objs.size, upd H s.heap.objs.size (.dT (ts.map fun t => (t.1, t.2.2))), I.laid (t' := tk) (fun b o e => hk b o (by simp) e) (Nat.le_refl _) (show ObjOk X.prog X.w _ _ _ (.dT (ts.map fun t => (t.1, t.2.2))) from
        ⟨by have := congrArg List.length hf; rw [List.length_map, List.length_map] at this; rw [List.length_map]; omega, hm, ps, kt2, o', es, ep, g, ex, dat, tol, ndx⟩), rfl, q _ fr⟩
  · exact call_dictP hc pins s σ H _ us Q I r ⟨a, [], [], rfl, hq, .nil, fun p np => q p np⟩
/-- a walk over what is a list or a tuple -/
def iSeqU (K : PySem.W.Frag) (te : TE) : TI := fun σ H R => te σ H fun x H1 => ∃ a, x = .ref a ∧ ((∃ xs, SqL K H1 a xs ∧ R (Itl K a) H1) ∨ ∃ xs, SqT K H1 a xs ∧ R (Itt K a) H1)
theorem pi_seqU {X : Cx} {tg l : Expr} {tl : TE} (hl : PE X l tl) : PI X tg l (iSeqU X.K tl) := by
  refine ⟨fun pins s σ H R I h => ?_⟩
  refine thn (hl.run pins s σ H _ I h) fun v s1 ⟨x, H1, I1, r1, a, e, z⟩ => ?_
  subst e
  cases r1
  have fp : ∀ b ∈ [s1.heap.objs.size], FpOk X pins H1 b := fun b hb => by
    rw [List.mem_singleton.mp hb]
    exact I1.fpOk (Nat.le_refl _) (I1.hok.fresh (Nat.le_refl _))
  rcases z with ⟨xs, hq, q⟩ | ⟨xs, hq, q⟩
  · obtain ⟨its, rv, p, hz⟩ := I1.list hq
    exact wpAny_pyIter_list p.isList ⟨s1.heap.objs.size, [s1.heap.objs.size], _, _, H1, rfl, I1.kept (t' := s1.toks) fun b o e => Heap.get?_push_of_some _ e, turn_list a _, ⟨_, Heap.get?_push_size _ rfl, rfl, rfl⟩, fp, q⟩
  · obtain ⟨its, rv, p, hz⟩ := I1.tuple hq
    exact wpAny_pyIter_tuple (show s1.heap.IsTuple a its.toArray from p) ⟨s1.heap.objs.size, [s1.heap.objs.size], _, _, H1, rfl, I1.kept (t' := s1.toks) fun b o e => Heap.get?_push_of_some _ e, turn_tuple a _, ⟨_, Heap.get?_push_size _ rfl, rfl, rfl⟩, fp, q⟩
end Fn

set_option Elab.async false
set_option linter.all false
set_option maxRecDepth 100000
set_option maxHeartbeats 4000000
/-! repr of a list whose items are data, or dicts whose keys are tuples. -/
namespace Fn
open PySem PySem.Spec PyProof.Rows L2
mutual
theorem reads_lf {h : Heap} : ∀ (d : PyData) {u : Value} {as : List Addr}, Reads h u d as → listfree d = true → d.hasDict = false → as = []
  | .none, _, _, r, _, _ => by cases r; rfl
  | .bool _, _, _, r, _, _ => by cases r; rfl
  | .int _, _, _, r, _, _ => by cases r; rfl
  | .str _, _, _, r, _, _ => by cases r; rfl
  | .list _, _, _, _, f, _ => by simp [listfree] at f
  | .tuple xs, _, _, r, f, n => by
    cases r with
    | tuple _ _ _ h4 => exact reads_lfAll xs h4 (by simpa only [listfree] using f) (by simpa only [PyData.hasDict] using n)
  | .dict _, _, _, _, _, n => by simp [PyData.hasDict] at n
theorem reads_lfAll {h : Heap} : ∀ (ds : List PyData) {us : List Value} {as : List Addr}, ReadsAll h us ds as → listfreeAll ds = true → PyData.hasDictAll ds = false → as = []
  | [], _, _, r, _, _ => by cases r; rfl
  | d :: ds, _, _, r, f, n => by
    simp only [listfreeAll, Bool.and_eq_true] at f
    simp only [PyData.hasDictAll, Bool.or_eq_false_iff] at n
    cases r with
    | cons r1 r2 =>
      rw [reads_lf d r1 f.1 n.1, reads_lfAll ds r2 f.2 n.2]
      rfl
end
def keyPd : Key → PyData
  | .inl i => .int i
  | .inr x => .str x
/-- an item: data without lists and dicts, the empty dict, or a dict of tuples -/
def Ri (K : PySem.W.Frag) (H : Hp) (v : V) (d : PyData) : Prop := (Dp K H v d ∧ listfree d = true ∧ d.hasDict = false) ∨ (∃ a : Addr, v = .ref a ∧ d = .dict [] ∧ H a = some (.dK [])) ∨
  ∃ (a : Addr) (kvs : List (List Key × V)) (ds : List PyData), v = .ref a ∧ d = .dict ((kvs.map fun p => PyData.tuple (p.1.map keyPd)).zip ds) ∧ H a = some (.dT kvs) ∧ DpAll K H (kvs.map Prod.snd) ds ∧ listfreeAll ds = true ∧ PyData.hasDictAll ds = false
def RiAll (K : PySem.W.Frag) (H : Hp) : List V → List PyData → Prop := Paired (Ri K H)
section
variable {X : Cx} {pins : List (Addr × Obj)} {σ : L2.St} {H : Hp} {s : Shared} {v : V} {u : Value} {d : PyData}
theorem dp_key {K : PySem.W.Frag} : ∀ k : List Key, DpAll K H (k.map kV) (k.map keyPd)
  | [] => .nil
  | .inl i :: k => .cons (.int i) (dp_key k)
  | .inr x :: k => .cons (.str x) (dp_key k)
theorem lf_key : ∀ k : List Key, listfreeAll (k.map keyPd) = true ∧ PyData.hasDictAll (k.map keyPd) = false
  | [] => ⟨rfl, rfl⟩
  | .inl i :: k => lf_key k
  | .inr x :: k => lf_key k
theorem kt_keys (I : Inv X pins σ H s) : ∀ {kvs : List (List Key × V)} {xs : List (List Key × Addr × Value)}, KT H kvs xs → ReadsAll s.heap (xs.map fun x => Value.ref x.2.1) (kvs.map fun p => PyData.tuple (p.1.map keyPd)) []
  | _, _, .nil => .nil
  | _, _, .cons (a := p) (b := q) h r => by
    obtain ⟨as, rd⟩ := Dp.reads I (.tuple (p.1.map keyPd)) (.ref q.2.1) (.ref q.2.1) (.tup (SqT.of h.2.1) (dp_key p.1)) rfl
    have e := reads_lf _ rd (by simpa only [listfree] using (lf_key p.1).1) (by simpa only [PyData.hasDict] using (lf_key p.1).2)
    subst e
    exact .cons (as := []) (bs := []) rd (kt_keys I r)
theorem kt_vals : ∀ {kvs : List (List Key × V)} {xs : List (List Key × Addr × Value)}, KT H kvs xs → Vals (kvs.map Prod.snd) (xs.map fun x => x.2.2)
  | _, _, .nil => .nil
  | _, _, .cons h r => .cons h.2.2 (kt_vals r)
theorem dp_len {K : PySem.W.Frag} : ∀ {ds : List PyData} {vs : List V}, DpAll K H vs ds → vs.length = ds.length
  | [], _, h => by cases h; rfl
  | d :: ds, _, h => by
    cases h with
    | cons _ h2 => rw [List.length_cons, List.length_cons, dp_len h2]
theorem Ri.reads (I : Inv X pins σ H s) (h : Ri X.K H v d) (r : RelV v u) : ∃ as, Reads s.heap u d as ∧ sysModules ∉ as := by
  rcases h with ⟨h, f, n⟩ | ⟨a, rfl, rfl, ha⟩ | ⟨a, kvs, ds, rfl, rfl, ha, hv, f, n⟩
  · obtain ⟨as, rd⟩ := Dp.reads I d v u h r
    have e := reads_lf _ rd f n
    subst e
    exact ⟨_, rd, by simp⟩
  · cases r
    obtain ⟨_, ns, vs, kv, o, es, ep, ho, hx, hd, ks, pr, _⟩ := dk_of I.hok ha
    cases kv
    obtain ⟨el⟩ := es
    have pr' : Pairs (mixKind X.prog X.w) el [] := pr
    cases pr'
    refine ⟨_, Reads.dict ho hx.1 hd (as := []) (bs := []) .nil .nil, fun m => ?_⟩
    simp only [List.append_nil, List.mem_singleton] at m
    subst m
    simp at ns
  · cases r
    obtain ⟨_, ns, xs, kt, o, es, ep, ho, hx, hd, he, hk, _⟩ := dt_of I.hok ha
    obtain ⟨bs, rv⟩ := Dp.readsAll I ds _ _ hv (kt_vals kt)
    have e := reads_lfAll _ rv f n
    subst e
    have l := dp_len hv
    rw [List.length_map] at l
    refine ⟨_, Reads.dict ho hx.1 hd (as := []) (bs := []) ?_ ?_, fun m => ?_⟩
    · rw [he, List.map_map, List.map_fst_zip (by rw [List.length_map]; omega)]
      exact kt_keys I kt
    · rw [he, List.map_map, List.map_snd_zip (by rw [List.length_map]; omega)]
      exact rv
    · simp only [List.append_nil, List.mem_singleton] at m
      subst m
      simp at ns
theorem RiAll.reads (I : Inv X pins σ H s) : ∀ {vs : List V} {ds : List PyData} {us : List Value}, RiAll X.K H vs ds → Vals vs us → ∃ as, ReadsAll s.heap us ds as ∧ sysModules ∉ as
  | _, _, _, .nil, r => by
    cases r
    exact ⟨_, .nil, by simp⟩
  | _, _, _, .cons h q, r => by
    cases r with
    | cons r1 r2 =>
      obtain ⟨as, a1, a2⟩ := Ri.reads I h r1
      obtain ⟨bs, b1, b2⟩ := RiAll.reads I q r2
      exact ⟨_, .cons a1 b1, fun m => (List.mem_append.mp m).elim a2 b2⟩
end
section
variable {X : Cx}
def rReprZ (K : PySem.W.Frag) : List V → Hp → VK → Prop := fun xs H Q => rRepr K xs H Q ∨
  ∃ l vs ds, xs = [.ref l] ∧ SqL K H l vs ∧ vs ≠ [] ∧ RiAll K H vs ds ∧ PyData.showableAll ds = true ∧ PyData.depthAll ds ≤ 40 ∧ (listText (PyData.shownAll ds)).length ≤ sizeLine ∧ Q (.str (listText (PyData.shownAll ds))) H
theorem call_reprZ {K : PySem.W.Frag} (hg : X.A.guards = some []) (hu : X.A.units + 64 < cLine) (hK : X.K = K := by rfl) : CallR X (.builtin "repr") (rReprZ K) := by
  subst hK
  intro pins s σ H xs us Q I r h
  rcases h with h | ⟨l, vs, ds, rfl, hl, ne, hr, sh, dp, sz, q⟩
  · exact call_reprD hg hu rfl pins s σ H xs us Q I r h
  obtain ⟨u, rfl, rv⟩ := vals1 r
  cases rv
  obtain ⟨its, rl, ⟨o, m, ho, hc, _, hd⟩, hz⟩ := I.list hl
  obtain ⟨as, h4, nm⟩ := RiAll.reads I hr rl
  obtain ⟨bs, hb, hk⟩ := ReprAllK.of_readsAll (prog := X.prog) (w := X.w) h4 sh (fun _ z => nm z) (fun t ht => Nat.le_trans (listText_mem_le ht) sz)
  have na : l ∉ bs := not_mem_of_deeper (.list ho hc hd h4) (by simp only [PyData.depth]; omega) hb
  cases its with
  | nil =>
    cases rl
    exact absurd rfl ne
  | cons z zs =>
    refine call_repr_slot (by omega) ⟨o, ho, hc⟩ F.slot_list_repr.toG ?_
    exact call_list_reprK ho hc hd na (by simpa using hk.length_eq) (fun i y e => hk.item i y (by simpa using e)) (by exact hg) (fun b _ => Clear.nil b) (by show X.A.units + 1 + _ < cLine; omega) (fun _ _ e => e)
      (fun h' u tk kp => ⟨_, _, rfl, .str _, H, I.kept (t' := tk) kp, ⟨_, rfl⟩, q⟩) sz
end
end Fn

set_option Elab.async false
set_option linter.all false
set_option maxRecDepth 100000
set_option maxHeartbeats 4000000
/-! The entry of a law over a head by facts. -/
namespace Fn
open PySem PySem.Spec PyProof.Rows L2
/-! ### the entry -/
theorem walkTX {l : PySem.W.OpenLaw} {n k : Nat} {q : Program} {loose : List Str} {XP : (Str → Option Value) → Heap → Prop} {YP : World → Heap → Prop} {d : DefRec} {x : Str}
    (hn : l.most = some n) (hn2 : n ≤ sizeLine) (hdf : d.params.defaults = []) (hr : Room k callerA)
    (F : ∀ (w : World) (mean : ExcName → Option Value) (mg mb : Str → Option Value) (fa : Addr) (h : Heap), Top q (PySem.W.looseW q loose) mean mg mb h → YP w h → h.Ns mainGlobals mg → mg d.name = some (.ref fa) →
      ∃ K : PySem.W.Frag, K.In h ∧ ∃ (cs : List (Addr × Addr)) (sp : Sp), LawT l.prog w K mg h k fa x cs sp ∧
        ∀ (H : Hp) (a : Addr) (ns : List Int), ns.length ≤ n → Only2 H → (∀ p ∈ cs, H p.2 = some (.tbl #[])) → SqL K H a (ns.map V.int) → sp [.ref a] H (fun v _ => v = .bl true) fun _ _ _ => False) :
    PySem.W.WalkO q loose XP YP l.row.toRowW d [] (fun f vs => PySem.call f vs) := by
  refine Att.attach_call hn hdf fun w _ s mg mb fa o pm cd doc a vs ns G Y _ _ _ hm ho hi ll gn => ?_
  obtain ⟨K, kx, cs, sp, L, hs⟩ := F w _ mg mb fa _ G.T Y G.T.g hm
  obtain ⟨fd, b, f⟩ := L.run
  exact law_callTG kx G.T.g G.T.b G.T.builtins G.T.nolimit gn L.tab L.off L.cod G.T.bmain ho hi (Nat.le_trans ll hn2) hr f b fun H h1 h2 h3 => hs H a ns ll h1 h2 h3
theorem walkGX {l : PySem.W.OpenLaw} {n k : Nat} {q : Program} {loose : List Str} {XP : (Str → Option Value) → Heap → Prop} {YP : World → Heap → Prop} {d : DefRec} {x : Str}
    (hn : l.most = some n) (hn2 : n ≤ sizeLine) (hdf : d.params.defaults = []) (hr : Room k callerA)
    (F : ∀ (w : World) (mg : Str → Option Value) (fa : Addr) (h : Heap), YP w h → h.Ns mainGlobals mg → mg d.name = some (.ref fa) →
      ∃ K : PySem.W.Frag, K.In h ∧ ∃ sp : Sp, (∃ fd : FuncData, (∀ (s : Shared) (u : Value), BindsTo s fd ⟨[u], []⟩ [(x, u)]) ∧ ∀ base : Heap, K.In base → base.Ns mainGlobals mg → FnG l.prog w K mg base CX0 k fa fd [x] sp) ∧
        ∀ (H : Hp) (a : Addr) (ns : List Int), ns.length ≤ n → Only H → SqL K H a (ns.map V.int) → sp [.ref a] H (fun v _ => v = .bl true) fun _ _ _ => False) :
    PySem.W.WalkO q loose XP YP l.row.toRowW d [] (fun f vs => PySem.call f vs) := by
  refine Att.attach_call hn hdf fun w _ s mg mb fa o pm cd doc a vs ns G Y _ _ _ hm ho hi ll gn => ?_
  obtain ⟨K, kx, sp, ⟨fd, b, f⟩, hs⟩ := F w mg fa _ Y G.T.g hm
  exact law_callG kx G.T.g G.T.b G.T.builtins G.T.nolimit gn ho hi (Nat.le_trans ll hn2) hr f b fun H h1 h2 => hs H a ns ll h1 h2
end Fn

set_option Elab.async false
set_option maxRecDepth 100000
set_option linter.unusedVariables false
set_option maxHeartbeats 4000000
namespace K70
open PySem PySem.Spec PyProof.Rows L2 Fn
local macro_rules | `(tactic| walk_at "ev") => `(tactic| first | exact Ev2.refl _ | assumption | (refine Ev2.trans (by assumption) ?_; walk_at "ev"))
local macro_rules | `(tactic| walk_at "sm") => `(tactic| first | exact Same.refl _ | assumption | (refine Same.trans (by assumption) ?_; walk_at "sm"))
local macro_rules | `(tactic| walk_at "dx") => `(tactic| first
  | exact DxAll.nil | exact Dx.str _ | exact Dx.int _ | exact Dx.bl _ | exact Dx.non
  | assumption
  | (refine DxAll.cons ?_ ?_ <;> walk_at "dx")
  | (refine Dx.same (by walk_at "sm") (by assumption))
  | (refine Dx.tup (Same.at (by assumption) (by walk_at "sm")) ?_; walk_at "dx")
  | (refine Dx.lst (Same.at (by assumption) (by walk_at "sm")) ?_; walk_at "dx")
  | (refine Dx.dct (Same.at (by assumption) (by walk_at "sm"))))

abbrev s_is_integer : Stmt := top 1
abbrev N_is_integer : List Str := ["value"]
abbrev P_is_integer : List Str := ["value"]
theorem sc_is_integer : FnScope N_is_integer P_is_integer (defScope s_is_integer) := ⟨rfl, rfl, rfl, by decide +kernel, rfl, by decide +kernel, by decide +kernel⟩
abbrev s_are_numbers : Stmt := top 8
abbrev N_are_numbers : List Str := ["value", "number"]
abbrev P_are_numbers : List Str := ["value"]
theorem sc_are_numbers : FnScope N_are_numbers P_are_numbers (defScope s_are_numbers) := ⟨rfl, rfl, rfl, by decide +kernel, rfl, by decide +kernel, by decide +kernel⟩
abbrev s_ascends : Stmt := top 9
abbrev N_ascends : List Str := ["rows", "at"]
abbrev P_ascends : List Str := ["rows"]
theorem sc_ascends : FnScope N_ascends P_ascends (defScope s_ascends) := ⟨rfl, rfl, rfl, by decide +kernel, rfl, by decide +kernel, by decide +kernel⟩
abbrev s_is_class_form : Stmt := top 10
abbrev N_is_class_form : List Str := ["value"]
abbrev P_is_class_form : List Str := ["value"]
theorem sc_is_class_form : FnScope N_is_class_form P_is_class_form (defScope s_is_class_form) := ⟨rfl, rfl, rfl, by decide +kernel, rfl, by decide +kernel, by decide +kernel⟩
abbrev s_are_classes_form : Stmt := top 11
abbrev N_are_classes_form : List Str := ["value", "row"]
abbrev P_are_classes_form : List Str := ["value"]
theorem sc_are_classes_form : FnScope N_are_classes_form P_are_classes_form (defScope s_are_classes_form) := ⟨rfl, rfl, rfl, by decide +kernel, rfl, by decide +kernel, by decide +kernel⟩
abbrev s_is_state_form : Stmt := top 12
abbrev N_is_state_form : List Str := ["value"]
abbrev P_is_state_form : List Str := ["value"]
theorem sc_is_state_form : FnScope N_is_state_form P_is_state_form (defScope s_is_state_form) := ⟨rfl, rfl, rfl, by decide +kernel, rfl, by decide +kernel, by decide +kernel⟩
abbrev s_number_told : Stmt := top 17
abbrev N_number_told : List Str := ["text", "letter"]
abbrev P_number_told : List Str := ["text"]
theorem sc_number_told : FnScope N_number_told P_number_told (defScope s_number_told) := ⟨rfl, rfl, rfl, by decide +kernel, rfl, by decide +kernel, by decide +kernel⟩
abbrev s_numbers_told : Stmt := top 18
abbrev N_numbers_told : List Str := ["text", "numbers", "item"]
abbrev P_numbers_told : List Str := ["text"]
theorem sc_numbers_told : FnScope N_numbers_told P_numbers_told (defScope s_numbers_told) := ⟨rfl, rfl, rfl, by decide +kernel, rfl, by decide +kernel, by decide +kernel⟩
abbrev s_state_told : Stmt := top 19
abbrev N_state_told : List Str := ["text", "parts", "_", "classes", "rows", "row", "state"]
abbrev P_state_told : List Str := ["text"]
theorem sc_state_told : FnScope N_state_told P_state_told (defScope s_state_told) := ⟨rfl, rfl, rfl, by decide +kernel, rfl, by decide +kernel, by decide +kernel⟩
abbrev s_key_told : Stmt := top 20
abbrev N_key_told : List Str := ["text", "key"]
abbrev P_key_told : List Str := ["text"]
theorem sc_key_told : FnScope N_key_told P_key_told (defScope s_key_told) := ⟨rfl, rfl, rfl, by decide +kernel, rfl, by decide +kernel, by decide +kernel⟩
abbrev s_line_told : Stmt := top 21
abbrev N_line_told : List Str := ["line", "before", "_", "behind", "key", "state"]
abbrev P_line_told : List Str := ["line"]
theorem sc_line_told : FnScope N_line_told P_line_told (defScope s_line_told) := ⟨rfl, rfl, rfl, by decide +kernel, rfl, by decide +kernel, by decide +kernel⟩
abbrev s_check_text : Stmt := top 23
abbrev N_check_text : List Str := ["text"]
abbrev P_check_text : List Str := ["text"]
theorem sc_check_text : FnScope N_check_text P_check_text (defScope s_check_text) := ⟨rfl, rfl, rfl, by decide +kernel, rfl, by decide +kernel, by decide +kernel⟩
abbrev s_numbers_text : Stmt := top 24
abbrev N_numbers_text : List Str := ["numbers", "number"]
abbrev P_numbers_text : List Str := ["numbers"]
theorem sc_numbers_text : FnScope N_numbers_text P_numbers_text (defScope s_numbers_text) := ⟨rfl, rfl, rfl, by decide +kernel, rfl, by decide +kernel, by decide +kernel⟩
abbrev s_state_text : Stmt := top 25
abbrev N_state_text : List Str := ["state", "rows", "row", "classes"]
abbrev P_state_text : List Str := ["state"]
theorem sc_state_text : FnScope N_state_text P_state_text (defScope s_state_text) := ⟨rfl, rfl, rfl, by decide +kernel, rfl, by decide +kernel, by decide +kernel⟩
abbrev s_write_numbers : Stmt := top 26
abbrev N_write_numbers : List Str := ["numbers"]
abbrev P_write_numbers : List Str := ["numbers"]
theorem sc_write_numbers : FnScope N_write_numbers P_write_numbers (defScope s_write_numbers) := ⟨rfl, rfl, rfl, by decide +kernel, rfl, by decide +kernel, by decide +kernel⟩
abbrev s_read_numbers : Stmt := top 27
abbrev N_read_numbers : List Str := ["text", "numbers"]
abbrev P_read_numbers : List Str := ["text"]
theorem sc_read_numbers : FnScope N_read_numbers P_read_numbers (defScope s_read_numbers) := ⟨rfl, rfl, rfl, by decide +kernel, rfl, by decide +kernel, by decide +kernel⟩
abbrev s_write_state : Stmt := top 28
abbrev N_write_state : List Str := ["state"]
abbrev P_write_state : List Str := ["state"]
theorem sc_write_state : FnScope N_write_state P_write_state (defScope s_write_state) := ⟨rfl, rfl, rfl, by decide +kernel, rfl, by decide +kernel, by decide +kernel⟩
abbrev s_read_state : Stmt := top 29
abbrev N_read_state : List Str := ["text", "state"]
abbrev P_read_state : List Str := ["text"]
theorem sc_read_state : FnScope N_read_state P_read_state (defScope s_read_state) := ⟨rfl, rfl, rfl, by decide +kernel, rfl, by decide +kernel, by decide +kernel⟩
abbrev s_is_key : Stmt := top 30
abbrev N_is_key : List Str := ["value"]
abbrev P_is_key : List Str := ["value"]
theorem sc_is_key : FnScope N_is_key P_is_key (defScope s_is_key) := ⟨rfl, rfl, rfl, by decide +kernel, rfl, by decide +kernel, by decide +kernel⟩
abbrev s_write_table : Stmt := top 31
abbrev N_write_table : List Str := ["table", "key", "lines"]
abbrev P_write_table : List Str := ["table"]
theorem sc_write_table : FnScope N_write_table P_write_table (defScope s_write_table) := ⟨rfl, rfl, rfl, by decide +kernel, rfl, by decide +kernel, by decide +kernel⟩
abbrev s_read_table : Stmt := top 32
abbrev N_read_table : List Str := ["text", "entries", "lines", "index", "line", "entry"]
abbrev P_read_table : List Str := ["text"]
theorem sc_read_table : FnScope N_read_table P_read_table (defScope s_read_table) := ⟨rfl, rfl, rfl, by decide +kernel, rfl, by decide +kernel, by decide +kernel⟩
abbrev s__law_dice : Stmt := top 34
abbrev N__law_dice : List Str := ["_law_script", "_law_spot", "_law_cell", "_law_great", "_law_blend"]
abbrev P__law_dice : List Str := ["_law_script", "_law_spot"]
theorem sc__law_dice : FnScope N__law_dice P__law_dice (defScope s__law_dice) := ⟨rfl, rfl, rfl, by decide +kernel, rfl, by decide +kernel, by decide +kernel⟩
abbrev s__law_roll : Stmt := top 35
abbrev N__law_roll : List Str := ["_law_dice_here", "_law_total", "_law_found", "_law_one", "_law_two"]
abbrev P__law_roll : List Str := ["_law_dice_here", "_law_total"]
theorem sc__law_roll : FnScope N__law_roll P__law_roll (defScope s__law_roll) := ⟨rfl, rfl, rfl, by decide +kernel, rfl, by decide +kernel, by decide +kernel⟩
abbrev s__law_pick : Stmt := top 36
abbrev N__law_pick : List Str := ["_law_dice_here", "_law_items"]
abbrev P__law_pick : List Str := ["_law_dice_here", "_law_items"]
theorem sc__law_pick : FnScope N__law_pick P__law_pick (defScope s__law_pick) := ⟨rfl, rfl, rfl, by decide +kernel, rfl, by decide +kernel, by decide +kernel⟩
abbrev s__law_some : Stmt := top 37
abbrev N__law_some : List Str := ["_law_dice_here", "_law_items", "_law_size", "_law_left", "_law_turn"]
abbrev P__law_some : List Str := ["_law_dice_here", "_law_items", "_law_size"]
theorem sc__law_some : FnScope N__law_some P__law_some (defScope s__law_some) := ⟨rfl, rfl, rfl, by decide +kernel, rfl, by decide +kernel, by decide +kernel⟩
abbrev s__law_rising : Stmt := top 38
abbrev N__law_rising : List Str := ["_law_dice_here", "_law_most"]
abbrev P__law_rising : List Str := ["_law_dice_here", "_law_most"]
theorem sc__law_rising : FnScope N__law_rising P__law_rising (defScope s__law_rising) := ⟨rfl, rfl, rfl, by decide +kernel, rfl, by decide +kernel, by decide +kernel⟩
abbrev s__law_a_state : Stmt := top 39
abbrev N__law_a_state : List Str := ["_law_dice_here", "_law_turn"]
abbrev P__law_a_state : List Str := ["_law_dice_here"]
theorem sc__law_a_state : FnScope N__law_a_state P__law_a_state (defScope s__law_a_state) := ⟨rfl, rfl, rfl, by decide +kernel, rfl, by decide +kernel, by decide +kernel⟩
abbrev s__law_line : Stmt := top 40
abbrev N__law_line : List Str := ["_law_numbers", "_law_number"]
abbrev P__law_line : List Str := ["_law_numbers"]
theorem sc__law_line : FnScope N__law_line P__law_line (defScope s__law_line) := ⟨rfl, rfl, rfl, by decide +kernel, rfl, by decide +kernel, by decide +kernel⟩
abbrev s__law_state_line : Stmt := top 41
abbrev N__law_state_line : List Str := ["_law_state", "_law_classes", "_law_one"]
abbrev P__law_state_line : List Str := ["_law_state"]
theorem sc__law_state_line : FnScope N__law_state_line P__law_state_line (defScope s__law_state_line) := ⟨rfl, rfl, rfl, by decide +kernel, rfl, by decide +kernel, by decide +kernel⟩
abbrev s__law_due_numbers : Stmt := top 42
abbrev N__law_due_numbers : List Str := ["_law_text", "_law_found", "_law_word", "_law_sign"]
abbrev P__law_due_numbers : List Str := ["_law_text"]
theorem sc__law_due_numbers : FnScope N__law_due_numbers P__law_due_numbers (defScope s__law_due_numbers) := ⟨rfl, rfl, rfl, by decide +kernel, rfl, by decide +kernel, by decide +kernel⟩
abbrev s__law_is_rising : Stmt := top 43
abbrev N__law_is_rising : List Str := ["_law_row"]
abbrev P__law_is_rising : List Str := ["_law_row"]
theorem sc__law_is_rising : FnScope N__law_is_rising P__law_is_rising (defScope s__law_is_rising) := ⟨rfl, rfl, rfl, by decide +kernel, rfl, by decide +kernel, by decide +kernel⟩
abbrev s__law_due_state : Stmt := top 44
abbrev N__law_due_state : List Str := ["_law_text", "_law_halves", "_law_classes", "_law_one", "_law_first"]
abbrev P__law_due_state : List Str := ["_law_text"]
theorem sc__law_due_state : FnScope N__law_due_state P__law_due_state (defScope s__law_due_state) := ⟨rfl, rfl, rfl, by decide +kernel, rfl, by decide +kernel, by decide +kernel⟩
abbrev s__law_due_table : Stmt := top 45
abbrev N__law_due_table : List Str := ["_law_text", "_law_found", "_law_last", "_law_line_here", "_law_halves", "_law_size", "_law_key", "_law_state"]
abbrev P__law_due_table : List Str := ["_law_text"]
theorem sc__law_due_table : FnScope N__law_due_table P__law_due_table (defScope s__law_due_table) := ⟨rfl, rfl, rfl, by decide +kernel, rfl, by decide +kernel, by decide +kernel⟩
abbrev s__law_bent : Stmt := top 46
abbrev N__law_bent : List Str := ["_law_dice_here", "_law_text", "_law_at", "_law_sign"]
abbrev P__law_bent : List Str := ["_law_dice_here", "_law_text"]
theorem sc__law_bent : FnScope N__law_bent P__law_bent (defScope s__law_bent) := ⟨rfl, rfl, rfl, by decide +kernel, rfl, by decide +kernel, by decide +kernel⟩
abbrev s__law_got : Stmt := top 47
abbrev N__law_got : List Str := ["_law_call", "error"]
abbrev P__law_got : List Str := ["_law_call"]
theorem sc__law_got : FnScope N__law_got P__law_got (defScope s__law_got) := ⟨rfl, rfl, rfl, by decide +kernel, rfl, by decide +kernel, by decide +kernel⟩
abbrev s__law_strings_right : Stmt := top 48
abbrev N__law_strings_right : List Str := ["_law_one", "_law_two", "_law_six", "_law_due"]
abbrev P__law_strings_right : List Str := ["_law_one", "_law_two", "_law_six"]
theorem sc__law_strings_right : FnScope N__law_strings_right P__law_strings_right (defScope s__law_strings_right) := ⟨rfl, rfl, rfl, by decide +kernel, rfl, by decide +kernel, by decide +kernel⟩
abbrev s__law_right : Stmt := top 49
abbrev N__law_right : List Str := ["_law_dice_here", "_law_numbers", "_law_turn", "_law_state", "_law_table", "_law_lines", "_law_key", "_law_due", "_law_one"]
abbrev P__law_right : List Str := ["_law_dice_here"]
theorem sc__law_right : FnScope N__law_right P__law_right (defScope s__law_right) := ⟨rfl, rfl, rfl, by decide +kernel, rfl, by decide +kernel, by decide +kernel⟩
abbrev s_law : Stmt := top 50
abbrev N_law : List Str := ["_law_script", "_law_spot"]
abbrev P_law : List Str := ["_law_script"]
theorem sc_law : FnScope N_law P_law (defScope s_law) := ⟨rfl, rfl, rfl, by decide +kernel, rfl, by decide +kernel, by decide +kernel⟩
abbrev lamT (tP0 : Addr) : List (Addr × Str) := [(tP0, "_law_strings_right.<locals>.<lambda>")]
structure Txt (mg : Str → Option Value) : Prop where
  n_len : mg "len" = none
  n_int : mg "int" = none
  n_abs : mg "abs" = none
  n_isinstance : mg "isinstance" = none
  n_bool : mg "bool" = none
  n_all : mg "all" = none
  n_tuple : mg "tuple" = none
  n_str : mg "str" = none
  n_sorted : mg "sorted" = none
  n_dict : mg "dict" = none
  n_set : mg "set" = none
  n_list : mg "list" = none
  n_range : mg "range" = none
  n_max : mg "max" = none
  n_min : mg "min" = none
  n_enumerate : mg "enumerate" = none
  n_repr : mg "repr" = none
  m_EMPTY : ∃ t, mg "EMPTY" = some (.str "-" t)
  m_NONE : ∃ t, mg "NONE" = some (.str "none" t)
  m_MAX_DIGITS : ∃ t, mg "MAX_DIGITS" = some (.int 60 t)
section
variable {P : Program} {w : World} {K : PySem.W.Frag} {mg : Str → Option Value} {base : Heap} {tx : Pa} {tC0 tP0 : Addr}
abbrev s_iParseError : Stmt := (clB (top 6)).getD 0 (.Pass ⟨0, 0, 0, 0⟩)
abbrev N_iParseError : List Str := ["self", "line"]
abbrev P_iParseError : List Str := ["self", "line"]
theorem sc_iParseError : FnScope N_iParseError P_iParseError (defScope s_iParseError) := ⟨rfl, rfl, rfl, by decide +kernel, rfl, by decide +kernel, by decide +kernel⟩
theorem ok_iParseError {f : Addr} {fd : FuncData} (F : Fun K "__init__" "ParseError.__init__" s_iParseError f fd) : FnOk P w K mg base CX0 1 f fd P_iParseError (spIni K "line") := by
  refine F.ok sc_iParseError (fun vs H Q E h => ?_) (fun cdv A outer s H vs Q E hr h => ?_)
  · obtain ⟨a, C, y, rfl, _⟩ := h
    rfl
  · obtain ⟨a, C, y, rfl, T, no, e, q⟩ := h
    refine ⟨_, (pss_one (ps_put (pv 0) (pv 1))), ?_⟩
    exact ⟨_, rfl, _, rfl, a, C, rfl, T, no, e, q⟩
def spA (f : PyData → Bool) : Sp := fun vs H Q _ => ∃ v d, vs = [v] ∧ Dx H v d ∧ Q (.bl (f d)) H
abbrev spInt := spA isIntD
theorem ok_is_integer {f : Addr} {fd : FuncData} (F : Fun K "is_integer" "is_integer" s_is_integer f fd) (T : Txt mg) (Z : PexZ K mg tx) : FnOk P w K mg base CX0 1 f fd P_is_integer spInt := by
  refine F.ok sc_is_integer (fun vs H Q E h => ?_) (fun cdv A outer s H vs Q E hr h => ?_)
  · obtain ⟨v, d, rfl, _⟩ := h
    rfl
  · obtain ⟨v, d, rfl, hv, q⟩ := h
    refine ⟨_, (pss_one (ps_ret (pe_and (pe_callB call_isi (by rfl) T.n_isinstance (by decide +kernel) (pa_cons (pv 0) (pa_cons (pe_bltn (v := .ty "int") rfl T.n_int (by decide +kernel) rfl) pa_nil))) (pe_and (pe_not (pe_callB call_isi (by rfl) T.n_isinstance (by decide +kernel) (pa_cons (pv 0) (pa_cons (pe_bltn (v := .ty "bool") rfl T.n_bool (by decide +kernel) rfl) pa_nil)))) (pe_one (pe_cmpR op_lt (pe_callB call_abs (by rfl) T.n_abs (by decide +kernel) (pa_cons (pv 0) pa_nil)) (pe_op op_powW pe_int pe_int) (nomark _))))))), ?_⟩
    refine ⟨_, rfl, _, _, _, _, _, rfl, .ty _, hv.ty, kit_int d, _, rfl, ?_⟩
    cases hv with
    | int i =>
      refine iteT ?_
      refine ⟨_, rfl, _, _, _, _, false, rfl, .ty _, .base (.int i), (kit_ty (by decide +kernel)), _, rfl, _, rfl, ?_⟩
      refine iteT ?_
      refine ⟨_, rfl, _, rfl, _, _, rfl, rfl, (powOk (by decide +kernel)), _, _, rfl, rfl, ?_⟩
      exact q
    | bl b =>
      refine iteT ?_
      refine ⟨_, rfl, _, _, _, _, true, rfl, .ty _, .base (.bl b), (kit_ty (by decide +kernel)), _, rfl, _, rfl, ?_⟩
      refine iteF ?_
      exact q
    | _ => exact iteF q

theorem ok__law_dice {f : Addr} {fd : FuncData} (F : Fun K "_law_dice" "_law_dice" s__law_dice f fd) (T : Txt mg) (Z : PexZ K mg tx) : FnOk P w K mg base CX0 1 f fd P__law_dice (spDice K) := by
  refine F.ok sc__law_dice (fun vs H Q E h => ?_) (fun cdv A outer s H vs Q E hr h => ?_)
  · obtain ⟨a, ns, k, rfl, _⟩ := h
    rfl
  · obtain ⟨a, ns, k, rfl, hS, hlen, h0, hk, q⟩ := h
    refine ⟨_, (pss_cons (ps_set (i := 2) sc__law_dice.nd rfl (Or.inl rfl) (pe_op op_add (pe_op op_mul pe_int (pv 1)) pe_int))
      (pss_cons (ps_if (pt_cmpR op_lt (pv 1) (pe_callB call_len_seq (by rfl) T.n_len (by decide +kernel) (pa_cons (pv 0) pa_nil)) (nomark _)) (pss_one (ps_set (i := 2) sc__law_dice.nd rfl (Or.inl rfl) (pe_ix ix_list (pv 0) (pv 1) (fun _ _ => rfl)))) pss_nil)
      (pss_cons (ps_set (i := 3) sc__law_dice.nd rfl (Or.inl rfl) (pe_op op_mod (pe_callTy call_int1 (by rfl) T.n_int (by decide +kernel) (pa_cons (pe_callB call_abs (by rfl) T.n_abs (by decide +kernel) (pa_cons (pv 2) pa_nil)) pa_nil)) (pe_op op_powW (pe_op op_powW pe_int pe_int) pe_int)))
      (pss_cons (ps_set (i := 4) sc__law_dice.nd rfl (Or.inl rfl) (pe_op op_add (pe_op op_add (pe_op op_add (pe_op op_mul (pe_op op_mod (pe_callTy call_int1 (by rfl) T.n_int (by decide +kernel) (pa_cons (pv 3) pa_nil)) pe_int) pe_int) (pe_op op_mul pe_int (pv 1))) (pe_op op_mul pe_int (pe_callTy call_int1 (by rfl) T.n_int (by decide +kernel) (pa_cons (pe_cmpR op_lt (pv 2) pe_int (nomark _)) pa_nil)))) pe_int))
      (pss_one (ps_ret (pe_lst (pa_cons (pe_callB (call_max2 rfl) (by rfl) T.n_max (by decide +kernel) (pa_cons pe_int (pa_cons (pe_op op_sub (pv 3) (pe_op op_powW pe_int pe_int)) pa_nil))) (pa_cons (pe_op op_mod (pe_callTy call_int1 (by rfl) T.n_int (by decide +kernel) (pa_cons (pv 4) pa_nil)) pe_int) (pa_cons pe_int pa_nil)))))))))), ?_⟩
    refine ⟨_, rfl, _, _, rfl, rfl, mulL (by decide), _, _, rfl, rfl, ?_⟩
    refine ⟨_, rfl, _, rfl, _, _, rfl, .inl hS, _, _, rfl, rfl, _, rfl, ?_⟩
    refine ite2 (fun hc => ?_) (fun hc => ?_)
    · have hc' := of_decide_eq_true hc
      rw [List.length_map] at hc'
      obtain ⟨c, hat⟩ := script_at h0 hc'
      refine ⟨_, rfl, _, rfl, _, _, _, _, rfl, rfl, hS, hat, ?_⟩
      refine ⟨_, rfl, _, rfl, .inl ⟨_, rfl, _, _, rfl, rfl, (powOk (by decide +kernel)), _, _, rfl, rfl, (powOk (by decide +kernel)), _, _, rfl, rfl, (modc (by decide +kernel)), ?_⟩⟩
      refine ⟨_, rfl, .inl ⟨_, rfl, _, _, rfl, rfl, (modc (by decide)), _, _, rfl, rfl, mulR (by decide), _, rfl, _, _, rfl, rfl, mulL (by decide), _, _, rfl, rfl, _, rfl, _, _, rfl, rfl, .inr ⟨_, rfl, _, _, rfl, rfl, mulL (by decide), _, _, rfl, rfl, _, _, rfl, rfl, ?_⟩⟩⟩
      refine ⟨_, rfl, _, _, rfl, rfl, (powOk (by decide +kernel)), _, _, rfl, rfl, _, _, rfl, _, rfl, .inl ⟨_, rfl, _, _, rfl, rfl, (modc (by decide)), (szr rfl), fun p hp => ?_⟩⟩
      exact q p _ hp (Ev2.new hp) (fun _ hb => upd_ne hb) ⟨_, _, _, upd_same⟩
    · generalize 53 * k + 29 = c
      refine ⟨_, rfl, _, rfl, .inl ⟨_, rfl, _, _, rfl, rfl, (powOk (by decide +kernel)), _, _, rfl, rfl, (powOk (by decide +kernel)), _, _, rfl, rfl, (modc (by decide +kernel)), ?_⟩⟩
      refine ⟨_, rfl, .inl ⟨_, rfl, _, _, rfl, rfl, (modc (by decide)), _, _, rfl, rfl, mulR (by decide), _, rfl, _, _, rfl, rfl, mulL (by decide), _, _, rfl, rfl, _, rfl, _, _, rfl, rfl, .inr ⟨_, rfl, _, _, rfl, rfl, mulL (by decide), _, _, rfl, rfl, _, _, rfl, rfl, ?_⟩⟩⟩
      refine ⟨_, rfl, _, _, rfl, rfl, (powOk (by decide +kernel)), _, _, rfl, rfl, _, _, rfl, _, rfl, .inl ⟨_, rfl, _, _, rfl, rfl, (modc (by decide)), (szr rfl), fun p hp => ?_⟩⟩
      exact q p _ hp (Ev2.new hp) (fun _ hb => upd_ne hb) ⟨_, _, _, upd_same⟩
theorem ok__law_roll {f : Addr} {fd : FuncData} (F : Fun K "_law_roll" "_law_roll" s__law_roll f fd) (T : Txt mg) (Z : PexZ K mg tx) : FnOk P w K mg base CX0 1 f fd P__law_roll spRoll := by
  refine F.ok sc__law_roll (fun vs H Q E h => ?_) (fun cdv A outer s H vs Q E hr h => ?_)
  · obtain ⟨p, n, rfl, _⟩ := h
    rfl
  · obtain ⟨p, n, rfl, hd, h0, hn, q⟩ := h
    obtain ⟨x, y, z, hp⟩ := id hd
    have a0 : ∀ x y z : Int, atI [V.int x, .int y, .int z] 0 = some (.int x) := fun _ _ _ => rfl
    have a1 : ∀ x y z : Int, atI [V.int x, .int y, .int z] 1 = some (.int y) := fun _ _ _ => rfl
    have a2 : ∀ x y z : Int, atI [V.int x, .int y, .int z] 2 = some (.int z) := fun _ _ _ => rfl
    refine ⟨_, (pss_cons (ps_if (pt_cmpR op_gt (pe_ix ix_list (pv 0) pe_int (fun _ _ => rfl)) pe_int (nomark _)) (pss_cons (ps_set (i := 2) sc__law_roll.nd rfl (Or.inl rfl) (pe_op op_mod (pe_callTy call_int1 (by rfl) T.n_int (by decide +kernel) (pa_cons (pe_ix ix_list (pv 0) pe_int (fun _ _ => rfl)) pa_nil)) (pv 1)))
      (pss_cons (ps_asg (pe_op op_fdiv (pe_ix ix_list (pv 0) pe_int (fun _ _ => rfl)) (pv 1)) (pg_sub (pv 0) pe_int set_list))
      (pss_one (ps_ret (pv 2))))) pss_nil)
      (pss_cons (ps_asg (pe_op op_add (pe_ix ix_list (pv 0) pe_int (fun _ _ => rfl)) pe_int) (pg_sub (pv 0) pe_int set_list))
      (pss_cons (ps_set (i := 3) sc__law_roll.nd rfl (Or.inl rfl) (pe_op op_mod (pe_callTy call_int1 (by rfl) T.n_int (by decide +kernel) (pa_cons (pe_op op_add (pe_ix ix_list (pv 0) pe_int (fun _ _ => rfl)) (pe_op op_mul pe_int (pe_ix ix_list (pv 0) pe_int (fun _ _ => rfl)))) pa_nil)) pe_int))
      (pss_cons (ps_set (i := 4) sc__law_roll.nd rfl (Or.inl rfl) (pe_op op_add (pe_op op_mul (pe_op op_mod (pe_callTy call_int1 (by rfl) T.n_int (by decide +kernel) (pa_cons (pe_op op_mul (pv 3) (pv 3)) pa_nil)) pe_int) (pv 3)) (pe_op op_mul pe_int (pe_ix ix_list (pv 0) pe_int (fun _ _ => rfl)))))
      (pss_cons (ps_set (i := 4) sc__law_roll.nd rfl (Or.inl rfl) (pe_op op_mod (pe_callTy call_int1 (by rfl) T.n_int (by decide +kernel) (pa_cons (pv 4) pa_nil)) pe_int))
      (pss_one (ps_ret (pe_op op_mod (pe_callTy call_int1 (by rfl) T.n_int (by decide +kernel) (pa_cons (pe_op op_fdiv (pv 4) pe_int) pa_nil)) (pv 1))))))))), ?_⟩
    refine ⟨_, rfl, _, _, _, _, rfl, rfl, SqL.of hp, a0 _ _ _, _, _, rfl, rfl, _, rfl, ?_⟩
    refine ite2 (fun hc => ?_) (fun hc => ?_)
    · refine ⟨_, rfl, _, _, _, _, rfl, rfl, SqL.of hp, a0 _ _ _, .inl ⟨_, rfl, _, rfl, _, _, rfl, rfl, (modc h0), ?_⟩⟩
      refine ⟨_, rfl, _, _, _, _, rfl, rfl, SqL.of hp, a0 _ _ _, _, rfl, _, _, rfl, rfl, ⟨h0, by omega⟩, _, rfl, _, _, _, _, rfl, rfl, hp, rfl, ?_⟩
      refine ⟨_, rfl, ?_⟩
      exact q _ _ (Int.emod_nonneg _ (by omega)) (Int.emod_lt_of_pos _ h0) (hd.set _ _ _).1 (hd.set _ _ _).2.1 (hd.set _ _ _).2.2
    · refine ⟨_, rfl, _, _, _, _, rfl, rfl, SqL.of hp, a2 _ _ _, _, _, rfl, rfl, _, rfl, _, _, _, _, rfl, rfl, hp, rfl, ?_⟩
      have hp2 : (upd H p (dl x y (z + 1))) p = some (dl x y (z + 1)) := upd_same
      refine ⟨_, rfl, _, _, _, _, rfl, rfl, SqL.of hp2, a1 _ _ _, _, rfl, _, _, _, _, rfl, rfl, SqL.of hp2, a2 _ _ _, _, _, rfl, rfl, mulL (by decide), _, _, rfl, rfl, .inl ⟨_, rfl, _, _, rfl, rfl, (modc (by decide)), ?_⟩⟩
      have b1 := Int.emod_nonneg (y + 998244341 * (z + 1)) (b := 2305843009213693951) (by decide)
      have b2 := Int.emod_lt_of_pos (y + 998244341 * (z + 1)) (b := 2305843009213693951) (by decide)
      generalize (y + 998244341 * (z + 1)) % 2305843009213693951 = one at b1 b2
      refine ⟨_, rfl, _, rfl, _, _, rfl, rfl, mulL (by omega), .inl ⟨_, rfl, _, _, rfl, rfl, (modc (by decide)), _, rfl, _, _, rfl, rfl, mulR (by omega), _, rfl, _, _, _, _, rfl, rfl, SqL.of hp2, a2 _ _ _, _, _, rfl, rfl, mulL (by decide), _, _, rfl, rfl, ?_⟩⟩
      refine ⟨_, rfl, .inl ⟨_, rfl, _, _, rfl, rfl, (modc (by decide)), ?_⟩⟩
      refine ⟨_, rfl, _, _, rfl, rfl, ⟨by decide, by decide⟩, .inl ⟨_, rfl, _, rfl, _, _, rfl, rfl, (modc h0), ?_⟩⟩
      exact q _ _ (Int.emod_nonneg _ (by omega)) (Int.emod_lt_of_pos _ h0) (hd.set _ _ _).1 (hd.set _ _ _).2.1 (hd.set _ _ _).2.2
theorem ok__law_pick {f : Addr} {fd : FuncData} (F : Fun K "_law_pick" "_law_pick" s__law_pick f fd) (T : Txt mg) (Z : PexZ K mg tx) {f__law_roll : Addr} {fd__law_roll : FuncData} (G__law_roll : FnOk P w K mg base CX0 1 f__law_roll fd__law_roll P__law_roll spRoll) (C__law_roll : Cal K mg "_law_roll" f__law_roll fd__law_roll P__law_roll) : FnOk P w K mg base CX0 2 f fd P__law_pick (spPick K) := by
  refine F.ok sc__law_pick (fun vs H Q E h => ?_) (fun cdv A outer s H vs Q E hr h => ?_)
  · obtain ⟨p, a, xs, rfl, _⟩ := h
    rfl
  · obtain ⟨p, a, xs, rfl, hp, hS, hS2, h0, hn, q⟩ := h
    refine ⟨_, (pss_one (ps_ret (pe_ix ix_list (pv 1) (pe_call G__law_roll (hr.mono (by decide)) rfl C__law_roll.m C__law_roll.k C__law_roll.b .nil pass0 (pa_cons (pv 0) (pa_cons (pe_callB call_len_seq (by rfl) T.n_len (by decide +kernel) (pa_cons (pv 1) pa_nil)) pa_nil))) (fun _ _ => rfl)))), ?_⟩
    refine ⟨_, rfl, _, rfl, _, rfl, _, _, rfl, .inl hS, ?_⟩
    refine ⟨p, _, rfl, hp, by omega, by omega, fun r H' r0 r1 e1 o1 d1 => ?_⟩
    have hlt : r.toNat < xs.length := by omega
    have hat : atI xs ((r.toNat : Nat) : Int) = some xs[r.toNat] := atI_nat (List.getElem?_eq_getElem hlt)
    rw [show ((r.toNat : Nat) : Int) = r by omega] at hat
    exact ⟨_, _, _, _, rfl, rfl, hS2 _ e1 o1, hat, q _ _ _ (List.getElem?_eq_getElem hlt) e1 o1 d1⟩

theorem ok__law_some {f : Addr} {fd : FuncData} (F : Fun K "_law_some" "_law_some" s__law_some f fd) (T : Txt mg) (Z : PexZ K mg tx) {f__law_roll : Addr} {fd__law_roll : FuncData} (G__law_roll : FnOk P w K mg base CX0 1 f__law_roll fd__law_roll P__law_roll spRoll) (C__law_roll : Cal K mg "_law_roll" f__law_roll fd__law_roll P__law_roll) : FnOk P w K mg base CX0 2 f fd P__law_some (spSome K) := by
  refine F.ok sc__law_some (fun vs H Q E h => ?_) (fun cdv A outer s H vs Q E hr h => ?_)
  · obtain ⟨p, a, xs, n, rfl, _⟩ := h
    rfl
  · obtain ⟨p, a, xs, n, rfl, hd, ha, h0, hn, hx, q⟩ := h
    refine ⟨_, (pss_cons (ps_set (i := 3) sc__law_some.nd rfl (Or.inr rfl) (pe_callTy call_list_of (by rfl) T.n_list (by decide +kernel) (pa_cons (pv 1) pa_nil)))
      (pss_one (ps_ret (pe_lc (own := [("_law_turn", 4)]) (g := gName 4) (tt := tYes) rfl sc__law_some.nd (pi_range1 (by rfl) T.n_range (pa_cons (pe_callB (call_min2 rfl) (by rfl) T.n_min (by decide +kernel) (pa_cons (pv 2) (pa_cons (pe_callB call_len_seq (by rfl) T.n_len (by decide +kernel) (pa_cons (pv 3) pa_nil)) pa_nil))) pa_nil)) (blkOk_by (own := [("_law_turn", 4)]) (N := ["_law_dice_here", "_law_items", "_law_size", "_law_left", "_law_turn"]) (sc := (defScope s__law_some)) (by decide +kernel)) (fun _ _ _ _ _ => (pg_name (i := 4) sc__law_some.nd rfl (Or.inl rfl))) (fun _ _ _ _ _ => pts_nil) (fun _ _ _ _ _ => (pe_bm_k (K := K) PySem.F.plainAttrs_list PySem.F.slot_list_pop PySem.F.type_list_pop mt_popAt (pv 3) (pa_cons (pe_call G__law_roll (hr.mono (by decide)) rfl C__law_roll.m C__law_roll.k C__law_roll.b .nil pass0 (pa_cons (pv 0) (pa_cons (pe_callB (call_len_k (K := K) ) (by rfl) T.n_len (by decide +kernel) (pa_cons (pv 3) pa_nil)) pa_nil))) pa_nil))))))), ?_⟩
    refine ⟨_, rfl, _, _, rfl, .inl (SqL.of ha), fun p1 n1 => ?_⟩
    generalize g1 : upd _ p1 _ = H1; obtain ⟨e1, o1, t1⟩ := made n1 g1; clear g1
    have d1 := hd.keep n1 o1
    have np1 : p1 ≠ p := (hd.ne n1).symm
    have b1 : But p H H1 := But.ofS (sameOf n1 o1)
    refine ⟨_, rfl, _, rfl, _, _, rfl, .inl (SqL.of t1), _, _, rfl, _, rfl, by split <;> omega, by split <;> omega, fun D hD => ?_⟩
    have nD1 : p1 ≠ D := ne_of_none t1 hD
    have nDp : D ≠ p := (d1.ne hD).symm
    generalize hm : (if (xs.length : Int) < n then (xs.length : Int) else n) = m
    have hm0 : 0 ≤ m := by rw [← hm]; split <;> omega
    have hm1 : m ≤ xs.length := by rw [← hm]; split <;> omega
    refine lc_range (lo := 0) (n := m.toNat) (fun i H' => ∃ ys zs, But p H H' ∧ Dc H' p ∧ H' D = some (.lst ys) ∧ H' p1 = some (.lst zs) ∧ (ys ++ zs).Perm xs ∧ ys.length = i)
      ⟨[], xs, b1.trans (But.ofS (sameOf hD fun b hb => upd_ne hb)), d1.keep hD (fun b hb => upd_ne hb), upd_same, by rw [upd_ne nD1]; exact t1, by simp, rfl⟩ ?_ ?_
    · rintro i H2 hi ⟨ys, zs, b2, d2, tD, tl, hp, hl⟩
      have hzl : zs.length = xs.length - i := by
        have := hp.length_eq
        rw [List.length_append] at this
        omega
      refine ⟨rfl, ?_⟩
      refine ⟨_, rfl, (.inl ⟨rfl, _, SqL.of tl⟩), _, rfl, _, rfl, _, _, rfl, .inl (SqL.of tl), p, _, rfl, d2, by omega, by omega, fun r H3 r0 r1 e3 u3 d3 => ?_⟩
      have tl3 := (u3 p1 np1).trans tl
      have tD3 := (u3 D nDp).trans tD
      have hr : r.toNat < zs.length := by omega
      have hget : zs[r.toNat]? = some zs[r.toNat] := List.getElem?_eq_getElem hr
      have hix : seqIndex? r zs.length = some r.toNat := by
        unfold seqIndex?
        simp [show ¬ r < 0 by omega, show 0 ≤ r by omega, hr, r1]
      refine ⟨_, _, _, _, _, rfl, rfl, tl3, by omega, by omega, hix, hget, ?_⟩
      generalize g4 : upd H3 p1 _ = H4
      have tl4 : H4 p1 = some (.lst (zs.eraseIdx r.toNat)) := by subst g4; exact upd_same
      have o4 : ∀ b, b ≠ p1 → H4 b = H3 b := by subst g4; exact fun b hb => upd_ne hb
      have tD4 := (o4 D nD1.symm).trans tD3
      refine ⟨ys, tD4, szlt (by omega), ys ++ [zs[r.toNat]], zs.eraseIdx r.toNat, ?_, ?_, upd_same, by rw [upd_ne nD1]; exact tl4, ?_, by rw [List.length_append, hl]; rfl⟩
      · intro b o nb hb
        have hbD : b ≠ D := ne_of_none (b1 b o nb hb) hD
        have hb1 : b ≠ p1 := ne_of_none hb n1
        rw [upd_ne hbD, o4 b hb1, u3 b nb]
        exact b2 b o nb hb
      · obtain ⟨x, y, z, h⟩ := d3
        exact ⟨x, y, z, by rw [upd_ne nDp.symm, o4 p np1.symm]; exact h⟩
      · refine List.Perm.trans ?_ hp
        rw [List.append_assoc]
        exact List.Perm.append_left _ (perm_erase hr)
    · rintro H2 ⟨ys, zs, b2, d2, tD, tl, hp, hl⟩
      have lD : H D = none := e1.fresh hD
      exact q D ys zs H2 b2 d2 lD nDp tD hp (by omega)

/-! ### the forms of numbers, classes and states -/
def spN (g f : PyData → Bool) : Sp := fun vs H Q _ => ∃ v d, vs = [v] ∧ Dx H v d ∧ g d = true ∧ ∀ H', Same H H' → Q (.bl (f d)) H'
def len1 : PyData → Bool
  | .tuple ds => decide (ds.length ≤ 100)
  | _ => true
def len2 : PyData → Bool
  | .tuple ds => decide (ds.length ≤ 100) && ds.all len1
  | _ => true
def len3 : PyData → Bool
  | .tuple ds => decide (ds.length ≤ 100) && ds.all len2
  | _ => true
def numD : PyData → Bool
  | .int i => isIntD (.int i) && decide (0 ≤ i)
  | _ => false
def numsD : PyData → Bool
  | .tuple ds => ds.all numD
  | _ => false
def intOf : PyData → Int
  | .int i => i
  | _ => 0
def intsOf : PyData → List Int
  | .tuple ds => ds.map intOf
  | _ => []
def ltD : PyData → PyData → Bool
  | .tuple ds, .tuple es => HT.lexLt (ds.map intOf) (es.map intOf)
  | d, e => decide (intOf d < intOf e)
def ascD (ds : List PyData) : Bool := (List.range (ds.length - 1)).all fun i => ltD (ds.getD i .none) (ds.getD (i + 1) .none)
def classD : PyData → Bool
  | .tuple ds => ds.all numD && ascD ds
  | _ => false
def classesD : PyData → Bool
  | .tuple ds => ds.all classD && ascD ds
  | _ => false
def stateD : PyData → Bool
  | .tuple [a, b] => classD a && classesD b
  | _ => false
section
variable {H H' H9 : Hp} {D : Addr} {ds : List PyData} {f : PyData → Bool} {i : Nat} {d : PyData}
theorem bools_step (hD : H D = none) (sm : Same H H') (hl : H' D = some (.lst ((ds.take i).map fun d => V.bl (f d)))) (hd : ds[i]? = some d) (s9 : Same H' H9) (small : ds.length ≤ 100) :
    ∃ acc, H9 D = some (.lst acc) ∧ acc.length < sizeLine ∧ Same H (upd H9 D (.lst (acc ++ [V.bl (f d)]))) ∧ (upd H9 D (.lst (acc ++ [V.bl (f d)]))) D = some (.lst ((ds.take (i + 1)).map fun d => V.bl (f d))) := by
  refine ⟨_, s9 _ _ hl, szlt (by rw [List.length_map, List.length_take]; omega), fun b o e => ?_, ?_⟩
  · rw [upd_ne (ne_of_none e hD)]
    exact s9 _ _ (sm _ _ e)
  · rw [upd_same, List.take_add_one, List.map_append, hd]
    rfl
theorem bools_all : (ds.map f).all id = ds.all f := by
  rw [List.all_map]
  rfl
end
theorem ok_are_numbers {f : Addr} {fd : FuncData} (F : Fun K "are_numbers" "are_numbers" s_are_numbers f fd) (T : Txt mg) (Z : PexZ K mg tx) {f_is_integer : Addr} {fd_is_integer : FuncData} (G_is_integer : FnOk P w K mg base CX0 1 f_is_integer fd_is_integer P_is_integer spInt) (C_is_integer : Cal K mg "is_integer" f_is_integer fd_is_integer P_is_integer) : FnOk P w K mg base CX0 2 f fd P_are_numbers (spN len1 numsD) := by
  refine F.ok sc_are_numbers (fun vs H Q E h => ?_) (fun cdv A outer s H vs Q E hr h => ?_)
  · obtain ⟨v, d, rfl, _⟩ := h
    rfl
  · obtain ⟨v, d, rfl, hv, hz, q⟩ := h
    refine ⟨_, (pss_one (ps_ret (pe_and (pe_callB call_isi (by rfl) T.n_isinstance (by decide +kernel) (pa_cons (pv 0) (pa_cons (pe_bltn (v := .ty "tuple") rfl T.n_tuple (by decide +kernel) rfl) pa_nil))) (pe_one (pe_callB (cr_all rfl) (by rfl) T.n_all (by decide +kernel) (pa_cons (pe_lc (own := [("number", 1)]) (g := gName 1) (tt := tYes) rfl sc_are_numbers.nd (pi_tup (pv 0)) (blkOk_by (own := [("number", 1)]) (N := ["value", "number"]) (sc := (defScope s_are_numbers)) (by decide +kernel)) (fun _ _ _ _ _ => (pg_name (i := 1) sc_are_numbers.nd rfl (Or.inl rfl))) (fun _ _ _ _ _ => pts_nil) (fun _ _ _ _ _ => (pe_and (pe_call G_is_integer (hr.mono (by decide)) rfl C_is_integer.m C_is_integer.k C_is_integer.b .nil pass0 (pa_cons (pv 1) pa_nil)) (pe_one (pe_cmpR op_ge (pv 1) pe_int (nomark _)))))) pa_nil)))))), ?_⟩
    refine ⟨_, rfl, _, _, _, _, _, rfl, .ty _, hv.ty, kit_tuple d, _, rfl, ?_⟩
    cases hv with
    | @tup a xs ds ha hx =>
      have hl : ds.length ≤ 100 := of_decide_eq_true hz
      refine iteT ?_
      refine ⟨_, rfl, _, rfl, ⟨_, SqT.of ha⟩, fun D hD => ?_⟩
      refine lc_tup (K := K) (xs := xs) (fun i H' => Same H H' ∧ H' D = some (.lst ((ds.take i).map fun d => V.bl (numD d)))) ⟨sameOf hD (fun b hb => upd_ne hb), upd_same⟩ (fun i H' _ h => SqT.of (h.1 _ _ ha)) ?_ ?_
      · rintro i y H' hi ⟨sm, hl1⟩
        obtain ⟨d, hd, xd⟩ := hx.get hi
        refine ⟨rfl, ?_⟩
        refine ⟨_, rfl, y, d, rfl, xd.same sm, ?_⟩
        refine ⟨_, rfl, ?_⟩
        have st := bools_step (f := numD) hD sm hl1 hd (Same.refl H') hl
        cases d with
        | int k =>
          refine ite2 (fun g => ?_) (fun g => ?_)
          · cases xd
            have e : numD (.int k) = decide (0 ≤ k) := by
              show (isIntD (.int k) && _) = _
              rw [show isIntD (.int k) = true from g, Bool.true_and]
            rw [e] at st
            exact ⟨_, rfl, _, _, rfl, rfl, st⟩
          · have e : numD (.int k) = false := by
              show (isIntD (.int k) && _) = _
              rw [show isIntD (.int k) = false from Bool.eq_false_iff.mpr g, Bool.false_and]
            rw [e] at st
            exact st
        | _ => exact iteF st
      · rintro H9 ⟨sm, hl1⟩
        rw [hx.len, List.take_of_length_le (Nat.le_refl _)] at hl1
        refine ⟨_, ds.map numD, rfl, SqL.of (by rw [hl1, List.map_map]; rfl), ?_⟩
        rw [bools_all]
        exact q H9 sm
    | _ => exact iteF (q H (Same.refl H))
def RowsD (ds : List PyData) : Prop := (∀ d ∈ ds, ∃ i, d = .int i) ∨ ∀ d ∈ ds, ∃ es, d = .tuple es ∧ ∀ e ∈ es, ∃ i, e = PyData.int i
def spAsc : Sp := fun vs H Q _ => ∃ (a : Addr) (xs : List V) (ds : List PyData), vs = [.ref a] ∧ H a = some (.tup xs) ∧ DxAll H xs ds ∧ ds.length ≤ 100 ∧ RowsD ds ∧ ∀ H', Same H H' → Q (.bl (ascD ds)) H'
theorem getD_at {ds : List PyData} {i : Nat} (h : i < ds.length) : ds.getD i .none = ds[i] := by
  rw [List.getD_eq_getElem?_getD, List.getElem?_eq_getElem h]
  rfl
theorem ints_vals {H : Hp} : ∀ {es : List PyData} {xs : List V}, DxAll H xs es → (∀ e ∈ es, ∃ i, e = PyData.int i) → xs = (es.map intOf).map V.int
  | [], _, h, _ => by cases h; rfl
  | e :: es, _, h, k => by
    obtain ⟨i, rfl⟩ := k e List.mem_cons_self
    cases h with
    | cons a r =>
      cases a
      rw [ints_vals r fun x hx => k x (List.mem_cons_of_mem _ hx)]
      rfl
theorem ok_ascends {f : Addr} {fd : FuncData} (F : Fun K "ascends" "ascends" s_ascends f fd) (T : Txt mg) (Z : PexZ K mg tx) : FnOk P w K mg base CX0 1 f fd P_ascends spAsc := by
  refine F.ok sc_ascends (fun vs H Q E h => ?_) (fun cdv A outer s H vs Q E hr h => ?_)
  · obtain ⟨a, xs, ds, rfl, _⟩ := h
    rfl
  · obtain ⟨a, xs, ds, rfl, ha, hx, hl, hR, q⟩ := h
    refine ⟨_, (pss_one (ps_ret (pe_callB (cr_all rfl) (by rfl) T.n_all (by decide +kernel) (pa_cons (pe_lc (own := [("at", 1)]) (g := gName 1) (tt := tYes) rfl sc_ascends.nd (pi_range1 (by rfl) T.n_range (pa_cons (pe_op op_sub (pe_callB call_len_seq (by rfl) T.n_len (by decide +kernel) (pa_cons (pv 0) pa_nil)) pe_int) pa_nil)) (blkOk_by (own := [("at", 1)]) (N := ["rows", "at"]) (sc := (defScope s_ascends)) (by decide +kernel)) (fun _ _ _ _ _ => (pg_name (i := 1) sc_ascends.nd rfl (Or.inl rfl))) (fun _ _ _ _ _ => pts_nil) (fun _ _ _ _ _ => (pe_cmpR (op_ltU (K := K) (by have z := hu65 hr; exact Nat.lt_of_le_of_lt (Nat.le_add_right _ _) z)) (pe_ix (ix_tup_k (K := K) ) (pv 0) (pv 1) (fun _ _ => rfl)) (pe_ix (ix_tup_k (K := K) ) (pv 0) (pe_op op_add (pv 1) pe_int) (fun _ _ => rfl)) (nomark _)))) pa_nil)))), ?_⟩
    have lx := hx.len
    refine ⟨_, rfl, _, _, rfl, .inr (SqT.of ha), _, _, rfl, rfl, _, rfl, by omega, by omega, ?_⟩
    refine fun D hD => ?_
    refine lc_range (lo := 0) (n := ((xs.length : Int) - 1).toNat) (fun i H' => Same H H' ∧ H' D = some (.lst ((List.range i).map fun i => V.bl (ltD (ds.getD i .none) (ds.getD (i + 1) .none))))) ⟨sameOf hD (fun b hb => upd_ne hb), upd_same⟩ ?_ ?_
    · rintro i H' hi ⟨sm, hl1⟩
      have i1 : i < ds.length := by omega
      have i2 : i + 1 < ds.length := by omega
      have at1 : ∀ {j : Nat} (h : j < ds.length), ∃ y, xs[j]? = some y ∧ Dx H y ds[j] := fun {j} h => by
        have h' : j < xs.length := by omega
        obtain ⟨d, hd, xd⟩ := hx.get (List.getElem?_eq_getElem h')
        rw [List.getElem?_eq_getElem h] at hd
        cases hd
        exact ⟨_, List.getElem?_eq_getElem h', xd⟩
      obtain ⟨y1, hy1, x1⟩ := at1 i1
      obtain ⟨y2, hy2, x2⟩ := at1 i2
      have st : ∃ acc, H' D = some (.lst acc) ∧ acc.length < sizeLine ∧ Same H (upd H' D (.lst (acc ++ [V.bl (ltD (ds.getD i .none) (ds.getD (i + 1) .none))]))) ∧ (upd H' D (.lst (acc ++ [V.bl (ltD (ds.getD i .none) (ds.getD (i + 1) .none))]))) D = some (.lst ((List.range (i + 1)).map fun i => V.bl (ltD (ds.getD i .none) (ds.getD (i + 1) .none)))) := by
        refine ⟨_, hl1, szlt (by rw [List.length_map, List.length_range]; omega), fun b o e => ?_, ?_⟩
        · rw [upd_ne (ne_of_none e hD)]
          exact sm _ _ e
        · rw [upd_same, List.range_succ, List.map_append]
          rfl
      rw [getD_at i1, getD_at i2] at st
      have y1' : atI xs (0 + (i : Int)) = some y1 := by rw [Int.zero_add]; exact atI_nat hy1
      have y2' : atI xs (0 + (i : Int) + 1) = some y2 := by
        rw [show (0 : Int) + (i : Int) + 1 = ((i + 1 : Nat) : Int) by omega]
        exact atI_nat hy2
      refine ⟨rfl, ?_⟩
      refine ⟨_, rfl, _, rfl, _, _, _, _, rfl, rfl, SqT.of (sm _ _ ha), y1', _, rfl, _, rfl, _, _, rfl, rfl, _, _, _, _, rfl, rfl, SqT.of (sm _ _ ha), y2', ?_⟩
      rcases hR with k | k
      · obtain ⟨u, e1⟩ := k _ (List.getElem_mem i1)
        obtain ⟨v, e2⟩ := k _ (List.getElem_mem i2)
        rw [e1] at x1 st
        rw [e2] at x2 st
        cases x1
        cases x2
        exact .inl ⟨u, v, rfl, rfl, st⟩
      · obtain ⟨es1, e1, k1⟩ := k _ (List.getElem_mem i1)
        obtain ⟨es2, e2, k2⟩ := k _ (List.getElem_mem i2)
        rw [e1] at x1 st
        rw [e2] at x2 st
        cases x1 with
        | @tup b1 ys1 _ g1 z1 =>
        cases x2 with
        | @tup b2 ys2 _ g2 z2 =>
        refine .inr ⟨b1, b2, es1.map intOf, es2.map intOf, rfl, rfl, ?_, ?_, st⟩
        · rw [← ints_vals z1 k1]
          exact SqT.of (sm _ _ g1)
        · rw [← ints_vals z2 k2]
          exact SqT.of (sm _ _ g2)
    · rintro H9 ⟨sm, hl1⟩
      refine ⟨_, (List.range ((xs.length : Int) - 1).toNat).map fun i => ltD (ds.getD i .none) (ds.getD (i + 1) .none), rfl, SqL.of (by rw [hl1, List.map_map]; rfl), ?_⟩
      rw [List.all_map, show ((xs.length : Int) - 1).toNat = ds.length - 1 by omega]
      exact q H9 sm

theorem num_int {d : PyData} (h : numD d = true) : ∃ i, d = .int i := by
  cases d with
  | int i => exact ⟨i, rfl⟩
  | _ => cases h
theorem nums_tup {d : PyData} (h : numsD d = true) : ∃ ds, d = .tuple ds ∧ ∀ e ∈ ds, ∃ i, e = PyData.int i := by
  cases d with
  | tuple ds => exact ⟨ds, rfl, fun e he => num_int (List.all_eq_true.mp h e he)⟩
  | _ => cases h
theorem class_eq {d : PyData} : classD d = (numsD d && match d with | .tuple ds => ascD ds | _ => false) := by
  cases d <;> rfl
theorem ok_is_class_form {f : Addr} {fd : FuncData} (F : Fun K "is_class_form" "is_class_form" s_is_class_form f fd) (T : Txt mg) (Z : PexZ K mg tx) {f_are_numbers : Addr} {fd_are_numbers : FuncData} (G_are_numbers : FnOk P w K mg base CX0 2 f_are_numbers fd_are_numbers P_are_numbers (spN len1 numsD)) (C_are_numbers : Cal K mg "are_numbers" f_are_numbers fd_are_numbers P_are_numbers) {f_ascends : Addr} {fd_ascends : FuncData} (G_ascends : FnOk P w K mg base CX0 1 f_ascends fd_ascends P_ascends spAsc) (C_ascends : Cal K mg "ascends" f_ascends fd_ascends P_ascends) : FnOk P w K mg base CX0 3 f fd P_is_class_form (spN len1 classD) := by
  refine F.ok sc_is_class_form (fun vs H Q E h => ?_) (fun cdv A outer s H vs Q E hr h => ?_)
  · obtain ⟨v, d, rfl, _⟩ := h
    rfl
  · obtain ⟨v, d, rfl, hv, hz, q⟩ := h
    refine ⟨_, (pss_one (ps_ret (pe_and (pe_call G_are_numbers (hr.mono (by decide)) rfl C_are_numbers.m C_are_numbers.k C_are_numbers.b .nil pass0 (pa_cons (pv 0) pa_nil)) (pe_one (pe_call G_ascends (hr.mono (by decide)) rfl C_ascends.m C_ascends.k C_ascends.b .nil pass0 (pa_cons (pv 0) pa_nil)))))), ?_⟩
    refine ⟨_, rfl, v, d, rfl, hv, hz, fun H1 s1 => ?_⟩
    rw [class_eq] at q
    refine ⟨_, rfl, ?_⟩
    refine ite2 (fun g => ?_) (fun g => ?_)
    · have g : numsD d = true := g
      obtain ⟨ds, rfl, k⟩ := nums_tup g
      rw [g, Bool.true_and] at q
      cases hv with
      | @tup a xs _ ha hx =>
        exact ⟨_, rfl, a, xs, ds, rfl, s1 _ _ ha, hx.same s1, of_decide_eq_true hz, .inl k, fun H2 s2 => q H2 (s1.trans s2)⟩
    · have g : numsD d = false := Bool.eq_false_iff.mpr g
      rw [g, Bool.false_and] at q
      exact q H1 s1
theorem ok_are_classes_form {f : Addr} {fd : FuncData} (F : Fun K "are_classes_form" "are_classes_form" s_are_classes_form f fd) (T : Txt mg) (Z : PexZ K mg tx) {f_is_class_form : Addr} {fd_is_class_form : FuncData} (G_is_class_form : FnOk P w K mg base CX0 3 f_is_class_form fd_is_class_form P_is_class_form (spN len1 classD)) (C_is_class_form : Cal K mg "is_class_form" f_is_class_form fd_is_class_form P_is_class_form) {f_ascends : Addr} {fd_ascends : FuncData} (G_ascends : FnOk P w K mg base CX0 1 f_ascends fd_ascends P_ascends spAsc) (C_ascends : Cal K mg "ascends" f_ascends fd_ascends P_ascends) : FnOk P w K mg base CX0 4 f fd P_are_classes_form (spN len2 classesD) := by
  refine F.ok sc_are_classes_form (fun vs H Q E h => ?_) (fun cdv A outer s H vs Q E hr h => ?_)
  · obtain ⟨v, d, rfl, _⟩ := h
    rfl
  · obtain ⟨v, d, rfl, hv, hz, q⟩ := h
    refine ⟨_, (pss_one (ps_ret (pe_and (pe_callB call_isi (by rfl) T.n_isinstance (by decide +kernel) (pa_cons (pv 0) (pa_cons (pe_bltn (v := .ty "tuple") rfl T.n_tuple (by decide +kernel) rfl) pa_nil))) (pe_and (pe_callB (cr_all rfl) (by rfl) T.n_all (by decide +kernel) (pa_cons (pe_lc (own := [("row", 1)]) (g := gName 1) (tt := tYes) rfl sc_are_classes_form.nd (pi_tup (pv 0)) (blkOk_by (own := [("row", 1)]) (N := ["value", "row"]) (sc := (defScope s_are_classes_form)) (by decide +kernel)) (fun _ _ _ _ _ => (pg_name (i := 1) sc_are_classes_form.nd rfl (Or.inl rfl))) (fun _ _ _ _ _ => pts_nil) (fun _ _ _ _ _ => (pe_call G_is_class_form (hr.mono (by decide)) rfl C_is_class_form.m C_is_class_form.k C_is_class_form.b .nil pass0 (pa_cons (pv 1) pa_nil)))) pa_nil)) (pe_one (pe_call G_ascends (hr.mono (by decide)) rfl C_ascends.m C_ascends.k C_ascends.b .nil pass0 (pa_cons (pv 0) pa_nil))))))), ?_⟩
    refine ⟨_, rfl, _, _, _, _, _, rfl, .ty _, hv.ty, kit_tuple d, _, rfl, ?_⟩
    cases hv with
    | @tup a xs ds ha hx =>
      have hz : (decide (ds.length ≤ 100) && ds.all len1) = true := hz
      rw [Bool.and_eq_true] at hz
      have hl : ds.length ≤ 100 := of_decide_eq_true hz.1
      refine iteT ?_
      refine ⟨_, rfl, _, rfl, ⟨_, SqT.of ha⟩, fun D hD => ?_⟩
      refine lc_tup (K := K) (xs := xs) (fun i H' => Same H H' ∧ H' D = some (.lst ((ds.take i).map fun d => V.bl (classD d)))) ⟨sameOf hD (fun b hb => upd_ne hb), upd_same⟩ (fun i H' _ h => SqT.of (h.1 _ _ ha)) ?_ ?_
      · rintro i y H' hi ⟨sm, hl1⟩
        obtain ⟨d, hd, xd⟩ := hx.get hi
        refine ⟨rfl, ?_⟩
        exact ⟨_, rfl, y, d, rfl, xd.same sm, List.all_eq_true.mp hz.2 d (List.mem_of_getElem? hd), fun H9 s9 => bools_step (f := classD) hD sm hl1 hd s9 hl⟩
      · rintro H9 ⟨sm, hl1⟩
        rw [hx.len, List.take_of_length_le (Nat.le_refl _)] at hl1
        refine ⟨_, ds.map classD, rfl, SqL.of (by rw [hl1, List.map_map]; rfl), ?_⟩
        rw [bools_all]
        have eq : classesD (.tuple ds) = (ds.all classD && ascD ds) := rfl
        rw [eq] at q
        refine ⟨_, rfl, ?_⟩
        refine ite2 (fun g => ?_) (fun g => ?_)
        · have g : ds.all classD = true := g
          rw [g, Bool.true_and] at q
          refine ⟨_, rfl, a, xs, ds, rfl, sm _ _ ha, hx.same sm, hl, .inr fun d hd => ?_, fun H2 s2 => q H2 (sm.trans s2)⟩
          have z := List.all_eq_true.mp g d hd
          rw [class_eq, Bool.and_eq_true] at z
          exact nums_tup z.1
        · have g : ds.all classD = false := Bool.eq_false_iff.mpr g
          rw [g, Bool.false_and] at q
          exact q H9 sm
    | _ => exact iteF (q H (Same.refl H))
theorem ok_is_state_form {f : Addr} {fd : FuncData} (F : Fun K "is_state_form" "is_state_form" s_is_state_form f fd) (T : Txt mg) (Z : PexZ K mg tx) {f_is_class_form : Addr} {fd_is_class_form : FuncData} (G_is_class_form : FnOk P w K mg base CX0 3 f_is_class_form fd_is_class_form P_is_class_form (spN len1 classD)) (C_is_class_form : Cal K mg "is_class_form" f_is_class_form fd_is_class_form P_is_class_form) {f_are_classes_form : Addr} {fd_are_classes_form : FuncData} (G_are_classes_form : FnOk P w K mg base CX0 4 f_are_classes_form fd_are_classes_form P_are_classes_form (spN len2 classesD)) (C_are_classes_form : Cal K mg "are_classes_form" f_are_classes_form fd_are_classes_form P_are_classes_form) : FnOk P w K mg base CX0 5 f fd P_is_state_form (spN len3 stateD) := by
  refine F.ok sc_is_state_form (fun vs H Q E h => ?_) (fun cdv A outer s H vs Q E hr h => ?_)
  · obtain ⟨v, d, rfl, _⟩ := h
    rfl
  · obtain ⟨v, d, rfl, hv, hz, q⟩ := h
    refine ⟨_, (pss_cons (ps_if (PW.pt (pw_or (pt_not (pt_val (pe_callB call_isi (by rfl) T.n_isinstance (by decide +kernel) (pa_cons (pv 0) (pa_cons (pe_bltn (v := .ty "tuple") rfl T.n_tuple (by decide +kernel) rfl) pa_nil))))) (pw_or1 (pt_cmpR op_ne (pe_callB call_len_seq (by rfl) T.n_len (by decide +kernel) (pa_cons (pv 0) pa_nil)) pe_int (nomark _))))) (pss_one (ps_ret pe_bl)) pss_nil)
      (pss_one (ps_ret (pe_and (pe_call G_is_class_form (hr.mono (by decide)) rfl C_is_class_form.m C_is_class_form.k C_is_class_form.b .nil pass0 (pa_cons (pe_ix ix_tup (pv 0) pe_int (fun _ _ => rfl)) pa_nil)) (pe_one (pe_call G_are_classes_form (hr.mono (by decide)) rfl C_are_classes_form.m C_are_classes_form.k C_are_classes_form.b .nil pass0 (pa_cons (pe_ix ix_tup (pv 0) pe_int (fun _ _ => rfl)) pa_nil))))))), ?_⟩
    refine ⟨_, rfl, _, _, _, _, _, rfl, .ty _, hv.ty, kit_tuple d, _, rfl, ?_⟩
    cases hv with
    | @tup a xs ds ha hx =>
      have hz : (decide (ds.length ≤ 100) && ds.all len2) = true := hz
      rw [Bool.and_eq_true] at hz
      refine iteF ?_
      refine ⟨_, rfl, _, _, rfl, .inr (SqT.of ha), rfl, _, rfl, ?_⟩
      have lx := hx.len
      refine ite2 (fun g => ?_) (fun g => ?_)
      · have g' : ¬ V.int (xs.length : Int) = V.int 2 := of_decide_eq_false (by simpa using g)
        have hl : ds.length ≠ 2 := fun e => g' (by rw [lx, e]; rfl)
        have e : stateD (.tuple ds) = false := by
          match ds, hl with
          | [], _ => rfl
          | [_], _ => rfl
          | _ :: _ :: _ :: _, _ => rfl
        rw [e] at q
        exact q H (Same.refl H)
      · have g' : V.int (xs.length : Int) = V.int 2 := by simpa using g
        have hl : ds.length = 2 := by
          have := V.int.inj g'
          omega
        obtain ⟨s, m, rfl⟩ : ∃ s m, ds = [s, m] := by
          cases ds with
          | nil => cases hl
          | cons s ds =>
            obtain ⟨m, rfl⟩ := List.length_eq_one_iff.mp (Nat.succ.inj hl)
            exact ⟨s, m, rfl⟩
        cases hx with
        | @cons x _ _ _ hs hx =>
        cases hx with
        | @cons y _ _ _ hm hx =>
        cases hx
        have l1 := List.all_eq_true.mp hz.2 s List.mem_cons_self
        have l2 := List.all_eq_true.mp hz.2 m (List.mem_cons_of_mem _ List.mem_cons_self)
        have l1' : len1 s = true := by
          cases s with
          | tuple es =>
            have z : (decide (es.length ≤ 100) && es.all len1) = true := l1
            exact (Bool.and_eq_true_iff.mp z).1
          | _ => rfl
        have eq : stateD (.tuple [s, m]) = (classD s && classesD m) := rfl
        rw [eq] at q
        refine ⟨_, rfl, _, _, _, _, rfl, rfl, SqT.of ha, rfl, x, s, rfl, hs, l1', fun H1 s1 => ?_⟩
        refine ⟨_, rfl, ?_⟩
        refine ite2 (fun g => ?_) (fun g => ?_)
        · have g : classD s = true := g
          rw [g, Bool.true_and] at q
          exact ⟨_, rfl, _, _, _, _, rfl, rfl, SqT.of (s1 _ _ ha), rfl, y, m, rfl, hm.same s1, l2, fun H2 s2 => q H2 (s1.trans s2)⟩
        · have g : classD s = false := Bool.eq_false_iff.mpr g
          rw [g, Bool.false_and] at q
          exact q H1 s1
    | _ => exact iteT (q H (Same.refl H))
def keyD : PyData → Bool
  | .tuple ds => ds.all numD && decide (ds.length = 2)
  | _ => false
theorem ok_is_key {f : Addr} {fd : FuncData} (F : Fun K "is_key" "is_key" s_is_key f fd) (T : Txt mg) (Z : PexZ K mg tx) {f_are_numbers : Addr} {fd_are_numbers : FuncData} (G_are_numbers : FnOk P w K mg base CX0 2 f_are_numbers fd_are_numbers P_are_numbers (spN len1 numsD)) (C_are_numbers : Cal K mg "are_numbers" f_are_numbers fd_are_numbers P_are_numbers) : FnOk P w K mg base CX0 3 f fd P_is_key (spN len1 keyD) := by
  refine F.ok sc_is_key (fun vs H Q E h => ?_) (fun cdv A outer s H vs Q E hr h => ?_)
  · obtain ⟨v, d, rfl, _⟩ := h
    rfl
  · obtain ⟨v, d, rfl, hv, hz, q⟩ := h
    refine ⟨_, (pss_one (ps_ret (pe_and (pe_call G_are_numbers (hr.mono (by decide)) rfl C_are_numbers.m C_are_numbers.k C_are_numbers.b .nil pass0 (pa_cons (pv 0) pa_nil)) (pe_one (pe_cmpR op_eq (pe_callB call_len_seq (by rfl) T.n_len (by decide +kernel) (pa_cons (pv 0) pa_nil)) pe_int (nomark _)))))), ?_⟩
    refine ⟨_, rfl, v, d, rfl, hv, hz, fun H1 s1 => ?_⟩
    refine ⟨_, rfl, ?_⟩
    refine ite2 (fun g => ?_) (fun g => ?_)
    · have g : numsD d = true := g
      obtain ⟨ds, rfl, k⟩ := nums_tup g
      have eq : keyD (.tuple ds) = decide (ds.length = 2) := by
        show (ds.all numD && _) = _
        rw [show ds.all numD = true from g, Bool.true_and]
      rw [eq] at q
      cases hv with
      | @tup a xs _ ha hx =>
        have lx := hx.len
        refine ⟨_, rfl, _, _, rfl, .inr (SqT.of (s1 _ _ ha)), rfl, ?_⟩
        have e : decide (V.int (xs.length : Int) = V.int 2) = decide (ds.length = 2) := by
          refine decide_eq_decide.mpr ⟨fun z => by have := V.int.inj z; omega, fun z => by rw [lx, z]; rfl⟩
        rw [e]
        exact q H1 s1
    · have g : numsD d = false := Bool.eq_false_iff.mpr g
      have eq : keyD d = false := by
        cases d with
        | tuple ds =>
          show (ds.all numD && _) = _
          rw [show ds.all numD = false from g, Bool.false_and]
        | _ => rfl
      rw [eq] at q
      exact q H1 s1

/-! ### numbers told -/
def vOpt : Option Int → V
  | none => .non
  | some i => .int i
def spNo : Sp := fun vs H Q _ => ∃ x : Str, vs = [.str x] ∧ x.length ≤ 4000 ∧ ∀ H', Same H H' → Q (vOpt (numW (TL.tl x))) H'
theorem numW_none1 {w : List Nat} (h : ¬ (1 ≤ w.length ∧ w.length ≤ 60)) : numW w = none := by
  unfold numW
  rw [if_neg]
  intro z
  unfold okW at z
  simp only [Bool.and_eq_true, decide_eq_true_eq] at z
  exact h ⟨z.1, z.2.1⟩
theorem numW_none2 {w : List Nat} (h : w.all dgC = false) : numW w = none := by
  unfold numW
  rw [if_neg]
  intro z
  unfold okW at z
  simp only [Bool.and_eq_true] at z
  rw [h] at z
  exact absurd z.2.2.1 Bool.false_ne_true
theorem sign_lt {c d : Nat} : (([c] : List Nat) < [d]) ↔ c < d := by
  rw [List.cons_lt_cons_iff]
  exact ⟨fun h => h.elim id fun z => absurd z.2 (List.lt_irrefl _), .inl⟩
theorem sign_0 : (Str.ofString "0").cps.toList = [48] := by decide +kernel
theorem sign_9 : (Str.ofString "9").cps.toList = [57] := by decide +kernel
theorem sign_lo {c : Nat} (h : (!decide (({ cps := #[c] } : Str).cps.toList < (Str.ofString "0").cps.toList)) = true) : 48 ≤ c := by
  rw [sign_0] at h
  rw [Bool.not_eq_true', decide_eq_false_iff_not] at h
  exact Nat.le_of_not_lt fun z => h (sign_lt.mpr z)
theorem sign_lo2 {c : Nat} (h : ¬ (!decide (({ cps := #[c] } : Str).cps.toList < (Str.ofString "0").cps.toList)) = true) : false = dgC c := by
  have e : (!decide (({ cps := #[c] } : Str).cps.toList < (Str.ofString "0").cps.toList)) = false := by
    cases z : (!decide (({ cps := #[c] } : Str).cps.toList < (Str.ofString "0").cps.toList)) with
    | false => rfl
    | true => exact absurd z h
  rw [sign_0, Bool.not_eq_false', decide_eq_true_eq] at e
  have := sign_lt.mp e
  unfold dgC
  rw [decide_eq_false (by omega)]
  rfl
theorem sign_hi {c : Nat} (h : 48 ≤ c) : (!decide ((Str.ofString "9").cps.toList < ({ cps := #[c] } : Str).cps.toList)) = dgC c := by
  rw [sign_9]
  unfold dgC
  rw [decide_eq_true h, Bool.true_and]
  by_cases z : c ≤ 57
  · rw [decide_eq_true z, decide_eq_false (fun w => by have : 57 < c := sign_lt.mp w; omega)]
    rfl
  · rw [decide_eq_false z, decide_eq_true (show ([57] : List Nat) < [c] from sign_lt.mpr (by omega))]
    rfl
theorem one_sign {c d : Nat} {x : Str} (hx : TL.tl x = [d]) : (V.str { cps := #[c] } = V.str x) ↔ c = d := by
  constructor
  · intro h
    have e : TL.tl ({ cps := #[c] } : Str) = TL.tl x := congrArg TL.tl (V.str.inj h)
    rw [hx] at e
    exact (List.cons.inj e).1
  · rintro rfl
    exact congrArg V.str (TL.ext_tl hx.symm)
theorem str_is {x y : Str} : (V.str x = V.str y) ↔ TL.tl x = TL.tl y := ⟨fun h => congrArg TL.tl (V.str.inj h), fun h => congrArg V.str (TL.ext_tl h)⟩
theorem ok_number_told {f : Addr} {fd : FuncData} (F : Fun K "number_told" "number_told" s_number_told f fd) (T : Txt mg) (Z : PexZ K mg tx) : FnOk P w K mg base CX0 1 f fd P_number_told spNo := by
  refine F.ok sc_number_told (fun vs H Q E h => ?_) (fun cdv A outer s H vs Q E hr h => ?_)
  · obtain ⟨x, rfl, _⟩ := h
    rfl
  · obtain ⟨x, rfl, lx, q⟩ := h
    refine ⟨_, (pss_cons (ps_if (PW.pt (pw_or (pt_not (pt_chain op_le op_le pe_int (pe_callB call_len_str (by rfl) T.n_len (by decide +kernel) (pa_cons (pv 0) pa_nil)) (pe_glob (v := .int 60) rfl T.m_MAX_DIGITS.choose_spec ⟨_, rfl⟩))) (pw_or1 (pt_not (pt_val (pe_callB (cr_all rfl) (by rfl) T.n_all (by decide +kernel) (pa_cons (pe_lc (own := [("letter", 1)]) (g := gName 1) (tt := tYes) rfl sc_number_told.nd (pi_str (pv 0)) (blkOk_by (own := [("letter", 1)]) (N := ["text", "letter"]) (sc := (defScope s_number_told)) (by decide +kernel)) (fun _ _ _ _ _ => (pg_name (i := 1) sc_number_told.nd rfl (Or.inl rfl))) (fun _ _ _ _ _ => pts_nil) (fun _ _ _ _ _ => (pe_chain op_le_str op_le_str pe_str (pv 1) pe_str))) pa_nil))))))) (pss_one (ps_ret pe_non)) pss_nil)
      (pss_one (ps_ret (pe_ifExp (PW.pt (pw_or (pt_cmpR op_ne (pe_ix ix_str (pv 0) pe_int (fun _ _ => rfl)) pe_str (nomark _)) (pw_or1 (pt_cmpR op_eq (pv 0) pe_str (nomark _))))) (pe_callTy call_int_str (by rfl) T.n_int (by decide +kernel) (pa_cons (pv 0) pa_nil)) pe_non)))), ?_⟩
    have el : x.length = (TL.tl x).length := TL.len_tl x
    have none_ : numW (TL.tl x) = none → ∀ H', Same H H' → Q .non H' := fun e H' s => by
      have := q H' s
      rw [e] at this
      exact this
    refine ⟨_, rfl, _, rfl, by rw [sizeLine_eq]; omega, _, _, rfl, rfl, _, rfl, ?_⟩
    refine ite2 (fun g => ?_) (fun g => ?_)
    · have g1 := of_decide_eq_true g
      refine ⟨_, _, rfl, rfl, _, rfl, ?_⟩
      refine ite2 (fun g2 => ?_) (fun g2 => ?_)
      · have g3 : ¬ ((x.length : Int) ≤ 60) := fun z => by rw [decide_eq_true z] at g2; cases g2
        exact none_ (numW_none1 (by rw [← el]; omega)) H (Same.refl H)
      · have g3 : (x.length : Int) ≤ 60 := by
          by_cases z : (x.length : Int) ≤ 60
          · exact z
          · rw [decide_eq_false z] at g2
            exact absurd rfl g2
        have l1 : 1 ≤ (TL.tl x).length ∧ (TL.tl x).length ≤ 60 := by rw [← el]; omega
        refine ⟨_, rfl, _, rfl, fun D hD => lc_it (walk_str (z := x)) (fun i H' => Same H H' ∧ H' D = some (.lst ((((TL.tl x).take i).map dgC).map V.bl))) ⟨sameOf hD (fun b hb => upd_ne hb), upd_same⟩ (fun _ _ _ _ => trivial) ?_ ?_⟩
        · rintro i v H1 H2 hi ⟨sm, hl1⟩ ⟨rfl, c, hc, rfl⟩
          refine ⟨rfl, ?_⟩
          have hc2 : (TL.tl x)[i]? = some c := by rw [Array.getElem?_toList]; exact hc
          have step : ∀ b : Bool, b = dgC c → ∃ acc, H2 D = some (.lst acc) ∧ acc.length < sizeLine ∧ Same H (upd H2 D (.lst (acc ++ [V.bl b]))) ∧ (upd H2 D (.lst (acc ++ [V.bl b]))) D = some (.lst ((((TL.tl x).take (i + 1)).map dgC).map V.bl)) := fun b eb => by
            refine ⟨_, hl1, szlt (by rw [List.length_map, List.length_map, List.length_take]; omega), fun b o e => ?_, ?_⟩
            · rw [upd_ne (ne_of_none e hD)]
              exact sm _ _ e
            · rw [upd_same, List.take_add_one, List.map_append, List.map_append, hc2, eb]
              rfl
          refine ⟨_, rfl, _, _, rfl, rfl, _, rfl, ?_⟩
          refine ite2 (fun g1 => ?_) (fun g1 => ?_)
          · refine ⟨_, _, rfl, rfl, ?_⟩
            exact step _ (sign_hi (sign_lo g1))
          · exact step _ (sign_lo2 g1)
        · rintro H1 ⟨sm, hl1⟩
          rw [show x.cps.size = (TL.tl x).length from el, List.take_length] at hl1
          refine ⟨_, _, rfl, SqL.of hl1, ?_⟩
          rw [List.all_map, show (id ∘ dgC) = dgC from rfl]
          refine ⟨_, rfl, ?_⟩
          cases ed : (TL.tl x).all dgC with
          | false =>
            refine iteT ?_
            exact none_ (numW_none2 ed) H1 sm
          | true =>
            refine iteF ?_
            obtain ⟨c, r, ec⟩ : ∃ c r, TL.tl x = c :: r := by
              cases e0 : TL.tl x with
              | nil => rw [e0] at l1; simp at l1
              | cons c r => exact ⟨c, r, rfl⟩
            have h0 : (x.cps.toList)[0]? = some c := by
              show (TL.tl x)[0]? = some c
              rw [ec]
              rfl
            have hN : intText? x = some ((NumText.digitsVal (TL.tl x) : Nat) : Int) := intText_digits (fun c hc => dgC_iff.mp (List.all_eq_true.mp ed c hc)) (by show TL.tl x ≠ []; rw [ec]; exact List.cons_ne_nil _ _) (by omega)
            have fin_ : okW (TL.tl x) = true → Q (.int (NumText.digitsVal (TL.tl x) : Nat)) H1 := fun o => by
              have := q H1 sm
              unfold numW at this
              rw [if_pos o] at this
              exact this
            have fin0 : okW (TL.tl x) = false → Q .non H1 := fun o => none_ (by unfold numW; rw [if_neg (by rw [o]; exact Bool.false_ne_true)]) H1 sm
            have eok : okW (TL.tl x) = (decide ((TL.tl x).head? ≠ some 48) || decide (TL.tl x = [48])) := by
              unfold okW
              rw [decide_eq_true l1.1, decide_eq_true l1.2, ed]
              rfl
            refine ⟨_, rfl, _, _, c, rfl, rfl, by rw [sizeLine_eq]; omega, atI_nat (j := 0) h0, rfl, _, rfl, ?_⟩
            refine ite2 (fun gc => ?_) (fun gc => ?_)
            · refine iteT ?_
              refine ⟨_, rfl, _, _, rfl, hN, by omega, fin_ ?_⟩
              rw [eok, ec]
              have hc : ¬ (c = 48) := fun z => by
                rw [decide_eq_true ((one_sign (show TL.tl (Str.ofString "0") = [48] from sign_0)).mpr z)] at gc
                cases gc
              rw [decide_eq_true (show (c :: r).head? ≠ some 48 from fun z => hc (Option.some.inj z))]
              rfl
            · have hc : c = 48 := by
                by_cases z : c = 48
                · exact z
                · rw [decide_eq_false fun w => z ((one_sign (show TL.tl (Str.ofString "0") = [48] from sign_0)).mp w)] at gc
                  exact absurd rfl gc
              have eh : decide ((TL.tl x).head? ≠ some 48) = false := by
                rw [ec, hc]
                rfl
              rw [eh, Bool.false_or] at eok
              refine ⟨_, rfl, rfl, _, rfl, ?_⟩
              refine ite2 (fun gd => ?_) (fun gd => ?_)
              · refine ⟨_, rfl, _, _, rfl, hN, by omega, fin_ ?_⟩
                have := str_is.mp (of_decide_eq_true gd)
                rw [eok, this]
                exact decide_eq_true sign_0
              · refine fin0 ?_
                rw [eok]
                exact decide_eq_false fun z => gd (decide_eq_true (str_is.mpr (z.trans sign_0.symm)))
    · have g1 : ¬ (1 ≤ (x.length : Int)) := fun z => g (decide_eq_true z)
      refine ⟨_, rfl, ?_⟩
      refine iteT ?_
      exact none_ (numW_none1 (by rw [← el]; omega)) H (Same.refl H)
def optP : Option Int → PyData
  | none => .none
  | some i => .int i
def numsP : Option (List Int) → PyData
  | none => .none
  | some l => .tuple (l.map .int)
theorem dx_opt {H : Hp} : ∀ l : List (Option Int), DxAll H (l.map vOpt) (l.map optP)
  | [] => .nil
  | none :: r => .cons .non (dx_opt r)
  | some i :: r => .cons (.int i) (dx_opt r)
theorem any_none : ∀ l : List (Option Int), ((l.map optP).any fun z => PyData.eqv z .none) = decide (none ∈ l)
  | [] => rfl
  | none :: r => by
    rw [decide_eq_true (List.mem_cons_self)]
    rfl
  | some i :: r => by
    rw [List.map_cons, List.any_cons, any_none r]
    simp [optP, PyData.eqv]
theorem lay_opt : ∀ l : List (Option Int), PyData.canLayAll0 (l.map optP) = true ∧ PyData.depthAll (l.map optP) = 0
  | [] => ⟨rfl, rfl⟩
  | none :: r => by
    have := lay_opt r
    simp [optP, PyData.canLayAll0, PyData.canLay0, PyData.depthAll, PyData.depth, this]
  | some i :: r => by
    have := lay_opt r
    simp [optP, PyData.canLayAll0, PyData.canLay0, PyData.depthAll, PyData.depth, this]
theorem shaped_opt (l : List (Option Int)) : SeqAt.shaped (.list (l.map optP)) = true := by
  unfold SeqAt.shaped PyData.canLay0 PyData.depth
  rw [(lay_opt l).1, (lay_opt l).2]
  rfl
theorem df_opt : ∀ l : List (Option Int), dictfreeAll (l.map optP) = true
  | [] => rfl
  | none :: r => df_opt r
  | some i :: r => df_opt r
theorem sign_dash : TL.tl (Str.ofString "-") = [45] := by decide +kernel
theorem sign_sp : TL.tl (Str.ofString " ") = [32] := by decide +kernel
theorem vopt_some (l : List Int) : ((l.map some).map vOpt) = l.map V.int := by
  rw [List.map_map]
  rfl
theorem dx_ints {H : Hp} : ∀ l : List Int, DxAll H (l.map V.int) (l.map PyData.int)
  | [] => .nil
  | i :: r => .cons (.int i) (dx_ints r)
def spNums : Sp := fun vs H Q _ => ∃ x : Str, vs = [.str x] ∧ x.length ≤ 4000 ∧ ∀ v H', Same H H' → Dx H' v (numsP (numsC (TL.tl x))) → Q v H'
theorem ok_numbers_told {f : Addr} {fd : FuncData} (F : Fun K "numbers_told" "numbers_told" s_numbers_told f fd) (T : Txt mg) (Z : PexZ K mg tx) {f_number_told : Addr} {fd_number_told : FuncData} (G_number_told : FnOk P w K mg base CX0 1 f_number_told fd_number_told P_number_told spNo) (C_number_told : Cal K mg "number_told" f_number_told fd_number_told P_number_told) : FnOk P w K mg base CX0 2 f fd P_numbers_told spNums := by
  refine F.ok sc_numbers_told (fun vs H Q E h => ?_) (fun cdv A outer s H vs Q E hr h => ?_)
  · obtain ⟨x, rfl, _⟩ := h
    rfl
  · obtain ⟨x, rfl, lx, q⟩ := h
    refine ⟨_, (pss_cons (ps_if (pt_cmpR op_eq (pv 0) (pe_glob (v := .str "-") rfl T.m_EMPTY.choose_spec ⟨_, rfl⟩) (nomark _)) (pss_one (ps_ret (pe_tup pa_nil))) pss_nil)
      (pss_cons (ps_setLc (i := 1) (own := [("item", 2)]) (g := gName 2) (tt := tYes) rfl sc_numbers_told.nd rfl rfl (sw_true rfl rfl rfl (by decide +kernel)) (pi_list (pe_split (pv 0) pe_str)) (blkOk_by (own := [("item", 2)]) (N := ["text", "numbers", "item"]) (sc := (defScope s_numbers_told)) (by decide +kernel)) (fun _ _ _ _ _ => (pg_name (i := 2) sc_numbers_told.nd rfl (Or.inl rfl))) (fun _ _ _ _ _ => pts_nil) (fun _ _ _ _ _ => (pe_call G_number_told (hr.mono (by decide)) rfl C_number_told.m C_number_told.k C_number_told.b .nil pass0 (pa_cons (pv 2) pa_nil))))
      (pss_one (ps_ret (pe_ifExp (pt_cmpR (op_inX (hu65 hr)) pe_non (pv 1) (by first | rfl | with_unfolding_all rfl)) pe_non (pe_callTy call_tuple_of (by rfl) T.n_tuple (by decide +kernel) (pa_cons (pv 1) pa_nil))))))), ?_⟩
    have el : x.length = (TL.tl x).length := TL.len_tl x
    refine ⟨_, rfl, rfl, _, rfl, ?_⟩
    refine ite2 (fun g => ?_) (fun g => ?_)
    · have e := str_is.mp (of_decide_eq_true g)
      refine ⟨szr rfl, fun p n => ?_⟩
      generalize gp : upd _ p _ = H1; obtain ⟨e1, o1, t1⟩ := made n gp; clear gp
      refine q _ H1 (sameOf n o1) ?_
      rw [e, sign_dash]
      exact .tup t1 .nil
    · have nd : TL.tl x ≠ [45] := fun z => g (decide_eq_true (str_is.mpr (z.trans sign_dash.symm)))
      have eC : numsC (TL.tl x) = optAll ((TL.spl [32] 0 [] (TL.tl x)).map numW) := if_neg nd
      refine ⟨_, rfl, ⟨_, rfl⟩, _, _, rfl, rfl, rfl, by rw [sizeLine_eq]; omega, fun p2 n2 => ?_⟩
      rw [split_tl (y := " ") sign_sp (by decide) rfl]
      generalize ews : TL.spl [32] 0 [] (TL.tl x) = ws
      rw [ews] at eC
      have lws : ws.length ≤ 4001 := by
        have := spl_len [32] (TL.tl x) 0 []
        rw [ews] at this
        omega
      have lw : ∀ w ∈ ws, w.length ≤ 4000 := fun w hw => by
        rw [← ews] at hw
        have := spl_mem [32] (TL.tl x) 0 [] w hw
        rw [List.length_nil, ← el] at this
        omega
      clear ews
      rw [List.map_map]
      generalize g2 : upd _ p2 _ = H2; obtain ⟨e2, o2, t2⟩ := made n2 g2; clear g2
      have s2 := sameOf n2 o2
      refine ⟨_, rfl, ⟨_, SqL.of t2⟩, fun D hD => ?_⟩
      refine lc_list (K := K) (a := p2) (xs := ws.map (V.str ∘ SX.S)) (fun j H' => Same H2 H' ∧ H' D = some (.lst (((ws.take j).map numW).map vOpt))) ⟨sameOf hD (fun b hb => upd_ne hb), upd_same⟩ (fun i H' _ h => SqL.of (h.1 _ _ t2)) ?_ ?_
      · rintro j y H' hj ⟨sm, hl⟩
        rw [List.getElem?_map] at hj
        cases hw : ws[j]? with
        | none => rw [hw] at hj; cases hj
        | some w =>
          rw [hw] at hj
          cases hj
          refine ⟨rfl, ?_⟩
          refine ⟨_, rfl, SX.S w, rfl, ?_, fun H5 s5 => ?_⟩
          · have := lw w (List.mem_of_getElem? hw)
            rw [TL.len_tl, tl_S]
            exact this
          rw [tl_S]
          refine ⟨_, s5 _ _ hl, szlt (by rw [List.length_map, List.length_map, List.length_take]; omega), fun b o e => ?_, ?_⟩
          · rw [upd_ne (ne_of_none e hD)]
            exact s5 _ _ (sm _ _ e)
          · rw [upd_same, List.take_add_one, List.map_append, List.map_append, hw]
            rfl
      · rintro H5 ⟨sm, hl⟩
        rw [List.length_map, List.take_length] at hl
        refine ⟨_, rfl, .none, .list _, _, .non, (Dx.lst hl (dx_opt _)).dp ?_, (.inl rfl), rfl, shaped_opt _, _, rfl, ?_⟩
        · exact df_opt _
        have sm5 := s2.trans sm
        rw [show (if false = true then _ else _ : Bool) = _ from if_neg Bool.false_ne_true, any_none]
        refine ite2 (fun g5 => ?_) (fun g5 => ?_)
        · refine q .non H5 sm5 ?_
          rw [eC, optAll_none.mpr (of_decide_eq_true g5)]
          exact .non
        · have hs : ∃ l, optAll (ws.map numW) = some l := by
            cases e : optAll (ws.map numW) with
            | none => exact absurd (decide_eq_true (optAll_none.mp e)) g5
            | some l => exact ⟨l, rfl⟩
          obtain ⟨l, hs⟩ := hs
          rw [optAll_some.mp hs, vopt_some] at hl
          refine ⟨_, rfl, _, _, rfl, .inl ⟨SqL.of hl, fun p3 n3 => ?_⟩⟩
          generalize g3 : upd _ p3 _ = H6; obtain ⟨e3, o3, t3⟩ := made n3 g3; clear g3
          refine q _ H6 (sm5.trans (sameOf n3 o3)) ?_
          rw [eC, hs]
          exact .tup t3 (dx_ints l)

/-! ### states told -/
def keyO : Option (List Int) → Option (List Int)
  | some [a, b] => some [a, b]
  | _ => none
def spKeyT : Sp := fun vs H Q _ => ∃ x : Str, vs = [.str x] ∧ x.length ≤ 4000 ∧ ∀ v H', Same H H' → Dx H' v (numsP (keyO (numsC (TL.tl x)))) → Q v H'
theorem ok_key_told {f : Addr} {fd : FuncData} (F : Fun K "key_told" "key_told" s_key_told f fd) (T : Txt mg) (Z : PexZ K mg tx) {f_numbers_told : Addr} {fd_numbers_told : FuncData} (G_numbers_told : FnOk P w K mg base CX0 2 f_numbers_told fd_numbers_told P_numbers_told spNums) (C_numbers_told : Cal K mg "numbers_told" f_numbers_told fd_numbers_told P_numbers_told) : FnOk P w K mg base CX0 3 f fd P_key_told spKeyT := by
  refine F.ok sc_key_told (fun vs H Q E h => ?_) (fun cdv A outer s H vs Q E hr h => ?_)
  · obtain ⟨x, rfl, _⟩ := h
    rfl
  · obtain ⟨x, rfl, lx, q⟩ := h
    refine ⟨_, (pss_cons (ps_set (i := 1) sc_key_told.nd rfl (Or.inl rfl) (pe_call G_numbers_told (hr.mono (by decide)) rfl C_numbers_told.m C_numbers_told.k C_numbers_told.b .nil pass0 (pa_cons (pv 0) pa_nil)))
      (pss_one (ps_ret (pe_ifExp (PW.pt (pw_and (pt_cmpR op_notN (pv 1) pe_non (nomark _)) (pw_and1 (pt_cmpR op_eq (pe_callB call_len_seq (by rfl) T.n_len (by decide +kernel) (pa_cons (pv 1) pa_nil)) pe_int (nomark _))))) (pv 1) pe_non)))), ?_⟩
    refine ⟨_, rfl, x, rfl, lx, fun v H1 s1 hv => ?_⟩
    refine ⟨_, rfl, rfl, _, rfl, ?_⟩
    cases e : numsC (TL.tl x) with
    | none =>
      rw [e] at hv
      cases hv
      refine iteF ?_
      refine iteF ?_
      exact q .non H1 s1 (by rw [e]; exact .non)
    | some l =>
      rw [e] at hv
      cases hv with
      | @tup a xs _ ha hx =>
      refine iteT ?_
      have ll : xs.length = l.length := by rw [hx.len, List.length_map]
      refine ⟨_, rfl, a, xs, rfl, .inr (SqT.of ha), rfl, _, rfl, ?_⟩
      refine ite2 (fun g => ?_) (fun g => ?_)
      · have g2 : (xs.length : Int) = 2 := V.int.inj (of_decide_eq_true g)
        obtain ⟨i, j, rfl⟩ : ∃ i j, l = [i, j] := by
          match l, ll with
          | [], ll => exact absurd g2 (by rw [ll]; simp)
          | [_], ll => exact absurd g2 (by rw [ll]; simp)
          | [i, j], _ => exact ⟨i, j, rfl⟩
          | _ :: _ :: _ :: _, ll => exact absurd g2 (by rw [ll]; simp only [List.length_cons]; omega)
        exact ⟨_, rfl, q _ H1 s1 (by rw [e]; exact .tup ha hx)⟩
      · have g2 : ¬ ((xs.length : Int) = 2) := fun z => g (decide_eq_true (congrArg V.int z))
        refine q .non H1 s1 ?_
        have : keyO (some l) = none := by
          match l, ll with
          | [], _ => rfl
          | [_], _ => rfl
          | [i, j], ll => exact absurd (by rw [ll]; rfl) g2
          | _ :: _ :: _ :: _, _ => rfl
        rw [e, this]
        exact .non
def cutC (t : List Nat) : List Nat × List Nat := match TL.par [32, 124, 32] [] t with
  | some p => p
  | none => (t, [])
def noneC : List Nat := [110, 111, 110, 101]
def rowsC (r : List Nat) : List (Option (List Int)) := if r = noneC then [] else (TL.spl [59, 32] 0 [] r).map numsC
theorem sign_none : TL.tl (Str.ofString "none") = noneC := by decide +kernel
theorem sign_semi : TL.tl (Str.ofString "; ") = [59, 32] := by decide +kernel
theorem sign_bar : TL.tl (Str.ofString " | ") = [32, 124, 32] := by decide +kernel
theorem cut_told (x : Str) : ∃ m : Str, Txt.partition x (Str.ofString " | ") = (SX.S (cutC (TL.tl x)).1, m, SX.S (cutC (TL.tl x)).2) := by
  rw [TL.partition_par x _ (by rw [sign_bar]; exact List.cons_ne_nil _ _), sign_bar]
  unfold cutC
  cases TL.par [32, 124, 32] [] (TL.tl x) with
  | some p => exact ⟨_, rfl⟩
  | none => exact ⟨Str.empty, rfl⟩
def stD (t : List Nat) : PyData := .tuple [numsP (numsC (cutC t).1), .tuple ((rowsC (cutC t).2).map numsP)]
def stP (t : List Nat) : PyData := if stateD (stD t) = true then stD t else .none
theorem lf_ints : ∀ l : List Int, listfreeAll (l.map PyData.int) = true
  | [] => rfl
  | i :: r => lf_ints r
theorem lf_nums : ∀ o : Option (List Int), listfree (numsP o) = true
  | none => rfl
  | some l => lf_ints l
theorem lf_numsAll : ∀ l : List (Option (List Int)), listfreeAll (l.map numsP) = true
  | [] => rfl
  | o :: r => by
    show (listfree (numsP o) && listfreeAll (r.map numsP)) = true
    rw [lf_nums, lf_numsAll r]
    rfl
theorem cutC_len (t : List Nat) : (cutC t).1.length ≤ t.length ∧ (cutC t).2.length ≤ t.length := by
  unfold cutC
  rcases par_spl (S := [32, 124, 32]) (by decide) t [] with ⟨h, _⟩ | ⟨a, r, h, _, e⟩
  · rw [h]
    exact ⟨Nat.le_refl _, Nat.zero_le _⟩
  · rw [h]
    have := congrArg List.length e
    simp only [List.nil_append, List.length_append] at this
    exact ⟨show a.length ≤ t.length by omega, show r.length ≤ t.length by omega⟩
def Few (t : List Nat) : Prop := t.length ≤ 4000 ∧ t.count 32 ≤ 62 ∧ t.count 59 ≤ 62
theorem cutC_count (t : List Nat) (c : Nat) : (cutC t).1.count c ≤ t.count c ∧ (cutC t).2.count c ≤ t.count c := by
  unfold cutC
  rcases par_spl (S := [32, 124, 32]) (by decide) t [] with ⟨h, _⟩ | ⟨a, r, h, _, e⟩
  · rw [h]
    exact ⟨Nat.le_refl _, Nat.zero_le _⟩
  · rw [h]
    have := congrArg (List.count c) e
    simp only [List.nil_append, List.count_append] at this
    exact ⟨show a.count c ≤ t.count c by omega, show r.count c ≤ t.count c by omega⟩
theorem len_nums {t : List Nat} (h : t.count 32 ≤ 62) : len1 (numsP (numsC t)) = true := by
  cases e : numsC t with
  | none => rfl
  | some l =>
    have := numsC_len e
    show decide ((l.map PyData.int).length ≤ 100) = true
    rw [List.length_map]
    exact decide_eq_true (by omega)
theorem len1_int : ∀ l : List Int, (l.map PyData.int).all len1 = true
  | [] => rfl
  | i :: r => by rw [List.map_cons, List.all_cons, len1_int r]; rfl
theorem len2_nums {t : List Nat} (h : t.count 32 ≤ 62) : len2 (numsP (numsC t)) = true := by
  have := len_nums h
  cases e : numsC t with
  | none => rfl
  | some l =>
    rw [e] at this
    have h1 : decide ((l.map PyData.int).length ≤ 100) = true := this
    show (decide ((l.map PyData.int).length ≤ 100) && (l.map PyData.int).all len1) = true
    rw [h1, len1_int]
    rfl
theorem rowsC_few {r : List Nat} (h : r.count 32 ≤ 62) (h2 : r.count 59 ≤ 62) : (rowsC r).length ≤ 63 ∧ ∀ o ∈ rowsC r, ∃ p : List Nat, o = numsC p ∧ p.count 32 ≤ 62 := by
  unfold rowsC
  split
  · exact ⟨Nat.zero_le _, fun o ho => by cases ho⟩
  · constructor
    · rw [List.length_map]
      have := spl_num (S := [59, 32]) (l := r) (c := 59) (by simp)
      omega
    · intro o ho
      obtain ⟨p, hp, rfl⟩ := List.mem_map.mp ho
      have := spl_count (c := 32) (show ([59, 32] : List Nat) ≠ [] by decide) hp
      exact ⟨p, rfl, by omega⟩
theorem stD_len {t : List Nat} (h : Few t) : len3 (stD t) = true := by
  have c1 := (cutC_count t 32)
  have c2 := (cutC_count t 59)
  obtain ⟨f1, f2⟩ := rowsC_few (Nat.le_trans c1.2 h.2.1) (Nat.le_trans c2.2 h.2.2)
  show (decide (2 ≤ 100) && (len2 (numsP (numsC (cutC t).1)) && (len2 (.tuple ((rowsC (cutC t).2).map numsP)) && true))) = true
  rw [len2_nums (Nat.le_trans c1.1 h.2.1)]
  show (true && (decide (((rowsC (cutC t).2).map numsP).length ≤ 100) && ((rowsC (cutC t).2).map numsP).all len1 && true)) = true
  rw [decide_eq_true (by rw [List.length_map]; omega)]
  have : ((rowsC (cutC t).2).map numsP).all len1 = true := List.all_eq_true.mpr fun d hd => by
    obtain ⟨o, ho, rfl⟩ := List.mem_map.mp hd
    obtain ⟨p, rfl, hp⟩ := f2 o ho
    exact len_nums hp
  rw [this]
  rfl
def spStT : Sp := fun vs H Q _ => ∃ x : Str, vs = [.str x] ∧ Few (TL.tl x) ∧ ∀ v H', Same H H' → Dx H' v (stP (TL.tl x)) → Q v H'
theorem ok_state_told {f : Addr} {fd : FuncData} (F : Fun K "state_told" "state_told" s_state_told f fd) (T : Txt mg) (Z : PexZ K mg tx) {f_numbers_told : Addr} {fd_numbers_told : FuncData} (G_numbers_told : FnOk P w K mg base CX0 2 f_numbers_told fd_numbers_told P_numbers_told spNums) (C_numbers_told : Cal K mg "numbers_told" f_numbers_told fd_numbers_told P_numbers_told) {f_is_state_form : Addr} {fd_is_state_form : FuncData} (G_is_state_form : FnOk P w K mg base CX0 5 f_is_state_form fd_is_state_form P_is_state_form (spN len3 stateD)) (C_is_state_form : Cal K mg "is_state_form" f_is_state_form fd_is_state_form P_is_state_form) : FnOk P w K mg base CX0 6 f fd P_state_told spStT := by
  refine F.ok sc_state_told (fun vs H Q E h => ?_) (fun cdv A outer s H vs Q E hr h => ?_)
  · obtain ⟨x, rfl, _⟩ := h
    rfl
  · obtain ⟨x, rfl, fx, q⟩ := h
    refine ⟨_, (pss_cons (ps_asg (pe_partition (pv 0) pe_str) (pg_tup rfl (pgs_cons (pg_name (i := 1) sc_state_told.nd rfl (Or.inl rfl)) (pgs_cons (pg_name (i := 2) sc_state_told.nd rfl (Or.inl rfl)) (pgs_cons (pg_name (i := 3) sc_state_told.nd rfl (Or.inl rfl)) pgs_nil)))))
      (pss_cons (ps_set (i := 4) sc_state_told.nd rfl (Or.inl rfl) (pe_ifExp (pt_cmpR op_eq (pv 3) (pe_glob (v := .str "none") rfl T.m_NONE.choose_spec ⟨_, rfl⟩) (nomark _)) (pe_lst pa_nil) (pe_lc (own := [("row", 5)]) (g := gName 5) (tt := tYes) rfl sc_state_told.nd (pi_list (pe_split (pv 3) pe_str)) (blkOk_by (own := [("row", 5)]) (N := ["text", "parts", "_", "classes", "rows", "row", "state"]) (sc := (defScope s_state_told)) (by decide +kernel)) (fun _ _ _ _ _ => (pg_name (i := 5) sc_state_told.nd rfl (Or.inl rfl))) (fun _ _ _ _ _ => pts_nil) (fun _ _ _ _ _ => (pe_call G_numbers_told (hr.mono (by decide)) rfl C_numbers_told.m C_numbers_told.k C_numbers_told.b .nil pass0 (pa_cons (pv 5) pa_nil))))))
      (pss_cons (ps_set (i := 6) sc_state_told.nd rfl (Or.inl rfl) (pe_tup (pa_cons (pe_call G_numbers_told (hr.mono (by decide)) rfl C_numbers_told.m C_numbers_told.k C_numbers_told.b .nil pass0 (pa_cons (pv 1) pa_nil)) (pa_cons (pe_callTy call_tuple_of (by rfl) T.n_tuple (by decide +kernel) (pa_cons (pv 4) pa_nil)) pa_nil))))
      (pss_one (ps_ret (pe_ifExp (pt_val (pe_call G_is_state_form (hr.mono (by decide)) rfl C_is_state_form.m C_is_state_form.k C_is_state_form.b .nil pass0 (pa_cons (pv 6) pa_nil))) (pv 6) pe_non)))))), ?_⟩
    have el : x.length = (TL.tl x).length := TL.len_tl x
    refine ⟨_, rfl, ⟨_, rfl⟩, _, _, rfl, rfl, rfl, by rw [sizeLine_eq]; have := fx.1; omega, fun p1 n1 => ?_⟩
    obtain ⟨m, em⟩ := cut_told x
    rw [em]
    generalize ec : cutC (TL.tl x) = cc at *
    obtain ⟨ca, cr⟩ := cc
    generalize g1 : upd _ p1 _ = H1; obtain ⟨e1, o1, t1⟩ := made n1 g1; clear g1
    have s1 := sameOf n1 o1
    refine ⟨_, _, rfl, SqT.of t1, rfl, _, _, rfl, _, _, rfl, _, _, rfl, rfl, ?_⟩
    refine ⟨_, rfl, rfl, _, rfl, ?_⟩
    have la : ca.length ≤ (TL.tl x).length ∧ cr.length ≤ (TL.tl x).length := by
      have := cutC_len (TL.tl x)
      rw [ec] at this
      exact this
    have eS : stD (TL.tl x) = .tuple [numsP (numsC ca), .tuple ((rowsC cr).map numsP)] := by
      unfold stD
      rw [ec]
    show (if decide (V.str (SX.S cr) = V.str (Str.ofString "none")) = true then (?ta : TE) (?sg : L2.St) (?Hx : Hp) (?R : VK) else (?tb : TE) ?sg ?Hx ?R)
    have rest : ∀ (p : Addr) (vs : List V) (H2 : Hp), Same H1 H2 → H2 p = some (.lst vs) → DxAll H2 vs ((rowsC cr).map numsP) → ?R (.ref p) H2 := by
      intro p vs H2 s2 hp hv
      refine ⟨_, rfl, SX.S ca, rfl, by rw [TL.len_tl, tl_S]; have := fx.1; omega, fun v2 H3 s3 hv2 => ?_⟩
      rw [tl_S] at hv2
      refine ⟨_, rfl, p, vs, rfl, .inl ⟨SqL.of (s3 _ _ hp), fun p2 n2 => ?_⟩⟩
      generalize g2 : upd _ p2 _ = H4; obtain ⟨e4, o4, t4⟩ := made n2 g2; clear g2
      have s4 := sameOf n2 o4
      refine ⟨szr rfl, fun p3 n3 => ?_⟩
      generalize g3 : upd _ p3 _ = H5; obtain ⟨e5, o5, t5⟩ := made n3 g3; clear g3
      have s5 := sameOf n3 o5
      have dS : Dx H5 (.ref p3) (stD (TL.tl x)) := by
        rw [eS]
        exact .tup t5 (.cons ((hv2.same s4).same s5) (.cons (.tup (s5 _ _ t4) (((hv.same s3).same s4).same s5)) .nil))
      refine ⟨_, rfl, _, _, rfl, dS, stD_len fx, fun H6 s6 => ?_⟩
      refine ⟨_, rfl, ?_⟩
      have sm := ((((s1.trans s2).trans s3).trans s4).trans s5).trans s6
      cases es : stateD (stD (TL.tl x)) with
      | false =>
        refine iteF ?_
        refine q .non H6 sm ?_
        unfold stP
        rw [es]
        exact .non
      | true =>
        refine iteT ?_
        refine ⟨_, rfl, q _ H6 sm ?_⟩
        unfold stP
        rw [es]
        exact dS.same s6
    refine ite2 (fun g => ?_) (fun g => ?_)
    · refine ⟨szr rfl, fun p n => rest p [] _ (sameOf n fun b hb => upd_ne hb) upd_same ?_⟩
      have e := str_is.mp (of_decide_eq_true g)
      have e2 : rowsC cr = [] := by
        unfold rowsC
        rw [if_pos (show cr = noneC from e.trans sign_none)]
      rw [e2]
      exact .nil
    · have nd : cr ≠ noneC := fun z => g (decide_eq_true (str_is.mpr (show cr = _ from z.trans sign_none.symm)))
      have eR : rowsC cr = (TL.spl [59, 32] 0 [] cr).map numsC := if_neg nd
      refine ⟨_, rfl, ⟨_, rfl⟩, _, _, rfl, rfl, rfl, by rw [sizeLine_eq, TL.len_tl, tl_S]; have := fx.1; show cr.length + 2 ≤ _; omega, fun p2 n2 => ?_⟩
      rw [split_tl (y := "; ") sign_semi (by decide) rfl, tl_S]
      generalize ews : TL.spl [59, 32] 0 [] cr = ws at *
      have lws : ws.length ≤ 4001 := by
        have := spl_len [59, 32] cr 0 []
        rw [ews] at this
        have := fx.1
        omega
      have lw : ∀ w ∈ ws, w.length ≤ 4000 := fun w hw => by
        rw [← ews] at hw
        have := spl_mem [59, 32] cr 0 [] w hw
        rw [List.length_nil] at this
        have := fx.1
        omega
      rw [List.map_map]
      generalize g2 : upd _ p2 _ = H2; obtain ⟨e2, o2, t2⟩ := made n2 g2; clear g2
      have s2 := sameOf n2 o2
      refine ⟨_, rfl, ⟨_, SqL.of t2⟩, fun D hD => ?_⟩
      refine lc_list (K := K) (a := p2) (xs := ws.map (V.str ∘ SX.S)) (fun j H' => Same H2 H' ∧ ∃ vs, H' D = some (.lst vs) ∧ vs.length = j ∧ DxAll H' vs (((ws.take j).map numsC).map numsP)) ⟨sameOf hD (fun b hb => upd_ne hb), [], upd_same, rfl, .nil⟩ (fun i H' _ h => SqL.of (h.1 _ _ t2)) ?_ ?_
      · rintro j y H' hj ⟨sm, vs, hl, lv, hv⟩
        rw [List.getElem?_map] at hj
        cases hw : ws[j]? with
        | none => rw [hw] at hj; cases hj
        | some w =>
          rw [hw] at hj
          cases hj
          have hj2 := (List.getElem?_eq_some_iff.mp hw).1
          refine ⟨rfl, ?_⟩
          refine ⟨_, rfl, SX.S w, rfl, ?_, fun v5 H5 s5 hv5 => ?_⟩
          · have := lw w (List.mem_of_getElem? hw)
            rw [TL.len_tl, tl_S]
            exact this
          rw [tl_S] at hv5
          refine ⟨_, s5 _ _ hl, szlt (by omega), fun b o e => ?_, vs ++ [v5], upd_same, by rw [List.length_append, lv]; rfl, ?_⟩
          · rw [upd_ne (ne_of_none e hD)]
            exact s5 _ _ (sm _ _ e)
          · have ev : Ev2 H5 (upd H5 D (.lst (vs ++ [v5]))) := Ev2.lst (s5 _ _ hl)
            rw [List.take_add_one, List.map_append, List.map_append, hw]
            exact DxAll.app ((hv.same s5).mono ev (lf_numsAll _)) (.cons (hv5.mono ev (lf_nums _)) .nil)
      · rintro H5 ⟨sm, vs, hl, lv, hv⟩
        rw [List.length_map] at lv
        rw [List.length_map, List.take_length] at hv
        exact rest D vs H5 (s2.trans sm) hl (by rw [eR]; exact hv)

/-! ### lines told -/
def cutL (t : List Nat) : List Nat × List Nat := match TL.par [58, 32] [] t with
  | some p => p
  | none => (t, [])
theorem sign_colon : TL.tl (Str.ofString ": ") = [58, 32] := by decide +kernel
theorem cutL_str (x : Str) : ∃ m : Str, Txt.partition x (Str.ofString ": ") = (SX.S (cutL (TL.tl x)).1, m, SX.S (cutL (TL.tl x)).2) := by
  rw [TL.partition_par x _ (by rw [sign_colon]; exact List.cons_ne_nil _ _), sign_colon]
  unfold cutL
  cases TL.par [58, 32] [] (TL.tl x) with
  | some p => exact ⟨_, rfl⟩
  | none => exact ⟨Str.empty, rfl⟩
theorem cutL_parts (t : List Nat) (c : Nat) : ((cutL t).1.length ≤ t.length ∧ (cutL t).2.length ≤ t.length) ∧ (cutL t).1.count c ≤ t.count c ∧ (cutL t).2.count c ≤ t.count c := by
  unfold cutL
  rcases par_spl (S := [58, 32]) (by decide) t [] with ⟨h, _⟩ | ⟨a, r, h, _, e⟩
  · rw [h]
    exact ⟨⟨Nat.le_refl _, Nat.zero_le _⟩, Nat.le_refl _, Nat.zero_le _⟩
  · rw [h]
    have e1 := congrArg List.length e
    have e2 := congrArg (List.count c) e
    simp only [List.nil_append, List.length_append, List.count_append] at e1 e2
    exact ⟨⟨show a.length ≤ t.length by omega, show r.length ≤ t.length by omega⟩, show a.count c ≤ t.count c by omega, show r.count c ≤ t.count c by omega⟩
theorem Few.cut {t : List Nat} (h : Few t) : Few (cutL t).1 ∧ Few (cutL t).2 := by
  have a := cutL_parts t 32
  have b := cutL_parts t 59
  exact ⟨⟨Nat.le_trans a.1.1 h.1, Nat.le_trans a.2.1 h.2.1, Nat.le_trans b.2.1 h.2.2⟩, ⟨Nat.le_trans a.1.2 h.1, Nat.le_trans a.2.2 h.2.1, Nat.le_trans b.2.2 h.2.2⟩⟩
def lineP (t : List Nat) : PyData := match keyO (numsC (cutL t).1) with
  | some k => if stateD (stD (cutL t).2) = true then .tuple [.tuple (k.map .int), stD (cutL t).2] else .none
  | none => .none
def spLine : Sp := fun vs H Q _ => ∃ x : Str, vs = [.str x] ∧ Few (TL.tl x) ∧ ∀ v H', Same H H' → Dx H' v (lineP (TL.tl x)) → Q v H'
theorem ok_line_told {f : Addr} {fd : FuncData} (F : Fun K "line_told" "line_told" s_line_told f fd) (T : Txt mg) (Z : PexZ K mg tx) {f_key_told : Addr} {fd_key_told : FuncData} (G_key_told : FnOk P w K mg base CX0 3 f_key_told fd_key_told P_key_told spKeyT) (C_key_told : Cal K mg "key_told" f_key_told fd_key_told P_key_told) {f_state_told : Addr} {fd_state_told : FuncData} (G_state_told : FnOk P w K mg base CX0 6 f_state_told fd_state_told P_state_told spStT) (C_state_told : Cal K mg "state_told" f_state_told fd_state_told P_state_told) : FnOk P w K mg base CX0 7 f fd P_line_told spLine := by
  refine F.ok sc_line_told (fun vs H Q E h => ?_) (fun cdv A outer s H vs Q E hr h => ?_)
  · obtain ⟨x, rfl, _⟩ := h
    rfl
  · obtain ⟨x, rfl, fx, q⟩ := h
    refine ⟨_, (pss_cons (ps_asg (pe_partition (pv 0) pe_str) (pg_tup rfl (pgs_cons (pg_name (i := 1) sc_line_told.nd rfl (Or.inl rfl)) (pgs_cons (pg_name (i := 2) sc_line_told.nd rfl (Or.inl rfl)) (pgs_cons (pg_name (i := 3) sc_line_told.nd rfl (Or.inl rfl)) pgs_nil)))))
      (pss_cons (ps_par (i := 4) (j := 5) (by rfl) sc_line_told.nd rfl rfl (by decide) rfl rfl (pa_cons (pe_call G_key_told (hr.mono (by decide)) rfl C_key_told.m C_key_told.k C_key_told.b .nil pass0 (pa_cons (pv 1) pa_nil)) (pa_cons (pe_call G_state_told (hr.mono (by decide)) rfl C_state_told.m C_state_told.k C_state_told.b .nil pass0 (pa_cons (pv 3) pa_nil)) pa_nil)) (by rfl))
      (pss_one (ps_ret (pe_ifExp (PW.pt (pw_or (pt_cmpR op_isN (pv 4) pe_non (nomark _)) (pw_or1 (pt_cmpR op_isN (pv 5) pe_non (nomark _))))) pe_non (pe_tup (pa_cons (pv 4) (pa_cons (pv 5) pa_nil)))))))), ?_⟩
    refine ⟨_, rfl, ⟨_, rfl⟩, _, _, rfl, rfl, rfl, by rw [sizeLine_eq, TL.len_tl]; have := fx.1; omega, fun p1 n1 => ?_⟩
    obtain ⟨m, em⟩ := cutL_str x
    rw [em]
    generalize g1 : upd _ p1 _ = H1; obtain ⟨e1, o1, t1⟩ := made n1 g1; clear g1
    have s1 := sameOf n1 o1
    refine ⟨_, _, rfl, SqT.of t1, rfl, _, _, rfl, _, _, rfl, _, _, rfl, rfl, ?_⟩
    refine ⟨_, rfl, SX.S (cutL (TL.tl x)).1, rfl, by rw [TL.len_tl, tl_S]; exact fx.cut.1.1, fun v1 H2 s2 h1 => ?_⟩
    refine ⟨_, rfl, SX.S (cutL (TL.tl x)).2, rfl, by rw [tl_S]; exact fx.cut.2, fun v2 H3 s3 h2 => ?_⟩
    rw [tl_S] at h1 h2
    refine ⟨_, _, rfl, ?_⟩
    have sm := (s1.trans s2).trans s3
    refine ⟨_, rfl, rfl, _, rfl, ?_⟩
    cases ek : keyO (numsC (cutL (TL.tl x)).1) with
    | none =>
      rw [ek] at h1
      cases h1
      refine iteT ?_
      refine iteT ?_
      refine q .non H3 sm ?_
      unfold lineP
      rw [ek]
      exact .non
    | some k =>
      rw [ek] at h1
      have h1' := h1.same s3
      cases h1 with
      | @tup a xs _ ha hx =>
      refine iteF ?_
      refine ⟨_, rfl, rfl, _, rfl, ?_⟩
      unfold stP at h2
      cases es : stateD (stD (cutL (TL.tl x)).2) with
      | false =>
        rw [es] at h2
        cases h2
        refine iteT ?_
        refine q .non H3 sm ?_
        unfold lineP
        rw [ek, es]
        exact .non
      | true =>
        rw [es] at h2
        have h2' : Dx H3 v2 (stD (cutL (TL.tl x)).2) := h2
        have nn : (decide (v2 = V.non)) = false := decide_eq_false fun z => by
          rw [z] at h2'
          cases h2'
        rw [nn]
        refine iteF ?_
        refine ⟨_, rfl, _, rfl, szr rfl, fun p n => ?_⟩
        generalize gp : upd _ p _ = H5; obtain ⟨e5, o5, t5⟩ := made n gp; clear gp
        have s5 := sameOf n o5
        refine q _ H5 (sm.trans s5) ?_
        unfold lineP
        rw [ek, es]
        exact .tup t5 (.cons (h1'.same s5) (.cons (h2'.same s5) .nil))
/-! ### numbers and states written -/
def sN (l : List Int) : Str := SX.S (numsS l)
def stateS (s : List Int × List (List Int)) : List Nat := numsS s.1 ++ ([32, 124, 32] ++ (if s.2 = [] then noneC else TL.joinL [59, 32] (s.2.map numsS)))
def Sml (i : Int) : Prop := 0 ≤ i ∧ i < 10 ^ 60
def intsP (l : List Int) : PyData := .tuple (l.map .int)
def stateP (s : List Int × List (List Int)) : PyData := .tuple [intsP s.1, .tuple (s.2.map intsP)]
theorem Sml.log {i : Int} (h : Sml i) : i.natAbs.log2 < 1920 := by
  by_cases z : i.natAbs = 0
  · rw [z]
    decide
  · rw [Nat.log2_lt z]
    have e : ((i.natAbs : Nat) : Int) = i := Int.natAbs_of_nonneg h.1
    have l : i.natAbs < 10 ^ 60 := by
      have : ((i.natAbs : Nat) : Int) < ((10 ^ 60 : Nat) : Int) := by rw [e]; exact h.2
      exact Int.ofNat_lt.mp this
    exact Nat.lt_trans l (by decide +kernel)
theorem Sml.str {i : Int} (h : Sml i) : Str.ofString (toString i) = SX.S (numI i) := by
  have e : ((i.toNat : Nat) : Int) = i := Int.toNat_of_nonneg h.1
  have := SX.num_S i.toNat
  rw [e] at this
  exact this
theorem Sml.len {i : Int} (h : Sml i) : (numI i).length ≤ 60 := by
  have e : ((i.toNat : Nat) : Int) = i := Int.toNat_of_nonneg h.1
  refine TL.numL_len (by decide) ?_
  have : ((i.toNat : Nat) : Int) < ((10 ^ 60 : Nat) : Int) := by rw [e]; exact h.2
  exact Int.ofNat_lt.mp this
theorem strs_num {l : List Int} (h : ∀ i ∈ l, Sml i) : (l.map fun i => Str.ofString (toString i)) = (l.map numI).map SX.S := by
  rw [List.map_map]
  exact List.map_congr_left fun i hi => (h i hi).str
theorem sum_num : ∀ {l : List (List Nat)} {m : Nat}, (∀ p ∈ l, p.length ≤ m) → ((l.map SX.S).map (·.length)).sum ≤ m * l.length
  | [], m, _ => Nat.zero_le _
  | p :: r, m, h => by
    have h1 := h p List.mem_cons_self
    have h2 := sum_num fun q hq => h q (List.mem_cons_of_mem _ hq)
    simp only [List.map_cons, List.sum_cons, List.length_cons, Nat.mul_add]
    have e : (SX.S p).length = p.length := by rw [TL.len_tl, tl_S]
    rw [e]
    omega
theorem dash_S : Str.ofString "-" = SX.S [45] := TL.ext_tl sign_dash
theorem sp_S : Str.ofString " " = SX.S [32] := TL.ext_tl sign_sp
theorem semi_S : Str.ofString "; " = SX.S [59, 32] := TL.ext_tl sign_semi
theorem none_S : Str.ofString "none" = SX.S noneC := TL.ext_tl sign_none
def spNT : Sp := fun vs H Q _ => ∃ (a : Addr) (l : List Int), vs = [.ref a] ∧ H a = some (.tup (l.map V.int)) ∧ l.length ≤ 63 ∧ (∀ i ∈ l, Sml i) ∧ ∀ H', Same H H' → Q (.str (sN l)) H'
theorem ok_numbers_text {f : Addr} {fd : FuncData} (F : Fun K "numbers_text" "numbers_text" s_numbers_text f fd) (T : Txt mg) (Z : PexZ K mg tx) : FnOk P w K mg base CX0 1 f fd P_numbers_text spNT := by
  refine F.ok sc_numbers_text (fun vs H Q E h => ?_) (fun cdv A outer s H vs Q E hr h => ?_)
  · obtain ⟨a, l, rfl, _⟩ := h
    rfl
  · obtain ⟨a, l, rfl, ha, ll, hs, q⟩ := h
    refine ⟨_, (pss_one (ps_ret (pe_ifExp (pt_truth (pv 0) (by intro _; rfl)) (pe_join pe_str (pe_lc (own := [("number", 1)]) (g := gName 1) (tt := tYes) rfl sc_numbers_text.nd (pi_tup (pv 0)) (blkOk_by (own := [("number", 1)]) (N := ["numbers", "number"]) (sc := (defScope s_numbers_text)) (by decide +kernel)) (fun _ _ _ _ _ => (pg_name (i := 1) sc_numbers_text.nd rfl (Or.inl rfl))) (fun _ _ _ _ _ => pts_nil) (fun _ _ _ _ _ => (pe_callTy call_str_int (by rfl) T.n_str (by decide +kernel) (pa_cons (pv 1) pa_nil))))) (pe_glob (v := .str "-") rfl T.m_EMPTY.choose_spec ⟨_, rfl⟩)))), ?_⟩
    cases l with
    | nil =>
      refine ⟨_, rfl, false, .inr (.inl ⟨_, SqT.of ha, rfl⟩), ?_⟩
      refine iteF ?_
      have := q H (Same.refl H)
      unfold sN numsS at this
      rw [if_pos rfl, ← dash_S] at this
      exact this
    | cons i0 r0 =>
      generalize el : i0 :: r0 = l at *
      have ne : l ≠ [] := by rw [← el]; exact List.cons_ne_nil _ _
      refine ⟨_, rfl, true, .inr (.inl ⟨_, SqT.of ha, by rw [← el]; rfl⟩), ?_⟩
      refine iteT ?_
      refine ⟨⟨_, rfl⟩, _, rfl, _, rfl, ⟨_, SqT.of ha⟩, fun D hD => ?_⟩
      refine lc_tup (K := K) (xs := l.map V.int) (fun j H' => Same H H' ∧ H' D = some (.lst (((l.take j).map fun i => Str.ofString (toString i)).map V.str))) ⟨sameOf hD (fun b hb => upd_ne hb), upd_same⟩ (fun j H' _ h => SqT.of (h.1 _ _ ha)) ?_ ?_
      · rintro j y H' hj ⟨sm, hl⟩
        rw [List.getElem?_map] at hj
        cases hw : l[j]? with
        | none => rw [hw] at hj; cases hj
        | some i =>
          rw [hw] at hj
          cases hj
          have hi := hs i (List.mem_of_getElem? hw)
          have hj2 := (List.getElem?_eq_some_iff.mp hw).1
          refine ⟨rfl, ?_⟩
          refine ⟨_, rfl, _, rfl, hi.log, _, hl, szlt (by rw [List.length_map, List.length_map, List.length_take]; omega), fun b o e => ?_, ?_⟩
          · rw [upd_ne (ne_of_none e hD)]
            exact sm _ _ e
          · rw [upd_same, List.take_add_one, List.map_append, List.map_append, hw]
            rfl
      · rintro H9 ⟨sm, hl⟩
        rw [List.length_map, List.take_length, strs_num hs] at hl
        refine ⟨_, _, (l.map numI).map SX.S, rfl, rfl, (.inl (SqL.of hl)), ?_, ?_⟩
        · have h1 := sum_num (l := l.map numI) (m := 60) fun p hp => by
            obtain ⟨i, hi, rfl⟩ := List.mem_map.mp hp
            exact (hs i hi).len
          rw [List.length_map] at h1
          rw [List.length_map, List.length_map, show Str.length (Str.ofString " ") = 1 from rfl]
          omega
        · rw [sp_S, SX.join_S]
          have := q H9 sm
          unfold sN numsS at this
          rw [if_neg ne] at this
          exact this
theorem int_vals2 {H : Hp} : ∀ {l : List Int} {xs : List V}, DxAll H xs (l.map PyData.int) → xs = l.map V.int
  | [], _, h => by cases h; rfl
  | i :: r, _, h => by
    cases h with
    | cons a t =>
      cases a
      rw [int_vals2 t]
      rfl
theorem ints_at {H : Hp} {v : V} {l : List Int} (h : Dx H v (intsP l)) : ∃ a, v = .ref a ∧ H a = some (.tup (l.map V.int)) := by
  cases h with
  | @tup a xs _ ha hx =>
    rw [int_vals2 hx] at ha
    exact ⟨a, rfl, ha⟩
theorem joinL_len {s : List Nat} {m : Nat} : ∀ {ps : List (List Nat)}, (∀ p ∈ ps, p.length ≤ m) → (TL.joinL s ps).length ≤ (m + s.length) * ps.length
  | [], _ => Nat.zero_le _
  | [p], h => by
    have := h p List.mem_cons_self
    show p.length ≤ (m + s.length) * 1
    omega
  | p :: q :: r, h => by
    have h1 := h p List.mem_cons_self
    have h2 := joinL_len (s := s) fun x hx => h x (List.mem_cons_of_mem p hx)
    show (p ++ (s ++ TL.joinL s (q :: r))).length ≤ (m + s.length) * ((q :: r).length + 1)
    rw [List.length_append, List.length_append, Nat.mul_add]
    omega
theorem numsS_len {l : List Int} (h : l.length ≤ 63) (hs : ∀ i ∈ l, Sml i) : (numsS l).length ≤ 4000 := by
  unfold numsS
  split
  · decide
  · have := joinL_len (s := [32]) (m := 60) (ps := l.map numI) fun p hp => by
      obtain ⟨i, hi, rfl⟩ := List.mem_map.mp hp
      exact (hs i hi).len
    rw [List.length_map] at this
    have e : (60 + ([32] : List Nat).length) * l.length = 61 * l.length := rfl
    omega
theorem len_S (l : List Nat) : (SX.S l).length = l.length := by rw [TL.len_tl, tl_S]
theorem len_app (x y : Str) : (x ++ y).length = x.length + y.length := by rw [TL.len_tl, TL.tl_append, List.length_append, TL.len_tl x, TL.len_tl y]
theorem len_empty : Str.length Str.empty = 0 := rfl
def StOk (s : List Int × List (List Int)) : Prop := s.1.length ≤ 63 ∧ s.2.length ≤ 63 ∧ (∀ i ∈ s.1, Sml i) ∧ ∀ r ∈ s.2, r.length ≤ 63 ∧ ∀ i ∈ r, Sml i
def spSTx : Sp := fun vs H Q _ => ∃ (v : V) (s : List Int × List (List Int)), vs = [v] ∧ Dx H v (stateP s) ∧ StOk s ∧ ∀ H', Same H H' → Q (.str (SX.S (stateS s))) H'
theorem ok_state_text {f : Addr} {fd : FuncData} (F : Fun K "state_text" "state_text" s_state_text f fd) (T : Txt mg) (Z : PexZ K mg tx) {f_numbers_text : Addr} {fd_numbers_text : FuncData} (G_numbers_text : FnOk P w K mg base CX0 1 f_numbers_text fd_numbers_text P_numbers_text spNT) (C_numbers_text : Cal K mg "numbers_text" f_numbers_text fd_numbers_text P_numbers_text) : FnOk P w K mg base CX0 2 f fd P_state_text spSTx := by
  refine F.ok sc_state_text (fun vs H Q E h => ?_) (fun cdv A outer s H vs Q E hr h => ?_)
  · obtain ⟨v, s, rfl, _⟩ := h
    rfl
  · obtain ⟨v, s, rfl, hv, hs, q⟩ := h
    refine ⟨_, (pss_cons (ps_setLc (i := 1) (own := [("row", 2)]) (g := gName 2) (tt := tYes) rfl sc_state_text.nd rfl rfl (sw_true rfl rfl rfl (by decide +kernel)) (pi_tup (pe_ix ix_tup (pv 0) pe_int (fun _ _ => rfl))) (blkOk_by (own := [("row", 2)]) (N := ["state", "rows", "row", "classes"]) (sc := (defScope s_state_text)) (by decide +kernel)) (fun _ _ _ _ _ => (pg_name (i := 2) sc_state_text.nd rfl (Or.inl rfl))) (fun _ _ _ _ _ => pts_nil) (fun _ _ _ _ _ => (pe_call G_numbers_text (hr.mono (by decide)) rfl C_numbers_text.m C_numbers_text.k C_numbers_text.b .nil pass0 (pa_cons (pv 2) pa_nil))))
      (pss_cons (ps_set (i := 3) sc_state_text.nd rfl (Or.inl rfl) (pe_ifExp (pt_truth (pv 1) (by intro _; rfl)) (pe_join pe_str (pv 1)) (pe_glob (v := .str "none") rfl T.m_NONE.choose_spec ⟨_, rfl⟩)))
      (pss_one (ps_ret (pe_joined (PJ.cons (pe_fmt (pe_call G_numbers_text (hr.mono (by decide)) rfl C_numbers_text.m C_numbers_text.k C_numbers_text.b .nil pass0 (pa_cons (pe_ix ix_tup (pv 0) pe_int (fun _ _ => rfl)) pa_nil))) (PJ.cons pe_str (PJ.cons (pe_fmt (pv 3)) PJ.nil)))))))), ?_⟩
    obtain ⟨h1, h2, h3, h4⟩ := hs
    obtain ⟨n1, rs⟩ := s
    cases hv with
    | @tup a xs _ ha hx =>
    cases hx with
    | @cons v1 _ _ _ x1 hx =>
    cases hx with
    | @cons v2 _ _ _ x2 hx =>
    cases hx
    cases x2 with
    | @tup b ys _ hb hy =>
    refine ⟨_, rfl, _, _, _, _, rfl, rfl, SqT.of ha, rfl, _, rfl, ⟨_, SqT.of hb⟩, ?_⟩
    have hn : ∀ r ∈ rs, (numsS r).length ≤ 4000 := fun r hr => numsS_len (h4 r hr).1 (h4 r hr).2
    refine fun D hD => lc_tup (K := K) (xs := ys) (fun j H' => Same H H' ∧ H' D = some (.lst (((rs.take j).map numsS).map fun x => V.str (SX.S x)))) ⟨sameOf hD (fun b hb => upd_ne hb), upd_same⟩ (fun j H' _ h => SqT.of (h.1 _ _ hb)) ?_ ?_
    · rintro j y H' hj ⟨sm, hl⟩
      obtain ⟨d, hd, xd⟩ := hy.get hj
      rw [List.getElem?_map] at hd
      cases hw : rs[j]? with
      | none =>
        have hd2 : (none : Option (List Int)).map intsP = some d := by rw [← hw]; exact hd
        cases hd2
      | some r =>
        have hd2 : (some r : Option (List Int)).map intsP = some d := by rw [← hw]; exact hd
        cases hd2
        have hr := h4 r (List.mem_of_getElem? hw)
        have hj2 := (List.getElem?_eq_some_iff.mp hw).1
        obtain ⟨c, rfl, hc⟩ := ints_at xd
        refine ⟨rfl, ?_⟩
        refine ⟨_, rfl, c, r, rfl, sm _ _ hc, hr.1, hr.2, fun H5 s5 => ?_⟩
        refine ⟨_, s5 _ _ hl, szlt (by rw [List.length_map, List.length_map, List.length_take]; have h2 : rs.length ≤ 63 := h2; omega), fun b o e => ?_, ?_⟩
        · rw [upd_ne (ne_of_none e hD)]
          exact s5 _ _ (sm _ _ e)
        · rw [upd_same, List.take_add_one, List.map_append, List.map_append, hw]
          rfl
    · rintro H9 ⟨sm, hl⟩
      have ly : ys.length = rs.length := by rw [hy.len]; exact List.length_map _
      rw [ly, List.take_length] at hl
      refine ⟨_, rfl, (!rs.isEmpty), .inl ⟨_, SqL.of hl, by rw [List.isEmpty_map, List.isEmpty_map]⟩, ?_⟩
      show (if (!rs.isEmpty) = true then (?ta : TE) (?sg : L2.St) (?Hx : Hp) (?R : VK) else (?tb : TE) ?sg ?Hx ?R)
      have rest : ∀ cl : List Nat, cl.length ≤ 400000 → stateS (n1, rs) = numsS n1 ++ ([32, 124, 32] ++ cl) → ?R (.str (SX.S cl)) H9 := by
        intro cl lc e
        obtain ⟨c1, rfl, hc1⟩ := ints_at x1
        refine ⟨_, rfl, _, _, _, _, rfl, rfl, SqT.of (sm _ _ ha), rfl, ?_⟩
        refine ⟨c1, n1, rfl, sm _ _ hc1, h1, h3, fun H10 s10 => ?_⟩
        have z1 : (numsS n1).length ≤ 4000 := numsS_len h1 h3
        refine .inl ⟨sN n1, rfl, ?_, _, rfl, ?_, ?_⟩
        · rw [sizeLine_eq, sN, len_S]
          omega
        · rw [sizeLine_eq, len_app, len_empty, sN, len_S]
          omega
        refine ⟨_, rfl, ?_, ?_⟩
        · rw [sizeLine_eq, len_app, len_app, len_empty, show Str.length (Str.ofString " | ") = 3 from rfl, sN, len_S]
          omega
        refine ⟨_, rfl, .inl ⟨SX.S cl, rfl, ?_, _, rfl, ?_, ?_⟩⟩
        · rw [sizeLine_eq, len_S]
          omega
        · rw [sizeLine_eq, len_app, len_app, len_app, len_empty, show Str.length (Str.ofString " | ") = 3 from rfl, sN, len_S, len_S]
          omega
        have := q H10 (sm.trans s10)
        rw [e] at this
        rw [show (((Str.empty ++ sN n1) ++ Str.ofString " | ") ++ SX.S cl : Str) = SX.S (numsS n1 ++ ([32, 124, 32] ++ cl)) from TL.ext_tl (by
          rw [TL.tl_append, TL.tl_append, TL.tl_append, sign_bar, sN, tl_S, tl_S, tl_S]
          show [] ++ numsS n1 ++ [32, 124, 32] ++ cl = _
          simp)]
        exact this
      cases er : rs with
      | nil =>
        refine iteF ?_
        have := rest noneC (by decide) (by rw [er]; rfl)
        rw [← none_S] at this
        exact this
      | cons r0 rr =>
        have ne : rs ≠ [] := by rw [er]; exact List.cons_ne_nil _ _
        have lj := joinL_len (s := [59, 32]) (m := 4000) (ps := rs.map numsS) fun p hp => by
          obtain ⟨r, hr, rfl⟩ := List.mem_map.mp hp
          exact hn r hr
        rw [List.length_map] at lj
        have h2 : rs.length ≤ 63 := h2
        have e2 : (4000 + ([59, 32] : List Nat).length) * rs.length = 4002 * rs.length := rfl
        refine iteT ?_
        have hl2 : H9 D = some (.lst (((rs.map numsS).map SX.S).map V.str)) := by
          rw [List.map_map]
          exact hl
        refine ⟨⟨_, rfl⟩, _, rfl, _, _, (rs.map numsS).map SX.S, rfl, rfl, .inl (SqL.of hl2), ?_, ?_⟩
        · have h5 := sum_num (l := rs.map numsS) (m := 4000) fun p hp => by
            obtain ⟨r, hr, rfl⟩ := List.mem_map.mp hp
            exact hn r hr
          rw [List.length_map] at h5
          rw [List.length_map, List.length_map, show Str.length (Str.ofString "; ") = 2 from rfl]
          omega
        · rw [semi_S, SX.join_S]
          exact rest _ (by omega) (by show numsS n1 ++ ([32, 124, 32] ++ (if rs = [] then _ else _)) = _; rw [if_neg ne])

/-! ### numbers and states written and read -/
def spCkS : Sp := fun vs H Q _ => ∃ x : Str, vs = [.str x] ∧ Q .non H
theorem ok_check_text {f : Addr} {fd : FuncData} (F : Fun K "check_text" "check_text" s_check_text f fd) (T : Txt mg) (Z : PexZ K mg tx) : FnOk P w K mg base CX0 1 f fd P_check_text spCkS := by
  refine F.ok sc_check_text (fun vs H Q E h => ?_) (fun cdv A outer s H vs Q E hr h => ?_)
  · obtain ⟨x, rfl, _⟩ := h
    rfl
  · obtain ⟨x, rfl, q⟩ := h
    refine ⟨_, (pss_one (ps_if (pt_not (pt_val (pe_callB call_isi (by rfl) T.n_isinstance (by decide +kernel) (pa_cons (pv 0) (pa_cons (pe_bltn (v := .ty "str") rfl T.n_str (by decide +kernel) rfl) pa_nil))))) (pss_one ps_never) pss_nil)), ?_⟩
    refine ⟨_, rfl, _, _, _, _, _, rfl, .ty _, (Dx.str x).ty, kit_str (.str x), _, rfl, ?_⟩
    refine iteF ?_
    exact q
theorem num_ok {i : Int} (h : Sml i) : numD (.int i) = true := by
  show (isIntD (.int i) && decide (0 ≤ i)) = true
  rw [decide_eq_true h.1, Bool.and_true]
  show decide ((if i < 0 then -i else i) < 10 ^ Int.toNat 60) = true
  rw [if_neg (by have := h.1; omega)]
  exact decide_eq_true h.2
theorem nums_ok {l : List Int} (h : ∀ i ∈ l, Sml i) : numsD (intsP l) = true := List.all_eq_true.mpr fun d hd => by
  obtain ⟨i, hi, rfl⟩ := List.mem_map.mp hd
  exact num_ok (h i hi)
theorem StOk.len3 {s : List Int × List (List Int)} (h : StOk s) : len3 (stateP s) = true := by
  obtain ⟨h1, h2, h3, h4⟩ := h
  have d1 : decide ((s.1.map PyData.int).length ≤ 100) = true := decide_eq_true (by rw [List.length_map]; omega)
  have d2 : decide ((s.2.map intsP).length ≤ 100) = true := decide_eq_true (by rw [List.length_map]; omega)
  have d3 : (s.2.map intsP).all len1 = true := List.all_eq_true.mpr fun d hd => by
    obtain ⟨r, hr, rfl⟩ := List.mem_map.mp hd
    exact decide_eq_true (by rw [List.length_map]; have := (h4 r hr).1; omega)
  show (decide (2 ≤ 100) && ((decide ((s.1.map PyData.int).length ≤ 100) && (s.1.map PyData.int).all len1) && ((decide ((s.2.map intsP).length ≤ 100) && (s.2.map intsP).all len1) && true))) = true
  rw [d1, d2, d3, len1_int]
  rfl
/-- raise ParseError(None) -/
theorem raise_line {H H2 : Hp} {E : XK} (Z : PexZ K mg tx) (s2 : Same H H2) (q : ∀ (dx : Addr) (H' : Hp), Same H H' → H' dx = some (.xd [("line", .non)]) → E (.ref tx.C) (some dx) H') :
    [V.non].length ≤ 1000 ∧ ∀ a, H2 a = none → spIni K "line" (.ref a :: ([V.non] ++ [])) (upd H2 a (exo a tx.C none)) (fun v H3 => v = .non ∧ ∃ (d : Addr) (fs : List (Str × V)), H3 a = some (exo a tx.C (some d)) ∧ H3 d = some (exd d fs) ∧ H2 d = none ∧ E (.ref tx.C) (some d) (upd (del H3 a) d (.xd fs))) fun _ _ _ => False := by
  refine mkO_any Z.ini fun dx H' s' e => q dx H' (s2.trans s') e
theorem ok_write_numbers {f : Addr} {fd : FuncData} (F : Fun K "write_numbers" "write_numbers" s_write_numbers f fd) (T : Txt mg) (Z : PexZ K mg tx) {f_are_numbers : Addr} {fd_are_numbers : FuncData} (G_are_numbers : FnOk P w K mg base CX0 2 f_are_numbers fd_are_numbers P_are_numbers (spN len1 numsD)) (C_are_numbers : Cal K mg "are_numbers" f_are_numbers fd_are_numbers P_are_numbers) {f_numbers_text : Addr} {fd_numbers_text : FuncData} (G_numbers_text : FnOk P w K mg base CX0 1 f_numbers_text fd_numbers_text P_numbers_text spNT) (C_numbers_text : Cal K mg "numbers_text" f_numbers_text fd_numbers_text P_numbers_text) : FnOk P w K mg base CX0 3 f fd P_write_numbers spNT := by
  refine F.ok sc_write_numbers (fun vs H Q E h => ?_) (fun cdv A outer s H vs Q E hr h => ?_)
  · obtain ⟨a, l, rfl, _⟩ := h
    rfl
  · obtain ⟨a, l, rfl, ha, ll, hs, q⟩ := h
    refine ⟨_, (pss_cons (ps_if (pt_not (pt_val (pe_call G_are_numbers (hr.mono (by decide)) rfl C_are_numbers.m C_are_numbers.k C_are_numbers.b .nil pass0 (pa_cons (pv 0) pa_nil)))) (pss_one ps_never) pss_nil)
      (pss_one (ps_ret (pe_call G_numbers_text (hr.mono (by decide)) rfl C_numbers_text.m C_numbers_text.k C_numbers_text.b .nil pass0 (pa_cons (pv 0) pa_nil))))), ?_⟩
    refine ⟨_, rfl, _, intsP l, rfl, .tup ha (dx_ints l), decide_eq_true (by rw [List.length_map]; omega), fun H1 s1 => ?_⟩
    refine ⟨_, rfl, ?_⟩
    rw [nums_ok hs]
    refine iteF ?_
    exact ⟨_, rfl, a, l, rfl, s1 _ _ ha, ll, hs, fun H2 s2 => q H2 (s1.trans s2)⟩
def spWS : Sp := fun vs H Q _ => ∃ (v : V) (s : List Int × List (List Int)), vs = [v] ∧ Dx H v (stateP s) ∧ StOk s ∧ stateD (stateP s) = true ∧ ∀ H', Same H H' → Q (.str (SX.S (stateS s))) H'
theorem ok_write_state {f : Addr} {fd : FuncData} (F : Fun K "write_state" "write_state" s_write_state f fd) (T : Txt mg) (Z : PexZ K mg tx) {f_is_state_form : Addr} {fd_is_state_form : FuncData} (G_is_state_form : FnOk P w K mg base CX0 5 f_is_state_form fd_is_state_form P_is_state_form (spN len3 stateD)) (C_is_state_form : Cal K mg "is_state_form" f_is_state_form fd_is_state_form P_is_state_form) {f_state_text : Addr} {fd_state_text : FuncData} (G_state_text : FnOk P w K mg base CX0 2 f_state_text fd_state_text P_state_text spSTx) (C_state_text : Cal K mg "state_text" f_state_text fd_state_text P_state_text) : FnOk P w K mg base CX0 6 f fd P_write_state spWS := by
  refine F.ok sc_write_state (fun vs H Q E h => ?_) (fun cdv A outer s H vs Q E hr h => ?_)
  · obtain ⟨v, s, rfl, _⟩ := h
    rfl
  · obtain ⟨v, s, rfl, hv, hs, hd, q⟩ := h
    refine ⟨_, (pss_cons (ps_if (pt_not (pt_val (pe_call G_is_state_form (hr.mono (by decide)) rfl C_is_state_form.m C_is_state_form.k C_is_state_form.b .nil pass0 (pa_cons (pv 0) pa_nil)))) (pss_one ps_never) pss_nil)
      (pss_one (ps_ret (pe_call G_state_text (hr.mono (by decide)) rfl C_state_text.m C_state_text.k C_state_text.b .nil pass0 (pa_cons (pv 0) pa_nil))))), ?_⟩
    refine ⟨_, rfl, _, stateP s, rfl, hv, hs.len3, fun H1 s1 => ?_⟩
    refine ⟨_, rfl, ?_⟩
    rw [hd]
    refine iteF ?_
    exact ⟨_, rfl, _, s, rfl, hv.same s1, hs, fun H2 s2 => q H2 (s1.trans s2)⟩
def spRN (tx : Pa) : Sp := fun vs H Q E => ∃ x : Str, vs = [.str x] ∧ x.length ≤ 4000 ∧ (∀ l, numsC (TL.tl x) = some l → ∀ v H', Same H H' → Dx H' v (intsP l) → Q v H') ∧
  (numsC (TL.tl x) = none → ∀ (dx : Addr) (H' : Hp), Same H H' → H' dx = some (.xd [("line", .non)]) → E (.ref tx.C) (some dx) H')
theorem ok_read_numbers {f : Addr} {fd : FuncData} (F : Fun K "read_numbers" "read_numbers" s_read_numbers f fd) (T : Txt mg) (Z : PexZ K mg tx) {f_check_text : Addr} {fd_check_text : FuncData} (G_check_text : FnOk P w K mg base CX0 1 f_check_text fd_check_text P_check_text spCkS) (C_check_text : Cal K mg "check_text" f_check_text fd_check_text P_check_text) {f_numbers_told : Addr} {fd_numbers_told : FuncData} (G_numbers_told : FnOk P w K mg base CX0 2 f_numbers_told fd_numbers_told P_numbers_told spNums) (C_numbers_told : Cal K mg "numbers_told" f_numbers_told fd_numbers_told P_numbers_told) {fd_ParseError : FuncData} (G_ParseError : FnOk P w K mg base CX0 1 tx.I fd_ParseError P_iParseError (spIni K "line")) (B_ParseError : Binds K fd_ParseError P_iParseError []) : FnOk P w K mg base (L2.CX P w) 3 f fd P_read_numbers (spRN tx) := by
  refine F.okX sc_read_numbers (fun vs H Q E h => ?_) (fun cdv A outer s H vs Q E hr h => ?_)
  · obtain ⟨x, rfl, _⟩ := h
    rfl
  · obtain ⟨x, rfl, lx, q1, q2⟩ := h
    refine ⟨_, (pss_cons (ps_expr (pe_call G_check_text (hr.mono (by decide)) rfl C_check_text.m C_check_text.k C_check_text.b .nil pass0 (pa_cons (pv 0) pa_nil)))
      (pss_cons (ps_set (i := 1) sc_read_numbers.nd rfl (Or.inl rfl) (pe_call G_numbers_told (hr.mono (by decide)) rfl C_numbers_told.m C_numbers_told.k C_numbers_told.b .nil pass0 (pa_cons (pv 0) pa_nil)))
      (pss_cons (ps_if (pt_cmpR op_isN (pv 1) pe_non (nomark _)) (pss_one (ps_raise (W := WR E) rfl (takes_of rfl rfl rfl rfl) (pmk_oex Z.o Z.ini.i Z.ini.t G_ParseError (hr.mono (by decide)) B_ParseError .nil pass0 rfl Z.gC (pa_cons pe_non pa_nil)))) pss_nil)
      (pss_one (ps_ret (pv 1)))))), ?_⟩
    refine ⟨_, rfl, x, rfl, ?_⟩
    refine ⟨_, rfl, x, rfl, lx, fun v H2 s2 hv => ?_⟩
    refine ⟨_, rfl, rfl, _, rfl, ?_⟩
    cases e : numsC (TL.tl x) with
    | none =>
      rw [e] at hv
      cases hv
      refine iteT ?_
      exact raise_line Z s2 (q2 e)
    | some l =>
      rw [e] at hv
      obtain ⟨a, rfl, ha⟩ := ints_at hv
      refine iteF ?_
      exact ⟨_, rfl, q1 l e _ H2 s2 hv⟩
def spRS (tx : Pa) : Sp := fun vs H Q E => ∃ x : Str, vs = [.str x] ∧ Few (TL.tl x) ∧ (stateD (stD (TL.tl x)) = true → ∀ v H', Same H H' → Dx H' v (stD (TL.tl x)) → Q v H') ∧
  (stateD (stD (TL.tl x)) = false → ∀ (dx : Addr) (H' : Hp), Same H H' → H' dx = some (.xd [("line", .non)]) → E (.ref tx.C) (some dx) H')
theorem ok_read_state {f : Addr} {fd : FuncData} (F : Fun K "read_state" "read_state" s_read_state f fd) (T : Txt mg) (Z : PexZ K mg tx) {f_check_text : Addr} {fd_check_text : FuncData} (G_check_text : FnOk P w K mg base CX0 1 f_check_text fd_check_text P_check_text spCkS) (C_check_text : Cal K mg "check_text" f_check_text fd_check_text P_check_text) {f_state_told : Addr} {fd_state_told : FuncData} (G_state_told : FnOk P w K mg base CX0 6 f_state_told fd_state_told P_state_told spStT) (C_state_told : Cal K mg "state_told" f_state_told fd_state_told P_state_told) {fd_ParseError : FuncData} (G_ParseError : FnOk P w K mg base CX0 1 tx.I fd_ParseError P_iParseError (spIni K "line")) (B_ParseError : Binds K fd_ParseError P_iParseError []) : FnOk P w K mg base (L2.CX P w) 7 f fd P_read_state (spRS tx) := by
  refine F.okX sc_read_state (fun vs H Q E h => ?_) (fun cdv A outer s H vs Q E hr h => ?_)
  · obtain ⟨x, rfl, _⟩ := h
    rfl
  · obtain ⟨x, rfl, fx, q1, q2⟩ := h
    refine ⟨_, (pss_cons (ps_expr (pe_call G_check_text (hr.mono (by decide)) rfl C_check_text.m C_check_text.k C_check_text.b .nil pass0 (pa_cons (pv 0) pa_nil)))
      (pss_cons (ps_set (i := 1) sc_read_state.nd rfl (Or.inl rfl) (pe_call G_state_told (hr.mono (by decide)) rfl C_state_told.m C_state_told.k C_state_told.b .nil pass0 (pa_cons (pv 0) pa_nil)))
      (pss_cons (ps_if (pt_cmpR op_isN (pv 1) pe_non (nomark _)) (pss_one (ps_raise (W := WR E) rfl (takes_of rfl rfl rfl rfl) (pmk_oex Z.o Z.ini.i Z.ini.t G_ParseError (hr.mono (by decide)) B_ParseError .nil pass0 rfl Z.gC (pa_cons pe_non pa_nil)))) pss_nil)
      (pss_one (ps_ret (pv 1)))))), ?_⟩
    refine ⟨_, rfl, x, rfl, ?_⟩
    refine ⟨_, rfl, x, rfl, fx, fun v H2 s2 hv => ?_⟩
    refine ⟨_, rfl, rfl, _, rfl, ?_⟩
    unfold stP at hv
    cases e : stateD (stD (TL.tl x)) with
    | false =>
      rw [e] at hv
      cases hv
      refine iteT ?_
      exact raise_line Z s2 (q2 e)
    | true =>
      rw [e] at hv
      have hv' : Dx H2 v (stD (TL.tl x)) := hv
      have nn : (decide (v = V.non)) = false := decide_eq_false fun z => by
        rw [z] at hv'
        cases hv'
      rw [nn]
      refine iteF ?_
      exact ⟨_, rfl, q1 e v H2 s2 hv'⟩

/-! ### tables written -/
theorem frz_open {H H' : Hp} {a : Addr} {o : Obj} {u : HO} (h : H a = some u) (s : Same (upd H a (.frz o u)) H') : H' a = some (.frz o u) ∧ Same H (upd H' a u) := by
  refine ⟨s _ _ upd_same, fun b q e => ?_⟩
  by_cases z : b = a
  · rw [z] at e ⊢
    rw [h] at e
    cases e
    exact upd_same
  · rw [upd_ne z]
    exact s _ _ (by rw [upd_ne z]; exact e)
theorem frz_del {H H' : Hp} {a : Addr} {o : Obj} {u : HO} (s : Same (upd H a (.frz o u)) H') : Same (del H a) H' := fun b q e => by
  by_cases z : b = a
  · rw [z, del_same] at e
    cases e
  · rw [del_ne z] at e
    exact s _ _ (by rw [upd_ne z]; exact e)
def kP : Key → PyData
  | .inl i => .int i
  | .inr x => .str x
theorem kp_dx {H : Hp} : ∀ k : List Key, DxAll H (k.map kV) (k.map kP)
  | [] => .nil
  | .inl i :: k => .cons (.int i) (kp_dx k)
  | .inr x :: k => .cons (.str x) (kp_dx k)
theorem val_at : ∀ {kvs : List (List Key × V)} {i : Nat} {k : List Key} {v : V}, (kvs.map Prod.fst).Nodup → kvs[i]? = some (k, v) → valV kvs k = some v
  | [], _, _, _, _, h => by cases h
  | p :: kvs, 0, k, v, _, h => by
    cases h
    exact valV_pos rfl
  | p :: kvs, i + 1, k, v, n, h => by
    rw [List.map_cons, List.nodup_cons] at n
    have h : kvs[i]? = some (k, v) := h
    rw [valV_neg (p := p) fun z => n.1 (z ▸ List.mem_map.mpr ⟨_, List.mem_of_getElem? h, rfl⟩)]
    exact val_at n.2 h
abbrev Sta := List Int × List (List Int)
def lineS (e : List Int × Sta) : List Nat := numsS e.1 ++ ([58, 32] ++ stateS e.2)
def tableS (T : List (List Int × Sta)) : List Nat := if T = [] then noneC else TL.joinL [10] (T.map lineS)
/-- a table: keys of two numbers that rise, states -/
structure TabOk (T : List (List Int × Sta)) : Prop where
  few : T.length ≤ 15
  key : ∀ e ∈ T, e.1.length = 2 ∧ ∀ i ∈ e.1, Sml i
  val : ∀ e ∈ T, StOk e.2 ∧ stateD (stateP e.2) = true
  asc : T.Pairwise (fun e f => HT.lexLt e.1 f.1 = true)
structure TabAt (H : Hp) (a : Addr) (T : List (List Int × Sta)) : Prop where
  ex : (T = [] ∧ H a = some (.dK [])) ∨ ∃ kvs : List (List Key × V), H a = some (.dT kvs) ∧ kvs.map Prod.fst = T.map (fun e => e.1.map Sum.inl) ∧ DxAll (del H a) (kvs.map Prod.snd) (T.map fun e => stateP e.2)
def spWT : Sp := fun vs H Q _ => ∃ (a : Addr) (T : List (List Int × Sta)), vs = [.ref a] ∧ TabAt H a T ∧ TabOk T ∧ ∀ H', Same H H' → Q (.str (SX.S (tableS T))) H'
theorem lex_irr (l : List Int) : HT.lexLt l l = false := by
  cases h : HT.lexLt l l with
  | false => rfl
  | true =>
    have := NtL.lex_asym l l h
    rw [h] at this
    cases this
theorem lex_ne {l m : List Int} (h : HT.lexLt l m = true) : l ≠ m := fun z => by
  rw [z, lex_irr] at h
  cases h
theorem lex_tot : ∀ {l m : List Int}, HT.lexLt l m = false → HT.lexLt m l = false → l = m
  | [], [], _, _ => rfl
  | [], _ :: _, h, _ => by cases h
  | _ :: _, [], _, h => by cases h
  | x :: l, y :: m, h1, h2 => by
    rw [HT.lexLt_cons] at h1 h2
    by_cases e : x = y
    · subst e
      rw [if_pos rfl] at h1 h2
      rw [lex_tot h1 h2]
    · rw [if_neg e] at h1
      rw [if_neg fun z => e z.symm] at h2
      have a := of_decide_eq_false h1
      have b := of_decide_eq_false h2
      omega
theorem inl_inj : ∀ {l m : List Int}, l.map (Sum.inl : Int → Key) = m.map Sum.inl → l = m
  | [], [], _ => rfl
  | [], _ :: _, h => by cases h
  | _ :: _, [], h => by cases h
  | x :: l, y :: m, h => by
    injection h with h1 h2
    rw [Sum.inl.inj h1, inl_inj h2]
theorem keys_nd {Tb : List (List Int × Sta)} (h : Tb.Pairwise (fun e f => HT.lexLt e.1 f.1 = true)) : (Tb.map fun e => (e.1.map Sum.inl : List Key)).Nodup := by
  unfold List.Nodup
  rw [List.pairwise_map]
  exact h.imp fun {e f} z w => lex_ne z (inl_inj w)
theorem key_ok {l : List Int} (h : l.length = 2 ∧ ∀ i ∈ l, Sml i) : keyD (intsP l) = true := by
  show ((l.map PyData.int).all numD && decide ((l.map PyData.int).length = 2)) = true
  rw [show (l.map PyData.int).all numD = true from nums_ok h.2, List.length_map, decide_eq_true h.1]
  rfl
theorem sort_uniq {l m : List (List Int)} (p : l.Perm m) (pl : l.Pairwise fun b c => HT.lexLt c b = false) (pm : m.Pairwise fun b c => HT.lexLt b c = true) : l = m :=
  List.Perm.eq_of_pairwise (le := fun b c => HT.lexLt c b = false) (fun a b _ _ h1 h2 => lex_tot h2 h1) pl (pm.imp fun {b c} h => NtL.lex_asym b c h) p
theorem del_sub (H : Hp) (a : Addr) : Same (del H a) H := fun b o e => by
  by_cases z : b = a
  · rw [z, del_same] at e
    cases e
  · rw [del_ne z] at e
    exact e
theorem sign_nl : TL.tl (Str.ofString "\n") = [10] := by decide +kernel
theorem nl_S : Str.ofString "\n" = SX.S [10] := TL.ext_tl sign_nl
theorem stateS_len {s : Sta} (h : StOk s) : (stateS s).length ≤ 260000 := by
  obtain ⟨h1, h2, h3, h4⟩ := h
  have z1 := numsS_len h1 h3
  have lj := joinL_len (s := [59, 32]) (m := 4000) (ps := s.2.map numsS) fun p hp => by
    obtain ⟨r, hr, rfl⟩ := List.mem_map.mp hp
    exact numsS_len (h4 r hr).1 (h4 r hr).2
  rw [List.length_map] at lj
  have e2 : (4000 + ([59, 32] : List Nat).length) * s.2.length = 4002 * s.2.length := rfl
  show (numsS s.1 ++ ([32, 124, 32] ++ (if s.2 = [] then noneC else TL.joinL [59, 32] (s.2.map numsS)))).length ≤ 260000
  rw [List.length_append, List.length_append, show ([32, 124, 32] : List Nat).length = 3 from rfl]
  split
  · have : noneC.length = 4 := rfl
    omega
  · omega
abbrev teLine : TE := fun σ H Q => tJs [tFmt (tCall spNT [] E0 (tCons (tVar 1) tNil)), tC (V.str (Str.ofString ": ")), tFmt (tCall spSTx [] E0 (tCons (tDGet (tVar 0) (tVar 1)) tNil))] Str.empty σ H fun out H1 => Q (V.str out) H1
theorem ok_write_table {f : Addr} {fd : FuncData} (F : Fun K "write_table" "write_table" s_write_table f fd) (T : Txt mg) (Z : PexZ K mg tx) {f_is_key : Addr} {fd_is_key : FuncData} (G_is_key : FnOk P w K mg base CX0 3 f_is_key fd_is_key P_is_key (spN len1 keyD)) (C_is_key : Cal K mg "is_key" f_is_key fd_is_key P_is_key) {f_is_state_form : Addr} {fd_is_state_form : FuncData} (G_is_state_form : FnOk P w K mg base CX0 5 f_is_state_form fd_is_state_form P_is_state_form (spN len3 stateD)) (C_is_state_form : Cal K mg "is_state_form" f_is_state_form fd_is_state_form P_is_state_form) {f_numbers_text : Addr} {fd_numbers_text : FuncData} (G_numbers_text : FnOk P w K mg base CX0 1 f_numbers_text fd_numbers_text P_numbers_text spNT) (C_numbers_text : Cal K mg "numbers_text" f_numbers_text fd_numbers_text P_numbers_text) {f_state_text : Addr} {fd_state_text : FuncData} (G_state_text : FnOk P w K mg base CX0 2 f_state_text fd_state_text P_state_text spSTx) (C_state_text : Cal K mg "state_text" f_state_text fd_state_text P_state_text) : FnOk P w K mg base CX0 7 f fd P_write_table spWT := by
  refine F.ok sc_write_table (fun vs H Q E h => ?_) (fun cdv A outer s H vs Q E hr h => ?_)
  · obtain ⟨a, Tb, rfl, _⟩ := h
    rfl
  · obtain ⟨a, Tb, rfl, ⟨hT⟩, ok, q⟩ := h
    refine ⟨_, (pss_cons (ps_if (PW.pt (pw_or (pt_not (pt_val (pe_callB (call_isiM (K := K)) (by rfl) T.n_isinstance (by decide +kernel) (pa_cons (pv 0) (pa_cons (pe_bltn (v := .ty "dict") rfl T.n_dict (by decide +kernel) rfl) pa_nil))))) (pw_or1 (pt_not (pt_val (pe_callB (cr_all rfl) (by rfl) T.n_all (by decide +kernel) (pa_cons (pe_lock (pe_lc (own := [("key", 1)]) (g := gName 1) (tt := tYes) rfl sc_write_table.nd (pi_keysU (pv 0)) (blkOk_by (own := [("key", 1)]) (N := ["table", "key", "lines"]) (sc := (defScope s_write_table)) (by decide +kernel)) (fun _ _ _ _ _ => (pg_name (i := 1) sc_write_table.nd rfl (Or.inl rfl))) (fun _ _ _ _ _ => pts_nil) (fun _ _ _ _ _ => (pe_and (pe_call G_is_key (hr.mono (by decide)) rfl C_is_key.m C_is_key.k C_is_key.b .nil pass0 (pa_cons (pv 1) pa_nil)) (pe_one (pe_call G_is_state_form (hr.mono (by decide)) rfl C_is_state_form.m C_is_state_form.k C_is_state_form.b .nil pass0 (pa_cons (pe_dget (hu_of hr) (pv 0) (pv 1) (fun _ _ => rfl)) pa_nil))))))) pa_nil))))))) (pss_one ps_never) pss_nil)
      (pss_cons (ps_setLc (i := 2) (own := [("key", 1)]) (g := gName 1) (tt := tYes) rfl sc_write_table.nd rfl rfl (sw_true rfl rfl rfl (by decide +kernel)) (pi_list (pe_callB (cr_sortDD rfl (hu64i hr)) (by rfl) T.n_sorted (by decide +kernel) (pa_cons (pv 0) pa_nil))) (blkOk_by (own := [("key", 1)]) (N := ["table", "key", "lines"]) (sc := (defScope s_write_table)) (by decide +kernel)) (fun _ _ _ _ _ => (pg_name (i := 1) sc_write_table.nd rfl (Or.inl rfl))) (fun _ _ _ _ _ => pts_nil) (fun _ _ _ _ _ => (pe_joined (PJ.cons (pe_fmt (pe_call G_numbers_text (hr.mono (by decide)) rfl C_numbers_text.m C_numbers_text.k C_numbers_text.b .nil pass0 (pa_cons (pv 1) pa_nil))) (PJ.cons pe_str (PJ.cons (pe_fmt (pe_call G_state_text (hr.mono (by decide)) rfl C_state_text.m C_state_text.k C_state_text.b .nil pass0 (pa_cons (pe_dget (hu_of hr) (pv 0) (pv 1) (fun _ _ => rfl)) pa_nil))) PJ.nil))))))
      (pss_one (ps_ret (pe_ifExp (pt_truth (pv 2) (by intro _; rfl)) (pe_join pe_str (pv 2)) (pe_glob (v := .str "none") rfl T.m_NONE.choose_spec ⟨_, rfl⟩)))))), ?_⟩
    rcases hT with ⟨rfl, ha⟩ | ⟨kvs, ha, hks, hv⟩
    · refine ⟨_, rfl, .inl ⟨_, _, _, _, true, rfl, .ty _, .base (.dK ha), (kit_ty (by decide +kernel)), _, rfl, ?_⟩⟩
      refine iteF ?_
      refine ⟨_, _, ha, (DM.dk (d := a) []).mut, fun od => ⟨_, rfl, _, _, rfl, .inl ⟨_, _, upd_same, .dk _, fun D nD => ?_⟩⟩⟩
      refine lc_it walk_keysX (fun i H' => Same (upd H a (.frz od (.dK []))) H' ∧ H' D = some (.lst [])) ⟨sameOf nD (fun b hb => upd_ne hb), upd_same⟩ (fun i H' _ h => h.1 _ _ upd_same) (fun i x E1 E2 hi => absurd hi (Nat.not_lt_zero _)) ?_
      rintro H1 ⟨s1, hl1⟩
      have nDa : D ≠ a := fun z => by rw [z, upd_same] at nD; cases nD
      obtain ⟨hF, s2⟩ := frz_open ha s1
      refine ⟨hF, ?_⟩
      refine ⟨_, [], rfl, SqL.of (by rw [upd_ne nDa]; exact hl1), _, rfl, ?_⟩
      refine iteF ?_
      refine ⟨_, rfl, .inr ⟨a, rfl, s2 _ _ ha, fun p np => ?_⟩⟩
      generalize gp : upd _ p _ = H3; obtain ⟨e3, o3, t3⟩ := made np gp; clear gp
      have s3 := sameOf np o3
      refine ⟨_, rfl, ⟨_, SqL.of t3⟩, fun D2 nD2 => ?_⟩
      refine lc_list (K := K) (te := teLine) (a := p) (xs := []) (fun i H' => Same H3 H' ∧ H' D2 = some (.lst [])) ⟨sameOf nD2 (fun b hb => upd_ne hb), upd_same⟩ (fun i H' _ h => SqL.of (h.1 _ _ t3)) ?_ ?_
      · rintro i y H' hi
        cases hi
      rintro H4 ⟨s4, hl4⟩
      refine ⟨_, rfl, false, .inl ⟨_, SqL.of hl4, rfl⟩, ?_⟩
      refine iteF ?_
      have := q H4 ((s2.trans s3).trans s4)
      rw [show tableS [] = noneC from rfl, ← none_S] at this
      exact this
    · have lk : kvs.length = Tb.length := by
        have := congrArg List.length hks
        rw [List.length_map, List.length_map] at this
        exact this
      have few := ok.few
      have nd : (kvs.map Prod.fst).Nodup := by
        rw [hks]
        exact keys_nd ok.asc
      have ent : ∀ {i : Nat} {e : List Int × Sta}, Tb[i]? = some e → ∃ v, kvs[i]? = some (e.1.map Sum.inl, v) ∧ Dx (del H a) v (stateP e.2) := fun {i e} he => by
        have li : i < kvs.length := by rw [lk]; exact (List.getElem?_eq_some_iff.mp he).1
        obtain ⟨kv, hkv⟩ : ∃ kv, kvs[i]? = some kv := ⟨_, List.getElem?_eq_getElem li⟩
        have e1 : (kvs.map Prod.fst)[i]? = (Tb.map fun e => e.1.map Sum.inl)[i]? := by rw [hks]
        rw [List.getElem?_map, List.getElem?_map, hkv, he] at e1
        have e1 : kv.1 = e.1.map Sum.inl := Option.some.inj e1
        obtain ⟨d, hd, xd⟩ := hv.get (show (kvs.map Prod.snd)[i]? = some kv.2 by rw [List.getElem?_map, hkv]; rfl)
        rw [List.getElem?_map, he] at hd
        cases hd
        refine ⟨kv.2, ?_, xd⟩
        rw [hkv, ← e1]
      refine ⟨_, rfl, .inl ⟨_, _, _, _, true, rfl, .ty _, .base (.dT ha), (kit_ty (by decide +kernel)), _, rfl, ?_⟩⟩
      refine iteF ?_
      refine ⟨_, _, ha, True.intro, fun od => ⟨_, rfl, _, _, rfl, .inr ⟨kvs, upd_same, fun D nD => ?_⟩⟩⟩
      refine lc_it walk_keysT (fun i H' => Same (upd H a (.frz od (.dT kvs))) H' ∧ H' D = some (.lst ((List.replicate i true).map V.bl))) ⟨sameOf nD (fun b hb => upd_ne hb), upd_same⟩ (fun i H' _ h => h.1 _ _ upd_same) ?_ ?_
      · rintro i x E1 E2 hi ⟨sm, hl1⟩ ⟨rfl, k, v', q0, hkv, rfl, hq⟩
        obtain ⟨e, he⟩ : ∃ e, Tb[i]? = some e := ⟨_, List.getElem?_eq_getElem (by rw [← lk]; exact (List.getElem?_eq_some_iff.mp hkv).1)⟩
        obtain ⟨v, hv1, xd⟩ := ent he
        rw [hkv] at hv1
        obtain ⟨rfl, rfl⟩ : k = e.1.map Sum.inl ∧ v' = v := by
          have := Option.some.inj hv1
          exact ⟨congrArg Prod.fst this, congrArg Prod.snd this⟩
        have hm := List.mem_of_getElem? he
        have st : ∀ {H9 : Hp}, Same E2 H9 → ∃ acc, H9 D = some (.lst acc) ∧ acc.length < sizeLine ∧ Same (upd H a (.frz od (.dT kvs))) (upd H9 D (.lst (acc ++ [V.bl true]))) ∧ (upd H9 D (.lst (acc ++ [V.bl true]))) D = some (.lst ((List.replicate (i + 1) true).map V.bl)) := fun {H9} s9 => by
          refine ⟨_, s9 _ _ hl1, szlt (by rw [List.length_map, List.length_replicate]; omega), fun b o e => ?_, ?_⟩
          · rw [upd_ne (ne_of_none e nD)]
            exact s9 _ _ (sm _ _ e)
          · rw [upd_same, List.replicate_succ', List.map_append]
            rfl
        have hq2 : E2 q0 = some (.tup (e.1.map V.int)) := by
          rw [hq, List.map_map]
          rfl
        have dk : Dx E2 (.ref q0) (intsP e.1) := .tup hq2 (dx_ints e.1)
        refine ⟨rfl, ?_⟩
        refine ⟨_, rfl, .ref q0, intsP e.1, rfl, dk, decide_eq_true (by rw [List.length_map]; have := (ok.key e hm).1; omega), fun H5 s5 => ?_⟩
        refine ⟨_, rfl, ?_⟩
        rw [key_ok (ok.key e hm)]
        refine iteT ?_
        have g : DGet H5 a (.ref q0) (some v') := .inr ⟨kvs, e.1.map Sum.inl, q0, .inr ⟨od, s5 _ _ (sm _ _ upd_same)⟩, rfl, by rw [s5 _ _ hq], (val_at nd hkv).symm⟩
        refine ⟨_, rfl, _, rfl, _, _, rfl, g, v', stateP e.2, rfl, (xd.same (frz_del sm)).same s5, (ok.val e hm).1.len3, fun H6 s6 => ?_⟩
        rw [(ok.val e hm).2]
        exact st (s5.trans s6)
      · rintro H1 ⟨s1, hl1⟩
        have nDa : D ≠ a := fun z => by rw [z, upd_same] at nD; cases nD
        obtain ⟨hF, s2⟩ := frz_open ha s1
        refine ⟨hF, ?_⟩
        refine ⟨_, List.replicate kvs.length true, rfl, SqL.of (by rw [upd_ne nDa]; exact hl1), _, rfl, ?_⟩
        rw [show (List.replicate kvs.length true).all id = true from List.all_eq_true.mpr fun x hx => (List.eq_of_mem_replicate hx)]
        refine iteF ?_
        generalize eH2 : upd H1 a (.dT kvs) = H2 at s2
        have hd2 : H2 a = some (.dT kvs) := by rw [← eH2]; exact upd_same
        refine ⟨_, rfl, .inl ⟨a, kvs, Tb.map Prod.fst, rfl, hd2, by rw [hks, List.map_map]; rfl, fun as p pm it pw np => ?_⟩⟩
        have eas : as.map (intsAt H2) = Tb.map Prod.fst := sort_uniq pm (List.pairwise_map.mpr pw) (List.pairwise_map.mpr ok.asc)
        have las : as.length = Tb.length := by
          have := congrArg List.length eas
          rw [List.length_map, List.length_map] at this
          exact this
        generalize gp : upd _ p _ = H3; obtain ⟨e3, o3, t3⟩ := made np gp; clear gp
        have s3 := sameOf np o3
        refine ⟨_, rfl, ⟨_, SqL.of t3⟩, fun D2 nD2 => ?_⟩
        refine lc_list (K := K) (te := teLine) (a := p) (xs := as.map V.ref) (fun j H' => Same H3 H' ∧ H' D2 = some (.lst (((Tb.take j).map lineS).map fun x => V.str (SX.S x)))) ⟨sameOf nD2 (fun b hb => upd_ne hb), upd_same⟩ (fun i H' _ h => SqL.of (h.1 _ _ t3)) ?_ ?_
        · rintro j y H' hj ⟨sm, hl⟩
          rw [List.getElem?_map] at hj
          cases hb : as[j]? with
          | none => rw [hb] at hj; cases hj
          | some b =>
            rw [hb] at hj
            cases hj
            have lj : j < Tb.length := by rw [← las]; exact (List.getElem?_eq_some_iff.mp hb).1
            obtain ⟨e, he⟩ : ∃ e, Tb[j]? = some e := ⟨_, List.getElem?_eq_getElem lj⟩
            have hm := List.mem_of_getElem? he
            have eb : intsAt H2 b = e.1 := by
              have : (as.map (intsAt H2))[j]? = (Tb.map Prod.fst)[j]? := by rw [eas]
              rw [List.getElem?_map, List.getElem?_map, hb, he] at this
              exact Option.some.inj this
            have hb2 := (it b (List.mem_of_getElem? hb)).at
            rw [eb] at hb2
            obtain ⟨v, hkv, xd⟩ := ent he
            have s23 := s3.trans sm
            have z1 : (numsS e.1).length ≤ 4000 := numsS_len (by have := (ok.key e hm).1; omega) (ok.key e hm).2
            have z2 := stateS_len (ok.val e hm).1
            refine ⟨rfl, ?_⟩
            refine ⟨_, rfl, b, e.1, rfl, s23 _ _ hb2, by have := (ok.key e hm).1; omega, (ok.key e hm).2, fun H10 s10 => ?_⟩
            refine .inl ⟨sN e.1, rfl, ?_, _, rfl, ?_, ?_⟩
            · rw [sizeLine_eq, sN, len_S]
              omega
            · rw [sizeLine_eq, len_app, len_empty, sN, len_S]
              omega
            refine ⟨_, rfl, ?_, ?_⟩
            · rw [sizeLine_eq, len_app, len_app, len_empty, show Str.length (Str.ofString ": ") = 2 from rfl, sN, len_S]
              omega
            have g : DGet H10 a (.ref b) (some v) := .inr ⟨kvs, e.1.map Sum.inl, b, .inl (s10 _ _ (s23 _ _ hd2)), rfl, by rw [s10 _ _ (s23 _ _ hb2), List.map_map]; rfl, (val_at nd hkv).symm⟩
            have xd10 : Dx H10 v (stateP e.2) := xd.same ((del_sub H a).trans ((s2.trans s23).trans s10))
            refine ⟨_, rfl, _, rfl, _, _, rfl, g, v, e.2, rfl, xd10, (ok.val e hm).1, fun H11 s11 => ?_⟩
            refine .inl ⟨SX.S (stateS e.2), rfl, ?_, _, rfl, ?_, ?_⟩
            · rw [sizeLine_eq, len_S]
              omega
            · rw [sizeLine_eq, len_app, len_app, len_app, len_empty, show Str.length (Str.ofString ": ") = 2 from rfl, sN, len_S, len_S]
              omega
            rw [show (((Str.empty ++ sN e.1) ++ Str.ofString ": ") ++ SX.S (stateS e.2) : Str) = SX.S (lineS e) from TL.ext_tl (by
              rw [TL.tl_append, TL.tl_append, TL.tl_append, sign_colon, sN, tl_S, tl_S, tl_S]
              show [] ++ numsS e.1 ++ [58, 32] ++ stateS e.2 = numsS e.1 ++ ([58, 32] ++ stateS e.2)
              simp)]
            have st : Same H' H11 := s10.trans s11
            refine ⟨_, st _ _ hl, szlt (by rw [List.length_map, List.length_map, List.length_take]; omega), fun c o ec => ?_, ?_⟩
            · rw [upd_ne (ne_of_none ec nD2)]
              exact st _ _ (sm _ _ ec)
            · rw [upd_same, List.take_add_one, he, List.map_append, List.map_append]
              rfl
        · rintro H9 ⟨sm, hl⟩
          rw [List.length_map, las, List.take_length] at hl
          refine ⟨_, rfl, (!Tb.isEmpty), .inl ⟨_, SqL.of hl, by rw [List.isEmpty_map, List.isEmpty_map]⟩, ?_⟩
          have sq := (s2.trans s3).trans sm
          cases er : Tb with
          | nil =>
            refine iteF ?_
            have := q H9 sq
            rw [er, show tableS [] = noneC from rfl, ← none_S] at this
            exact this
          | cons r0 rr =>
            have ne : Tb ≠ [] := by rw [er]; exact List.cons_ne_nil _ _
            refine iteT ?_
            have hl2 : H9 D2 = some (.lst (((Tb.map lineS).map SX.S).map V.str)) := by
              rw [List.map_map]
              exact hl
            refine ⟨⟨_, rfl⟩, _, rfl, _, _, (Tb.map lineS).map SX.S, rfl, rfl, .inl (SqL.of hl2), ?_, ?_⟩
            · have h5 := sum_num (l := Tb.map lineS) (m := 300000) fun p hp => by
                obtain ⟨r, hr, rfl⟩ := List.mem_map.mp hp
                have z1 : (numsS r.1).length ≤ 4000 := numsS_len (by have := (ok.key r hr).1; omega) (ok.key r hr).2
                have z2 := stateS_len (ok.val r hr).1
                show (numsS r.1 ++ ([58, 32] ++ stateS r.2)).length ≤ 300000
                rw [List.length_append, List.length_append, show ([58, 32] : List Nat).length = 2 from rfl]
                omega
              rw [List.length_map] at h5
              rw [List.length_map, List.length_map, show Str.length (Str.ofString "\n") = 1 from rfl]
              omega
            · rw [nl_S, SX.join_S]
              have := q H9 sq
              unfold tableS at this
              rw [if_neg ne] at this
              exact this

/-! ### tables read -/
def entO (t : List Nat) : Option (List Int × PyData) := match keyO (numsC (cutL t).1) with
  | some k => if stateD (stD (cutL t).2) = true then some (k, stD (cutL t).2) else none
  | none => none
def linesC (t : List Nat) : List (List Nat) := if t = noneC then [] else TL.spl [10] 0 [] t
def badE (acc : List (List Int × PyData)) (e : List Int × PyData) : Bool := match acc.getLast? with
  | some l => !HT.lexLt l.1 e.1
  | none => false
def tabGo : List (List Nat) → List (List Int × PyData) → Nat ⊕ List (List Int × PyData)
  | [], acc => .inr acc
  | t :: r, acc => match entO t with
    | some e => if badE acc e = true then .inl acc.length else tabGo r (acc ++ [e])
    | none => .inl acc.length
def tabC (t : List Nat) : Nat ⊕ List (List Int × PyData) := tabGo (linesC t) []
structure TabE (H : Hp) (a : Addr) (es : List (List Int × PyData)) : Prop where
  ex : (es = [] ∧ H a = some (.dK [])) ∨ ∃ kvs : List (List Key × V), H a = some (.dT kvs) ∧ kvs.map Prod.fst = es.map (fun e => e.1.map Sum.inl) ∧ DxAll (del H a) (kvs.map Prod.snd) (es.map Prod.snd)
def spRT (tx : Pa) : Sp := fun vs H Q E => ∃ x : Str, vs = [.str x] ∧ Few (TL.tl x) ∧ (∀ es, tabC (TL.tl x) = .inr es → ∀ a H', Same H H' → TabE H' a es → Q (.ref a) H') ∧
  (∀ i, tabC (TL.tl x) = .inl i → ∀ (dx : Addr) (H' : Hp), Same H H' → H' dx = some (.xd [("line", .int (i : Nat))]) → E (.ref tx.C) (some dx) H')
def EntE (H : Hp) (bs : List Addr) (acc : List (List Int × PyData)) : Prop := Paired (fun (b : Addr) (e : List Int × PyData) => ∃ (kb : Addr) (v : V), H b = some (.tup [.ref kb, v]) ∧ H kb = some (.tup (e.1.map V.int)) ∧ Dx H v e.2 ∧ listfree e.2 = true ∧ e.1.length = 2) bs acc
theorem EntE.same {H H' : Hp} {bs : List Addr} {acc : List (List Int × PyData)} (h : EntE H bs acc) (s : Same H H') : EntE H' bs acc := L2.Paired.mapP h fun b e ⟨kb, v, h1, h2, h3, h4⟩ => ⟨kb, v, s _ _ h1, s _ _ h2, h3.same s, h4⟩
theorem EntE.ev {H H' : Hp} {bs : List Addr} {acc : List (List Int × PyData)} (h : EntE H bs acc) (s : Ev2 H H') : EntE H' bs acc := L2.Paired.mapP h fun b e ⟨kb, v, h1, h2, h3, h4⟩ => ⟨kb, v, s.tup h1, s.tup h2, h3.mono s h4.1, h4⟩
theorem EntE.length {H : Hp} {bs : List Addr} {acc : List (List Int × PyData)} (h : EntE H bs acc) : bs.length = acc.length := Paired.length h
theorem lf_stD (t : List Nat) : listfree (stD t) = true := by
  show (listfree (numsP _) && (listfreeAll _ && true)) = true
  rw [lf_nums, lf_numsAll]
  rfl
theorem lineP_none {t : List Nat} (h : entO t = none) : lineP t = .none := by
  unfold entO at h
  unfold lineP
  cases e : keyO (numsC (cutL t).1) with
  | none => rfl
  | some k =>
    rw [e] at h
    have h : (if stateD (stD (cutL t).2) = true then some (k, stD (cutL t).2) else none) = none := h
    show (if stateD (stD (cutL t).2) = true then _ else _) = _
    split at h
    · cases h
    · rename_i z
      rw [if_neg z]
theorem lineP_some {t : List Nat} {e : List Int × PyData} (h : entO t = some e) : lineP t = .tuple [intsP e.1, e.2] ∧ listfree e.2 = true ∧ e.1.length = 2 := by
  unfold entO at h
  unfold lineP
  cases ek : keyO (numsC (cutL t).1) with
  | none => rw [ek] at h; cases h
  | some k =>
    rw [ek] at h
    have h : (if stateD (stD (cutL t).2) = true then some (k, stD (cutL t).2) else none) = some e := h
    show (if stateD (stD (cutL t).2) = true then _ else _) = _ ∧ _
    split at h
    · rename_i z
      cases h
      rw [if_pos z]
      refine ⟨rfl, lf_stD _, ?_⟩
      unfold keyO at ek
      split at ek
      · cases ek
        rfl
      · cases ek
    · cases h
theorem linesC_len {t : List Nat} (h : Few t) : (linesC t).length ≤ 4001 := by
  unfold linesC
  split
  · exact Nat.zero_le _
  · have := spl_len [10] t 0 []
    have := h.1
    omega
theorem few_line {t p : List Nat} (h : Few t) (hp : p ∈ linesC t) : Few p := by
  unfold linesC at hp
  split at hp
  · cases hp
  · have a := spl_count (c := 32) (show ([10] : List Nat) ≠ [] by decide) hp
    have b := spl_count (c := 59) (show ([10] : List Nat) ≠ [] by decide) hp
    have c := spl_mem [10] t 0 [] p hp
    rw [List.length_nil] at c
    have := h.1
    have := h.2.1
    have := h.2.2
    exact ⟨by omega, by omega, by omega⟩
theorem lex_trn {a b c : List Int} (h1 : HT.lexLt a b = true) (h2 : HT.lexLt b c = true) : HT.lexLt a c = true := by
  rw [← sum_lex] at h1 h2 ⊢
  exact PyProof.Rows.lex_trans _ _ _ h1 h2
theorem bad_asc {acc : List (List Int × PyData)} {e : List Int × PyData} (h : acc.Pairwise (fun e f => HT.lexLt e.1 f.1 = true)) (nb : badE acc e = false) : (acc ++ [e]).Pairwise (fun e f => HT.lexLt e.1 f.1 = true) := by
  rw [List.pairwise_append]
  refine ⟨h, List.pairwise_singleton _ _, fun a ha b hb => ?_⟩
  rw [List.mem_singleton.mp hb]
  rcases List.eq_nil_or_concat acc with ez | ⟨ac, l, ez⟩
  · rw [ez] at ha
    cases ha
  · rw [List.concat_eq_append] at ez
    have hl : HT.lexLt l.1 e.1 = true := by
      unfold badE at nb
      rw [ez, List.getLast?_concat] at nb
      have nb : (!HT.lexLt l.1 e.1) = false := nb
      cases z : HT.lexLt l.1 e.1 with
      | true => rfl
      | false => rw [z] at nb; cases nb
    rw [ez] at ha h
    rcases List.mem_append.mp ha with ha | ha
    · exact lex_trn ((List.pairwise_append.mp h).2.2 a ha l (List.mem_singleton_self _)) hl
    · rw [List.mem_singleton.mp ha]
      exact hl
theorem ent_last {H : Hp} : ∀ {ac : List (List Int × PyData)} {bs : List Addr} {l : List Int × PyData}, EntE H bs (ac ++ [l]) → ∃ (bc : List Addr) (bl kl : Addr) (vl : V), bs = bc ++ [bl] ∧ H bl = some (.tup [.ref kl, vl]) ∧ H kl = some (.tup (l.1.map V.int)) ∧ l.1.length = 2
  | [], bs, l, h => by
    cases h with
    | @cons b _ bs _ a r =>
      cases r
      obtain ⟨kb, v, h1, h2, h3, h4, h5⟩ := a
      exact ⟨[], b, kb, v, rfl, h1, h2, h5⟩
  | c :: ac, bs, l, h => by
    cases h with
    | @cons b _ bs _ a r =>
      obtain ⟨bc, bl, kl, vl, e, h1, h2, h3⟩ := ent_last (show EntE H bs (ac ++ [l]) from r)
      exact ⟨b :: bc, bl, kl, vl, by rw [e]; rfl, h1, h2, h3⟩
theorem ent_ts {H : Hp} : ∀ {bs : List Addr} {acc : List (List Int × PyData)}, EntE H bs acc → ∃ ts : List (List Key × Addr × V), EntU H bs ts ∧ ts.map Prod.fst = acc.map (fun e => e.1.map Sum.inl) ∧ DxAll H (ts.map fun t => t.2.2) (acc.map Prod.snd)
  | _, _, .nil => ⟨[], .nil, rfl, .nil⟩
  | _, _, .cons (b := e) a r => by
    obtain ⟨ts, h1, h2, h3⟩ := ent_ts r
    obtain ⟨kb, v, a1, a2, a3, _⟩ := a
    refine ⟨(e.1.map Sum.inl, kb, v) :: ts, .cons ⟨a1, ?_⟩ h1, by rw [List.map_cons, List.map_cons, h2], .cons a3 h3⟩
    rw [a2, List.map_map]
    rfl
theorem keys_nd2 {acc : List (List Int × PyData)} (h : acc.Pairwise (fun e f => HT.lexLt e.1 f.1 = true)) : (acc.map fun e => (e.1.map Sum.inl : List Key)).Nodup := by
  unfold List.Nodup
  rw [List.pairwise_map]
  exact h.imp fun {e f} z w => lex_ne z (inl_inj w)
theorem le_two {l m : List Int} (hl : l.length = 2) (hm : m.length = 2) : Ob.lexAt (fun j => decide (l.getD j 0 = m.getD j 0)) (fun j => decide (l.getD j 0 ≤ m.getD j 0)) (decide (l.length ≤ m.length)) 0 (min l.length m.length) = !HT.lexLt m l := by
  obtain ⟨a, b, rfl⟩ : ∃ a b, l = [a, b] := by
    match l, hl with
    | [a, b], _ => exact ⟨a, b, rfl⟩
  obtain ⟨c, d, rfl⟩ : ∃ c d, m = [c, d] := by
    match m, hm with
    | [c, d], _ => exact ⟨c, d, rfl⟩
  show (if decide (a = c) = true then (if decide (b = d) = true then true else decide (b ≤ d)) else decide (a ≤ c)) = !(if c = a then (if d = b then false else decide (d < b)) else decide (c < a))
  by_cases h1 : a = c
  · subst h1
    rw [if_pos (decide_eq_true rfl), if_pos rfl]
    by_cases h2 : b = d
    · subst h2
      rw [if_pos (decide_eq_true rfl), if_pos rfl]
      rfl
    · rw [if_neg (by rw [decide_eq_true_eq]; exact h2), if_neg (fun z => h2 z.symm)]
      by_cases h3 : b ≤ d
      · rw [decide_eq_true h3, decide_eq_false (by omega)]
        rfl
      · rw [decide_eq_false h3, decide_eq_true (by omega)]
        rfl
  · rw [if_neg (by rw [decide_eq_true_eq]; exact h1), if_neg (fun z => h1 z.symm)]
    by_cases h3 : a ≤ c
    · rw [decide_eq_true h3, decide_eq_false (by omega)]
      rfl
    · rw [decide_eq_false h3, decide_eq_true (by omega)]
      rfl
theorem raise_y {H H2 : Hp} {E : XK} {y : V} (Z : PexZ K mg tx) (s2 : Same H H2) (q : ∀ (dx : Addr) (H' : Hp), Same H H' → H' dx = some (.xd [("line", y)]) → E (.ref tx.C) (some dx) H') :
    [y].length ≤ 1000 ∧ ∀ a, H2 a = none → spIni K "line" (.ref a :: ([y] ++ [])) (upd H2 a (exo a tx.C none)) (fun v H3 => v = .non ∧ ∃ (d : Addr) (fs : List (Str × V)), H3 a = some (exo a tx.C (some d)) ∧ H3 d = some (exd d fs) ∧ H2 d = none ∧ E (.ref tx.C) (some d) (upd (del H3 a) d (.xd fs))) fun _ _ _ => False := by
  refine mkO_any Z.ini fun dx H' s' e => q dx H' (s2.trans s') e
theorem ok_read_table {f : Addr} {fd : FuncData} (F : Fun K "read_table" "read_table" s_read_table f fd) (T : Txt mg) (Z : PexZ K mg tx) {f_check_text : Addr} {fd_check_text : FuncData} (G_check_text : FnOk P w K mg base CX0 1 f_check_text fd_check_text P_check_text spCkS) (C_check_text : Cal K mg "check_text" f_check_text fd_check_text P_check_text) {f_line_told : Addr} {fd_line_told : FuncData} (G_line_told : FnOk P w K mg base CX0 7 f_line_told fd_line_told P_line_told spLine) (C_line_told : Cal K mg "line_told" f_line_told fd_line_told P_line_told) {fd_ParseError : FuncData} (G_ParseError : FnOk P w K mg base CX0 1 tx.I fd_ParseError P_iParseError (spIni K "line")) (B_ParseError : Binds K fd_ParseError P_iParseError []) : FnOk P w K mg base (L2.CX P w) 8 f fd P_read_table (spRT tx) := by
  refine F.okX sc_read_table (fun vs H Q E h => ?_) (fun cdv A outer s H vs Q E hr h => ?_)
  · obtain ⟨x, rfl, _⟩ := h
    rfl
  · obtain ⟨x, rfl, fx, q1, q2⟩ := h
    refine ⟨_, (pss_cons (ps_expr (pe_call G_check_text (hr.mono (by decide)) rfl C_check_text.m C_check_text.k C_check_text.b .nil pass0 (pa_cons (pv 0) pa_nil)))
      (pss_cons (ps_set (i := 1) sc_read_table.nd rfl (Or.inl rfl) (pe_lst pa_nil))
      (pss_cons (ps_set (i := 2) sc_read_table.nd rfl (Or.inl rfl) (pe_ifExp (pt_cmpR op_eq (pv 0) (pe_glob (v := .str "none") rfl T.m_NONE.choose_spec ⟨_, rfl⟩) (nomark _)) (pe_lst pa_nil) (pe_split (pv 0) pe_str)))
      (pss_cons (ps_for (passes_of rfl) rfl (pi_enum (by rfl) T.n_enumerate (pa_cons (pv 2) pa_nil)) (pg_tup rfl (pgs_cons (pg_name (i := 3) sc_read_table.nd rfl (Or.inl rfl)) (pgs_cons (pg_name (i := 4) sc_read_table.nd rfl (Or.inl rfl)) pgs_nil))) (pss_cons (ps_set (i := 5) sc_read_table.nd rfl (Or.inl rfl) (pe_call G_line_told (hr.mono (by decide)) rfl C_line_told.m C_line_told.k C_line_told.b .nil pass0 (pa_cons (pv 4) pa_nil)))
      (pss_cons (ps_if (PW.pt (pw_or (pt_cmpR op_isN (pv 5) pe_non (nomark _)) (pw_or1 (PW.pt (pw_and (pt_truth (pv 1) (by intro _; rfl)) (pw_and1 (pt_cmpR (op_leT (by have z := hu65 hr; exact Nat.lt_of_le_of_lt (Nat.le_add_right _ _) z)) (pe_ix ix_tup (pv 5) pe_int (fun _ _ => rfl)) (pe_ix ix_tup (pe_ix ix_list (pv 1) (pe_un un_neg pe_int) (fun _ _ => rfl)) pe_int (fun _ _ => rfl)) (nomark _)))))))) (pss_one (ps_raise (W := WR E) rfl (takes_of rfl rfl rfl rfl) (pmk_oex Z.o Z.ini.i Z.ini.t G_ParseError (hr.mono (by decide)) B_ParseError .nil pass0 rfl Z.gC (pa_cons (pv 3) pa_nil)))) pss_nil)
      (pss_one (ps_expr (pe_bm PySem.F.plainAttrs_list PySem.F.slot_list_append PySem.F.type_list_append mt_append (pv 1) (pa_cons (pv 5) pa_nil)))))))
      (pss_one (ps_ret (pe_callTy (call_dictU (K := K) rfl (hu64i hr)) (by rfl) T.n_dict (by decide +kernel) (pa_cons (pv 1) pa_nil)))))))), ?_⟩
    have el : x.length = (TL.tl x).length := TL.len_tl x
    refine ⟨_, rfl, x, rfl, ?_⟩
    refine ⟨szr rfl, fun p1 n1 => ?_⟩
    generalize g1 : upd _ p1 _ = H1; obtain ⟨e1, o1, t1⟩ := made n1 g1; clear g1
    have s1 := sameOf n1 o1
    refine ⟨_, rfl, rfl, _, rfl, ?_⟩
    show (if decide (V.str x = V.str (Str.ofString "none")) = true then (?ta : TE) (?sg : L2.St) (?Hx : Hp) (?R : VK) else (?tb : TE) ?sg ?Hx ?R)
    have rest : ∀ (p : Addr) (H2 : Hp), p ≠ p1 → Same H1 H2 → H2 p = some (.lst ((linesC (TL.tl x)).map fun w => V.str (SX.S w))) → ?R (.ref p) H2 := by
      intro p H2 pp s2 hp
      generalize els : linesC (TL.tl x) = ls at *
      refine ⟨_, rfl, _, _, rfl, SqL.of hp, ?_⟩
      have hp' : H2 p = some (.lst (ls.map fun w => V.str (SX.S w))) := hp
      refine for_it (walk_enum (K := K) (a := p) (xs := ls.map fun w => V.str (SX.S w))) (fun i σ H' => ∃ (acc : List (List Int × PyData)) (bs : List Addr) (a3 a4 a5 : Option V), σ = [some (.str x), some (.ref p1), some (.ref p), a3, a4, a5] ∧ H' p1 = some (.lst (bs.map V.ref)) ∧ Same H H' ∧ H' p = some (.lst (ls.map fun w => V.str (SX.S w))) ∧ EntE H' bs acc ∧ acc.length = i ∧ tabGo ls [] = tabGo (ls.drop i) acc ∧ acc.Pairwise (fun e f => HT.lexLt e.1 f.1 = true))
        ⟨[], [], _, _, _, rfl, s2 _ _ t1, s1.trans s2, hp, .nil, rfl, rfl, .nil⟩ (fun i σ H' _ ⟨_, _, _, _, _, _, _, _, h, _⟩ => SqL.of h) ?_ ?_
      · rintro i y σ E1 E2 hi ⟨acc, bs, a3, a4, a5, rfl, hb, sm, hp5, hE, la, hg, pw⟩ ⟨T0, u, v, rfl, nT, rfl, hu, hv⟩
        cases hu
        have hv : (ls.map fun w => V.str (SX.S w))[i]? = some v := hv
        rw [List.getElem?_map] at hv
        cases hw : ls[i]? with
        | none => rw [hw] at hv; cases hv
        | some t =>
          rw [hw] at hv
          cases hv
          obtain ⟨li, ei⟩ := List.getElem?_eq_some_iff.mp hw
          rw [List.drop_eq_getElem_cons li, ei] at hg
          have ft : Few t := few_line fx (by rw [els]; exact List.mem_of_getElem? hw)
          have sT : Same E1 (upd E1 T0 (.tup [.int (i : Nat), .str (SX.S t)])) := sameOf nT (fun b hb => upd_ne hb)
          refine ⟨T0, [.int (i : Nat), .str (SX.S t)], rfl, SqT.of upd_same, rfl, _, _, rfl, _, _, rfl, rfl, ?_⟩
          refine ⟨_, rfl, SX.S t, rfl, by rw [tl_S]; exact ft, fun v5 H5 s5 h5 => ?_⟩
          rw [tl_S] at h5
          have s15 : Same E1 H5 := sT.trans s5
          have hE5 := hE.same s15
          have hb5 := s15 _ _ hb
          dsimp only [gName]
          show tSeq (tIfS ?A ?B ?C) ?R2 ?D2 ?S2 ?H2
          have app : ∀ (b kb : Addr) (vd : V) (e : List Int × PyData), v5 = .ref b → entO t = some e → badE acc e = false → H5 b = some (.tup [.ref kb, vd]) → H5 kb = some (.tup (e.1.map V.int)) → Dx H5 vd e.2 → listfree e.2 = true → e.1.length = 2 → ?R2 ?D2 ?S2 ?H2 := by
            rintro b kb vd e rfl en nb hb1 hk1 xd lf k2
            refine ⟨_, rfl, (.inl ⟨rfl, _, SqL.of hb5⟩), _, rfl, _, _, _, rfl, rfl, hb5, szlt (by
              have l1 : bs.length = acc.length := hE.length
              have l2 := linesC_len fx
              rw [els] at l2
              rw [List.length_map]
              omega), ?_⟩
            have ev : Ev2 H5 (upd H5 p1 (.lst (bs.map V.ref ++ [V.ref b]))) := Ev2.lst hb5
            refine ⟨acc ++ [e], bs ++ [b], _, _, _, rfl, by rw [upd_same, List.map_append]; rfl, fun c o ec => ?_, ?_, ?_, by rw [List.length_append, la]; rfl, ?_, ?_⟩
            · rw [upd_ne (ne_of_none ec n1)]
              exact s15 _ _ (sm _ _ ec)
            · rw [upd_ne pp]
              exact s15 _ _ hp5
            · exact pairApp (hE5.ev ev) (.cons ⟨kb, vd, ev.tup hb1, ev.tup hk1, xd.mono ev lf, lf, k2⟩ .nil)
            · rw [hg]
              show (match entO t with | some e => if badE acc e = true then _ else _ | none => _) = _
              rw [en]
              show (if badE acc e = true then _ else _) = _
              rw [nb]
              rfl
            · exact bad_asc pw nb
          have out : tabGo ls [] = .inl i → ∀ (dx : Addr) (H' : Hp), Same H5 H' → H' dx = some (.xd [("line", .int (i : Nat))]) → E (.ref tx.C) (some dx) H' := fun ez dx H' s9 hx => q2 i (by unfold tabC; rw [els]; exact ez) dx H' ((sm.trans s15).trans s9) hx
          refine ⟨_, rfl, rfl, _, rfl, ?_⟩
          cases en : entO t with
          | none =>
            rw [lineP_none en] at h5
            cases h5
            refine iteT ?_
            refine iteT ?_
            have ez : tabGo ls [] = .inl i := by
              rw [hg]
              show (match entO t with | some e => if badE acc e = true then _ else _ | none => _) = _
              rw [en, la]
            exact ⟨_, rfl, raise_y Z (Same.refl H5) fun dx H' s' hx => out ez dx H' s' hx⟩
          | some e =>
            obtain ⟨e5, lf, k2⟩ := lineP_some en
            rw [e5] at h5
            cases h5 with
            | @tup b xs _ hb1 hx =>
            cases hx with
            | @cons vk _ _ _ xk hx =>
            cases hx with
            | @cons vd _ _ _ xd hx =>
            cases hx
            obtain ⟨kb, rfl, hk1⟩ := ints_at xk
            refine iteF ?_
            refine ⟨_, rfl, (!bs.isEmpty), .inl ⟨_, SqL.of hb5, by rw [List.isEmpty_map]⟩, ?_⟩
            rcases List.eq_nil_or_concat acc with ez | ⟨ac, l, ez⟩
            · have bz : bs = [] := by
                have l1 : bs.length = acc.length := hE.length
                rw [ez] at l1
                exact List.length_eq_zero_iff.mp l1
              rw [bz]
              refine iteF ?_
              refine iteF ?_
              exact app b kb vd e rfl en (by rw [ez]; rfl) hb1 hk1 xd lf k2
            · rw [List.concat_eq_append] at ez
              rw [ez] at hE5
              obtain ⟨bc, bl, kl, vl, ebs, hl1, hl2, l2⟩ := ent_last hE5
              rw [show (!bs.isEmpty) = true from by rw [ebs]; cases bc <;> rfl]
              refine iteT ?_
              refine ⟨_, rfl, b, _, 0, _, rfl, rfl, SqT.of hb1, rfl, _, rfl, 1, rfl, p1, _, -1, .ref bl, rfl, rfl, SqL.of hb5, by rw [ebs, List.map_append]; exact atI_last _ _, bl, _, 0, .ref kl, rfl, rfl, SqT.of hl1, rfl, kb, kl, e.1, l.1, rfl, rfl, SqT.of hk1, SqT.of hl2, _, rfl, ?_⟩
              rw [le_two k2 l2]
              have eb : badE acc e = !HT.lexLt l.1 e.1 := by
                unfold badE
                rw [ez, List.getLast?_concat]
              cases ec : (!HT.lexLt l.1 e.1) with
              | true =>
                refine iteT ?_
                have ezz : tabGo ls [] = .inl i := by
                  rw [hg]
                  show (match entO t with | some e => if badE acc e = true then _ else _ | none => _) = _
                  rw [en]
                  show (if badE acc e = true then _ else _) = _
                  rw [eb, ec, la]
                  rfl
                exact ⟨_, rfl, raise_y Z (Same.refl H5) fun dx H' s' hx => out ezz dx H' s' hx⟩
              | false =>
                refine iteF ?_
                exact app b kb vd e rfl en (by rw [eb, ec]) hb1 hk1 xd lf k2
      · rintro σ H9 ⟨acc, bs, a3, a4, a5, rfl, hb, sm, hp5, hE, la, hg, pw⟩
        rw [List.length_map, List.drop_length] at hg
        have fin_ : tabC (TL.tl x) = .inr acc := by
          unfold tabC
          rw [els, hg]
          rfl
        obtain ⟨ts, u1, u2, u3⟩ := ent_ts hE
        cases ez : acc with
        | nil =>
          have bz : bs = [] := by
            have l1 : bs.length = acc.length := hE.length
            rw [ez] at l1
            exact List.length_eq_zero_iff.mp l1
          rw [bz] at hb
          refine ⟨_, rfl, .inr ⟨p1, rfl, SqL.of hb, fun pd np => q1 acc fin_ pd _ (sm.trans (sameOf np fun b hb => upd_ne hb)) ⟨.inl ⟨ez, upd_same⟩⟩⟩⟩
        | cons e0 er =>
          refine ⟨_, rfl, .inl ⟨p1, bs, ts, rfl, SqL.of hb, u1, by rw [u2]; exact keys_nd2 pw, fun pd np => q1 acc fin_ pd _ (sm.trans (sameOf np fun b hb => upd_ne hb)) ⟨.inr ⟨_, upd_same, by rw [List.map_map]; exact u2, ?_⟩⟩⟩⟩
          rw [List.map_map]
          exact DxAll.same (fun c o ec => by rw [del_ne (ne_of_none ec np), upd_ne (ne_of_none ec np)]; exact ec) u3
    refine ite2 (fun g => ?_) (fun g => ?_)
    · refine ⟨szr rfl, fun p n => ?_⟩
      have e := str_is.mp (of_decide_eq_true g)
      refine rest p _ (ne_of_none t1 n).symm (sameOf n fun b hb => upd_ne hb) ?_
      rw [upd_same]
      unfold linesC
      rw [if_pos (e.trans sign_none)]
      rfl
    · have nd : TL.tl x ≠ noneC := fun z => g (decide_eq_true (str_is.mpr (z.trans sign_none.symm)))
      refine ⟨_, rfl, ⟨_, rfl⟩, _, _, rfl, rfl, rfl, by rw [sizeLine_eq]; have := fx.1; omega, fun p2 n2 => ?_⟩
      rw [split_tl (y := "\n") sign_nl (by decide) rfl]
      refine rest p2 _ (ne_of_none t1 n2).symm (sameOf n2 fun b hb => upd_ne hb) ?_
      rw [upd_same, List.map_map]
      unfold linesC
      rw [if_neg nd]
      rfl

/-! ### the law's own lines -/
theorem df_ints : ∀ l : List Int, dictfreeAll (l.map PyData.int) = true
  | [] => rfl
  | i :: r => df_ints r
theorem lay_ints : ∀ l : List Int, PyData.canLayAll0 (l.map PyData.int) = true ∧ PyData.depthAll (l.map PyData.int) = 0
  | [] => ⟨rfl, rfl⟩
  | i :: r => by
    have := lay_ints r
    simp [PyData.canLayAll0, PyData.canLay0, PyData.depthAll, PyData.depth, this]
theorem shaped_ints (l : List Int) : SeqAt.shaped (intsP l) = true := by
  unfold intsP SeqAt.shaped PyData.canLay0 PyData.depth
  rw [(lay_ints l).1, (lay_ints l).2]
  rfl
theorem lay_rows : ∀ l : List (List Int), PyData.canLayAll0 (l.map intsP) = true ∧ PyData.depthAll (l.map intsP) ≤ 1
  | [] => ⟨rfl, Nat.zero_le _⟩
  | i :: r => by
    obtain ⟨h1, h2⟩ := lay_rows r
    obtain ⟨h3, h4⟩ := lay_ints i
    rw [List.map_cons]
    refine ⟨?_, ?_⟩
    · show (PyData.canLay0 (intsP i) && PyData.canLayAll0 (r.map intsP)) = true
      rw [h1, show PyData.canLay0 (intsP i) = true from by unfold intsP PyData.canLay0; exact h3]
      rfl
    · show max (PyData.depth (intsP i)) (PyData.depthAll (r.map intsP)) ≤ 1
      have : PyData.depth (intsP i) = 1 := by unfold intsP PyData.depth; rw [h4]
      omega
theorem shaped_rows (l : List (List Int)) : SeqAt.shaped (.tuple (l.map intsP)) = true := by
  unfold SeqAt.shaped PyData.canLay0 PyData.depth
  rw [(lay_rows l).1, decide_eq_true (by have := (lay_rows l).2; omega)]
  rfl
theorem df_rows : ∀ l : List (List Int), dictfreeAll (l.map intsP) = true
  | [] => rfl
  | i :: r => by
    show (dictfreeAll (i.map PyData.int) && dictfreeAll (r.map intsP)) = true
    rw [df_ints, df_rows r]
    rfl
theorem ok__law_line {f : Addr} {fd : FuncData} (F : Fun K "_law_line" "_law_line" s__law_line f fd) (T : Txt mg) (Z : PexZ K mg tx) : FnOk P w K mg base CX0 1 f fd P__law_line spNT := by
  refine F.ok sc__law_line (fun vs H Q E h => ?_) (fun cdv A outer s H vs Q E hr h => ?_)
  · obtain ⟨a, l, rfl, _⟩ := h
    rfl
  · obtain ⟨a, l, rfl, ha, ll, hs, q⟩ := h
    refine ⟨_, (pss_one (ps_ret (pe_ifExp (pt_cmpR (op_neD hr.units) (pv 0) (pe_tup pa_nil) (nomark _)) (pe_join pe_str (pe_lc (own := [("_law_number", 1)]) (g := gName 1) (tt := tYes) rfl sc__law_line.nd (pi_tup (pv 0)) (blkOk_by (own := [("_law_number", 1)]) (N := ["_law_numbers", "_law_number"]) (sc := (defScope s__law_line)) (by decide +kernel)) (fun _ _ _ _ _ => (pg_name (i := 1) sc__law_line.nd rfl (Or.inl rfl))) (fun _ _ _ _ _ => pts_nil) (fun _ _ _ _ _ => (pe_callTy call_str_int (by rfl) T.n_str (by decide +kernel) (pa_cons (pv 1) pa_nil))))) pe_str))), ?_⟩
    refine ⟨_, rfl, szr rfl, fun p1 n1 => ?_⟩
    generalize g1 : upd _ p1 _ = H1; obtain ⟨e1, o1, t1⟩ := made n1 g1; clear g1
    have s1 := sameOf n1 o1
    have ha1 := s1 _ _ ha
    refine ⟨intsP l, .tuple [], (Dx.tup ha1 (dx_ints l)).dp (df_ints l), (Dx.tup t1 .nil).dp rfl, shaped_ints l, rfl, _, rfl, ?_⟩
    cases l with
    | nil =>
      refine iteF ?_
      have := q H1 s1
      unfold sN numsS at this
      rw [if_pos rfl, ← dash_S] at this
      exact this
    | cons i0 r0 =>
      generalize el : i0 :: r0 = l at *
      have ne : l ≠ [] := by rw [← el]; exact List.cons_ne_nil _ _
      rw [show (!PyData.eqv (intsP l) (.tuple [])) = true from by rw [← el]; rfl]
      refine iteT ?_
      refine ⟨⟨_, rfl⟩, _, rfl, _, rfl, ⟨_, SqT.of ha1⟩, fun D hD => ?_⟩
      refine lc_tup (K := K) (xs := l.map V.int) (fun j H' => Same H1 H' ∧ H' D = some (.lst (((l.take j).map fun i => Str.ofString (toString i)).map V.str))) ⟨sameOf hD (fun b hb => upd_ne hb), upd_same⟩ (fun j H' _ h => SqT.of (h.1 _ _ ha1)) ?_ ?_
      · rintro j y H' hj ⟨sm, hl⟩
        rw [List.getElem?_map] at hj
        cases hw : l[j]? with
        | none => rw [hw] at hj; cases hj
        | some i =>
          rw [hw] at hj
          cases hj
          have hi := hs i (List.mem_of_getElem? hw)
          have hj2 := (List.getElem?_eq_some_iff.mp hw).1
          refine ⟨rfl, ?_⟩
          refine ⟨_, rfl, _, rfl, hi.log, _, hl, szlt (by rw [List.length_map, List.length_map, List.length_take]; omega), fun b o e => ?_, ?_⟩
          · rw [upd_ne (ne_of_none e hD)]
            exact sm _ _ e
          · rw [upd_same, List.take_add_one, List.map_append, List.map_append, hw]
            rfl
      · rintro H9 ⟨sm, hl⟩
        rw [List.length_map, List.take_length, strs_num hs] at hl
        refine ⟨_, _, (l.map numI).map SX.S, rfl, rfl, (.inl (SqL.of hl)), ?_, ?_⟩
        · have h1 := sum_num (l := l.map numI) (m := 60) fun p hp => by
            obtain ⟨i, hi, rfl⟩ := List.mem_map.mp hp
            exact (hs i hi).len
          rw [List.length_map] at h1
          rw [List.length_map, List.length_map, show Str.length (Str.ofString " ") = 1 from rfl]
          omega
        · rw [sp_S, SX.join_S]
          have := q H9 (s1.trans sm)
          unfold sN numsS at this
          rw [if_neg ne] at this
          exact this
theorem ok__law_state_line {f : Addr} {fd : FuncData} (F : Fun K "_law_state_line" "_law_state_line" s__law_state_line f fd) (T : Txt mg) (Z : PexZ K mg tx) {f__law_line : Addr} {fd__law_line : FuncData} (G__law_line : FnOk P w K mg base CX0 1 f__law_line fd__law_line P__law_line spNT) (C__law_line : Cal K mg "_law_line" f__law_line fd__law_line P__law_line) : FnOk P w K mg base CX0 2 f fd P__law_state_line spSTx := by
  refine F.ok sc__law_state_line (fun vs H Q E h => ?_) (fun cdv A outer s H vs Q E hr h => ?_)
  · obtain ⟨v, s, rfl, _⟩ := h
    rfl
  · obtain ⟨v, s, rfl, hv, hs, q⟩ := h
    refine ⟨_, (pss_cons (ps_set (i := 1) sc__law_state_line.nd rfl (Or.inl rfl) (pe_ifExp (pt_cmpR (op_neD hr.units) (pe_ix ix_tup (pv 0) pe_int (fun _ _ => rfl)) (pe_tup pa_nil) (nomark _)) (pe_join pe_str (pe_lc (own := [("_law_one", 2)]) (g := gName 2) (tt := tYes) rfl sc__law_state_line.nd (pi_tup (pe_ix ix_tup (pv 0) pe_int (fun _ _ => rfl))) (blkOk_by (own := [("_law_one", 2)]) (N := ["_law_state", "_law_classes", "_law_one"]) (sc := (defScope s__law_state_line)) (by decide +kernel)) (fun _ _ _ _ _ => (pg_name (i := 2) sc__law_state_line.nd rfl (Or.inl rfl))) (fun _ _ _ _ _ => pts_nil) (fun _ _ _ _ _ => (pe_call G__law_line (hr.mono (by decide)) rfl C__law_line.m C__law_line.k C__law_line.b .nil pass0 (pa_cons (pv 2) pa_nil))))) pe_str))
      (pss_one (ps_ret (pe_op op_add_str (pe_op op_add_str (pe_call G__law_line (hr.mono (by decide)) rfl C__law_line.m C__law_line.k C__law_line.b .nil pass0 (pa_cons (pe_ix ix_tup (pv 0) pe_int (fun _ _ => rfl)) pa_nil)) pe_str) (pv 1))))), ?_⟩
    obtain ⟨h1, h2, h3, h4⟩ := hs
    obtain ⟨n1, rs⟩ := s
    cases hv with
    | @tup a xs _ ha hx =>
    cases hx with
    | @cons v1 _ _ _ x1 hx =>
    cases hx with
    | @cons v2 _ _ _ x2 hx =>
    cases hx
    obtain ⟨c1, rfl, hc1⟩ := ints_at x1
    cases x2 with
    | @tup b ys _ hb hy =>
    have hn : ∀ r ∈ rs, (numsS r).length ≤ 4000 := fun r hr => numsS_len (h4 r hr).1 (h4 r hr).2
    refine ⟨_, rfl, _, _, _, _, rfl, rfl, SqT.of ha, rfl, szr rfl, fun p1 n1' => ?_⟩
    generalize g1 : upd _ p1 _ = H1; obtain ⟨e1, o1, t1⟩ := made n1' g1; clear g1
    have s1 := sameOf n1' o1
    have hb1 := s1 _ _ hb
    have hy1 := hy.same s1
    refine ⟨.tuple (rs.map intsP), .tuple [], (Dx.tup hb1 hy1).dp (df_rows rs), (Dx.tup t1 .nil).dp rfl, shaped_rows rs, rfl, _, rfl, ?_⟩
    have ec : (!PyData.eqv (.tuple (rs.map intsP)) (.tuple [])) = !rs.isEmpty := by cases rs <;> rfl
    rw [ec]
    show (if (!rs.isEmpty) = true then (?ta : TE) (?sg : L2.St) (?Hx : Hp) (?R : VK) else (?tb : TE) ?sg ?Hx ?R)
    have rest : ∀ (cl : List Nat) (H9 : Hp), Same H1 H9 → cl.length ≤ 400000 → stateS (n1, rs) = numsS n1 ++ ([32, 124, 32] ++ cl) → ?R (.str (SX.S cl)) H9 := by
      intro cl H9 s9 lc e
      have sm := s1.trans s9
      have z1 : (numsS n1).length ≤ 4000 := numsS_len h1 h3
      refine ⟨_, rfl, _, _, _, _, rfl, rfl, SqT.of (sm _ _ ha), rfl, ?_⟩
      refine ⟨c1, n1, rfl, sm _ _ hc1, h1, h3, fun H10 s10 => ?_⟩
      refine ⟨_, _, rfl, rfl, ?_, _, rfl, _, _, rfl, rfl, ?_, ?_⟩
      · rw [sizeLine_eq, show Str.length (Str.ofString " | ") = 3 from rfl, sN, len_S]
        omega
      · rw [sizeLine_eq, len_app, show Str.length (Str.ofString " | ") = 3 from rfl, sN, len_S, len_S]
        omega
      have := q H10 (sm.trans s10)
      rw [e] at this
      rw [show ((sN n1 ++ Str.ofString " | ") ++ SX.S cl : Str) = SX.S (numsS n1 ++ ([32, 124, 32] ++ cl)) from TL.ext_tl (by
        rw [TL.tl_append, TL.tl_append, sign_bar, sN, tl_S, tl_S, tl_S]
        simp)]
      exact this
    cases er : rs with
    | nil =>
      refine iteF ?_
      have := rest noneC H1 (Same.refl H1) (by decide) (by rw [er]; rfl)
      rw [← none_S] at this
      exact this
    | cons r0 rr =>
      have ne : rs ≠ [] := by rw [er]; exact List.cons_ne_nil _ _
      have lj := joinL_len (s := [59, 32]) (m := 4000) (ps := rs.map numsS) fun p hp => by
        obtain ⟨r, hr, rfl⟩ := List.mem_map.mp hp
        exact hn r hr
      rw [List.length_map] at lj
      have h2 : rs.length ≤ 63 := h2
      have e2 : (4000 + ([59, 32] : List Nat).length) * rs.length = 4002 * rs.length := rfl
      refine iteT ?_
      refine ⟨⟨_, rfl⟩, _, rfl, _, _, _, _, rfl, rfl, SqT.of (s1 _ _ ha), rfl, _, rfl, ⟨_, SqT.of hb1⟩, fun D hD => ?_⟩
      refine lc_tup (K := K) (xs := ys) (fun j H' => Same H1 H' ∧ H' D = some (.lst (((rs.take j).map numsS).map fun x => V.str (SX.S x)))) ⟨sameOf hD (fun b hb => upd_ne hb), upd_same⟩ (fun j H' _ h => SqT.of (h.1 _ _ hb1)) ?_ ?_
      · rintro j y H' hj ⟨sm, hl⟩
        obtain ⟨d, hd, xd⟩ := hy1.get hj
        rw [List.getElem?_map] at hd
        cases hw : rs[j]? with
        | none =>
          have hd2 : (none : Option (List Int)).map intsP = some d := by rw [← hw]; exact hd
          cases hd2
        | some r =>
          have hd2 : (some r : Option (List Int)).map intsP = some d := by rw [← hw]; exact hd
          cases hd2
          have hr := h4 r (List.mem_of_getElem? hw)
          have hj2 := (List.getElem?_eq_some_iff.mp hw).1
          obtain ⟨c, rfl, hc⟩ := ints_at xd
          refine ⟨rfl, ?_⟩
          refine ⟨_, rfl, c, r, rfl, sm _ _ hc, hr.1, hr.2, fun H5 s5 => ?_⟩
          refine ⟨_, s5 _ _ hl, szlt (by rw [List.length_map, List.length_map, List.length_take]; omega), fun b o e => ?_, ?_⟩
          · rw [upd_ne (ne_of_none e hD)]
            exact s5 _ _ (sm _ _ e)
          · rw [upd_same, List.take_add_one, List.map_append, List.map_append, hw]
            rfl
      · rintro H9 ⟨sm, hl⟩
        have ly : ys.length = rs.length := by rw [hy.len]; exact List.length_map _
        rw [ly, List.take_length] at hl
        have hl2 : H9 D = some (.lst (((rs.map numsS).map SX.S).map V.str)) := by
          rw [List.map_map]
          exact hl
        refine ⟨_, _, (rs.map numsS).map SX.S, rfl, rfl, .inl (SqL.of hl2), ?_, ?_⟩
        · have h5 := sum_num (l := rs.map numsS) (m := 4000) fun p hp => by
            obtain ⟨r, hr, rfl⟩ := List.mem_map.mp hp
            exact hn r hr
          rw [List.length_map] at h5
          rw [List.length_map, List.length_map, show Str.length (Str.ofString "; ") = 2 from rfl]
          omega
        · rw [semi_S, SX.join_S]
          exact rest _ H9 sm (by omega) (by show numsS n1 ++ ([32, 124, 32] ++ (if rs = [] then _ else _)) = _; rw [if_neg ne])
def Rise (m : Nat) (l : List Int) : Prop := l.length ≤ m ∧ l.Pairwise (· < ·) ∧ ∀ i ∈ l, 0 ≤ i ∧ i ≤ 39
def spRise (K : PySem.W.Frag) : Sp := fun vs H Q _ => ∃ (p : Addr) (m : Nat), vs = [.ref p, .int (m : Int)] ∧ Dc H p ∧ m ≤ 6 ∧ ∀ (a : Addr) (l : List Int) (H' : Hp), But p H H' → Dc H' p → H' a = some (.tup (l.map V.int)) → H a = none → Rise m l → Q (.ref a) H'
def riseL : List Int := [0, 1, 2, 3, 7, 10, 39]
theorem all_ints : ∀ {ys : List V}, (∀ y ∈ ys, ∃ i, y = V.int i) → ∃ is : List Int, ys = is.map V.int
  | [], _ => ⟨[], rfl⟩
  | y :: ys, h => by
    obtain ⟨i, rfl⟩ := h y List.mem_cons_self
    obtain ⟨is, rfl⟩ := all_ints fun z hz => h z (List.mem_cons_of_mem _ hz)
    exact ⟨i :: is, rfl⟩
theorem perm_ints {ys zs : List V} {l : List Int} (h : (ys ++ zs).Perm (l.map V.int)) : ∃ is : List Int, ys = is.map V.int ∧ ∃ js : List Int, (is ++ js).Perm l := by
  have mem : ∀ y ∈ ys ++ zs, ∃ i, y = V.int i := fun y hy => by
    obtain ⟨i, _, e⟩ := List.mem_map.mp (h.mem_iff.mp hy)
    exact ⟨i, e.symm⟩
  obtain ⟨is, rfl⟩ := all_ints fun y hy => mem y (List.mem_append_left _ hy)
  obtain ⟨js, rfl⟩ := all_ints fun y hy => mem y (List.mem_append_right _ hy)
  refine ⟨is, rfl, js, ?_⟩
  have := h.map vI
  rw [← List.map_append, List.map_map, List.map_map] at this
  have e : ∀ k : List Int, k.map (vI ∘ V.int) = k := fun k => List.map_id k
  rw [e, e] at this
  exact this
theorem ok__law_rising {f : Addr} {fd : FuncData} (F : Fun K "_law_rising" "_law_rising" s__law_rising f fd) (T : Txt mg) (Z : PexZ K mg tx) {f__law_some : Addr} {fd__law_some : FuncData} (G__law_some : FnOk P w K mg base CX0 2 f__law_some fd__law_some P__law_some (spSome K)) (C__law_some : Cal K mg "_law_some" f__law_some fd__law_some P__law_some) {f__law_roll : Addr} {fd__law_roll : FuncData} (G__law_roll : FnOk P w K mg base CX0 1 f__law_roll fd__law_roll P__law_roll spRoll) (C__law_roll : Cal K mg "_law_roll" f__law_roll fd__law_roll P__law_roll) : FnOk P w K mg base CX0 3 f fd P__law_rising (spRise K) := by
  refine F.ok sc__law_rising (fun vs H Q E h => ?_) (fun cdv A outer s H vs Q E hr h => ?_)
  · obtain ⟨p, m, rfl, _⟩ := h
    rfl
  · obtain ⟨p, m, rfl, hd, hm, q⟩ := h
    refine ⟨_, (pss_one (ps_ret (pe_callTy call_tuple_of (by rfl) T.n_tuple (by decide +kernel) (pa_cons (pe_callB cr_sorted (by rfl) T.n_sorted (by decide +kernel) (pa_cons (pe_call G__law_some (hr.mono (by decide)) rfl C__law_some.m C__law_some.k C__law_some.b .nil pass0 (pa_cons (pv 0) (pa_cons (pe_lst (pa_cons pe_int (pa_cons pe_int (pa_cons pe_int (pa_cons pe_int (pa_cons pe_int (pa_cons pe_int (pa_cons pe_int pa_nil)))))))) (pa_cons (pe_call G__law_roll (hr.mono (by decide)) rfl C__law_roll.m C__law_roll.k C__law_roll.b .nil pass0 (pa_cons (pv 0) (pa_cons (pe_op op_add (pv 1) pe_int) pa_nil))) pa_nil)))) pa_nil)) pa_nil)))), ?_⟩
    refine ⟨_, rfl, szr rfl, fun p1 n1 => ?_⟩
    generalize g1 : upd _ p1 _ = H1; obtain ⟨e1, o1, t1⟩ := made n1 g1; clear g1
    have s1 := sameOf n1 o1
    have d1 := hd.keep n1 o1
    have np1 : p1 ≠ p := (hd.ne n1).symm
    refine ⟨_, rfl, _, rfl, _, _, rfl, rfl, ?_⟩
    refine ⟨p, (m : Int) + 1, rfl, d1, by omega, by omega, fun r H2 r0 rlt e2 o2 d2 => ?_⟩
    have t2 : H2 p1 = some _ := (o2 p1 np1).trans t1
    refine ⟨p, p1, riseL.map V.int, r, rfl, d2, t2, r0, by omega, by decide, fun l ys zs H3 b3 d3 nl ne hl pm le => ?_⟩
    obtain ⟨is, ei, pi⟩ := perm_ints pm
    subst ei
    obtain ⟨js, pj⟩ := pi
    have li : (is.length : Int) ≤ r := by
      rw [List.length_map] at le
      rw [le]
      split <;> omega
    have l64 : is.length < 64 := by omega
    refine ⟨_, is, rfl, SqL.of hl, l64, fun ns p2 pm2 pw np => ?_⟩
    generalize g4 : upd _ p2 _ = H4; obtain ⟨e4, o4, t4⟩ := made np g4; clear g4
    refine ⟨_, _, rfl, .inl ⟨SqL.of t4, fun p3 n3 => ?_⟩⟩
    generalize g5 : upd _ p3 _ = H5; obtain ⟨e5, o5, t5⟩ := made n3 g5; clear g5
    have b5 : But p H H5 := ((((But.ofS s1).trans (But.of1 o2)).trans b3).trans (But.ofS (sameOf np o4))).trans (But.ofS (sameOf n3 o5))
    have d4 := d3.keep np o4
    refine q p3 ns H5 b5 (d4.keep n3 o5) t5 ?_ ⟨by have := pm2.length_eq; omega, ?_, ?_⟩
    · cases z : H p3 with
      | none => rfl
      | some o =>
        have np3 : p3 ≠ p := (d4.ne n3).symm
        have z4 := ((((But.ofS s1).trans (But.of1 o2)).trans b3).trans (But.ofS (sameOf np o4))) p3 o np3 z
        rw [n3] at z4
        cases z4
    · have nd : ns.Nodup := by
        refine pm2.nodup_iff.mpr ?_
        have : (is ++ js).Nodup := pj.nodup_iff.mpr (by decide)
        exact (List.nodup_append.mp this).1
      exact (pw.and nd).imp fun {a b} ⟨x, y⟩ => by omega
    · intro i hi
      have : i ∈ riseL := pj.mem_iff.mp (List.mem_append_left _ (pm2.mem_iff.mp hi))
      have all : riseL.all (fun i => decide (0 ≤ i) && decide (i ≤ 39)) = true := by decide
      have z := List.all_eq_true.mp all i this
      simp only [Bool.and_eq_true, decide_eq_true_eq] at z
      exact z

/-! ### what rises -/
theorem asc_step (x y : PyData) (r : List PyData) : ascD (x :: y :: r) = (ltD x y && ascD (y :: r)) := by
  unfold ascD
  have e : (x :: y :: r).length - 1 = r.length + 1 := rfl
  have e2 : (y :: r).length - 1 = r.length := rfl
  rw [e, e2, List.range_succ_eq_map, List.all_cons, List.all_map]
  rfl
theorem asc_iff {α : Type} {f : α → PyData} {lt : α → α → Bool} (h : ∀ a b, ltD (f a) (f b) = lt a b) (tr : ∀ a b c, lt a b = true → lt b c = true → lt a c = true) : ∀ l : List α, ascD (l.map f) = true ↔ l.Pairwise (fun a b => lt a b = true)
  | [] => ⟨fun _ => .nil, fun _ => rfl⟩
  | [a] => ⟨fun _ => List.pairwise_singleton _ _, fun _ => rfl⟩
  | a :: b :: r => by
    have ih := asc_iff h tr (b :: r)
    rw [List.map_cons, List.map_cons, asc_step, h, Bool.and_eq_true]
    constructor
    · rintro ⟨h1, h2⟩
      have h3 := ih.mp h2
      refine List.pairwise_cons.mpr ⟨fun c hc => ?_, h3⟩
      rcases List.mem_cons.mp hc with rfl | hc
      · exact h1
      · exact tr _ _ _ h1 ((List.pairwise_cons.mp h3).1 c hc)
    · intro hp
      obtain ⟨h1, h2⟩ := List.pairwise_cons.mp hp
      exact ⟨h1 b List.mem_cons_self, ih.mpr h2⟩
theorem asc_ints (l : List Int) : ascD (l.map PyData.int) = true ↔ l.Pairwise (· < ·) := by
  rw [asc_iff (lt := fun a b => decide (a < b)) (fun a b => rfl) (fun a b c h1 h2 => decide_eq_true (Int.lt_trans (of_decide_eq_true h1) (of_decide_eq_true h2))) l]
  exact ⟨fun h => h.imp fun z => of_decide_eq_true z, fun h => h.imp fun z => decide_eq_true z⟩
theorem ints_of_int (l : List Int) : (l.map PyData.int).map intOf = l := by
  rw [List.map_map]
  exact List.map_id l
theorem asc_rows (l : List (List Int)) : ascD (l.map intsP) = true ↔ l.Pairwise (fun a b => HT.lexLt a b = true) := by
  refine asc_iff (lt := HT.lexLt) (fun a b => ?_) (fun a b c => lex_trn) l
  show HT.lexLt ((a.map PyData.int).map intOf) ((b.map PyData.int).map intOf) = _
  rw [ints_of_int, ints_of_int]
structure StGood (s : Sta) : Prop where
  a : Rise 4 s.1
  n : s.2.length ≤ 3
  b : ∀ r ∈ s.2, Rise 3 r
  asc : s.2.Pairwise (fun a b => HT.lexLt a b = true)
theorem Rise.sml {m : Nat} {l : List Int} (h : Rise m l) : ∀ i ∈ l, Sml i := fun i hi => ⟨(h.2.2 i hi).1, Int.lt_of_le_of_lt (h.2.2 i hi).2 (by decide)⟩
theorem StGood.ok {s : Sta} (h : StGood s) : StOk s := ⟨by have := h.a.1; omega, by have := h.n; omega, h.a.sml, fun r hr => ⟨by have := (h.b r hr).1; omega, (h.b r hr).sml⟩⟩
theorem class_rise {l : List Int} (h : ∀ i ∈ l, Sml i) (p : l.Pairwise (· < ·)) : classD (intsP l) = true := by
  show ((l.map PyData.int).all numD && ascD (l.map PyData.int)) = true
  rw [show (l.map PyData.int).all numD = true from nums_ok h, (asc_ints l).mpr p]
  rfl
theorem StGood.st {s : Sta} (h : StGood s) : stateD (stateP s) = true := by
  show (classD (intsP s.1) && ((s.2.map intsP).all classD && ascD (s.2.map intsP))) = true
  rw [class_rise h.a.sml h.a.2.1, (asc_rows s.2).mpr h.asc, show (s.2.map intsP).all classD = true from List.all_eq_true.mpr fun d hd => by
    obtain ⟨r, hr, rfl⟩ := List.mem_map.mp hd
    exact class_rise (h.b r hr).sml (h.b r hr).2.1]
  rfl
def spSta : Sp := fun vs H Q _ => ∃ (p : Addr), vs = [.ref p] ∧ Dc H p ∧ ∀ (v : V) (s : Sta) (H' : Hp), But p H H' → Dc H' p → Dx H' v (stateP s) → StGood s → Q v H'
theorem dx_refs {H : Hp} {f : Addr → List Int} : ∀ {as : List Addr}, (∀ b ∈ as, H b = some (.tup ((f b).map V.int))) → DxAll H (as.map V.ref) ((as.map f).map intsP)
  | [], _ => .nil
  | b :: as, h => .cons (.tup (h b List.mem_cons_self) (dx_ints _)) (dx_refs fun c hc => h c (List.mem_cons_of_mem _ hc))
theorem ok__law_a_state {f : Addr} {fd : FuncData} (F : Fun K "_law_a_state" "_law_a_state" s__law_a_state f fd) (T : Txt mg) (Z : PexZ K mg tx) {f__law_rising : Addr} {fd__law_rising : FuncData} (G__law_rising : FnOk P w K mg base CX0 3 f__law_rising fd__law_rising P__law_rising (spRise K)) (C__law_rising : Cal K mg "_law_rising" f__law_rising fd__law_rising P__law_rising) {f__law_roll : Addr} {fd__law_roll : FuncData} (G__law_roll : FnOk P w K mg base CX0 1 f__law_roll fd__law_roll P__law_roll spRoll) (C__law_roll : Cal K mg "_law_roll" f__law_roll fd__law_roll P__law_roll) : FnOk P w K mg base CX0 4 f fd P__law_a_state spSta := by
  refine F.ok sc__law_a_state (fun vs H Q E h => ?_) (fun cdv A outer s H vs Q E hr h => ?_)
  · obtain ⟨p, rfl, _⟩ := h
    rfl
  · obtain ⟨p, rfl, hd, q⟩ := h
    refine ⟨_, (pss_one (ps_ret (pe_tup (pa_cons (pe_call G__law_rising (hr.mono (by decide)) rfl C__law_rising.m C__law_rising.k C__law_rising.b .nil pass0 (pa_cons (pv 0) (pa_cons pe_int pa_nil))) (pa_cons (pe_callTy call_tuple_of (by rfl) T.n_tuple (by decide +kernel) (pa_cons (pe_callB (cr_sortUS rfl (hu64i hr)) (by rfl) T.n_sorted (by decide +kernel) (pa_cons (pe_callTy (cr_setOfT rfl (hu64i hr)) (by rfl) T.n_set (by decide +kernel) (pa_cons (pe_lc (own := [("_law_turn", 1)]) (g := gName 1) (tt := tYes) rfl sc__law_a_state.nd (pi_range1 (by rfl) T.n_range (pa_cons (pe_call G__law_roll (hr.mono (by decide)) rfl C__law_roll.m C__law_roll.k C__law_roll.b .nil pass0 (pa_cons (pv 0) (pa_cons pe_int pa_nil))) pa_nil)) (blkOk_by (own := [("_law_turn", 1)]) (N := ["_law_dice_here", "_law_turn"]) (sc := (defScope s__law_a_state)) (by decide +kernel)) (fun _ _ _ _ _ => (pg_name (i := 1) sc__law_a_state.nd rfl (Or.inl rfl))) (fun _ _ _ _ _ => pts_nil) (fun _ _ _ _ _ => (pe_call G__law_rising (hr.mono (by decide)) rfl C__law_rising.m C__law_rising.k C__law_rising.b .nil pass0 (pa_cons (pv 0) (pa_cons pe_int pa_nil))))) pa_nil)) pa_nil)) pa_nil)) pa_nil))))), ?_⟩
    refine ⟨_, rfl, p, 4, rfl, hd, by decide, fun a l H1 b1 d1 h1 na rl => ?_⟩
    refine ⟨_, rfl, p, 4, rfl, d1, by decide, by decide, fun r H2 r0 rlt e2 o2 d2 => ?_⟩
    refine ⟨r, rfl, by omega, by omega, fun D hD => ?_⟩
    have nDp : D ≠ p := (d2.ne hD).symm
    refine lc_range (lo := 0) (n := r.toNat) (fun i H' => But p H2 H' ∧ Dc H' p ∧ ∃ ks : List (Addr × List Int), H' D = some (.lst (ks.map fun q => V.ref q.1)) ∧ ks.length = i ∧ ∀ q ∈ ks, H' q.1 = some (.tup (q.2.map V.int)) ∧ Rise 3 q.2)
      ⟨But.ofS (sameOf hD fun b hb => upd_ne hb), d2.keep hD (fun b hb => upd_ne hb), [], upd_same, rfl, fun q hq => by cases hq⟩ ?_ ?_
    · rintro i H' hi ⟨b2, d3, ks, hl, lk, hk⟩
      refine ⟨rfl, ?_⟩
      refine ⟨_, rfl, p, 3, rfl, d3, by decide, fun a2 l2 H5 b5 d5 h5 na2 rl2 => ?_⟩
      have hl5 := b5 D _ nDp hl
      have keep : ∀ (c : Addr) (xs : List V), H5 c = some (.tup xs) → (upd H5 D (.lst (ks.map (fun q => V.ref q.1) ++ [V.ref a2]))) c = some (.tup xs) := fun c xs hc => by
        rw [upd_ne (fun z => by rw [z, hl5] at hc; cases hc)]
        exact hc
      refine ⟨_, hl5, szlt (by rw [List.length_map]; omega), fun c o nc hc => ?_, ?_, ks ++ [(a2, l2)], by rw [upd_same, List.map_append]; rfl, by rw [List.length_append, lk]; rfl, fun q hq => ?_⟩
      · rw [upd_ne (ne_of_none hc hD)]
        exact b5 c o nc (b2 c o nc hc)
      · obtain ⟨x, y, z, h⟩ := d5
        exact ⟨x, y, z, by rw [upd_ne nDp.symm]; exact h⟩
      · rcases List.mem_append.mp hq with hq | hq
        · have np : q.1 ≠ p := fun z => by
            obtain ⟨x, y, w, h⟩ := d3
            have := (hk q hq).1
            rw [z, h] at this
            cases this
          exact ⟨keep _ _ (b5 _ _ np (hk q hq).1), (hk q hq).2⟩
        · rw [List.mem_singleton.mp hq]
          exact ⟨keep _ _ h5, rl2⟩
    · rintro H9 ⟨b9, d9, ks, hl, lk, hk⟩
      have lk3 : ks.length ≤ 3 := by omega
      refine ⟨D, ks, rfl, SqL.of hl, fun q hq => SqT.of (hk q hq).1, by omega, fun a9 L na9 sub all => ?_⟩
      generalize g10 : upd _ a9 _ = H10; obtain ⟨e10, o10, t10⟩ := made na9 g10; clear g10
      have s10 := sameOf na9 o10
      have hk10 : ∀ q ∈ L, H10 q.1 = some (.tup (q.2.map V.int)) := fun q hq => s10 _ _ (hk q (sub q hq)).1
      refine ⟨a9, L, rfl, t10, hk10, fun as pp pm nd l64 pw np => ?_⟩
      generalize g11 : upd _ pp _ = H11; obtain ⟨e11, o11, t11⟩ := made np g11; clear g11
      have s11 := sameOf np o11
      refine ⟨_, _, rfl, .inl ⟨SqL.of t11, fun p3 n3 => ?_⟩⟩
      generalize g12 : upd _ p3 _ = H12; obtain ⟨e12, o12, t12⟩ := made n3 g12; clear g12
      have s12 := sameOf n3 o12
      refine ⟨szr rfl, fun p4 n4 => ?_⟩
      generalize g13 : upd _ p4 _ = H13; obtain ⟨e13, o13, t13⟩ := made n4 g13; clear g13
      have s13 := sameOf n4 o13
      have s1013 := (s11.trans s12).trans s13
      have fs : ∀ b ∈ as, ∃ q ∈ L, q.1 = b ∧ intsAt H10 b = q.2 := fun b hb => by
        obtain ⟨q, hq, e⟩ := List.mem_map.mp (pm.mem_iff.mp hb)
        exact ⟨q, hq, e, by rw [← e]; exact intsAt_of (hk10 q hq)⟩
      have pr : (as.map (intsAt H10)).Perm (L.map Prod.snd) := by
        have := pm.map (intsAt H10)
        rw [List.map_map, show L.map (intsAt H10 ∘ Prod.fst) = L.map Prod.snd from List.map_congr_left fun q hq => intsAt_of (hk10 q hq)] at this
        exact this
      have ndr : (as.map (intsAt H10)).Nodup := pr.nodup_iff.mpr nd
      have b13 : But p H H13 := (((((b1.trans (But.of1 o2)).trans b9).trans (But.ofS s10)).trans (But.ofS s11)).trans (But.ofS s12)).trans (But.ofS s13)
      have d13 : Dc H13 p := (((d9.keep na9 o10).keep np o11).keep n3 o12).keep n4 o13
      have nap : a ≠ p := fun z => by
        obtain ⟨x, y, w, h⟩ := d1
        rw [z, h] at h1
        cases h1
      have ha13 : H13 a = some (.tup (l.map V.int)) := s1013 _ _ (s10 _ _ (b9 _ _ nap ((o2 a nap).trans h1)))
      have hrows : ∀ r ∈ as.map (intsAt H10), Rise 3 r := fun r hr => by
        obtain ⟨b, hb, rfl⟩ := List.mem_map.mp hr
        obtain ⟨q, hq, _, e⟩ := fs b hb
        rw [e]
        exact (hk q (sub q hq)).2
      refine q _ (l, as.map (intsAt H10)) H13 b13 d13 (.tup t13 (.cons (.tup ha13 (dx_ints l)) (.cons (.tup (s13 _ _ t12) ?_) .nil))) ⟨rl, ?_, hrows, ?_⟩
      · refine dx_refs fun b hb => ?_
        obtain ⟨q, hq, e, e2⟩ := fs b hb
        rw [e2, ← e]
        exact s1013 _ _ (hk10 q hq)
      · show (as.map (intsAt H10)).length ≤ 3
        rw [pr.length_eq, List.length_map]
        have : L.Nodup := (List.pairwise_map.mp nd).imp fun z e => z (congrArg Prod.snd e)
        have := List.Nodup.length_le_of_subset this fun q hq => sub q hq
        omega
      · have pw2 : (as.map (intsAt H10)).Pairwise (fun a b => HT.lexLt b a = false) := List.pairwise_map.mpr pw
        refine (pw2.and ndr).imp fun {a b} xy => ?_
        cases z : HT.lexLt a b with
        | true => rfl
        | false => exact absurd (lex_tot z xy.1) xy.2
theorem rise_uniq : ∀ {l m : List Int}, l.Pairwise (· < ·) → m.Pairwise (· < ·) → (∀ k, k ∈ m ↔ k ∈ l) → l = m
  | [], [], _, _, _ => rfl
  | [], b :: m, _, _, h => by have := (h b).mp List.mem_cons_self; cases this
  | a :: l, [], _, _, h => by have := (h a).mpr List.mem_cons_self; cases this
  | a :: l, b :: m, hl, hm, h => by
    obtain ⟨a1, a2⟩ := List.pairwise_cons.mp hl
    obtain ⟨b1, b2⟩ := List.pairwise_cons.mp hm
    have e : a = b := by
      rcases List.mem_cons.mp ((h a).mpr List.mem_cons_self) with e | m1
      · exact e
      · rcases List.mem_cons.mp ((h b).mp List.mem_cons_self) with e | m2
        · exact e.symm
        · have := b1 a m1
          have := a1 b m2
          omega
    subst e
    rw [rise_uniq a2 b2 fun k => ?_]
    constructor
    · intro hk
      rcases List.mem_cons.mp ((h k).mp (List.mem_cons_of_mem _ hk)) with rfl | z
      · have := b1 k hk
        omega
      · exact z
    · intro hk
      rcases List.mem_cons.mp ((h k).mpr (List.mem_cons_of_mem _ hk)) with rfl | z
      · have := a1 k hk
        omega
      · exact z
theorem shaped_intsL (l : List Int) : SeqAt.shaped (.list (l.map .int)) = true := by
  unfold SeqAt.shaped PyData.canLay0 PyData.depth
  rw [(lay_ints l).1, (lay_ints l).2]
  rfl
theorem eqv_ints : ∀ l m : List Int, PyData.eqvAll (l.map .int) (m.map .int) = decide (l = m)
  | [], [] => rfl
  | [], _ :: _ => rfl
  | _ :: _, [] => rfl
  | a :: l, b :: m => by
    rw [List.map_cons, List.map_cons, PyData.eqvAll, eqv_ints l m]
    by_cases h : a = b
    · subst h
      by_cases h2 : l = m
      · subst h2
        simp [PyData.eqv]
      · simp [PyData.eqv, h2]
    · simp [PyData.eqv, h]
def riseO : Option (List Int) → Bool
  | some l => ascD (l.map PyData.int)
  | none => false
def spIsR : Sp := fun vs H Q _ => ∃ (v : V) (o : Option (List Int)), vs = [v] ∧ Dx H v (numsP o) ∧ (∀ l, o = some l → l.length < 64) ∧ ∀ H', Same H H' → Q (.bl (riseO o)) H'
theorem ok__law_is_rising {f : Addr} {fd : FuncData} (F : Fun K "_law_is_rising" "_law_is_rising" s__law_is_rising f fd) (T : Txt mg) (Z : PexZ K mg tx) : FnOk P w K mg base CX0 1 f fd P__law_is_rising spIsR := by
  refine F.ok sc__law_is_rising (fun vs H Q E h => ?_) (fun cdv A outer s H vs Q E hr h => ?_)
  · obtain ⟨v, o, rfl, _⟩ := h
    rfl
  · obtain ⟨v, o, rfl, hv, hl, q⟩ := h
    refine ⟨_, (pss_one (ps_ret (pe_and (pe_cmpR op_notN (pv 0) pe_non (nomark _)) (pe_one (pe_cmpR (op_eqD hr.units) (pe_callTy call_list_of (by rfl) T.n_list (by decide +kernel) (pa_cons (pv 0) pa_nil)) (pe_callB (cr_sortedSet rfl) (by rfl) T.n_sorted (by decide +kernel) (pa_cons (pe_callTy (cr_setTup rfl) (by rfl) T.n_set (by decide +kernel) (pa_cons (pv 0) pa_nil)) pa_nil)) (nomark _)))))), ?_⟩
    refine ⟨_, rfl, rfl, _, rfl, ?_⟩
    cases o with
    | none =>
      cases hv
      refine iteF ?_
      exact q H (Same.refl H)
    | some l =>
      obtain ⟨a, rfl, ha⟩ := ints_at hv
      have l64 := hl l rfl
      refine iteT ?_
      refine ⟨_, rfl, _, _, rfl, .inr (SqT.of ha), fun p1 n1 => ?_⟩
      generalize g1 : upd _ p1 _ = H1; obtain ⟨e1, o1, t1⟩ := made n1 g1; clear g1
      have s1 := sameOf n1 o1
      refine ⟨_, rfl, a, l, rfl, SqT.of (s1 _ _ ha), by omega, fun a2 c na lc => ?_⟩
      generalize g2 : upd _ a2 _ = H2; obtain ⟨e2, o2, t2⟩ := made na g2; clear g2
      have s2 := sameOf na o2
      refine ⟨a2, _, c, rfl, t2, by omega, fun ns p3 pw mem ln np => ?_⟩
      generalize g3 : upd _ p3 _ = H3; obtain ⟨e3, o3, t3⟩ := made np g3; clear g3
      have s3 := sameOf np o3
      have s13 := s2.trans s3
      refine ⟨.list (l.map .int), .list (ns.map .int), (Dx.lst (s13 _ _ t1) (dx_ints l)).dp (df_ints l), (Dx.lst t3 (dx_ints ns)).dp (df_ints ns), shaped_intsL l, shaped_intsL ns, ?_⟩
      have := q H3 (s1.trans s13)
      rw [show PyData.eqv (.list (l.map .int)) (.list (ns.map .int)) = riseO (some l) from ?_]
      · exact this
      · rw [show PyData.eqv (.list (l.map .int)) (.list (ns.map .int)) = PyData.eqvAll (l.map .int) (ns.map .int) from by rw [PyData.eqv], eqv_ints]
        show decide (l = ns) = ascD (l.map PyData.int)
        cases z : ascD (l.map PyData.int) with
        | true =>
          have pl := (asc_ints l).mp z
          refine decide_eq_true (rise_uniq pl pw fun k => ?_)
          rw [mem k, decide_eq_true_eq]
        | false =>
          refine decide_eq_false fun e => ?_
          rw [← e] at pw
          rw [(asc_ints l).mpr pw] at z
          cases z
def Fine (t : List Nat) : Prop := ∀ c ∈ t, c < 1114112
def spNumsL : Sp := fun vs H Q _ => ∃ x : Str, vs = [.str x] ∧ x.length ≤ 4000 ∧ Fine (TL.tl x) ∧ ∀ v H', Same H H' → Dx H' v (numsP (numsC (TL.tl x))) → Q v H'
theorem sign_dig : ∀ c : Nat, decide (c ∈ (Str.ofString "0123456789").cps.toList) = dgC c := fun c => by
  have e : (Str.ofString "0123456789").cps.toList = [48, 49, 50, 51, 52, 53, 54, 55, 56, 57] := by decide +kernel
  rw [e]
  unfold dgC
  by_cases h1 : 48 ≤ c
  · by_cases h2 : c ≤ 57
    · rw [decide_eq_true h1, decide_eq_true h2]
      refine decide_eq_true ?_
      simp only [List.mem_cons, List.not_mem_nil, or_false]
      omega
    · rw [decide_eq_false h2, Bool.and_false]
      refine decide_eq_false fun z => ?_
      simp only [List.mem_cons, List.not_mem_nil, or_false] at z
      omega
  · rw [decide_eq_false h1, Bool.false_and]
    refine decide_eq_false fun z => ?_
    simp only [List.mem_cons, List.not_mem_nil, or_false] at z
    omega
def oneS (c : Nat) : Str := ⟨#[c]⟩
theorem dx_strs {H : Hp} : ∀ l : List Str, DxAll H (l.map V.str) (l.map PyData.str)
  | [] => .nil
  | x :: l => .cons (.str x) (dx_strs l)
theorem df_strs : ∀ l : List Str, dictfreeAll (l.map PyData.str) = true
  | [] => rfl
  | x :: l => df_strs l
theorem shaped_strs {l : List Str} (h : ∀ x ∈ l, PyData.strOk x = true) : SeqAt.shaped (.list (l.map .str)) = true := by
  have H : ∀ {l : List Str}, (∀ x ∈ l, PyData.strOk x = true) → PyData.canLayAll0 (l.map PyData.str) = true ∧ PyData.depthAll (l.map PyData.str) = 0 := by
    intro l
    induction l with
    | nil => exact fun _ => ⟨rfl, rfl⟩
    | cons x l ih =>
      intro h
      have := ih fun y hy => h y (List.mem_cons_of_mem _ hy)
      simp [PyData.canLayAll0, PyData.canLay0, PyData.depthAll, PyData.depth, this, h x List.mem_cons_self]
  unfold SeqAt.shaped PyData.canLay0 PyData.depth
  rw [(H h).1, (H h).2]
  rfl
theorem one_ok {c : Nat} (h : c < 1114112) : PyData.strOk (oneS c) = true := by
  unfold PyData.strOk oneS
  simp [h]
theorem ok__law_due_numbers {f : Addr} {fd : FuncData} (F : Fun K "_law_due_numbers" "_law_due_numbers" s__law_due_numbers f fd) (T : Txt mg) (Z : PexZ K mg tx) : FnOk P w K mg base CX0 1 f fd P__law_due_numbers spNumsL := by
  refine F.ok sc__law_due_numbers (fun vs H Q E h => ?_) (fun cdv A outer s H vs Q E hr h => ?_)
  · obtain ⟨x, rfl, _⟩ := h
    rfl
  · obtain ⟨x, rfl, lx, fn, q⟩ := h
    refine ⟨_, (pss_cons (ps_if (pt_cmpR op_eq (pv 0) pe_str (nomark _)) (pss_one (ps_ret (pe_tup pa_nil))) pss_nil)
      (pss_cons (ps_set (i := 1) sc__law_due_numbers.nd rfl (Or.inl rfl) (pe_lst pa_nil))
      (pss_cons (ps_for PassesOwn.never rfl (pi_list (pe_split (pv 0) pe_str)) (pg_name (i := 2) sc__law_due_numbers.nd rfl (Or.inl rfl)) (pss_cons (ps_if (PW.pt (pw_or (pt_cmpR op_eq (pv 2) pe_str (nomark _)) (pw_or (pt_cmpR op_gt (pe_callB call_len_str (by rfl) T.n_len (by decide +kernel) (pa_cons (pv 2) pa_nil)) pe_int (nomark _)) (pw_or1 (pt_cmpR (op_neD hr.units) (pe_lc (own := [("_law_sign", 3)]) (g := gName 3) rfl sc__law_due_numbers.nd (pi_str (pv 2)) (blkOk_by (own := [("_law_sign", 3)]) (N := ["_law_text", "_law_found", "_law_word", "_law_sign"]) (sc := (defScope s__law_due_numbers)) (by decide +kernel)) (fun _ _ _ _ _ => (pg_name (i := 3) sc__law_due_numbers.nd rfl (Or.inl rfl))) (fun _ _ _ _ _ => (pts_one (pt_cmpR op_notIn_sign (pv 3) pe_str (by rfl)))) (fun _ _ _ _ _ => (pv 3))) (pe_lst pa_nil) (nomark _)))))) (pss_one (ps_ret pe_non)) pss_nil)
      (pss_cons (ps_if (PW.pt (pw_and (pt_cmpR op_eq (pe_ix ix_str (pv 2) pe_int (fun _ _ => rfl)) pe_str (nomark _)) (pw_and1 (pt_cmpR op_ne (pv 2) pe_str (nomark _))))) (pss_one (ps_ret pe_non)) pss_nil)
      (pss_one (ps_expr (pe_bm PySem.F.plainAttrs_list PySem.F.slot_list_append PySem.F.type_list_append mt_append (pv 1) (pa_cons (pe_callTy call_int_str (by rfl) T.n_int (by decide +kernel) (pa_cons (pv 2) pa_nil)) pa_nil)))))))
      (pss_one (ps_ret (pe_callTy call_tuple_of (by rfl) T.n_tuple (by decide +kernel) (pa_cons (pv 1) pa_nil))))))), ?_⟩
    have el : x.length = (TL.tl x).length := TL.len_tl x
    refine ⟨_, rfl, rfl, _, rfl, ?_⟩
    refine ite2 (fun g => ?_) (fun g => ?_)
    · have e := str_is.mp (of_decide_eq_true g)
      refine ⟨szr rfl, fun p n => ?_⟩
      generalize gp : upd _ p _ = H1; obtain ⟨e1, o1, t1⟩ := made n gp; clear gp
      refine q _ H1 (sameOf n o1) ?_
      rw [e, sign_dash]
      exact .tup t1 .nil
    · have nd : TL.tl x ≠ [45] := fun z => g (decide_eq_true (str_is.mpr (z.trans sign_dash.symm)))
      have eC : numsC (TL.tl x) = optAll ((TL.spl [32] 0 [] (TL.tl x)).map numW) := if_neg nd
      refine ⟨szr rfl, fun p2 n2 => ?_⟩
      generalize g2 : upd _ p2 _ = H2; obtain ⟨e2, o2, t2⟩ := made n2 g2; clear g2
      have s2 := sameOf n2 o2
      refine ⟨_, rfl, ⟨_, rfl⟩, _, _, rfl, rfl, rfl, by rw [sizeLine_eq]; omega, fun p3 n3 => ?_⟩
      rw [split_tl (y := " ") sign_sp (by decide) rfl]
      generalize ews : TL.spl [32] 0 [] (TL.tl x) = ws at *
      have lws : ws.length ≤ 4001 := by
        have := spl_len [32] (TL.tl x) 0 []
        rw [ews] at this
        omega
      have lw : ∀ w ∈ ws, w.length ≤ 4000 := fun w hw => by
        rw [← ews] at hw
        have := spl_mem [32] (TL.tl x) 0 [] w hw
        rw [List.length_nil, ← el] at this
        omega
      rw [List.map_map]
      generalize g3 : upd _ p3 _ = H3; obtain ⟨e3, o3, t3⟩ := made n3 g3; clear g3
      have s3 := sameOf n3 o3
      have p23 : p3 ≠ p2 := (ne_of_none t2 n3).symm
      refine ⟨_, rfl, ⟨_, SqL.of t3⟩, for_list (K := K) (xs := ws.map (V.str ∘ SX.S)) (fun i σ H' => ∃ (acc : List Int) (a2 a3 : Option V), σ = [some (.str x), some (.ref p2), a2, a3] ∧ Same H H' ∧ H' p3 = some (.lst (ws.map (V.str ∘ SX.S))) ∧ H' p2 = some (.lst (acc.map V.int)) ∧ (ws.take i).map numW = acc.map some)
        ⟨[], _, _, rfl, s2.trans s3, t3, s3 _ _ t2, rfl⟩ (fun i σ H' _ ⟨_, _, _, _, _, h, _⟩ => SqL.of h) ?_ ?_⟩
      · rintro i y σ H' hy ⟨acc, a2, a3, rfl, sm, h3, h2, ha⟩
        rw [List.getElem?_map] at hy
        cases hw : ws[i]? with
        | none => rw [hw] at hy; cases hy
        | some w =>
          rw [hw] at hy
          cases hy
          have wm := List.mem_of_getElem? hw
          have lwi := lw w wm
          have el2 : (SX.S w).length = w.length := by rw [TL.len_tl, tl_S]
          have none_ : numW w = none → ∀ H', Same H H' → Q .non H' := fun e H' s => q .non H' s (by
            rw [eC, optAll_none.mpr (by rw [← e]; exact List.mem_map_of_mem wm)]
            exact .non)
          refine ⟨_, rfl, rfl, _, rfl, ?_⟩
          refine ite2 (fun g1 => ?_) (fun g1 => ?_)
          · have e0 : w = [] := by
              have := str_is.mp (of_decide_eq_true g1)
              rw [tl_S] at this
              exact this
            refine iteT ?_
            exact none_ (by rw [e0]; rfl) H' sm
          · have n0 : w ≠ [] := fun z => g1 (decide_eq_true (str_is.mpr (by rw [tl_S, z]; rfl)))
            refine ⟨_, rfl, _, rfl, by rw [sizeLine_eq]; show (SX.S w).length ≤ _; omega, _, _, rfl, rfl, _, rfl, ?_⟩
            refine ite2 (fun g2 => ?_) (fun g2 => ?_)
            · have g3 : 60 < ((SX.S w).length : Int) := of_decide_eq_true g2
              refine iteT ?_
              exact none_ (numW_none1 (by omega)) H' sm
            · have g3 : ¬ (60 < ((SX.S w).length : Int)) := fun z => g2 (decide_eq_true z)
              have l1 : 1 ≤ w.length ∧ w.length ≤ 60 := ⟨List.length_pos_iff.mpr n0, by omega⟩
              refine ⟨_, rfl, _, rfl, fun D hD => lc_it (walk_str (z := SX.S w)) (fun j G => Same H' G ∧ G D = some (.lst ((((w.take j).filter fun c => !dgC c).map oneS).map V.str))) ⟨sameOf hD (fun b hb => upd_ne hb), upd_same⟩ (fun _ _ _ _ => trivial) ?_ ?_⟩
              · rintro j v G1 G2 hj ⟨sg, hlg⟩ ⟨rfl, c, hc, rfl⟩
                have hc2 : w[j]? = some c := by
                  have : (SX.S w).cps.toList[j]? = some c := by rw [Array.getElem?_toList]; exact hc
                  exact this
                refine ⟨rfl, ?_⟩
                refine ⟨_, rfl, c, _, rfl, rfl, _, rfl, ?_⟩
                rw [sign_dig]
                cases ed : dgC c with
                | true =>
                  refine iteF ?_
                  refine ⟨sg, ?_⟩
                  rw [List.take_add_one, hc2, Option.toList_some, List.filter_append, show [c].filter (fun c => !dgC c) = [] from by simp [ed], List.append_nil]
                  exact hlg
                | false =>
                  refine iteT ?_
                  refine ⟨_, rfl, _, hlg, szlt (by
                    rw [List.length_map, List.length_map]
                    have := List.length_filter_le (fun c => !dgC c) (w.take j)
                    rw [List.length_take] at this
                    omega), fun b o e => ?_, ?_⟩
                  · rw [upd_ne (ne_of_none e hD)]
                    exact sg _ _ e
                  · rw [upd_same, List.take_add_one, hc2, Option.toList_some, List.filter_append, show [c].filter (fun c => !dgC c) = [c] from by simp [ed], List.map_append, List.map_append]
                    rfl
              · rintro G ⟨sg, hlg⟩
                rw [show (SX.S w).cps.size = w.length from el2, List.take_length] at hlg
                generalize esg : w.filter (fun c => !dgC c) = sgs at hlg
                have fsg : ∀ z ∈ sgs.map oneS, PyData.strOk z = true := fun z hz => by
                  obtain ⟨c, hc, rfl⟩ := List.mem_map.mp hz
                  rw [← esg] at hc
                  have cw := (List.mem_filter.mp hc).1
                  refine one_ok (fn c ?_)
                  rw [← ews] at wm
                  have := spl_back (S := [32]) (by decide) (TL.tl x).length (TL.tl x) (Nat.le_refl _)
                  rw [← this]
                  exact mem_join wm cw
                refine ⟨szr rfl, fun p5 n5 => ?_⟩
                generalize g5 : upd _ p5 _ = G5; obtain ⟨e5, o5, t5⟩ := made n5 g5; clear g5
                have s5 := sameOf n5 o5
                have sm5 := (sm.trans sg).trans s5
                refine ⟨.list ((sgs.map oneS).map .str), .list [], (Dx.lst (s5 _ _ hlg) (dx_strs _)).dp (df_strs _), (Dx.lst t5 .nil).dp rfl, shaped_strs fsg, rfl, _, rfl, ?_⟩
                cases esz : sgs with
                | cons c0 cr =>
                  have bad : w.all dgC = false := by
                    cases ea : w.all dgC with
                    | false => rfl
                    | true =>
                      have : c0 ∈ w.filter fun c => !dgC c := by rw [esg, esz]; exact List.mem_cons_self
                      obtain ⟨m1, m2⟩ := List.mem_filter.mp this
                      rw [List.all_eq_true.mp ea c0 m1] at m2
                      cases m2
                  refine iteT ?_
                  exact none_ (numW_none2 bad) G5 sm5
                | nil =>
                  have ed : w.all dgC = true := List.all_eq_true.mpr fun c hc => by
                    cases z : dgC c with
                    | true => rfl
                    | false =>
                      have : c ∈ w.filter fun c => !dgC c := List.mem_filter.mpr ⟨hc, by rw [z]; rfl⟩
                      rw [esg, esz] at this
                      cases this
                  refine iteF ?_
                  obtain ⟨c, r, ec⟩ : ∃ c r, w = c :: r := by
                    cases e0 : w with
                    | nil => exact absurd e0 n0
                    | cons c r => exact ⟨c, r, rfl⟩
                  have h0 : (SX.S w).cps.toList[0]? = some c := by
                    show w[0]? = some c
                    rw [ec]
                    rfl
                  have hN : intText? (SX.S w) = some ((NumText.digitsVal w : Nat) : Int) := intText_digits (x := SX.S w) (fun c hc => dgC_iff.mp (List.all_eq_true.mp ed c hc)) n0 (by omega)
                  have eok : okW w = (decide (w.head? ≠ some 48) || decide (w = [48])) := by
                    unfold okW
                    rw [decide_eq_true l1.1, decide_eq_true l1.2, ed]
                    rfl
                  have h25 : G5 p2 = some (.lst (acc.map V.int)) := s5 _ _ (sg _ _ h2)
                  have add : okW w = true → ∃ (acc' : List Int) (b2 b3 : Option V), [some (.str x), some (.ref p2), some (.str (SX.S w)), a3] = [some (.str x), some (.ref p2), b2, b3] ∧ Same H (upd G5 p2 (.lst (acc.map V.int ++ [V.int ((NumText.digitsVal w : Nat) : Int)]))) ∧ (upd G5 p2 (.lst (acc.map V.int ++ [V.int ((NumText.digitsVal w : Nat) : Int)]))) p3 = some (.lst (ws.map (V.str ∘ SX.S))) ∧ (upd G5 p2 (.lst (acc.map V.int ++ [V.int ((NumText.digitsVal w : Nat) : Int)]))) p2 = some (.lst (acc'.map V.int)) ∧ (ws.take (i + 1)).map numW = acc'.map some := fun ok => by
                    refine ⟨acc ++ [((NumText.digitsVal w : Nat) : Int)], _, _, rfl, fun b o e => ?_, ?_, by rw [upd_same, List.map_append]; rfl, ?_⟩
                    · rw [upd_ne (ne_of_none e n2)]
                      exact sm5 _ _ e
                    · rw [upd_ne p23]
                      exact s5 _ _ (sg _ _ h3)
                    · rw [List.take_add_one, hw, List.map_append, ha, List.map_append]
                      show acc.map some ++ [numW w] = _
                      unfold numW
                      rw [if_pos ok]
                      rfl
                  refine ⟨_, rfl, _, _, c, rfl, rfl, by rw [sizeLine_eq]; show (SX.S w).length ≤ _; omega, atI_nat (j := 0) h0, rfl, _, rfl, ?_⟩
                  refine ite2 (fun gc => ?_) (fun gc => ?_)
                  · have hc : c = 48 := (one_sign (show TL.tl (Str.ofString "0") = [48] from sign_0)).mp (of_decide_eq_true gc)
                    have eh : decide (w.head? ≠ some 48) = false := by
                      rw [ec, hc]
                      rfl
                    rw [eh, Bool.false_or] at eok
                    refine ⟨_, rfl, rfl, _, rfl, ?_⟩
                    refine ite2 (fun gd => ?_) (fun gd => ?_)
                    · refine none_ ?_ G5 sm5
                      unfold numW
                      rw [if_neg]
                      rw [eok, decide_eq_true_eq]
                      intro z
                      have : V.str (SX.S w) = V.str (Str.ofString "0") := str_is.mpr (by rw [tl_S, z]; exact sign_0.symm)
                      have gd : (!decide (V.str (SX.S w) = V.str (Str.ofString "0"))) = true := gd
                      rw [decide_eq_true this] at gd
                      cases gd
                    · refine ⟨_, rfl, (.inl ⟨rfl, _, SqL.of h25⟩), _, rfl, _, _, rfl, hN, by show (SX.S w).length ≤ 640; omega, _, _, _, rfl, rfl, h25, szlt (by
                        have := congrArg List.length ha
                        rw [List.length_map, List.length_map, List.length_take] at this
                        rw [List.length_map]
                        omega), ?_⟩
                      exact add (by
                        rw [eok, decide_eq_true_eq]
                        by_cases z : V.str (SX.S w) = V.str (Str.ofString "0")
                        · have := str_is.mp z
                          rw [tl_S] at this
                          exact this.trans sign_0
                        · have gd : ¬ (!decide (V.str (SX.S w) = V.str (Str.ofString "0"))) = true := gd
                          rw [decide_eq_false z] at gd
                          exact absurd rfl gd)
                  · have hc : c ≠ 48 := fun z => gc (decide_eq_true ((one_sign (show TL.tl (Str.ofString "0") = [48] from sign_0)).mpr z))
                    refine iteF ?_
                    refine ⟨_, rfl, (.inl ⟨rfl, _, SqL.of h25⟩), _, rfl, _, _, rfl, hN, by show (SX.S w).length ≤ 640; omega, _, _, _, rfl, rfl, h25, szlt (by
                      have := congrArg List.length ha
                      rw [List.length_map, List.length_map, List.length_take] at this
                      rw [List.length_map]
                      omega), ?_⟩
                    exact add (by
                      rw [eok, ec, decide_eq_true (show (c :: r).head? ≠ some 48 from fun z => hc (Option.some.inj z))]
                      rfl)
      · rintro σ H' ⟨acc, a2, a3, rfl, sm, h3, h2, ha⟩
        rw [List.length_map, List.take_length] at ha
        refine ⟨_, rfl, _, _, rfl, .inl ⟨SqL.of h2, fun p4 n4 => ?_⟩⟩
        generalize g4 : upd _ p4 _ = H4; obtain ⟨e4, o4, t4⟩ := made n4 g4; clear g4
        refine q _ H4 (sm.trans (sameOf n4 o4)) ?_
        rw [eC, ha, optAll_map]
        exact .tup t4 (dx_ints acc)

/-! ### the law's own reading of a state -/
def spStL : Sp := fun vs H Q _ => ∃ x : Str, vs = [.str x] ∧ Few (TL.tl x) ∧ Fine (TL.tl x) ∧ ∀ v H', Same H H' → Dx H' v (stP (TL.tl x)) → Q v H'
theorem class_o (p : List Nat) : classD (numsP (numsC p)) = riseO (numsC p) := by
  cases e : numsC p with
  | none => rfl
  | some l =>
    show ((l.map PyData.int).all numD && ascD (l.map PyData.int)) = ascD (l.map PyData.int)
    rw [show (l.map PyData.int).all numD = true from nums_ok fun i hi => numsC_ok e i hi]
    rfl
theorem rowsC_of {r : List Nat} {o : Option (List Int)} (h : o ∈ rowsC r) : ∃ p, o = numsC p := by
  unfold rowsC at h
  split at h
  · cases h
  · obtain ⟨p, _, rfl⟩ := List.mem_map.mp h
    exact ⟨p, rfl⟩
theorem st_cut {t a r : List Nat} (h : cutC t = (a, r)) : stateD (stD t) = (riseO (numsC a) && ((rowsC r).all riseO && ascD ((rowsC r).map numsP))) := by
  have e : stD t = .tuple [numsP (numsC a), .tuple ((rowsC r).map numsP)] := by
    unfold stD
    rw [h]
  rw [e]
  show (classD (numsP (numsC a)) && (((rowsC r).map numsP).all classD && ascD ((rowsC r).map numsP))) = _
  rw [class_o, List.all_map]
  rw [show (rowsC r).all (classD ∘ numsP) = (rowsC r).all riseO from by
    have : ∀ l : List (Option (List Int)), (∀ o ∈ l, ∃ p, o = numsC p) → l.all (classD ∘ numsP) = l.all riseO := by
      intro l
      induction l with
      | nil => exact fun _ => rfl
      | cons o l ih =>
        intro hh
        obtain ⟨p, rfl⟩ := hh o List.mem_cons_self
        rw [List.all_cons, List.all_cons, ih fun z hz => hh z (List.mem_cons_of_mem _ hz)]
        show (classD (numsP (numsC p)) && _) = _
        rw [class_o]
    exact this _ fun o ho => rowsC_of ho]
theorem bar_none {p : List Nat} (h : 124 ∈ p) : numsC p = none := by
  cases e : numsC p with
  | none => rfl
  | some l =>
    have := numsC_signs e 124 h
    omega
theorem no_two {t : List Nat} (h : (TL.spl [32, 124, 32] 0 [] t).length ≠ 2) : stateD (stD t) = false := by
  rcases par_spl (S := [32, 124, 32]) (by decide) t [] with ⟨h1, h2⟩ | ⟨a, r, h1, h2, _⟩
  · have hc : cutC t = (t, []) := by unfold cutC; rw [h1]
    rw [st_cut hc]
    have : rowsC [] = [none] := by decide
    rw [this]
    simp [riseO]
  · have hc : cutC t = (a, r) := by unfold cutC; rw [h1]
    rw [st_cut hc]
    rw [h2, List.length_cons] at h
    have l2 : 2 ≤ (TL.spl [32, 124, 32] 0 [] r).length := by
      have := List.length_pos_iff.mpr (spl_ne (S := [32, 124, 32]) (by decide) r)
      omega
    have m : 124 ∈ r := by
      rw [← spl_back (S := [32, 124, 32]) (by decide) r.length r (Nat.le_refl _)]
      exact joinL_has l2 (by simp)
    have nn : r ≠ noneC := fun z => by rw [z] at m; exact absurd m (by decide)
    have : (rowsC r).all riseO = false := by
      unfold rowsC
      rw [if_neg nn]
      rcases spl_sign (S := [59, 32]) (by decide) m with z | ⟨p, hp, z⟩
      · exact absurd z (by decide)
      · rw [List.all_eq_false]
        exact ⟨numsC p, List.mem_map_of_mem hp, by rw [bar_none z]; decide⟩
    rw [this, Bool.false_and, Bool.and_false]
theorem is_two {t : List Nat} (h : (TL.spl [32, 124, 32] 0 [] t).length = 2) : ∃ a r, TL.spl [32, 124, 32] 0 [] t = [a, r] ∧ cutC t = (a, r) := by
  rcases par_spl (S := [32, 124, 32]) (by decide) t [] with ⟨h1, h2⟩ | ⟨a, r, h1, h2, _⟩
  · rw [h2] at h
    cases h
  · refine ⟨a, r, ?_, by unfold cutC; rw [h1]⟩
    rw [h2, List.length_cons] at h
    rcases par_spl (S := [32, 124, 32]) (by decide) r [] with ⟨_, h4⟩ | ⟨b, r2, _, h4, _⟩
    · rw [h2, h4]
      rfl
    · rw [h4, List.length_cons] at h
      have := List.length_pos_iff.mpr (spl_ne (S := [32, 124, 32]) (by decide) r2)
      omega
theorem lay_nums : ∀ o : Option (List Int), PyData.canLay0 (numsP o) = true ∧ PyData.depth (numsP o) ≤ 1
  | none => ⟨rfl, Nat.zero_le _⟩
  | some l => by
    obtain ⟨h3, h4⟩ := lay_ints l
    refine ⟨by show PyData.canLay0 (.tuple (l.map .int)) = true; unfold PyData.canLay0; exact h3, ?_⟩
    show PyData.depth (.tuple (l.map .int)) ≤ 1
    unfold PyData.depth
    omega
theorem shaped_nums (l : List (Option (List Int))) : SeqAt.shaped (.list (l.map numsP)) = true := by
  have H : ∀ l : List (Option (List Int)), PyData.canLayAll0 (l.map numsP) = true ∧ PyData.depthAll (l.map numsP) ≤ 1 := by
    intro l
    induction l with
    | nil => exact ⟨rfl, Nat.zero_le _⟩
    | cons o l ih =>
      obtain ⟨h1, h2⟩ := lay_nums o
      refine ⟨?_, ?_⟩
      · show (PyData.canLay0 (numsP o) && PyData.canLayAll0 (l.map numsP)) = true
        rw [h1, ih.1]
        rfl
      · show max (PyData.depth (numsP o)) (PyData.depthAll (l.map numsP)) ≤ 1
        have := ih.2
        omega
  unfold SeqAt.shaped PyData.canLay0 PyData.depth
  rw [(H l).1, decide_eq_true (by have := (H l).2; omega)]
  rfl
theorem df_nums : ∀ l : List (Option (List Int)), dictfreeAll (l.map numsP) = true
  | [] => rfl
  | none :: l => df_nums l
  | some r :: l => by
    show (dictfreeAll (r.map PyData.int) && dictfreeAll (l.map numsP)) = true
    rw [df_ints, df_nums l]
    rfl
theorem fine_spl {S t p : List Nat} (hS : S ≠ []) (h : Fine t) (hp : p ∈ TL.spl S 0 [] t) : Fine p := fun c hc => by
  refine h c ?_
  rw [← spl_back hS t.length t (Nat.le_refl _)]
  exact mem_join hp hc
theorem all_some : ∀ {l : List (Option (List Int))}, (∀ o ∈ l, riseO o = true) → ∃ ls : List (List Int), l = ls.map some
  | [], _ => ⟨[], rfl⟩
  | none :: l, h => by have := h none List.mem_cons_self; cases this
  | some a :: l, h => by
    obtain ⟨ls, rfl⟩ := all_some fun o ho => h o (List.mem_cons_of_mem _ ho)
    exact ⟨a :: ls, rfl⟩
theorem rows_at {H : Hp} : ∀ {ls : List (List Int)} {vs : List V}, DxAll H vs (ls.map intsP) → ∃ ks : List (Addr × List Int), vs = ks.map (fun q => V.ref q.1) ∧ ks.map Prod.snd = ls ∧ ∀ q ∈ ks, H q.1 = some (.tup (q.2.map V.int))
  | [], _, h => by
    cases h
    exact ⟨[], rfl, rfl, fun q hq => by cases hq⟩
  | l :: ls, _, h => by
    cases h with
    | cons a r =>
      obtain ⟨b, rfl, hb⟩ := ints_at a
      obtain ⟨ks, rfl, rfl, hk⟩ := rows_at r
      refine ⟨(b, l) :: ks, rfl, rfl, fun q hq => ?_⟩
      rcases List.mem_cons.mp hq with rfl | hq
      · exact hb
      · exact hk q hq
theorem shaped_rowsL (l : List (List Int)) : SeqAt.shaped (.list (l.map intsP)) = true := by
  unfold SeqAt.shaped PyData.canLay0 PyData.depth
  rw [(lay_rows l).1, decide_eq_true (by have := (lay_rows l).2; omega)]
  rfl
theorem eqv_rows : ∀ l m : List (List Int), PyData.eqvAll (l.map intsP) (m.map intsP) = decide (l = m)
  | [], [] => rfl
  | [], _ :: _ => rfl
  | _ :: _, [] => rfl
  | a :: l, b :: m => by
    rw [List.map_cons, List.map_cons, PyData.eqvAll, eqv_rows l m]
    have e : PyData.eqv (intsP a) (intsP b) = decide (a = b) := by
      unfold intsP
      rw [PyData.eqv, eqv_ints]
    rw [e]
    by_cases h : a = b
    · subst h
      by_cases h2 : l = m
      · subst h2
        simp
      · simp [h2]
    · simp [h]
theorem ok__law_due_state {f : Addr} {fd : FuncData} (F : Fun K "_law_due_state" "_law_due_state" s__law_due_state f fd) (T : Txt mg) (Z : PexZ K mg tx) {f__law_due_numbers : Addr} {fd__law_due_numbers : FuncData} (G__law_due_numbers : FnOk P w K mg base CX0 1 f__law_due_numbers fd__law_due_numbers P__law_due_numbers spNumsL) (C__law_due_numbers : Cal K mg "_law_due_numbers" f__law_due_numbers fd__law_due_numbers P__law_due_numbers) {f__law_is_rising : Addr} {fd__law_is_rising : FuncData} (G__law_is_rising : FnOk P w K mg base CX0 1 f__law_is_rising fd__law_is_rising P__law_is_rising spIsR) (C__law_is_rising : Cal K mg "_law_is_rising" f__law_is_rising fd__law_is_rising P__law_is_rising) : FnOk P w K mg base CX0 3 f fd P__law_due_state spStL := by
  refine F.ok sc__law_due_state (fun vs H Q E h => ?_) (fun cdv A outer s H vs Q E hr h => ?_)
  · obtain ⟨x, rfl, _⟩ := h
    rfl
  · obtain ⟨x, rfl, fx, fn, q⟩ := h
    refine ⟨_, (pss_cons (ps_set (i := 1) sc__law_due_state.nd rfl (Or.inl rfl) (pe_split (pv 0) pe_str))
      (pss_cons (ps_if (pt_cmpR op_ne (pe_callB call_len_seq (by rfl) T.n_len (by decide +kernel) (pa_cons (pv 1) pa_nil)) pe_int (nomark _)) (pss_one (ps_ret pe_non)) pss_nil)
      (pss_cons (ps_set (i := 2) sc__law_due_state.nd rfl (Or.inl rfl) (pe_ifExp (pt_cmpR op_ne (pe_ix ix_list (pv 1) pe_int (fun _ _ => rfl)) pe_str (nomark _)) (pe_lc (own := [("_law_one", 3)]) (g := gName 3) (tt := tYes) rfl sc__law_due_state.nd (pi_list (pe_split (pe_ix ix_list (pv 1) pe_int (fun _ _ => rfl)) pe_str)) (blkOk_by (own := [("_law_one", 3)]) (N := ["_law_text", "_law_halves", "_law_classes", "_law_one", "_law_first"]) (sc := (defScope s__law_due_state)) (by decide +kernel)) (fun _ _ _ _ _ => (pg_name (i := 3) sc__law_due_state.nd rfl (Or.inl rfl))) (fun _ _ _ _ _ => pts_nil) (fun _ _ _ _ _ => (pe_call G__law_due_numbers (hr.mono (by decide)) rfl C__law_due_numbers.m C__law_due_numbers.k C__law_due_numbers.b .nil pass0 (pa_cons (pv 3) pa_nil)))) (pe_lst pa_nil)))
      (pss_cons (ps_set (i := 4) sc__law_due_state.nd rfl (Or.inl rfl) (pe_call G__law_due_numbers (hr.mono (by decide)) rfl C__law_due_numbers.m C__law_due_numbers.k C__law_due_numbers.b .nil pass0 (pa_cons (pe_ix ix_list (pv 1) pe_int (fun _ _ => rfl)) pa_nil)))
      (pss_cons (ps_if (PW.pt (pw_or (pt_cmpR (op_neD hr.units) (pe_lc (own := [("_law_one", 3)]) (g := gName 3) rfl sc__law_due_state.nd (pi_list (pe_op op_cat (pv 2) (pe_lst (pa_cons (pv 4) pa_nil)))) (blkOk_by (own := [("_law_one", 3)]) (N := ["_law_text", "_law_halves", "_law_classes", "_law_one", "_law_first"]) (sc := (defScope s__law_due_state)) (by decide +kernel)) (fun _ _ _ _ _ => (pg_name (i := 3) sc__law_due_state.nd rfl (Or.inl rfl))) (fun _ _ _ _ _ => (pts_one (pt_not (pt_val (pe_call G__law_is_rising (hr.mono (by decide)) rfl C__law_is_rising.m C__law_is_rising.k C__law_is_rising.b .nil pass0 (pa_cons (pv 3) pa_nil)))))) (fun _ _ _ _ _ => (pv 3))) (pe_lst pa_nil) (nomark _)) (pw_or1 (pt_cmpR (op_neD hr.units) (pv 2) (pe_callB (cr_sortUS rfl (hu64i hr)) (by rfl) T.n_sorted (by decide +kernel) (pa_cons (pe_callTy (cr_setOfT rfl (hu64i hr)) (by rfl) T.n_set (by decide +kernel) (pa_cons (pv 2) pa_nil)) pa_nil)) (nomark _))))) (pss_one (ps_ret pe_non)) pss_nil)
      (pss_one (ps_ret (pe_tup (pa_cons (pv 4) (pa_cons (pe_callTy call_tuple_of (by rfl) T.n_tuple (by decide +kernel) (pa_cons (pv 2) pa_nil)) pa_nil)))))))))), ?_⟩
    have el : x.length = (TL.tl x).length := TL.len_tl x
    have bad_ : stateD (stD (TL.tl x)) = false → ∀ H', Same H H' → Q .non H' := fun e H' s => q .non H' s (by
      unfold stP
      rw [e]
      exact .non)
    refine ⟨_, rfl, ⟨_, rfl⟩, _, _, rfl, rfl, rfl, by rw [sizeLine_eq]; have := fx.1; omega, fun p1 n1 => ?_⟩
    rw [split_tl (y := " | ") sign_bar (by decide) rfl]
    generalize eh : TL.spl [32, 124, 32] 0 [] (TL.tl x) = hv
    rw [List.map_map]
    generalize g1 : upd _ p1 _ = H1; obtain ⟨e1, o1, t1⟩ := made n1 g1; clear g1
    have s1 := sameOf n1 o1
    refine ⟨_, rfl, p1, _, rfl, .inl (SqL.of t1), rfl, _, rfl, ?_⟩
    rw [List.length_map]
    refine ite2 (fun g => ?_) (fun g => ?_)
    · refine bad_ (no_two ?_) H1 s1
      rw [eh]
      intro z
      rw [z] at g
      exact absurd g (by decide)
    · have l2 : hv.length = 2 := by
        by_cases z : hv.length = 2
        · exact z
        · rw [decide_eq_false fun w => z (by have := V.int.inj w; omega)] at g
          exact absurd rfl g
      obtain ⟨a, r, e2, hc⟩ := is_two (by rw [eh]; exact l2)
      rw [eh] at e2
      subst e2
      have ca : Few a ∧ Few r := by
        have l := cutC_len (TL.tl x)
        have c1 := cutC_count (TL.tl x) 32
        have c2 := cutC_count (TL.tl x) 59
        rw [hc] at l c1 c2
        exact ⟨⟨Nat.le_trans l.1 fx.1, Nat.le_trans c1.1 fx.2.1, Nat.le_trans c2.1 fx.2.2⟩, ⟨Nat.le_trans l.2 fx.1, Nat.le_trans c1.2 fx.2.1, Nat.le_trans c2.2 fx.2.2⟩⟩
      have fa : Fine a := fine_spl (S := [32, 124, 32]) (by decide) fn (by rw [eh]; exact List.mem_cons_self)
      have fr : Fine r := fine_spl (S := [32, 124, 32]) (by decide) fn (by rw [eh]; exact List.mem_cons_of_mem _ List.mem_cons_self)
      obtain ⟨few1, few2⟩ := rowsC_few ca.2.2.1 ca.2.2.2
      refine ⟨_, rfl, _, _, _, _, rfl, rfl, SqL.of t1, rfl, rfl, _, rfl, ?_⟩
      show (if (!decide (V.str (SX.S r) = V.str (Str.ofString "none"))) = true then (?ta : TE) (?sg : L2.St) (?Hx : Hp) (?R : VK) else (?tb : TE) ?sg ?Hx ?R)
      have rest : ∀ (p : Addr) (vs : List V) (H2 : Hp), Same H1 H2 → H2 p = some (.lst vs) → DxAll H2 vs ((rowsC r).map numsP) → ?R (.ref p) H2 := by
        intro p vs H2 s2 hp hv
        refine ⟨_, rfl, _, _, _, _, rfl, rfl, SqL.of (s2 _ _ t1), rfl, ?_⟩
        refine ⟨SX.S a, rfl, by rw [TL.len_tl, tl_S]; exact ca.1.1, by rw [tl_S]; exact fa, fun v2 H3 s3 hv2 => ?_⟩
        rw [tl_S] at hv2
        refine ⟨_, rfl, _, rfl, szr rfl, fun p2 n2 => ?_⟩
        generalize g2 : upd _ p2 _ = H4; obtain ⟨e4, o4, t4⟩ := made n2 g2; clear g2
        have s4 := sameOf n2 o4
        have hp4 := s4 _ _ (s3 _ _ hp)
        have lv := hv.len
        rw [List.length_map] at lv
        refine ⟨_, _, _, _, rfl, rfl, hp4, t4, by show vs.length + 1 ≤ _; rw [lv, sizeLine_eq]; omega, fun p3 n3 => ?_⟩
        generalize g3 : upd _ p3 _ = H5; obtain ⟨e5, o5, t5⟩ := made n3 g3; clear g3
        have s5 := sameOf n3 o5
        have dAll : DxAll H5 (vs ++ [v2]) ((rowsC r ++ [numsC a]).map numsP) := by
          rw [List.map_append]
          exact DxAll.app (((hv.same s3).same s4).same s5) (.cons ((hv2.same s4).same s5) .nil)
        generalize eos : rowsC r ++ [numsC a] = os at dAll
        have few3 : ∀ o ∈ os, ∃ p : List Nat, o = numsC p ∧ p.count 32 ≤ 62 := fun o ho => by
          rw [← eos] at ho
          rcases List.mem_append.mp ho with ho | ho
          · exact few2 o ho
          · rw [List.mem_singleton.mp ho]
            exact ⟨a, rfl, ca.1.2.1⟩
        have los : os.length ≤ 64 := by rw [← eos, List.length_append]; show _ + 1 ≤ 64; omega
        refine ⟨_, rfl, ⟨_, SqL.of t5⟩, fun D hD => ?_⟩
        refine lc_list (K := K) (a := p3) (xs := vs ++ [v2]) (fun j G => Same H5 G ∧ ∃ ws, G D = some (.lst ws) ∧ ws.length ≤ j ∧ DxAll G ws (((os.take j).filter fun o => !riseO o).map numsP)) ⟨sameOf hD (fun b hb => upd_ne hb), [], upd_same, Nat.le_refl _, .nil⟩ (fun i G _ h => SqL.of (h.1 _ _ t5)) ?_ ?_
        · rintro j y G hj ⟨sg, ws, hl, lw, hw⟩
          obtain ⟨d, hd, xd⟩ := dAll.get hj
          rw [List.getElem?_map] at hd
          cases ho : os[j]? with
          | none => rw [ho] at hd; cases hd
          | some o =>
            rw [ho] at hd
            cases hd
            have jl := (List.getElem?_eq_some_iff.mp ho).1
            obtain ⟨pp, epp, cpp⟩ := few3 o (List.mem_of_getElem? ho)
            refine ⟨rfl, ?_⟩
            refine ⟨_, rfl, y, o, rfl, xd.same sg, fun l el => by rw [epp] at el; have := numsC_len el; omega, fun G6 s6 => ?_⟩
            refine ⟨_, rfl, ?_⟩
            cases er : riseO o with
            | true =>
              refine iteF ?_
              refine ⟨sg.trans s6, ws, s6 _ _ hl, by omega, ?_⟩
              rw [List.take_add_one, ho, Option.toList_some, List.filter_append, show [o].filter (fun o => !riseO o) = [] from by simp [er], List.append_nil]
              exact hw.same s6
            | false =>
              refine iteT ?_
              have ev : Ev2 G6 (upd G6 D (.lst (ws ++ [y]))) := Ev2.lst (s6 _ _ hl)
              refine ⟨_, rfl, _, s6 _ _ hl, szlt (by omega), fun b z ez => ?_, ws ++ [y], upd_same, by rw [List.length_append]; show _ + 1 ≤ _; omega, ?_⟩
              · rw [upd_ne (ne_of_none ez hD)]
                exact s6 _ _ (sg _ _ ez)
              · rw [List.take_add_one, ho, Option.toList_some, List.filter_append, show [o].filter (fun o => !riseO o) = [o] from by simp [er], List.map_append]
                exact DxAll.app ((hw.same s6).mono ev (lf_numsAll _)) (.cons (((xd.same sg).same s6).mono ev (lf_nums _)) .nil)
        · rintro G ⟨sg, ws, hl, lw, hw⟩
          have lvo := dAll.len
          rw [List.length_map] at lvo
          rw [lvo, List.take_length] at hw
          generalize eb : (os.filter fun o => !riseO o) = bad at hw
          refine ⟨szr rfl, fun p4 n4 => ?_⟩
          generalize g4 : upd _ p4 _ = G4; obtain ⟨e4', o4', t4'⟩ := made n4 g4; clear g4
          have sG := sameOf n4 o4'
          have sm := (((((s1.trans s2).trans s3).trans s4).trans s5).trans sg).trans sG
          refine ⟨.list (bad.map numsP), .list [], (Dx.lst (sG _ _ hl) (hw.same sG)).dp (df_nums bad), (Dx.lst t4' .nil).dp rfl, shaped_nums bad, rfl, _, rfl, ?_⟩
          cases ebz : bad with
          | cons b0 br =>
            refine iteT ?_
            refine bad_ ?_ G4 sm
            rw [st_cut hc]
            cases z : (riseO (numsC a) && ((rowsC r).all riseO && ascD ((rowsC r).map numsP))) with
            | false => rfl
            | true =>
              simp only [Bool.and_eq_true] at z
              have hb0 : b0 ∈ os.filter fun o => !riseO o := by rw [eb, ebz]; exact List.mem_cons_self
              obtain ⟨m1, m2⟩ := List.mem_filter.mp hb0
              rw [← eos] at m1
              rcases List.mem_append.mp m1 with m1 | m1
              · rw [List.all_eq_true.mp z.2.1 b0 m1] at m2
                cases m2
              · rw [List.mem_singleton.mp m1, z.1] at m2
                cases m2
          | nil =>
            have allr : ∀ o ∈ os, riseO o = true := fun o ho => by
              cases z : riseO o with
              | true => rfl
              | false =>
                have : o ∈ os.filter fun o => !riseO o := List.mem_filter.mpr ⟨ho, by rw [z]; rfl⟩
                rw [eb, ebz] at this
                cases this
            have r1 : riseO (numsC a) = true := allr _ (by rw [← eos]; exact List.mem_append_right _ (List.mem_singleton_self _))
            have r2 : ∀ o ∈ rowsC r, riseO o = true := fun o ho => allr o (by rw [← eos]; exact List.mem_append_left _ ho)
            obtain ⟨ls, els⟩ := all_some r2
            rw [els] at hv
            have hv : DxAll H2 vs (ls.map intsP) := by
              have := hv
              rw [List.map_map] at this
              exact this
            obtain ⟨ks, ev, ek, hk⟩ := rows_at hv
            have sm2 : Same H2 G4 := ((((s3.trans s4).trans s5).trans sg).trans sG)
            have lks : ks.length ≤ 63 := by
              have h1 := congrArg List.length ek
              have h2 := congrArg List.length els
              rw [List.length_map] at h1 h2
              omega
            refine iteF ?_
            have hpG : G4 p = some (.lst (ks.map fun q => V.ref q.1)) := by rw [← ev]; exact sm2 _ _ hp
            refine ⟨_, rfl, _, rfl, p, ks, rfl, SqL.of hpG, fun q hq => SqT.of (sm2 _ _ (hk q hq)), by omega, fun a9 L na9 sub all => ?_⟩
            generalize g10 : upd _ a9 _ = H10; obtain ⟨e10, o10, t10⟩ := made na9 g10; clear g10
            have s10 := sameOf na9 o10
            have hk10 : ∀ q ∈ L, H10 q.1 = some (.tup (q.2.map V.int)) := fun q hq => s10 _ _ (sm2 _ _ (hk q (sub q hq)))
            refine ⟨a9, L, rfl, t10, hk10, fun as pp pm nd l64 pw np => ?_⟩
            generalize g11 : upd _ pp _ = H11; obtain ⟨e11, o11, t11⟩ := made np g11; clear g11
            have s11 := sameOf np o11
            have pr : (as.map (intsAt H10)).Perm (L.map Prod.snd) := by
              have := pm.map (intsAt H10)
              rw [List.map_map, show L.map (intsAt H10 ∘ Prod.fst) = L.map Prod.snd from List.map_congr_left fun q hq => intsAt_of (hk10 q hq)] at this
              exact this
            have ndr : (as.map (intsAt H10)).Nodup := pr.nodup_iff.mpr nd
            have pw2 : (as.map (intsAt H10)).Pairwise (fun a b => HT.lexLt b a = false) := List.pairwise_map.mpr pw
            have sal : (as.map (intsAt H10)).Pairwise (fun a b => HT.lexLt a b = true) := by
              refine (pw2.and ndr).imp fun {a b} xy => ?_
              cases z : HT.lexLt a b with
              | true => rfl
              | false => exact absurd (lex_tot z xy.1) xy.2
            have mem : ∀ l, l ∈ as.map (intsAt H10) ↔ l ∈ ls := fun l => by
              rw [pr.mem_iff, ← ek]
              constructor
              · intro hl
                obtain ⟨q, hq, rfl⟩ := List.mem_map.mp hl
                exact List.mem_map_of_mem (sub q hq)
              · intro hl
                obtain ⟨q, hq, rfl⟩ := List.mem_map.mp hl
                exact all q hq
            have sm11 : Same H2 H11 := (sm2.trans s10).trans s11
            have drs : DxAll H11 (as.map V.ref) ((as.map (intsAt H10)).map intsP) := dx_refs fun b hb => by
              obtain ⟨q, hq, e⟩ := List.mem_map.mp (pm.mem_iff.mp hb)
              have := hk10 q hq
              have e2 : intsAt H10 b = q.2 := by rw [← e]; exact intsAt_of this
              rw [e2, ← e]
              exact s11 _ _ this
            refine ⟨.list (ls.map intsP), .list ((as.map (intsAt H10)).map intsP), (Dx.lst (sm11 _ _ hp) (hv.same sm11)).dp (df_rows _), (Dx.lst t11 drs).dp (df_rows _), shaped_rowsL _, shaped_rowsL _, _, rfl, ?_⟩
            rw [show PyData.eqv (.list (ls.map intsP)) (.list ((as.map (intsAt H10)).map intsP)) = decide (ls = as.map (intsAt H10)) from by rw [PyData.eqv, eqv_rows]]
            have stc : stateD (stD (TL.tl x)) = ascD (ls.map intsP) := by
              rw [st_cut hc, r1, show (rowsC r).all riseO = true from List.all_eq_true.mpr r2, els, List.map_map]
              rfl
            have sml : Same H H11 := (s1.trans s2).trans sm11
            cases ea : ascD (ls.map intsP) with
            | false =>
              rw [decide_eq_false fun z => by
                rw [← z] at sal
                rw [(asc_rows ls).mpr sal] at ea
                cases ea]
              refine iteT ?_
              exact bad_ (stc.trans ea) H11 sml
            | true =>
              have pl := (asc_rows ls).mp ea
              have ndl : ls.Nodup := pl.imp fun z => lex_ne z
              have eq : as.map (intsAt H10) = ls := sort_uniq ((List.perm_ext_iff_of_nodup ndr ndl).mpr mem) pw2 pl
              rw [decide_eq_true eq.symm]
              refine iteF ?_
              refine ⟨_, rfl, _, rfl, _, _, rfl, .inl ⟨SqL.of (sm11 _ _ hp), fun p5 n5 => ?_⟩⟩
              generalize g5 : upd _ p5 _ = H12; obtain ⟨e12, o12, t12⟩ := made n5 g5; clear g5
              have s12 := sameOf n5 o12
              refine ⟨szr rfl, fun p6 n6 => ?_⟩
              generalize g6 : upd _ p6 _ = H13; obtain ⟨e13, o13, t13⟩ := made n6 g6; clear g6
              have s13 := sameOf n6 o13
              refine q _ H13 ((sml.trans s12).trans s13) ?_
              unfold stP
              rw [stc, ea]
              show Dx H13 _ (stD (TL.tl x))
              have eS : stD (TL.tl x) = .tuple [numsP (numsC a), .tuple ((rowsC r).map numsP)] := by
                unfold stD
                rw [hc]
              rw [eS, els, List.map_map]
              have s311 : Same H3 H11 := ((((s4.trans s5).trans sg).trans sG).trans s10).trans s11
              exact .tup t13 (.cons (((hv2.same s311).same s12).same s13) (.cons (.tup (s13 _ _ t12) (((hv.same sm11).same s12).same s13)) .nil))
      refine ite2 (fun g => ?_) (fun g => ?_)
      · have nd : r ≠ noneC := fun z => by
          rw [decide_eq_true (str_is.mpr (show r = _ from z.trans sign_none.symm))] at g
          cases g
        have eR : rowsC r = (TL.spl [59, 32] 0 [] r).map numsC := if_neg nd
        refine ⟨_, rfl, _, _, _, _, rfl, rfl, SqL.of t1, rfl, ⟨_, rfl⟩, _, _, rfl, rfl, rfl, by rw [sizeLine_eq, TL.len_tl]; have := ca.2.1; show r.length + 2 ≤ _; omega, fun p2 n2 => ?_⟩
        rw [split_tl (y := "; ") sign_semi (by decide) rfl, tl_S]
        generalize ews : TL.spl [59, 32] 0 [] r = ws at *
        have lws : ws.length ≤ 4001 := by
          have := spl_len [59, 32] r 0 []
          rw [ews] at this
          have := ca.2.1
          omega
        have lw : ∀ w ∈ ws, w.length ≤ 4000 ∧ Fine w := fun w hw => by
          rw [← ews] at hw
          refine ⟨?_, fine_spl (by decide) fr hw⟩
          have := spl_mem [59, 32] r 0 [] w hw
          rw [List.length_nil] at this
          have := ca.2.1
          omega
        rw [List.map_map]
        generalize g2 : upd _ p2 _ = H2; obtain ⟨e2, o2, t2⟩ := made n2 g2; clear g2
        have s2 := sameOf n2 o2
        refine ⟨_, rfl, ⟨_, SqL.of t2⟩, fun D hD => ?_⟩
        refine lc_list (K := K) (a := p2) (xs := ws.map (V.str ∘ SX.S)) (fun j H' => Same H2 H' ∧ ∃ vs, H' D = some (.lst vs) ∧ vs.length = j ∧ DxAll H' vs (((ws.take j).map numsC).map numsP)) ⟨sameOf hD (fun b hb => upd_ne hb), [], upd_same, rfl, .nil⟩ (fun i H' _ h => SqL.of (h.1 _ _ t2)) ?_ ?_
        · rintro j y H' hj ⟨sm, vs, hl, lv, hv⟩
          rw [List.getElem?_map] at hj
          cases hw : ws[j]? with
          | none => rw [hw] at hj; cases hj
          | some w =>
            rw [hw] at hj
            cases hj
            have hj2 := (List.getElem?_eq_some_iff.mp hw).1
            have lww := lw w (List.mem_of_getElem? hw)
            refine ⟨rfl, ?_⟩
            refine ⟨_, rfl, SX.S w, rfl, by rw [TL.len_tl, tl_S]; exact lww.1, by rw [tl_S]; exact lww.2, fun v5 H5 s5 hv5 => ?_⟩
            rw [tl_S] at hv5
            refine ⟨_, s5 _ _ hl, szlt (by omega), fun b o e => ?_, vs ++ [v5], upd_same, by rw [List.length_append, lv]; rfl, ?_⟩
            · rw [upd_ne (ne_of_none e hD)]
              exact s5 _ _ (sm _ _ e)
            · have ev : Ev2 H5 (upd H5 D (.lst (vs ++ [v5]))) := Ev2.lst (s5 _ _ hl)
              rw [List.take_add_one, List.map_append, List.map_append, hw]
              exact DxAll.app ((hv.same s5).mono ev (lf_numsAll _)) (.cons (hv5.mono ev (lf_nums _)) .nil)
        · rintro H5 ⟨sm, vs, hl, lv, hv⟩
          rw [List.length_map] at lv
          rw [List.length_map, List.take_length] at hv
          exact rest D vs H5 (s2.trans sm) hl (by rw [eR]; exact hv)
      · refine ⟨szr rfl, fun p n => rest p [] _ (sameOf n fun b hb => upd_ne hb) upd_same ?_⟩
        have e : r = noneC := by
          by_cases z : V.str (SX.S r) = V.str (Str.ofString "none")
          · have := str_is.mp z
            rw [tl_S] at this
            exact this.trans sign_none
          · rw [decide_eq_false z] at g
            exact absurd rfl g
        have e2 : rowsC r = [] := by
          unfold rowsC
          rw [if_pos e]
        rw [e2]
        exact .nil

/-! ### the law's own reading of a table -/
structure TabE' (H : Hp) (a : Addr) (es : List (List Int × PyData)) : Prop where
  ex : ∃ kvs : List (List Key × V), H a = some (.dT kvs) ∧ kvs.map Prod.fst = es.map (fun e => e.1.map Sum.inl) ∧ DxAll (del H a) (kvs.map Prod.snd) (es.map Prod.snd)
def spTabL : Sp := fun vs H Q _ => ∃ x : Str, vs = [.str x] ∧ Few (TL.tl x) ∧ Fine (TL.tl x) ∧ (∀ i, tabC (TL.tl x) = .inl i → ∀ H', Same H H' → Q (.int (i : Nat)) H') ∧ (∀ es, tabC (TL.tl x) = .inr es → ∀ a H', Same H H' → TabE H' a es → Q (.ref a) H')
mutual
theorem dx_del {H : Hp} {a : Addr} {kvs : List (List Key × V)} (ha : H a = some (.dT kvs)) : ∀ {d : PyData} {v : V}, Dx H v d → dictfree d = true → Dx (del H a) v d
  | _, _, .non, _ => .non
  | _, _, .bl b, _ => .bl b
  | _, _, .int i, _ => .int i
  | _, _, .str x, _ => .str x
  | _, _, .lst h1 h2, f => .lst (by rw [del_ne (fun z => by rw [z, ha] at h1; cases h1)]; exact h1) (dx_delAll ha h2 f)
  | _, _, .tup h1 h2, f => .tup (by rw [del_ne (fun z => by rw [z, ha] at h1; cases h1)]; exact h1) (dx_delAll ha h2 f)
theorem dx_delAll {H : Hp} {a : Addr} {kvs : List (List Key × V)} (ha : H a = some (.dT kvs)) : ∀ {ds : List PyData} {vs : List V}, DxAll H vs ds → dictfreeAll ds = true → DxAll (del H a) vs ds
  | _, _, .nil, _ => .nil
  | _, _, .cons h1 h2, f => .cons (dx_del ha h1 (Bool.and_eq_true_iff.mp f).1) (dx_delAll ha h2 (Bool.and_eq_true_iff.mp f).2)
end
theorem df_stD (t : List Nat) : dictfree (stD t) = true := by
  show (dictfree (numsP (numsC (cutC t).1)) && (dictfreeAll ((rowsC (cutC t).2).map numsP) && true)) = true
  rw [df_nums]
  cases numsC (cutC t).1 with
  | none => rfl
  | some l =>
    show (dictfreeAll (l.map PyData.int) && true) = true
    rw [df_ints]
    rfl
theorem sign_bad {t : List Nat} (h : 58 ∈ t) : stateD (stD t) = false := by
  have numN : ∀ p : List Nat, 58 ∈ p → numsC p = none := fun p hp => by
    cases e : numsC p with
    | none => rfl
    | some l =>
      have := numsC_signs e 58 hp
      omega
  have rowN : ∀ r : List Nat, 58 ∈ r → (rowsC r).all riseO = false := fun r hr => by
    have nn : r ≠ noneC := fun z => by rw [z] at hr; exact absurd hr (by decide)
    unfold rowsC
    rw [if_neg nn]
    rcases spl_sign (S := [59, 32]) (by decide) hr with z | ⟨p, hp, z⟩
    · exact absurd z (by decide)
    · rw [List.all_eq_false]
      exact ⟨numsC p, List.mem_map_of_mem hp, by rw [numN p z]; decide⟩
  rcases par_spl (S := [32, 124, 32]) (by decide) t [] with ⟨h1, h2⟩ | ⟨a, r, h1, h2, e⟩
  · have hc : cutC t = (t, []) := by unfold cutC; rw [h1]
    rw [st_cut hc, numN t h]
    rfl
  · have hc : cutC t = (a, r) := by unfold cutC; rw [h1]
    rw [st_cut hc]
    have e : t = a ++ ([32, 124, 32] ++ r) := e
    rw [e] at h
    rcases List.mem_append.mp h with h | h
    · rw [numN a h]
      rfl
    · rcases List.mem_append.mp h with h | h
      · exact absurd h (by decide)
      · rw [rowN r h, Bool.false_and, Bool.and_false]
theorem st_nil : stateD (stD []) = false := by
  have hc : cutC [] = ([], []) := by decide
  rw [st_cut hc]
  have : numsC [] = none := by decide
  rw [this]
  rfl
/-- the halves of a line, as the law cuts them -/
theorem line_two {t : List Nat} (h : (TL.spl [58, 32] 0 [] t).length = 2) : ∃ a r, TL.spl [58, 32] 0 [] t = [a, r] ∧ cutL t = (a, r) := by
  rcases par_spl (S := [58, 32]) (by decide) t [] with ⟨h1, h2⟩ | ⟨a, r, h1, h2, _⟩
  · rw [h2] at h
    cases h
  · refine ⟨a, r, ?_, by unfold cutL; rw [h1]⟩
    rw [h2, List.length_cons] at h
    rcases par_spl (S := [58, 32]) (by decide) r [] with ⟨_, h4⟩ | ⟨b, r2, _, h4, _⟩
    · rw [h2, h4]
      rfl
    · rw [h4, List.length_cons] at h
      have := List.length_pos_iff.mpr (spl_ne (S := [58, 32]) (by decide) r2)
      omega
theorem line_not {t : List Nat} (h : (TL.spl [58, 32] 0 [] t).length ≠ 2) : entO t = none := by
  have bad : stateD (stD (cutL t).2) = false := by
    rcases par_spl (S := [58, 32]) (by decide) t [] with ⟨h1, h2⟩ | ⟨a, r, h1, h2, _⟩
    · rw [show (cutL t).2 = [] from by unfold cutL; rw [h1]]
      exact st_nil
    · rw [show (cutL t).2 = r from by unfold cutL; rw [h1]]
      rw [h2, List.length_cons] at h
      have l2 : 2 ≤ (TL.spl [58, 32] 0 [] r).length := by
        have := List.length_pos_iff.mpr (spl_ne (S := [58, 32]) (by decide) r)
        omega
      refine sign_bad ?_
      rw [← spl_back (S := [58, 32]) (by decide) r.length r (Nat.le_refl _)]
      exact joinL_has l2 (by simp)
  unfold entO
  cases keyO (numsC (cutL t).1) with
  | none => rfl
  | some k =>
    show (if stateD (stD (cutL t).2) = true then _ else _) = _
    rw [bad]
    rfl
def lastK (acc : List (List Int × PyData)) : List Int := match acc.getLast? with
  | some l => l.1
  | none => [-1, -1]
theorem bad_last {acc : List (List Int × PyData)} {e : List Int × PyData} (h : e.1.length = 2) (hp : ∀ i ∈ e.1, 0 ≤ i) : badE acc e = !HT.lexLt (lastK acc) e.1 := by
  unfold badE lastK
  cases acc.getLast? with
  | some l => rfl
  | none =>
    obtain ⟨i, j, e1⟩ : ∃ i j, e.1 = [i, j] := by
      match e.1, h with
      | [i, j], _ => exact ⟨i, j, rfl⟩
    rw [e1] at hp ⊢
    have hi := hp i List.mem_cons_self
    show false = !(if (-1 : Int) = i then _ else decide ((-1 : Int) < i))
    rw [if_neg (by omega), decide_eq_true (by omega)]
    rfl
theorem put_new {kvs : List (List Key × V)} {k : List Key} {v : V} (h : k ∉ kvs.map Prod.fst) : putK kvs k v = kvs ++ [(k, v)] := by
  unfold putK
  rw [if_neg]
  intro z
  obtain ⟨kv, hm, he⟩ := List.any_eq_true.mp z
  exact h (List.mem_map.mpr ⟨kv, hm, of_decide_eq_true he⟩)
theorem key_new {acc : List (List Int × PyData)} {e : List Int × PyData} (pw : (acc ++ [e]).Pairwise (fun e f => HT.lexLt e.1 f.1 = true)) : (e.1.map Sum.inl : List Key) ∉ acc.map (fun e => (e.1.map Sum.inl : List Key)) := fun m => by
  obtain ⟨f, hf, he⟩ := List.mem_map.mp m
  have := (List.pairwise_append.mp pw).2.2 f hf e (List.mem_singleton_self _)
  exact lex_ne this (inl_inj he)
theorem fine_line {t p : List Nat} (h : Fine t) (hp : p ∈ linesC t) : Fine p := by
  unfold linesC at hp
  split at hp
  · cases hp
  · exact fine_spl (by decide) h hp
theorem ok__law_due_table {f : Addr} {fd : FuncData} (F : Fun K "_law_due_table" "_law_due_table" s__law_due_table f fd) (T : Txt mg) (Z : PexZ K mg tx) {f__law_due_numbers : Addr} {fd__law_due_numbers : FuncData} (G__law_due_numbers : FnOk P w K mg base CX0 1 f__law_due_numbers fd__law_due_numbers P__law_due_numbers spNumsL) (C__law_due_numbers : Cal K mg "_law_due_numbers" f__law_due_numbers fd__law_due_numbers P__law_due_numbers) {f__law_due_state : Addr} {fd__law_due_state : FuncData} (G__law_due_state : FnOk P w K mg base CX0 3 f__law_due_state fd__law_due_state P__law_due_state spStL) (C__law_due_state : Cal K mg "_law_due_state" f__law_due_state fd__law_due_state P__law_due_state) : FnOk P w K mg base CX0 4 f fd P__law_due_table spTabL := by
  refine F.ok sc__law_due_table (fun vs H Q E h => ?_) (fun cdv A outer s H vs Q E hr h => ?_)
  · obtain ⟨x, rfl, _⟩ := h
    rfl
  · obtain ⟨x, rfl, fx, fn, q1, q2⟩ := h
    refine ⟨_, (pss_cons (ps_par (i := 1) (j := 2) (by rfl) sc__law_due_table.nd rfl rfl (by decide) rfl rfl (pa_cons pe_dnewT (pa_cons (pe_tup (pa_cons (pe_un un_neg pe_int) (pa_cons (pe_un un_neg pe_int) pa_nil))) pa_nil)) (by rfl))
      (pss_cons (ps_for PassesOwn.never rfl (pi_seqU (pe_ifExp (pt_cmpR op_ne (pv 0) pe_str (nomark _)) (pe_split (pv 0) pe_str) (pe_tup pa_nil))) (pg_name (i := 3) sc__law_due_table.nd rfl (Or.inl rfl)) (pss_cons (ps_par (i := 4) (j := 5) (by rfl) sc__law_due_table.nd rfl rfl (by decide) rfl rfl (pa_cons (pe_split (pv 3) pe_str) (pa_cons (pe_callB call_len_dT (by rfl) T.n_len (by decide +kernel) (pa_cons (pv 1) pa_nil)) pa_nil)) (by rfl))
      (pss_cons (ps_set (i := 6) sc__law_due_table.nd rfl (Or.inl rfl) (pe_call G__law_due_numbers (hr.mono (by decide)) rfl C__law_due_numbers.m C__law_due_numbers.k C__law_due_numbers.b .nil pass0 (pa_cons (pe_ix ix_list (pv 4) pe_int (fun _ _ => rfl)) pa_nil)))
      (pss_cons (ps_set (i := 7) sc__law_due_table.nd rfl (Or.inl rfl) (pe_ifExp (pt_cmpR op_eq (pe_callB call_len_seq (by rfl) T.n_len (by decide +kernel) (pa_cons (pv 4) pa_nil)) pe_int (nomark _)) (pe_call G__law_due_state (hr.mono (by decide)) rfl C__law_due_state.m C__law_due_state.k C__law_due_state.b .nil pass0 (pa_cons (pe_ix ix_list (pv 4) pe_int (fun _ _ => rfl)) pa_nil)) pe_non))
      (pss_cons (ps_if (PW.pt (pw_or (pt_cmpR op_isN (pv 7) pe_non (nomark _)) (pw_or (pt_cmpR op_isN (pv 6) pe_non (nomark _)) (pw_or (pt_cmpR op_ne (pe_callB call_len_seq (by rfl) T.n_len (by decide +kernel) (pa_cons (pv 6) pa_nil)) pe_int (nomark _)) (pw_or1 (pt_cmpR (op_leT (by have z := hu65 hr; exact Nat.lt_of_le_of_lt (Nat.le_add_right _ _) z)) (pv 6) (pv 2) (nomark _))))))) (pss_one (ps_ret (pv 5))) pss_nil)
      (pss_one (ps_asg (pe_tup (pa_cons (pv 7) (pa_cons (pv 6) pa_nil))) (pg_tup rfl (pgs_cons (pg_sub (pv 1) (pv 6) (set_dict (hu_of hr))) (pgs_cons (pg_name (i := 2) sc__law_due_table.nd rfl (Or.inl rfl)) pgs_nil))))))))))
      (pss_one (ps_ret (pv 1))))), ?_⟩
    have el : x.length = (TL.tl x).length := TL.len_tl x
    refine fun p1 n1 => ?_
    generalize g1 : upd _ p1 _ = H1; obtain ⟨e1, o1, t1⟩ := made n1 g1; clear g1
    have s1 := sameOf n1 o1
    refine ⟨_, rfl, _, rfl, szr rfl, fun p2 n2 => ?_⟩
    generalize g2 : upd _ p2 _ = H2; obtain ⟨e2, o2, t2⟩ := made n2 g2; clear g2
    have s2 := sameOf n2 o2
    refine ⟨_, _, rfl, ?_⟩
    refine ⟨_, rfl, rfl, _, rfl, ?_⟩
    refine ite2 (fun g => ?_) (fun g => ?_)
    · have nd : TL.tl x ≠ noneC := fun z => by
        rw [decide_eq_true (str_is.mpr (z.trans sign_none.symm))] at g
        cases g
      refine ⟨_, rfl, ⟨_, rfl⟩, _, _, rfl, rfl, rfl, by rw [sizeLine_eq]; have := fx.1; omega, fun p2' n2' => ?_⟩
      rw [split_tl (y := "\n") sign_nl (by decide) rfl]
      have eL : linesC (TL.tl x) = TL.spl [10] 0 [] (TL.tl x) := by unfold linesC; rw [if_neg nd]
      rw [← eL]
      generalize els : linesC (TL.tl x) = ls at *
      rw [List.map_map]
      generalize g3 : upd _ p2' _ = H3; obtain ⟨e3, o3, t3⟩ := made n2' g3; clear g3
      have s3 := sameOf n2' o3
      have n21 : p2' ≠ p1 := (ne_of_none (s2 _ _ t1) n2').symm
      refine ⟨_, rfl, .inl ⟨_, SqL.of t3, for_list (K := K) (xs := ls.map (V.str ∘ SX.S)) (fun i σ H' => ∃ (acc : List (List Int × PyData)) (kvs : List (List Key × V)) (q2 : Addr) (a3 a4 a5 a6 a7 : Option V), σ = [some (.str x), some (.ref p1), some (.ref q2), a3, a4, a5, a6, a7] ∧ Same H H' ∧ H' p2' = some (.lst (ls.map (V.str ∘ SX.S))) ∧ H' p1 = some (.dT kvs) ∧ kvs.map Prod.fst = acc.map (fun e => (e.1.map Sum.inl : List Key)) ∧ DxAll (del H' p1) (kvs.map Prod.snd) (acc.map Prod.snd) ∧ H' q2 = some (.tup ((lastK acc).map V.int)) ∧ (lastK acc).length = 2 ∧ acc.length = i ∧ tabGo ls [] = tabGo (ls.drop i) acc ∧ acc.Pairwise (fun e f => HT.lexLt e.1 f.1 = true))
        ⟨[], [], p2, _, _, _, _, _, rfl, (s1.trans s2).trans s3, t3, s3 _ _ (s2 _ _ t1), rfl, .nil, s3 _ _ t2, rfl, rfl, rfl, .nil⟩ (fun i σ H' _ ⟨_, _, _, _, _, _, _, _, _, _, h, _⟩ => SqL.of h) ?_ ?_⟩⟩
      · rintro i y σ E1 hi ⟨acc, kvs, q2', a3, a4, a5, a6, a7, rfl, sm, hp, hd1, hks, hv, hq, lq, la, hg, pw⟩
        rw [List.getElem?_map] at hi
        cases hw : ls[i]? with
        | none => rw [hw] at hi; cases hi
        | some t =>
          rw [hw] at hi
          cases hi
          obtain ⟨li, ei⟩ := List.getElem?_eq_some_iff.mp hw
          have tm := List.mem_of_getElem? hw
          rw [List.drop_eq_getElem_cons li, ei] at hg
          have ft : Few t := few_line fx (by rw [els]; exact tm)
          have fnt : Fine t := fine_line fn (by rw [els]; exact tm)
          have li2 : i < 4001 := by
            have := linesC_len fx
            rw [els] at this
            omega
          refine ⟨_, rfl, ⟨_, rfl⟩, _, _, rfl, rfl, rfl, by rw [sizeLine_eq, TL.len_tl]; have := ft.1; show t.length + 2 ≤ _; omega, fun p3 n3 => ?_⟩
          rw [split_tl (y := ": ") sign_colon (by decide) rfl, tl_S]
          generalize ehs : TL.spl [58, 32] 0 [] t = hs at *
          generalize g4 : upd _ p3 _ = H4; obtain ⟨e4, o4, t4⟩ := made n3 g4; clear g4
          have s4 := sameOf n3 o4
          have hne : hs ≠ [] := by rw [← ehs]; exact spl_ne (by decide) t
          obtain ⟨h0, hr0, eh⟩ : ∃ h0 hr0, hs = h0 :: hr0 := by
            cases z : hs with
            | nil => exact absurd z hne
            | cons a r => exact ⟨a, r, rfl⟩
          have fin : ∀ p ∈ hs, Few p ∧ Fine p := fun p hp => by
            rw [← ehs] at hp
            have a := spl_count (c := 32) (show ([58, 32] : List Nat) ≠ [] by decide) hp
            have b := spl_count (c := 59) (show ([58, 32] : List Nat) ≠ [] by decide) hp
            have c := spl_mem [58, 32] t 0 [] p hp
            rw [List.length_nil] at c
            have := ft.1
            have := ft.2.1
            have := ft.2.2
            exact ⟨⟨by omega, by omega, by omega⟩, fine_spl (by decide) fnt hp⟩
          refine ⟨_, rfl, _, _, rfl, s4 _ _ hd1, _, _, rfl, ?_⟩
          refine ⟨_, rfl, _, _, 0, .str (SX.S h0), rfl, rfl, SqL.of t4, by rw [eh]; exact atI_nat (j := 0) rfl, ?_⟩
          have f0 := fin h0 (by rw [eh]; exact List.mem_cons_self)
          refine ⟨SX.S h0, rfl, by rw [TL.len_tl, tl_S]; exact f0.1.1, by rw [tl_S]; exact f0.2, fun vk H5 s5 hk => ?_⟩
          rw [tl_S] at hk
          have lkv : kvs.length = i := by
            have := congrArg List.length hks
            rw [List.length_map, List.length_map] at this
            omega
          have out : tabGo ls [] = .inl i → ∀ H', Same H H' → Q (.int (kvs.length : Nat)) H' := fun ez H' s9 => by
            rw [lkv]
            exact q1 i (by unfold tabC; rw [els]; exact ez) H' s9
          refine ⟨_, rfl, _, _, rfl, .inl (SqL.of (s5 _ _ t4)), rfl, _, rfl, ?_⟩
          have ek5 : Same H H5 := (sm.trans s4).trans s5
          refine ite2 (fun g2 => ?_) (fun g2 => ?_)
          · have l2 : hs.length = 2 := by
              have z := V.int.inj (of_decide_eq_true g2)
              rw [List.length_map, List.length_map] at z
              omega
            obtain ⟨a, r, e2, hc⟩ := line_two (by rw [ehs]; exact l2)
            rw [ehs] at e2
            subst e2
            cases eh
            have fr := fin r (List.mem_cons_of_mem _ List.mem_cons_self)
            refine ⟨_, rfl, _, _, 1, .str (SX.S r), rfl, rfl, SqL.of (s5 _ _ t4), rfl, ?_⟩
            refine ⟨SX.S r, rfl, by rw [tl_S]; exact fr.1, by rw [tl_S]; exact fr.2, fun v7 H6 s6 h7 => ?_⟩
            rw [tl_S] at h7
            have ek6 := ek5.trans s6
            have en0 : entO t = (match keyO (numsC h0) with
              | some k => if stateD (stD r) = true then some (k, stD r) else none
              | none => none) := by
              unfold entO
              rw [hc]
              try rfl
            have none_ : entO t = none → ∀ H', Same H H' → Q (.int (kvs.length : Nat)) H' := fun en => out (by
              rw [hg]
              show (match entO t with | some e => if badE acc e = true then _ else _ | none => _) = _
              rw [en, la])
            refine ⟨_, rfl, rfl, _, rfl, ?_⟩
            cases es : stateD (stD r) with
            | false =>
              unfold stP at h7
              rw [es] at h7
              cases h7
              refine iteT ?_
              refine ⟨_, rfl, ?_⟩
              refine none_ ?_ H6 ek6
              rw [en0, es]
              cases keyO (numsC h0) <;> rfl
            | true =>
              unfold stP at h7
              rw [es] at h7
              have h7 : Dx H6 v7 (stD r) := h7
              have nv7 : v7 ≠ .non := fun z => by
                rw [z] at h7
                unfold stD at h7
                cases h7
              rw [decide_eq_false nv7]
              refine iteF ?_
              refine ⟨_, rfl, rfl, _, rfl, ?_⟩
              cases ek : numsC h0 with
              | none =>
                rw [ek] at hk
                cases hk
                refine iteT ?_
                refine ⟨_, rfl, ?_⟩
                refine none_ ?_ H6 ek6
                rw [en0, ek]
                rfl
              | some l =>
                rw [ek] at hk
                obtain ⟨kb, rfl, hkb⟩ := ints_at hk
                refine iteF ?_
                refine ⟨_, rfl, _, _, rfl, .inr (SqT.of (s6 _ _ hkb)), rfl, _, rfl, ?_⟩
                rw [List.length_map]
                refine ite2 (fun g3 => ?_) (fun g3 => ?_)
                · refine iteT ?_
                  refine ⟨_, rfl, ?_⟩
                  refine none_ ?_ H6 ek6
                  have k0 : keyO (some l) = none := by
                    unfold keyO
                    split
                    · rename_i z
                      cases z
                      have g3 : (!decide (V.int ((2 : Nat) : Int) = V.int 2)) = true := g3
                      rw [decide_eq_true (show V.int ((2 : Nat) : Int) = V.int 2 from rfl)] at g3
                      cases g3
                    · rfl
                  rw [en0, ek, k0]
                · have k2 : l.length = 2 := by
                    by_cases z : l.length = 2
                    · exact z
                    · refine absurd ?_ g3
                      rw [decide_eq_false fun w => z (by have := V.int.inj w; omega)]
                      rfl
                  have hki := numsC_ok ek
                  have k0 : keyO (some l) = some l := by
                    match l, k2 with
                    | [u, v], _ => rfl
                  have en : entO t = some (l, stD r) := by
                    rw [en0, ek, k0]
                    show (if stateD (stD r) = true then _ else _) = _
                    rw [if_pos es]
                  have eb : badE acc (l, stD r) = !HT.lexLt (lastK acc) l := bad_last k2 fun i hi => (hki i hi).1
                  refine ⟨_, rfl, _, rfl, kb, q2', l, lastK acc, rfl, rfl, SqT.of (s6 _ _ hkb), SqT.of (s6 _ _ (s5 _ _ (s4 _ _ hq))), _, rfl, ?_⟩
                  rw [le_two k2 lq]
                  cases ec : (!HT.lexLt (lastK acc) l) with
                  | true =>
                    refine iteT ?_
                    refine ⟨_, rfl, ?_⟩
                    refine out ?_ H6 ek6
                    rw [hg]
                    show (match entO t with | some e => if badE acc e = true then _ else _ | none => _) = _
                    rw [en]
                    show (if badE acc _ = true then _ else _) = _
                    rw [eb, ec, la]
                    rfl
                  | false =>
                    refine iteF ?_
                    refine ⟨_, rfl, _, rfl, szr rfl, fun p4 n4 => ?_⟩
                    generalize g5 : upd _ p4 _ = H7; obtain ⟨e7, o7, t7⟩ := made n4 g5; clear g5
                    have s7 := sameOf n4 o7
                    have s47 : Same E1 H7 := ((s4.trans s5).trans s6).trans s7
                    have hk7 : H7 kb = some (.tup ((l.map (Sum.inl : Int → Key)).map kV)) := by
                      rw [List.map_map]
                      exact s7 _ _ (s6 _ _ hkb)
                    refine ⟨_, _, rfl, SqT.of t7, rfl, _, _, rfl, _, rfl, _, rfl, p1, _, rfl, DPut.t (k := l.map Sum.inl) (s47 _ _ hd1) hk7 (szlt (by omega)), ?_⟩
                    have hkn := key_new (e := (l, stD r)) (bad_asc pw (eb.trans ec))
                    rw [put_new (by rw [hks]; exact hkn)]
                    have dd : Same (del H7 p1) (del (upd H7 p1 (.dT (kvs ++ [(l.map Sum.inl, v7)]))) p1) := fun b o e => by
                      by_cases z : b = p1
                      · rw [z, del_same] at e
                        cases e
                      · rw [del_ne z] at e ⊢
                        rw [upd_ne z]
                        exact e
                    have dd1 : Same (del E1 p1) (del H7 p1) := fun b o e => by
                      by_cases z : b = p1
                      · rw [z, del_same] at e
                        cases e
                      · rw [del_ne z] at e ⊢
                        exact s47 _ _ e
                    have kp1 : kb ≠ p1 := fun z => by
                      have := s47 _ _ hd1
                      rw [z, this] at hk7
                      cases hk7
                    refine ⟨_, _, rfl, rfl, acc ++ [(l, stD r)], kvs ++ [(l.map Sum.inl, v7)], kb, _, _, _, _, _, rfl, fun b o e => ?_, ?_, upd_same, ?_, ?_, ?_, ?_, by rw [List.length_append, la]; rfl, ?_, bad_asc pw (eb.trans ec)⟩
                    · rw [upd_ne (ne_of_none e n1)]
                      exact s47 _ _ (sm _ _ e)
                    · rw [upd_ne n21]
                      exact s47 _ _ hp
                    · rw [List.map_append, List.map_append, hks]
                      rfl
                    · rw [List.map_append, List.map_append]
                      refine DxAll.app ((hv.same dd1).same dd) (.cons ?_ .nil)
                      exact (dx_del (s47 _ _ hd1) (h7.same s7) (df_stD r)).same dd
                    · rw [upd_ne kp1]
                      unfold lastK
                      rw [List.getLast?_concat]
                      exact s7 _ _ (s6 _ _ hkb)
                    · unfold lastK
                      rw [List.getLast?_concat]
                      exact k2
                    · rw [hg]
                      show (match entO t with | some e => if badE acc e = true then _ else _ | none => _) = _
                      rw [en]
                      show (if badE acc _ = true then _ else _) = _
                      rw [eb, ec]
                      rfl
          · refine ⟨_, rfl, rfl, _, rfl, ?_⟩
            refine iteT ?_
            refine ⟨_, rfl, ?_⟩
            refine out ?_ H5 ek5
            rw [hg]
            have nl : hs.length ≠ 2 := fun z => g2 (decide_eq_true (by rw [List.length_map, List.length_map, z]; rfl))
            show (match entO t with | some e => if badE acc e = true then _ else _ | none => _) = _
            rw [line_not (by rw [ehs]; exact nl), la]
      · rintro σ E1 ⟨acc, kvs, q2', a3, a4, a5, a6, a7, rfl, sm, hp, hd1, hks, hv, hq, lq, la, hg, pw⟩
        rw [List.length_map, List.drop_length] at hg
        refine ⟨_, rfl, ?_⟩
        exact q2 acc (by unfold tabC; rw [els, hg]; rfl) p1 E1 sm ⟨.inr ⟨kvs, hd1, hks, hv⟩⟩
    · have e : TL.tl x = noneC := by
        by_cases z : V.str x = V.str (Str.ofString "none")
        · exact (str_is.mp z).trans sign_none
        · rw [decide_eq_false z] at g
          exact absurd rfl g
      refine ⟨szr rfl, fun p3 n3 => ?_⟩
      generalize g3 : upd _ p3 _ = H3; obtain ⟨e3, o3, t3⟩ := made n3 g3; clear g3
      have s3 := sameOf n3 o3
      refine ⟨_, rfl, .inr ⟨_, SqT.of t3, for_tup (K := K) (xs := []) (fun i σ H' => σ = (List.set (L2.start N__law_due_table [V.str x]) 1 (some (V.ref p1))).set 2 (some (V.ref p2)) ∧ H' = H3) ⟨rfl, rfl⟩ (fun i σ H' _ ⟨_, z⟩ => by rw [z]; exact SqT.of t3) (fun i x σ H hi => by cases hi) ?_⟩⟩
      rintro σ H' ⟨rfl, rfl⟩
      refine ⟨_, rfl, ?_⟩
      exact q2 [] (by unfold tabC linesC; rw [if_pos e]; rfl) p1 H' ((s1.trans s2).trans s3) ⟨.inr ⟨[], s3 _ _ (s2 _ _ t1), rfl, .nil⟩⟩

/-! ### texts bent -/
def signL : List Str := [Str.ofString " ", Str.ofString "\n", Str.ofString "0", Str.ofString "1", Str.ofString "-", Str.ofString "; ", Str.ofString " | ", Str.ofString ": ", Str.ofString "none", Str.ofString "a", Str.ofString "|", Str.ofString ";", Str.ofString "00"]
def okSign (y : Str) : Bool := decide ((TL.tl y).length ≤ 4) && (decide ((TL.tl y).count 32 ≤ 2) && (decide ((TL.tl y).count 59 ≤ 1) && (TL.tl y).all fun c => decide (c < 1114112)))
theorem signs_ok : signL.all okSign = true := by decide +kernel
theorem empty_ok : okSign (Str.ofString "") = true := by decide +kernel
def spBent : Sp := fun vs H Q _ => ∃ (p : Addr) (x : Str), vs = [.ref p, .str x] ∧ Dc H p ∧ (TL.tl x).length ≤ 3900 ∧ (TL.tl x).count 32 ≤ 60 ∧ (TL.tl x).count 59 ≤ 60 ∧ Fine (TL.tl x) ∧ ∀ (y : Str) (H' : Hp), But p H H' → Dc H' p → Few (TL.tl y) → Fine (TL.tl y) → Q (.str y) H'
theorem cut_few {t m : List Nat} {i j k : Nat} (hij : i ≤ j) (l : t.length ≤ 3900) (c1 : t.count 32 ≤ 60) (c2 : t.count 59 ≤ 60) (fn : Fine t) (m1 : m.length ≤ 4) (m2 : m.count 32 ≤ 2) (m3 : m.count 59 ≤ 1) (m4 : Fine m) :
    Few (t.take i ++ m ++ (t.drop j).take k) ∧ Fine (t.take i ++ m ++ (t.drop j).take k) := by
  have cnt : ∀ c, (t.take i).count c + ((t.drop j).take k).count c ≤ t.count c := fun c => by
    have h1 := congrArg (List.count c) (List.take_append_drop i t)
    rw [List.count_append] at h1
    have e : t.drop j = (t.drop i).drop (j - i) := by rw [List.drop_drop]; congr 1; omega
    have h2 : ((t.drop j).take k).count c ≤ (t.drop i).count c := by
      rw [e]
      exact ((List.take_sublist _ _).trans (List.drop_sublist _ _)).count_le c
    omega
  have len : (t.take i).length + ((t.drop j).take k).length ≤ t.length := by
    rw [List.length_take, List.length_take, List.length_drop]
    omega
  have a := cnt 32
  have b := cnt 59
  refine ⟨⟨by rw [List.length_append, List.length_append]; omega, by rw [List.count_append, List.count_append]; omega, by rw [List.count_append, List.count_append]; omega⟩, fun c hc => ?_⟩
  rcases List.mem_append.mp hc with hc | hc
  · rcases List.mem_append.mp hc with hc | hc
    · exact fn c (List.mem_of_mem_take hc)
    · exact m4 c hc
  · exact fn c (List.mem_of_mem_drop (List.mem_of_mem_take hc))
theorem ok__law_bent {f : Addr} {fd : FuncData} (F : Fun K "_law_bent" "_law_bent" s__law_bent f fd) (T : Txt mg) (Z : PexZ K mg tx) {f__law_roll : Addr} {fd__law_roll : FuncData} (G__law_roll : FnOk P w K mg base CX0 1 f__law_roll fd__law_roll P__law_roll spRoll) (C__law_roll : Cal K mg "_law_roll" f__law_roll fd__law_roll P__law_roll) {f__law_pick : Addr} {fd__law_pick : FuncData} (G__law_pick : FnOk P w K mg base CX0 2 f__law_pick fd__law_pick P__law_pick (spPick K)) (C__law_pick : Cal K mg "_law_pick" f__law_pick fd__law_pick P__law_pick) : FnOk P w K mg base CX0 3 f fd P__law_bent spBent := by
  refine F.ok sc__law_bent (fun vs H Q E h => ?_) (fun cdv A outer s H vs Q E hr h => ?_)
  · obtain ⟨p, x, rfl, _⟩ := h
    rfl
  · obtain ⟨p, x, rfl, hd, lx, c1, c2, fn, q⟩ := h
    refine ⟨_, (pss_cons (ps_set (i := 2) sc__law_bent.nd rfl (Or.inl rfl) (pe_call G__law_roll (hr.mono (by decide)) rfl C__law_roll.m C__law_roll.k C__law_roll.b .nil pass0 (pa_cons (pv 0) (pa_cons (pe_op op_add (pe_callB call_len_str (by rfl) T.n_len (by decide +kernel) (pa_cons (pv 1) pa_nil)) pe_int) pa_nil))))
      (pss_cons (ps_set (i := 3) sc__law_bent.nd rfl (Or.inl rfl) (pe_call G__law_pick (hr.mono (by decide)) rfl C__law_pick.m C__law_pick.k C__law_pick.b .nil pass0 (pa_cons (pv 0) (pa_cons (pe_lst (pa_cons pe_str (pa_cons pe_str (pa_cons pe_str (pa_cons pe_str (pa_cons pe_str (pa_cons pe_str (pa_cons pe_str (pa_cons pe_str (pa_cons pe_str (pa_cons pe_str (pa_cons pe_str (pa_cons pe_str (pa_cons pe_str pa_nil)))))))))))))) pa_nil))))
      (pss_one (ps_ret (pe_op op_add_str (pe_op op_add_str (pe_slice sl_str (pv 1) po_none (po_some (pv 2))) (pe_call G__law_pick (hr.mono (by decide)) rfl C__law_pick.m C__law_pick.k C__law_pick.b .nil pass0 (pa_cons (pv 0) (pa_cons (pe_lst (pa_cons (pv 3) (pa_cons (pv 3) (pa_cons pe_str pa_nil)))) pa_nil)))) (pe_slice sl_str (pv 1) (po_some (pe_op op_add (pv 2) (pe_call G__law_roll (hr.mono (by decide)) rfl C__law_roll.m C__law_roll.k C__law_roll.b .nil pass0 (pa_cons (pv 0) (pa_cons pe_int pa_nil))))) po_none)))))), ?_⟩
    have el : x.length = (TL.tl x).length := TL.len_tl x
    have szx : x.length ≤ sizeLine := by rw [sizeLine_eq]; omega
    refine ⟨_, rfl, _, rfl, _, rfl, szx, _, _, rfl, rfl, ?_⟩
    refine ⟨p, _, rfl, hd, by omega, by omega, fun r H1 r0 rlt e1 o1 d1 => ?_⟩
    refine ⟨_, rfl, szr rfl, fun p1 n1 => ?_⟩
    generalize g1 : upd _ p1 _ = H2; obtain ⟨e2, o2, t2⟩ := made n1 g1; clear g1
    have s2 := sameOf n1 o2
    have d2 := d1.keep n1 o2
    have np1 : p1 ≠ p := (d1.ne n1).symm
    have t2 : H2 p1 = some (.lst (signL.map V.str)) := t2
    refine ⟨p, p1, signL.map V.str, rfl, d2, SqL.of t2, fun H' _ o => SqL.of ((o _ np1).trans t2), by decide, by decide, fun i v H3 hi e3 o3 d3 => ?_⟩
    rw [List.getElem?_map] at hi
    cases hg : signL[i]? with
    | none => rw [hg] at hi; cases hi
    | some sg =>
      rw [hg] at hi
      cases hi
      have ok1 := List.all_eq_true.mp signs_ok sg (List.mem_of_getElem? hg)
      refine ⟨_, rfl, _, rfl, _, rfl, x, rfl, szx, _, rfl, _, rfl, _, rfl, szr rfl, fun p2 n2 => ?_⟩
      generalize g1 : upd _ p2 _ = H4; obtain ⟨e4, o4, t4⟩ := made n2 g1; clear g1
      have d4 := d3.keep n2 o4
      have np2 : p2 ≠ p := (d3.ne n2).symm
      have t4 : H4 p2 = some (.lst ([sg, sg, Str.ofString ""].map V.str)) := t4
      refine ⟨p, p2, [sg, sg, Str.ofString ""].map V.str, rfl, d4, SqL.of t4, fun H' _ o => SqL.of ((o _ np2).trans t4), (by show 0 < 3; decide), (by show 3 < 1000000; decide), fun i2 v H5 hi e5 o5 d5 => ?_⟩
      rw [List.getElem?_map] at hi
      cases hg2 : [sg, sg, Str.ofString ""][i2]? with
      | none => rw [hg2] at hi; cases hi
      | some md =>
        rw [hg2] at hi
        cases hi
        have ok2 : okSign md = true := by
          have := List.mem_of_getElem? hg2
          rcases List.mem_cons.mp this with rfl | this
          · exact ok1
          · rcases List.mem_cons.mp this with rfl | this
            · exact ok1
            · rw [List.mem_singleton.mp this]
              exact empty_ok
        have ok3 := ok2
        unfold okSign at ok3
        simp only [Bool.and_eq_true, decide_eq_true_eq] at ok3
        obtain ⟨m1, m2, m3, m4⟩ := ok3
        have m4 : Fine (TL.tl md) := fun c hc => of_decide_eq_true (List.all_eq_true.mp m4 c hc)
        have lm : md.length ≤ 4 := by rw [TL.len_tl]; exact m1
        have l1 := cutS_length x none (some r)
        refine ⟨_, _, rfl, rfl, (by rw [sizeLine_eq]; omega), _, rfl, _, rfl, _, rfl, ?_⟩
        refine ⟨p, 3, rfl, d5, by decide, by decide, fun r2 H6 r20 r2lt e6 o6 d6 => ?_⟩
        have l2 := cutS_length x (some (r + r2)) none
        refine ⟨_, _, rfl, rfl, _, rfl, x, rfl, szx, _, _, rfl, rfl, (by rw [sizeLine_eq, len_app]; omega), ?_⟩
        have bb : But p H H6 := (((((But.of1 o1).trans (But.ofS s2)).trans (But.of1 o3)).trans (But.ofS (sameOf n2 o4))).trans (But.of1 o5)).trans (But.of1 o6)
        have ee : TL.tl ((cutS x none (some r) ++ md : Str) ++ cutS x (some (r + r2)) none) = (TL.tl x).take (min r.toNat x.length) ++ TL.tl md ++ ((TL.tl x).drop (min (r + r2).toNat x.length)).take (x.length - min (r + r2).toNat x.length) := by
          have a1 : HT.sIx x.length x.length (some r) = min r.toNat x.length := by
            show (if r < 0 then _ else _) = _
            rw [if_neg (by omega)]
          have a2 : HT.sIx x.length 0 (some (r + r2)) = min (r + r2).toNat x.length := by
            show (if r + r2 < 0 then _ else _) = _
            rw [if_neg (by omega)]
          rw [TL.tl_append, TL.tl_append]
          unfold cutS
          rw [a1, a2]
          rfl
        have := cut_few (t := TL.tl x) (m := TL.tl md) (i := min r.toNat x.length) (j := min (r + r2).toNat x.length) (k := x.length - min (r + r2).toNat x.length) (by omega) lx c1 c2 fn m1 m2 m3 m4
        rw [← ee] at this
        exact q _ H6 bb d6 this.1 this.2

/-! ### what came of a reading -/
def clP (tx : Pa) : List Cls1 := [(.ref tx.C, some 1, tLine tx.C 1 "line")]
theorem gives__law_got {X : Cx} {tx : Pa} {g : Addr} {cdv : Value} {q : Str} (T : Txt X.mg) (Z : PexZ X.K X.mg tx) (hg : X.A.guards = some []) (hr : Room 4 X.A) :
    LamX.GivesTo X N__law_got "_law_got" (defScope s__law_got) g cdv (defBody s__law_got) "_law_call" q (TGot X.K 2 (clP tx)) := by
  refine gives_got (Ng := N__law_got) (fun _ => rfl) fun s H => ?_
  refine .named sc__law_got.nd rfl rfl ⟨rfl, by decide, .inl Z.gC⟩ (fun a oe cls d pn hz hf => line_named Z.xf Z.ini.n hz hf rfl (Or.inl rfl)) ?_
  exact .nil
/-! ### how long it is when shown -/
structure Shw (m n : Nat) (d : PyData) : Prop where
  s : d.showable = true
  dp : d.depth ≤ m
  n : d.shown.length ≤ n
theorem shw_int {i : Int} (h : Sml i) : Shw 0 60 (.int i) := by
  refine ⟨?_, Nat.le_refl _, ?_⟩
  · show decide (i.natAbs.log2 < 1920) = true
    exact decide_eq_true h.log
  · show (Str.ofString (toString i)).length ≤ 60
    rw [h.str, len_S]
    exact h.len
theorem shw_all {m n : Nat} : ∀ {ds : List PyData}, (∀ d ∈ ds, Shw m n d) → PyData.showableAll ds = true ∧ PyData.depthAll ds ≤ m ∧ ((PyData.shownAll ds).map (·.length)).sum ≤ n * ds.length ∧ (PyData.shownAll ds).length = ds.length
  | [], _ => ⟨rfl, Nat.zero_le _, Nat.zero_le _, rfl⟩
  | d :: ds, h => by
    obtain ⟨a, b, c⟩ := h d List.mem_cons_self
    obtain ⟨e, f, g, k⟩ := shw_all fun x hx => h x (List.mem_cons_of_mem _ hx)
    refine ⟨?_, ?_, ?_, ?_⟩
    · show (d.showable && PyData.showableAll ds) = true
      rw [a, e]
      rfl
    · show max d.depth (PyData.depthAll ds) ≤ m
      omega
    · show d.shown.length + ((PyData.shownAll ds).map (·.length)).sum ≤ n * (ds.length + 1)
      rw [Nat.mul_succ]
      omega
    · show (PyData.shownAll ds).length + 1 = ds.length + 1
      rw [k]
theorem shw_tup {m n k : Nat} {ds : List PyData} (h : ∀ d ∈ ds, Shw m n d) (l : ds.length ≤ k) : Shw (m + 1) (n * k + 2 * k + 3) (.tuple ds) := by
  obtain ⟨a, b, c, e⟩ := shw_all h
  refine ⟨a, by show PyData.depthAll ds + 1 ≤ m + 1; omega, ?_⟩
  show (tupleText (PyData.shownAll ds)).length ≤ _
  have := tupleText_len_le (PyData.shownAll ds)
  have := Nat.mul_le_mul_left n l
  omega
theorem shw_two {m n1 n2 : Nat} {a b : PyData} (h1 : Shw m n1 a) (h2 : Shw m n2 b) : Shw (m + 1) (n1 + n2 + 7) (.tuple [a, b]) := by
  refine ⟨?_, ?_, ?_⟩
  · show (a.showable && (b.showable && true)) = true
    rw [h1.s, h2.s]
    rfl
  · show max a.depth (max b.depth 0) + 1 ≤ m + 1
    have := h1.dp
    have := h2.dp
    omega
  · show (tupleText [a.shown, b.shown]).length ≤ _
    have := tupleText_len_le [a.shown, b.shown]
    simp only [List.map_cons, List.map_nil, List.sum_cons, List.sum_nil, List.length_cons, List.length_nil] at this
    have := h1.n
    have := h2.n
    omega
theorem Shw.up {m n m2 n2 : Nat} {d : PyData} (h : Shw m n d) (a : m ≤ m2) (b : n ≤ n2) : Shw m2 n2 d := ⟨h.s, Nat.le_trans h.dp a, Nat.le_trans h.n b⟩
theorem shw_ints {l : List Int} (h : ∀ i ∈ l, Sml i) (n : l.length ≤ 63) : Shw 1 3909 (intsP l) :=
  shw_tup (m := 0) (n := 60) (k := 63) (fun d hd => by obtain ⟨i, hi, rfl⟩ := List.mem_map.mp hd; exact shw_int (h i hi)) (by rw [List.length_map]; exact n)
/-- what a state is made of -/
theorem st_parts {t : List Nat} (h : stateD (stD t) = true) (f : Few t) : ∃ (a : List Int) (ls : List (List Int)), stD t = stateP (a, ls) ∧ (∀ i ∈ a, Sml i) ∧ a.length ≤ 63 ∧ ls.length ≤ 63 ∧ ∀ r ∈ ls, (∀ i ∈ r, Sml i) ∧ r.length ≤ 63 := by
  obtain ⟨p, r, hc⟩ : ∃ p r, cutC t = (p, r) := ⟨_, _, rfl⟩
  rw [st_cut hc, Bool.and_eq_true, Bool.and_eq_true] at h
  obtain ⟨h1, h2, h3⟩ := h
  have c1 := cutC_count t 32
  have c2 := cutC_count t 59
  rw [hc] at c1 c2
  dsimp only at c1 c2
  have f1 := f.2.1
  have f2 := f.2.2
  obtain ⟨few1, few2⟩ := rowsC_few (r := r) (by omega) (by omega)
  obtain ⟨ls, els⟩ := all_some (l := rowsC r) fun o ho => List.all_eq_true.mp h2 o ho
  cases ea : numsC p with
  | none => rw [ea] at h1; cases h1
  | some a =>
    refine ⟨a, ls, ?_, numsC_ok ea, ?_, ?_, fun r' hr => ?_⟩
    · unfold stD stateP
      rw [hc, ea, els, List.map_map]
      rfl
    · have := numsC_len ea
      omega
    · rw [els, List.length_map] at few1
      exact few1
    · obtain ⟨q, e1, e2⟩ := few2 (some r') (by rw [els]; exact List.mem_map_of_mem hr)
      refine ⟨numsC_ok e1.symm, ?_⟩
      have := numsC_len e1.symm
      omega
theorem shw_stP {a : List Int} {ls : List (List Int)} (h1 : ∀ i ∈ a, Sml i) (h2 : a.length ≤ 63) (h3 : ls.length ≤ 63) (h4 : ∀ r ∈ ls, (∀ i ∈ r, Sml i) ∧ r.length ≤ 63) : Shw 3 250312 (stateP (a, ls)) :=
  shw_two ((shw_ints h1 h2).up (by decide) (Nat.le_refl _)) (shw_tup (m := 1) (n := 3909) (k := 63) (fun d hd => by obtain ⟨r, hr, rfl⟩ := List.mem_map.mp hd; exact shw_ints (h4 r hr).1 (h4 r hr).2) (by rw [List.length_map]; exact h3))
def tabD (es : List (List Int × PyData)) : PyData := .dict (es.map fun e => (intsP e.1, e.2))
theorem shw_kv {m n1 n2 : Nat} : ∀ {es : List (List Int × PyData)}, (∀ e ∈ es, Shw m n1 (intsP e.1) ∧ Shw m n2 e.2) → PyData.showableKv (es.map fun e => (intsP e.1, e.2)) = true ∧ PyData.depthKv (es.map fun e => (intsP e.1, e.2)) ≤ m ∧
    ((PyData.shownKv (es.map fun e => (intsP e.1, e.2))).map (·.length)).sum ≤ (n1 + n2 + 2) * es.length ∧ (PyData.shownKv (es.map fun e => (intsP e.1, e.2))).length = es.length
  | [], _ => ⟨rfl, Nat.zero_le _, Nat.zero_le _, rfl⟩
  | e :: es, h => by
    obtain ⟨⟨a1, a2, a3⟩, ⟨b1, b2, b3⟩⟩ := h e List.mem_cons_self
    obtain ⟨c1, c2, c3, c4⟩ := shw_kv fun x hx => h x (List.mem_cons_of_mem _ hx)
    refine ⟨?_, ?_, ?_, ?_⟩
    · show ((intsP e.1).showable && e.2.showable && PyData.showableKv (es.map fun e => (intsP e.1, e.2))) = true
      rw [a1, b1, c1]
      rfl
    · show max (max (intsP e.1).depth e.2.depth) (PyData.depthKv (es.map fun e => (intsP e.1, e.2))) ≤ m
      omega
    · show ((intsP e.1).shown ++ Str.ofString ": " ++ e.2.shown : Str).length + ((PyData.shownKv (es.map fun e => (intsP e.1, e.2))).map (·.length)).sum ≤ (n1 + n2 + 2) * (es.length + 1)
      rw [len_app, len_app, show (Str.ofString ": ").length = 2 from rfl, Nat.mul_succ]
      omega
    · show (PyData.shownKv (es.map fun e => (intsP e.1, e.2))).length + 1 = es.length + 1
      rw [c4]
theorem shw_tabD {es : List (List Int × PyData)} (h : ∀ e ∈ es, Shw 3 127 (intsP e.1) ∧ Shw 3 250312 e.2) (l : es.length ≤ 62) : Shw 4 15527469 (tabD es) := by
  obtain ⟨a, b, c, e⟩ := shw_kv h
  refine ⟨a, by show PyData.depthKv _ + 1 ≤ 4; omega, ?_⟩
  show (dictText (PyData.shownKv _)).length ≤ _
  have := dictText_len_le (PyData.shownKv (es.map fun e => (intsP e.1, e.2)))
  have := Nat.mul_le_mul_left (127 + 250312 + 2) l
  omega
theorem join_sum {S : List Nat} {c : Nat} : ∀ ps : List (List Nat), (ps.map (List.count c)).sum ≤ (TL.joinL S ps).count c
  | [] => Nat.zero_le _
  | [p] => by
    show p.count c + 0 ≤ (TL.joinL S [p]).count c
    exact Nat.le_refl _
  | p :: q :: r => by
    have ih := join_sum (S := S) (c := c) (q :: r)
    rw [joinL_step (List.cons_ne_nil _ _), List.count_append, List.count_append, List.map_cons, List.sum_cons]
    omega
theorem ent_space {p : List Nat} {e : List Int × PyData} (h : entO p = some e) : 1 ≤ p.count 32 := by
  rcases par_spl (S := [58, 32]) (by decide) p [] with ⟨h1, h2⟩ | ⟨a, r, h1, h2, e2⟩
  · rw [line_not (by rw [h2]; show ¬ (1 = 2); decide)] at h
    cases h
  · have e2 : p = a ++ ([58, 32] ++ r) := e2
    rw [e2, List.count_append, List.count_append, show ([58, 32] : List Nat).count 32 = 1 from rfl]
    omega
theorem tab_all : ∀ {ls : List (List Nat)} {acc es : List (List Int × PyData)}, tabGo ls acc = .inr es → es.length ≤ acc.length + (ls.map (List.count 32)).sum ∧ ∀ e ∈ es, e ∈ acc ∨ ∃ p ∈ ls, entO p = some e
  | [], acc, es, h => by
    cases h
    exact ⟨Nat.le_refl _, fun e he => .inl he⟩
  | p :: ls, acc, es, h => by
    have h : (match entO p with | some e => if badE acc e = true then Sum.inl acc.length else tabGo ls (acc ++ [e]) | none => Sum.inl acc.length) = .inr es := h
    cases en : entO p with
    | none => rw [en] at h; cases h
    | some e =>
      rw [en] at h
      have h : (if badE acc e = true then Sum.inl acc.length else tabGo ls (acc ++ [e])) = .inr es := h
      split at h
      · cases h
      · obtain ⟨h1, h2⟩ := tab_all h
        have := ent_space en
        refine ⟨?_, fun x hx => ?_⟩
        · rw [List.length_append] at h1
          rw [List.map_cons, List.sum_cons]
          have h1 : es.length ≤ acc.length + 1 + (ls.map (List.count 32)).sum := h1
          omega
        · rcases h2 x hx with m | ⟨q, m, eq⟩
          · rcases List.mem_append.mp m with m | m
            · exact .inl m
            · rw [List.mem_singleton.mp m]
              exact .inr ⟨p, List.mem_cons_self, en⟩
          · exact .inr ⟨q, List.mem_cons_of_mem _ m, eq⟩
theorem tab_fits {t : List Nat} {es : List (List Int × PyData)} (h : tabC t = .inr es) (f : Few t) : Shw 4 15527469 (tabD es) ∧ ∀ e ∈ es, ∃ p : List Nat, e.2 = stD p := by
  obtain ⟨h1, h2⟩ := tab_all h
  have s : ((linesC t).map (List.count 32)).sum ≤ 62 := by
    unfold linesC
    split
    · exact Nat.zero_le _
    · have a := join_sum (S := [10]) (c := 32) (TL.spl [10] 0 [] t)
      rw [spl_back (S := [10]) (by decide) t.length t (Nat.le_refl _)] at a
      have := f.2.1
      omega
  have each : ∀ e ∈ es, ∃ p k, Few p ∧ numsC (cutL p).1 = some k ∧ e.1 = k ∧ k.length = 2 ∧ e.2 = stD (cutL p).2 ∧ stateD (stD (cutL p).2) = true := fun e he => by
    rcases h2 e he with m | ⟨p, hp, en⟩
    · cases m
    · have fp := few_line f hp
      unfold entO at en
      cases ek : keyO (numsC (cutL p).1) with
      | none => rw [ek] at en; cases en
      | some k =>
        rw [ek] at en
        have en : (if stateD (stD (cutL p).2) = true then some (k, stD (cutL p).2) else none) = some e := en
        split at en
        · rename_i z
          cases en
          unfold keyO at ek
          split at ek
          · rename_i e2
            cases ek
            exact ⟨p, _, fp, e2, rfl, rfl, rfl, z⟩
          · cases ek
        · cases en
  refine ⟨shw_tabD (fun e he => ?_) ?_, fun e he => ?_⟩
  · obtain ⟨p, k, fp, e1, e2, e3, e4, e5⟩ := each e he
    refine ⟨?_, ?_⟩
    · rw [e2]
      exact (shw_tup (m := 0) (n := 60) (k := 2) (fun d hd => by obtain ⟨i, hi, rfl⟩ := List.mem_map.mp hd; exact shw_int (numsC_ok e1 i hi)) (by rw [List.length_map]; omega)).up (by decide) (by decide)
    · rw [e4]
      obtain ⟨a, ls, z1, z2, z3, z4, z5⟩ := st_parts e5 fp.cut.2
      rw [z1]
      exact shw_stP z2 z3 z4 z5
  · have h1 : es.length ≤ 0 + ((linesC t).map (List.count 32)).sum := h1
    omega
  · obtain ⟨p, k, fp, e1, e2, e3, e4, e5⟩ := each e he
    exact ⟨_, e4⟩
/-! ### what repr tells -/
def RZ (K : PySem.W.Frag) (H : Hp) (v : V) (t : Str) : Prop := ∀ Q : VK, Q (.str t) H → rReprZ K [v] H Q
theorem rz_non {K : PySem.W.Frag} {H : Hp} : RZ K H .non PyData.none.shown := fun Q q => .inl ⟨.non, .none, rfl, .inl ⟨.non, rfl⟩, rfl, by decide, by rw [sizeLine_eq]; decide, q⟩
theorem rz_int {K : PySem.W.Frag} {H : Hp} {i : Int} (h : Sml i) : RZ K H (.int i) (PyData.int i).shown := fun Q q => .inl ⟨.int i, .int i, rfl, .inl ⟨.int i, rfl⟩, (shw_int h).s, Nat.zero_le _, by rw [sizeLine_eq]; have := (shw_int h).n; omega, q⟩
theorem rz_one {K : PySem.W.Frag} {H : Hp} {p : Addr} {v : V} {d : PyData} {m n : Nat} (hp : H p = some (.lst [v])) (r : Ri K H v d) (s : Shw m n d) (hm : m ≤ 40) (hn : n ≤ 16777200) : RZ K H (.ref p) (listText [d.shown]) := fun Q q => by
  obtain ⟨a, b, c⟩ := s
  have l := listText_len_le [d.shown]
  simp only [List.map_cons, List.map_nil, List.sum_cons, List.sum_nil, List.length_cons, List.length_nil] at l
  refine .inr ⟨p, [v], [d], rfl, SqL.of hp, List.cons_ne_nil _ _, .cons r .nil, ?_, ?_, ?_, q⟩
  · show (d.showable && true) = true
    rw [a]
    rfl
  · show max d.depth 0 ≤ 40
    omega
  · show (listText [d.shown]).length ≤ _
    rw [sizeLine_eq]
    omega
mutual
theorem df_hd : ∀ {d : PyData}, dictfree d = true → d.hasDict = false
  | .none, _ => rfl
  | .bool _, _ => rfl
  | .int _, _ => rfl
  | .str _, _ => rfl
  | .list ds, h => df_hdAll (ds := ds) h
  | .tuple ds, h => df_hdAll (ds := ds) h
  | .dict _, h => by simp [dictfree] at h
theorem df_hdAll : ∀ {ds : List PyData}, dictfreeAll ds = true → PyData.hasDictAll ds = false
  | [], _ => rfl
  | d :: ds, h => by
    have h : (dictfree d && dictfreeAll ds) = true := h
    rw [Bool.and_eq_true] at h
    show (d.hasDict || PyData.hasDictAll ds) = false
    rw [df_hd h.1, df_hdAll h.2]
    rfl
end
theorem ri_dx {K : PySem.W.Frag} {H : Hp} {v : V} {d : PyData} (h : Dx H v d) (f : dictfree d = true) (l : listfree d = true) : Ri K H v d := .inl ⟨h.dp f, l, df_hd f⟩
theorem st_all {es : List (List Int × PyData)} (h : ∀ e ∈ es, ∃ p : List Nat, e.2 = stD p) : dictfreeAll (es.map Prod.snd) = true ∧ listfreeAll (es.map Prod.snd) = true := by
  induction es with
  | nil => exact ⟨rfl, rfl⟩
  | cons e es ih =>
    obtain ⟨a, b⟩ := ih fun x hx => h x (List.mem_cons_of_mem _ hx)
    obtain ⟨p, ep⟩ := h e List.mem_cons_self
    refine ⟨?_, ?_⟩
    · show (dictfree e.2 && dictfreeAll (es.map Prod.snd)) = true
      rw [a, ep, df_stD]
      rfl
    · show (listfree e.2 && listfreeAll (es.map Prod.snd)) = true
      rw [b, ep, lf_stD]
      rfl
theorem ri_tab {K : PySem.W.Frag} {H : Hp} {a : Addr} {es : List (List Int × PyData)} (h : TabE H a es) (hs : ∀ e ∈ es, ∃ p : List Nat, e.2 = stD p) : Ri K H (.ref a) (tabD es) := by
  obtain ⟨df, lf⟩ := st_all hs
  obtain ⟨h⟩ := h
  rcases h with ⟨rfl, ha⟩ | ⟨kvs, ha, hk, hv⟩
  · exact .inr (.inl ⟨a, rfl, rfl, ha⟩)
  · refine .inr (.inr ⟨a, kvs, es.map Prod.snd, rfl, ?_, ha, (hv.same (del_sub H a)).dp df, lf, df_hdAll df⟩)
    have e : (kvs.map fun p => PyData.tuple (p.1.map keyPd)) = es.map fun e => intsP e.1 := by
      have := congrArg (List.map fun k : List Key => PyData.tuple (k.map keyPd)) hk
      rw [List.map_map, List.map_map] at this
      refine this.trans (List.map_congr_left fun e _ => ?_)
      show PyData.tuple ((e.1.map Sum.inl).map keyPd) = _
      rw [List.map_map]
      rfl
    rw [e, List.zip_map']
    rfl
theorem got_line {K : PySem.W.Frag} {mg : Str → Option Value} {tx : Pa} (Z : PexZ K mg tx) {Q : VK} {dx : Addr} {H : Hp} {y : V} (e : H dx = some (.xd [("line", y)])) (q : Q y H) : eGot K 2 (clP tx) Q (.ref tx.C) (some dx) H :=
  fun σ hl => ⟨true, Z.self, fun _ a n => ⟨by rw [List.getElem?_set_self (by omega)], rfl, dx, _, y, rfl, e, rfl, q⟩, fun z => nomatch z⟩
theorem ext_del {H H' : Hp} (x : LamX.ExtN H H') (a : Addr) : LamX.ExtN (del H a) (del H' a) := fun b o h n => by
  by_cases z : b = a
  · rw [z, del_same] at h
    cases h
  · rw [del_ne z] at h ⊢
    exact x b o h n
theorem TabE.ext {H H' : Hp} {a : Addr} {es : List (List Int × PyData)} (h : TabE H a es) (x : LamX.ExtN H H') : TabE H' a es := by
  obtain ⟨h⟩ := h
  rcases h with ⟨e, ha⟩ | ⟨kvs, ha, hk, hv⟩
  · exact ⟨.inl ⟨e, x _ _ ha fun _ z => nomatch z⟩⟩
  · exact ⟨.inr ⟨kvs, x _ _ ha (fun _ z => nomatch z), hk, hv.ext (ext_del x a)⟩⟩
theorem tab_idx : ∀ {ls : List (List Nat)} {acc : List (List Int × PyData)} {i : Nat}, tabGo ls acc = .inl i → i ≤ acc.length + ls.length
  | [], acc, i, h => by cases h
  | p :: ls, acc, i, h => by
    have h : (match entO p with | some e => if badE acc e = true then Sum.inl acc.length else tabGo ls (acc ++ [e]) | none => Sum.inl acc.length) = .inl i := h
    rw [List.length_cons]
    cases en : entO p with
    | none =>
      rw [en] at h
      cases h
      omega
    | some e =>
      rw [en] at h
      have h : (if badE acc e = true then Sum.inl acc.length else tabGo ls (acc ++ [e])) = .inl i := h
      split at h
      · cases h
        omega
      · have := tab_idx h
        rw [List.length_append] at this
        have this : i ≤ acc.length + 1 + ls.length := this
        omega
def spStr (tP0 : Addr) : Sp := fun vs H Q _ => ∃ x y z : Str, vs = [.str x, .str y, .str z] ∧ (∀ t ∈ [x, y, z], Few (TL.tl t) ∧ Fine (TL.tl t)) ∧ LamX.Tabs (lamT tP0) H ∧ ∀ H', LamX.ExtN H H' → LamX.Tabs (lamT tP0) H' → Q (.bl true) H'
theorem ok__law_strings_right {f : Addr} {fd : FuncData} (F : Fun K "_law_strings_right" "_law_strings_right" s__law_strings_right f fd) (T : Txt mg) (Z : PexZ K mg tx) (hcd : fd.code = .ref tC0) (TB : LamX.TabB base mg tC0 tP0) {f__law_got : Addr} {fd__law_got : FuncData} (F__law_got : Fun K "_law_got" "_law_got" s__law_got f__law_got fd__law_got) (C__law_got : Cal K mg "_law_got" f__law_got fd__law_got P__law_got) {f__law_due_numbers : Addr} {fd__law_due_numbers : FuncData} (G__law_due_numbers : FnOk P w K mg base CX0 1 f__law_due_numbers fd__law_due_numbers P__law_due_numbers spNumsL) (C__law_due_numbers : Cal K mg "_law_due_numbers" f__law_due_numbers fd__law_due_numbers P__law_due_numbers) {f__law_due_state : Addr} {fd__law_due_state : FuncData} (G__law_due_state : FnOk P w K mg base CX0 3 f__law_due_state fd__law_due_state P__law_due_state spStL) (C__law_due_state : Cal K mg "_law_due_state" f__law_due_state fd__law_due_state P__law_due_state) {f__law_due_table : Addr} {fd__law_due_table : FuncData} (G__law_due_table : FnOk P w K mg base CX0 4 f__law_due_table fd__law_due_table P__law_due_table spTabL) (C__law_due_table : Cal K mg "_law_due_table" f__law_due_table fd__law_due_table P__law_due_table) {f_read_numbers : Addr} {fd_read_numbers : FuncData} (G_read_numbers : FnOk P w K mg base (L2.CX P w) 3 f_read_numbers fd_read_numbers P_read_numbers (spRN tx)) (C_read_numbers : Cal K mg "read_numbers" f_read_numbers fd_read_numbers P_read_numbers) {f_read_state : Addr} {fd_read_state : FuncData} (G_read_state : FnOk P w K mg base (L2.CX P w) 7 f_read_state fd_read_state P_read_state (spRS tx)) (C_read_state : Cal K mg "read_state" f_read_state fd_read_state P_read_state) {f_read_table : Addr} {fd_read_table : FuncData} (G_read_table : FnOk P w K mg base (L2.CX P w) 8 f_read_table fd_read_table P_read_table (spRT tx)) (C_read_table : Cal K mg "read_table" f_read_table fd_read_table P_read_table) : FnG P w K mg base CX0 19 f fd P__law_strings_right (spStr tP0) := by
  refine okGC F hcd sc__law_strings_right (fun vs H Q E h => ?_) (fun A outer s H vs Q E hg hr h => ?_)
  · obtain ⟨x, y, z, rfl, _⟩ := h
    rfl
  · obtain ⟨x, y, z, rfl, few, hT, q⟩ := h
    refine ⟨_, (pss_cons (ps_set (i := 3) sc__law_strings_right.nd rfl (Or.inl rfl) (pe_call G__law_due_numbers (hr.mono (by decide)) rfl C__law_due_numbers.m C__law_due_numbers.k C__law_due_numbers.b .nil pass0 (pa_cons (pv 0) pa_nil)))
      (pss_cons (ps_if (pt_cmpR op_ne (pe_callB (call_reprZ (K := K) hg (hu64i hr)) (by rfl) T.n_repr (by decide +kernel) (pa_cons (pe_lam (k := 12) (T := lamT tP0) (c := tC0) (P := tP0) rfl C__law_got F__law_got sc__law_got rfl (Or.inl rfl) (fun _ => gives__law_got T Z (by exact hg) (hr.mono (by decide))) TB rfl tab_mem1 tab_one1 (hr.mono (by decide)) (fun A outer s H E f c' hr => (pe_call G_read_numbers (hr.mono (by decide)) rfl C_read_numbers.m C_read_numbers.k C_read_numbers.b .nil (passLam (outer := outer) (s := s) (H := H)) (pa_cons (pv 0) pa_nil))) (L := (show LamX.lamSB (defScope s__law_strings_right) _ = true by decide +kernel))) pa_nil)) (pe_callB (call_reprZ (K := K) hg (hu64i hr)) (by rfl) T.n_repr (by decide +kernel) (pa_cons (pe_ifExp (pt_cmpR op_notN (pv 3) pe_non (nomark _)) (pe_lst (pa_cons (pv 3) pa_nil)) pe_non) pa_nil)) (nomark _)) (pss_one (ps_ret pe_bl)) pss_nil)
      (pss_cons (ps_set (i := 3) sc__law_strings_right.nd rfl (Or.inl rfl) (pe_call G__law_due_state (hr.mono (by decide)) rfl C__law_due_state.m C__law_due_state.k C__law_due_state.b .nil pass0 (pa_cons (pv 1) pa_nil)))
      (pss_cons (ps_if (pt_cmpR op_ne (pe_callB (call_reprZ (K := K) hg (hu64i hr)) (by rfl) T.n_repr (by decide +kernel) (pa_cons (pe_lam (k := 12) (T := lamT tP0) (c := tC0) (P := tP0) rfl C__law_got F__law_got sc__law_got rfl (Or.inl rfl) (fun _ => gives__law_got T Z (by exact hg) (hr.mono (by decide))) TB rfl tab_mem1 tab_one1 (hr.mono (by decide)) (fun A outer s H E f c' hr => (pe_call G_read_state (hr.mono (by decide)) rfl C_read_state.m C_read_state.k C_read_state.b .nil (passLam (outer := outer) (s := s) (H := H)) (pa_cons (pv 1) pa_nil))) (L := (show LamX.lamSB (defScope s__law_strings_right) _ = true by decide +kernel))) pa_nil)) (pe_callB (call_reprZ (K := K) hg (hu64i hr)) (by rfl) T.n_repr (by decide +kernel) (pa_cons (pe_ifExp (pt_cmpR op_notN (pv 3) pe_non (nomark _)) (pe_lst (pa_cons (pv 3) pa_nil)) pe_non) pa_nil)) (nomark _)) (pss_one (ps_ret pe_bl)) pss_nil)
      (pss_cons (ps_set (i := 3) sc__law_strings_right.nd rfl (Or.inl rfl) (pe_call G__law_due_table (hr.mono (by decide)) rfl C__law_due_table.m C__law_due_table.k C__law_due_table.b .nil pass0 (pa_cons (pv 2) pa_nil)))
      (pss_one (ps_ret (pe_cmpR op_eq (pe_callB (call_reprZ (K := K) hg (hu64i hr)) (by rfl) T.n_repr (by decide +kernel) (pa_cons (pe_lam (k := 12) (T := lamT tP0) (c := tC0) (P := tP0) rfl C__law_got F__law_got sc__law_got rfl (Or.inl rfl) (fun _ => gives__law_got T Z (by exact hg) (hr.mono (by decide))) TB rfl tab_mem1 tab_one1 (hr.mono (by decide)) (fun A outer s H E f c' hr => (pe_call G_read_table (hr.mono (by decide)) rfl C_read_table.m C_read_table.k C_read_table.b .nil (passLam (outer := outer) (s := s) (H := H)) (pa_cons (pv 2) pa_nil))) (L := (show LamX.lamSB (defScope s__law_strings_right) _ = true by decide +kernel))) pa_nil)) (pe_callB (call_reprZ (K := K) hg (hu64i hr)) (by rfl) T.n_repr (by decide +kernel) (pa_cons (pe_ifExp (pt_val (pe_callB (call_isiM (K := K)) (by rfl) T.n_isinstance (by decide +kernel) (pa_cons (pv 3) (pa_cons (pe_bltn (v := .ty "dict") rfl T.n_dict (by decide +kernel) rfl) pa_nil)))) (pe_lst (pa_cons (pv 3) pa_nil)) (pv 3)) pa_nil)) (nomark _))))))))), ?_⟩
    have fx := few x (by simp)
    have fy := few y (by simp)
    have fz := few z (by simp)
    refine ⟨_, rfl, ?_⟩
    refine ⟨x, rfl, by rw [TL.len_tl]; exact fx.1.1, fx.2, fun vd H1 s1 hv1 => ?_⟩
    have hT1 := Tabs.same hT s1
    refine ⟨hT1, fun G1 x1 hT2 => ?_⟩
    have xx1 : LamX.ExtN H G1 := LamX.ExtN.trans (xOf s1) x1
    have hvG := hv1.ext x1
    obtain ⟨T1, eT1⟩ : ∃ T1 : Str, T1 = (match numsC (TL.tl x) with | some l => listText [(intsP l).shown] | none => PyData.none.shown) := ⟨_, rfl⟩
    show TGot ?k ?n ?l ?tl ?G ?R
    have rest : ∀ (v : V) (H3 : Hp), Same G1 H3 → RZ K H3 v T1 → ?R v H3 := by
      intro v H3 s3 hz
      have xx3 := LamX.ExtN.trans xx1 (xOf s3)
      have hT3 := Tabs.same hT2 s3
      have hv3 := hvG.same s3
      refine hz _ ?_
      show tCB ?r ?ta ?sg ?Hx ?R2
      have rest2 : ∀ H4, Same H3 H4 → ?R2 (.str T1) H4 := by
        intro H4 s4
        refine ⟨rfl, _, rfl, ?_⟩
        rw [decide_eq_true rfl]
        refine iteF ?_
        -- the state
        refine ⟨_, rfl, ?_⟩
        refine ⟨y, rfl, fy.1, fy.2, fun wd H5 s5 hw5 => ?_⟩
        have hT5 := Tabs.same (Tabs.same hT3 s4) s5
        refine ⟨hT5, fun G2 x2 hT6 => ?_⟩
        have xx2 : LamX.ExtN H G2 := LamX.ExtN.trans (LamX.ExtN.trans (LamX.ExtN.trans xx3 (xOf s4)) (xOf s5)) x2
        have hwG := hw5.ext x2
        obtain ⟨T2, eT2⟩ : ∃ T2 : Str, T2 = (match stateD (stD (TL.tl y)) with | true => listText [(stD (TL.tl y)).shown] | false => PyData.none.shown) := ⟨_, rfl⟩
        show TGot ?kb ?nb ?lb ?tlb ?Gb ?Rb
        have rest3 : ∀ (v : V) (H3 : Hp), Same G2 H3 → RZ K H3 v T2 → ?Rb v H3 := by
          intro v H6 s6 hz
          have xx4 := LamX.ExtN.trans xx2 (xOf s6)
          have hT7 := Tabs.same hT6 s6
          have hw6 := hwG.same s6
          refine hz _ ?_
          show tCB ?rb ?tab ?sgb ?Hxb ?R2b
          have rest4 : ∀ H4, Same H6 H4 → ?R2b (.str T2) H4 := by
            intro H7 s7
            refine ⟨rfl, _, rfl, ?_⟩
            rw [decide_eq_true rfl]
            refine iteF ?_
            -- the table
            have hT8 := Tabs.same hT7 s7
            have xx5 := LamX.ExtN.trans xx4 (xOf s7)
            refine ⟨_, rfl, ?_⟩
            refine ⟨z, rfl, fz.1, fz.2, fun i ei H9 s9 => ?_, fun es ees a H9 s9 hE => ?_⟩
            · have si : Sml (i : Nat) := by
                have a := tab_idx ei
                have b := linesC_len fz.1
                have a : i ≤ 0 + (linesC (TL.tl z)).length := a
                exact ⟨Int.natCast_nonneg _, Int.lt_of_le_of_lt (Int.ofNat_le.mpr (show i ≤ 4001 by omega)) (by decide)⟩
              refine ⟨Tabs.same hT8 s9, fun G3 x3 hT9 => ?_⟩
              have xx6 := LamX.ExtN.trans (LamX.ExtN.trans xx5 (xOf s9)) x3
              refine ⟨_, rfl, z, rfl, fz.1, (fun es ees => by rw [ei] at ees; cases ees), fun i2 ei2 dx H10 s10 hx => ?_⟩
              cases ei.symm.trans ei2
              refine got_line Z hx ?_
              refine rz_int si _ ?_
              refine ⟨_, rfl, .inl ⟨_, _, _, _, false, rfl, .ty _, .base (.int _), (kit_ty (by decide +kernel)), _, rfl, ?_⟩⟩
              refine iteF ?_
              refine ⟨_, rfl, ?_⟩
              refine rz_int si _ ?_
              refine ⟨rfl, ?_⟩
              rw [decide_eq_true rfl]
              exact q _ (LamX.ExtN.trans xx6 (xOf s10)) (Tabs.same hT9 s10)
            · obtain ⟨sh, sts⟩ := tab_fits ees fz.1
              refine ⟨Tabs.same hT8 s9, fun G3 x3 hT9 => ?_⟩
              have xx6 := LamX.ExtN.trans (LamX.ExtN.trans xx5 (xOf s9)) x3
              refine ⟨_, rfl, z, rfl, fz.1, (fun es2 ees2 a2 H10 s10 hE2 => ?_), fun i2 ei2 dx H10 s10 hx => by rw [ees] at ei2; cases ei2⟩
              cases ees.symm.trans ees2
              refine ⟨szr rfl, fun p3 n3 => ?_⟩
              generalize g3 : upd _ p3 _ = H11; obtain ⟨e11, o11, t11⟩ := made n3 g3; clear g3
              have s11 := sameOf n3 o11
              refine rz_one t11 (ri_tab (hE2.ext (xOf s11)) sts) sh (by decide) (by decide) _ ?_
              have x11 : LamX.ExtN G3 H11 := xOf (s10.trans s11)
              have hE3 := (hE.ext x3).ext x11
              have isd : ∀ (Q : VK), Q (.bl true) H11 → rIsiM K [.ref a, .ty "dict"] H11 Q := fun Q qq => by
                obtain ⟨h⟩ := hE3
                rcases h with ⟨_, ha⟩ | ⟨kvs, ha, _, _⟩
                · exact .inl ⟨_, _, _, _, true, rfl, .ty _, .base (.dK ha), (kit_ty (by decide +kernel)), qq⟩
                · exact .inl ⟨_, _, _, _, true, rfl, .ty _, .base (.dT ha), (kit_ty (by decide +kernel)), qq⟩
              refine ⟨_, rfl, isd _ ⟨_, rfl, ?_⟩⟩
              refine iteT ?_
              refine ⟨_, rfl, szr rfl, fun p4 n4 => ?_⟩
              generalize g3 : upd _ p4 _ = H12; obtain ⟨e12, o12, t12⟩ := made n4 g3; clear g3
              have s12 := sameOf n4 o12
              refine rz_one t12 (ri_tab (hE3.ext (xOf s12)) sts) sh (by decide) (by decide) _ ?_
              refine ⟨rfl, ?_⟩
              rw [decide_eq_true rfl]
              exact q _ (LamX.ExtN.trans xx6 (LamX.ExtN.trans x11 (xOf s12))) (Tabs.same (Tabs.same hT9 (s10.trans s11)) s12)
          cases es : stateD (stD (TL.tl y)) with
          | false =>
            unfold stP at hw6
            rw [es] at hw6 eT2
            cases hw6
            refine ⟨_, rfl, rfl, _, rfl, ?_⟩
            refine iteF ?_
            refine rz_non _ ?_
            have := rest4 H6 (Same.refl H6)
            rw [eT2] at this ⊢
            exact this
          | true =>
            unfold stP at hw6
            rw [es] at hw6 eT2
            have hw6 : Dx H6 wd (stD (TL.tl y)) := hw6
            obtain ⟨sa, sl, z1, z2, z3, z4, z5⟩ := st_parts es fy.1
            have nwd : wd ≠ .non := fun z => by
              rw [z, z1] at hw6
              cases hw6
            refine ⟨_, rfl, rfl, _, rfl, ?_⟩
            rw [decide_eq_false nwd]
            refine iteT ?_
            refine ⟨_, rfl, szr rfl, fun p3 n3 => ?_⟩
            generalize g3 : upd _ p3 _ = H8; obtain ⟨e4, o4, t4⟩ := made n3 g3; clear g3
            have s8 := sameOf n3 o4
            refine rz_one t4 (ri_dx (hw6.same s8) (df_stD _) (lf_stD _)) (by rw [z1]; exact shw_stP z2 z3 z4 z5) (by decide) (by decide) _ ?_
            have := rest4 H8 s8
            rw [eT2] at this ⊢
            exact this
        refine ⟨_, rfl, y, rfl, fy.1, fun el v H6 s6 hv => ?_, fun en dx H6 s6 hx => ?_⟩
        · obtain ⟨sa, sl, z1, z2, z3, z4, z5⟩ := st_parts el fy.1
          refine ⟨szr rfl, fun p3 n3 => ?_⟩
          generalize g3 : upd _ p3 _ = H7; obtain ⟨e4, o4, t4⟩ := made n3 g3; clear g3
          have s7 := sameOf n3 o4
          rw [el] at eT2
          rw [eT2] at rest3
          exact rest3 _ H7 (s6.trans s7) (rz_one t4 (ri_dx (hv.same s7) (df_stD _) (lf_stD _)) (by rw [z1]; exact shw_stP z2 z3 z4 z5) (by decide) (by decide))
        · rw [en] at eT2
          rw [eT2] at rest3
          exact got_line Z hx (rest3 _ H6 s6 rz_non)
      cases eo : numsC (TL.tl x) with
      | none =>
        rw [eo] at hv3 eT1
        cases hv3
        refine ⟨_, rfl, rfl, _, rfl, ?_⟩
        refine iteF ?_
        refine rz_non _ ?_
        have := rest2 H3 (Same.refl H3)
        rw [eT1] at this ⊢
        exact this
      | some l =>
        rw [eo] at hv3 eT1
        obtain ⟨kb, rfl, hkb⟩ := ints_at hv3
        refine ⟨_, rfl, rfl, _, rfl, ?_⟩
        refine iteT ?_
        refine ⟨_, rfl, szr rfl, fun p3 n3 => ?_⟩
        generalize g3 : upd _ p3 _ = H4; obtain ⟨e4, o4, t4⟩ := made n3 g3; clear g3
        have s4 := sameOf n3 o4
        refine rz_one t4 (ri_dx (hv3.same s4) (df_ints l) (lf_ints l)) (shw_ints (numsC_ok eo) (by have := numsC_len eo; have := fx.1.2.1; omega)) (by decide) (by decide) _ ?_
        have := rest2 H4 s4
        rw [eT1] at this ⊢
        exact this
    refine ⟨_, rfl, x, rfl, by rw [TL.len_tl]; exact fx.1.1, fun l el v H3 s3 hv => ?_, fun en dx H3 s3 hx => ?_⟩
    · refine ⟨szr rfl, fun p3 n3 => ?_⟩
      generalize g3 : upd _ p3 _ = H4; obtain ⟨e4, o4, t4⟩ := made n3 g3; clear g3
      have s4 := sameOf n3 o4
      rw [el] at eT1
      rw [eT1] at rest
      exact rest _ H4 (s3.trans s4) (rz_one t4 (ri_dx (hv.same s4) (df_ints l) (lf_ints l)) (shw_ints (numsC_ok el) (by have := numsC_len el; have := fx.1.2.1; omega)) (by decide) (by decide))
    · rw [en] at eT1
      rw [eT1] at rest
      exact got_line Z hx (rest _ H3 s3 rz_non)

/-! ### the texts that are due -/
theorem bar_free {p rest : List Nat} (h : 124 ∉ p) : ∀ i, i < p.length → TL.pre [32, 124, 32] ((p ++ ([32, 124, 32] ++ rest)).drop i) = false := by
  induction p with
  | nil => exact fun i hi => absurd hi (Nat.not_lt_zero _)
  | cons c p ih =>
    intro i hi
    cases i with
    | succ i => exact ih (fun z => h (List.mem_cons_of_mem _ z)) i (Nat.lt_of_succ_lt_succ hi)
    | zero =>
      have nd : ∃ d q, p ++ ([32, 124, 32] ++ rest) = d :: q ∧ d ≠ 124 := by
        cases p with
        | nil => exact ⟨32, _, rfl, by decide⟩
        | cons d p => exact ⟨d, _, rfl, fun z => h (by rw [z]; simp)⟩
      obtain ⟨d, q, e, n⟩ := nd
      show TL.pre [32, 124, 32] (c :: (p ++ ([32, 124, 32] ++ rest))) = false
      rw [e]
      simp [TL.pre, n, Ne.symm n]
theorem numsS_no {l : List Int} {c : Nat} (h : c ≠ 45 ∧ c ≠ 32 ∧ ¬ (48 ≤ c ∧ c ≤ 57)) : c ∉ numsS l := fun z => by
  rcases numsS_signs z with a | a | a
  · exact h.1 a
  · exact h.2.1 a
  · exact h.2.2 a
def rowsS (rs : List (List Int)) : List Nat := if rs = [] then noneC else TL.joinL [59, 32] (rs.map numsS)
theorem rows_back {rs : List (List Int)} (h : ∀ r ∈ rs, ∀ i ∈ r, Sml i) : rowsC (rowsS rs) = rs.map some := by
  unfold rowsC rowsS
  by_cases e : rs = []
  · subst e
    rfl
  · rw [if_neg e, if_neg]
    · rw [TL.spl_join (fun z => e (List.map_eq_nil_iff.mp z)) (fun p hp => by
        obtain ⟨r, _, rfl⟩ := List.mem_map.mp hp
        exact numsS_no (by decide)), List.map_map]
      exact List.map_congr_left fun r hr => numsC_numsS (h r hr)
    · intro z
      have m : (110 : Nat) ∈ TL.joinL [59, 32] (rs.map numsS) := by rw [z]; simp [noneC]
      rcases joinL_mem m with m | ⟨p, hp, m⟩
      · simp at m
      · obtain ⟨r, _, rfl⟩ := List.mem_map.mp hp
        exact numsS_no (by decide) m
theorem cut_back {s : Sta} : cutC (stateS s) = (numsS s.1, rowsS s.2) := by
  unfold cutC
  rw [show stateS s = numsS s.1 ++ ([32, 124, 32] ++ rowsS s.2) from rfl, TL.par_part (by decide) (bar_free (numsS_no (by decide)))]
  rfl
theorem st_back {s : Sta} (h : StOk s) : stD (stateS s) = stateP s := by
  unfold stD stateP
  rw [cut_back]
  show PyData.tuple [numsP (numsC (numsS s.1)), .tuple ((rowsC (rowsS s.2)).map numsP)] = _
  rw [numsC_numsS h.2.2.1, rows_back fun r hr => (h.2.2.2 r hr).2, List.map_map]
  rfl
theorem line_back {e : List Int × Sta} (h : StOk e.2) (hs : stateD (stateP e.2) = true) (k : e.1.length = 2) (kh : ∀ i ∈ e.1, Sml i) : entO (lineS e) = some (e.1, stateP e.2) := by
  have hc : cutL (lineS e) = (numsS e.1, stateS e.2) := by
    unfold cutL
    rw [show lineS e = numsS e.1 ++ (58 :: [32] ++ stateS e.2) from rfl, TL.par_part1 (numsS_no (by decide))]
    rfl
  have k0 : keyO (some e.1) = some e.1 := by
    match e.1, k with
    | [u, v], _ => rfl
  unfold entO
  rw [hc, numsC_numsS kh, k0]
  show (if stateD (stD (stateS e.2)) = true then some (e.1, stD (stateS e.2)) else none) = _
  rw [st_back h, if_pos hs]
theorem numsS_count {l : List Int} : (numsS l).count 32 ≤ l.length - 1 := by
  have go : ∀ ps : List Int, (TL.joinL [32] (ps.map numI)).count 32 ≤ ps.length - 1 := by
    intro ps
    have z : ∀ i : Int, (numI i).count 32 = 0 := fun i => List.count_eq_zero.mpr fun m => by have := numI_dig m; omega
    induction ps with
    | nil => exact Nat.zero_le _
    | cons i r ih =>
      cases r with
      | nil =>
        show (numI i).count 32 ≤ 0
        rw [z]
        exact Nat.le_refl _
      | cons j r =>
        rw [List.map_cons, joinL_step (by simp), List.count_append, List.count_append, z]
        have : ([32] : List Nat).count 32 = 1 := rfl
        simp only [List.length_cons] at ih ⊢
        omega
  unfold numsS
  split
  · exact Nat.zero_le _
  · exact go l
theorem join_count {S : List Nat} {c m : Nat} : ∀ {ps : List (List Nat)}, (∀ p ∈ ps, p.count c ≤ m) → (TL.joinL S ps).count c + S.count c ≤ (m + S.count c) * ps.length + (if ps = [] then S.count c else 0)
  | [], _ => by simp [TL.joinL]
  | [p], h => by
    have := h p List.mem_cons_self
    show p.count c + S.count c ≤ (m + S.count c) * 1 + 0
    omega
  | p :: q :: r, h => by
    have ih := join_count (S := S) (c := c) (m := m) (ps := q :: r) fun x hx => h x (List.mem_cons_of_mem _ hx)
    have hp := h p List.mem_cons_self
    rw [if_neg (List.cons_ne_nil _ _)] at ih ⊢
    rw [joinL_step (List.cons_ne_nil _ _), List.count_append, List.count_append, List.length_cons, Nat.mul_succ]
    omega
theorem numsS_max {l : List Int} {n : Nat} (h : ∀ i ∈ l, Sml i) (k : l.length ≤ n) : (numsS l).length ≤ 61 * n + 1 := by
  unfold numsS
  split
  · show 1 ≤ _
    omega
  · have := joinL_len (s := [32]) (m := 60) (ps := l.map numI) fun p hp => by
      obtain ⟨i, hi, rfl⟩ := List.mem_map.mp hp
      exact (h i hi).len
    rw [List.length_map] at this
    have e : (60 + ([32] : List Nat).length) * l.length = 61 * l.length := rfl
    have := Nat.mul_le_mul_left 61 k
    omega
/-- how much of spaces and semicolons a text holds -/
structure Lim (n a b : Nat) (t : List Nat) : Prop where
  n : t.length ≤ n
  a : t.count 32 ≤ a
  b : t.count 59 ≤ b
  f : Fine t
theorem lim_nums {l : List Int} {n : Nat} (h : ∀ i ∈ l, Sml i) (k : l.length ≤ n) : Lim (61 * n + 1) (n - 1) 0 (numsS l) :=
  ⟨numsS_max h k, Nat.le_trans numsS_count (by omega), Nat.le_of_eq (List.count_eq_zero.mpr (numsS_no (by decide))), fun c hc => by rcases numsS_signs hc with z | z | z <;> omega⟩
theorem lim_app {n a b n2 a2 b2 : Nat} {t u : List Nat} (h : Lim n a b t) (k : Lim n2 a2 b2 u) : Lim (n + n2) (a + a2) (b + b2) (t ++ u) :=
  ⟨by rw [List.length_append]; exact Nat.add_le_add h.n k.n, by rw [List.count_append]; exact Nat.add_le_add h.a k.a, by rw [List.count_append]; exact Nat.add_le_add h.b k.b, fun c hc => (List.mem_append.mp hc).elim (h.f c) (k.f c)⟩
theorem Lim.up {n a b n2 a2 b2 : Nat} {t : List Nat} (h : Lim n a b t) (x : n ≤ n2) (y : a ≤ a2) (z : b ≤ b2) : Lim n2 a2 b2 t := ⟨Nat.le_trans h.n x, Nat.le_trans h.a y, Nat.le_trans h.b z, h.f⟩
theorem lim_join {S : List Nat} {n a b k : Nat} {ps : List (List Nat)} (h : ∀ p ∈ ps, Lim n a b p) (ne : ps ≠ []) (l : ps.length ≤ k) (fS : Fine S) : Lim ((n + S.length) * k) ((a + S.count 32) * k - S.count 32) ((b + S.count 59) * k - S.count 59) (TL.joinL S ps) := by
  have x := joinL_len (s := S) (m := n) (ps := ps) fun p hp => (h p hp).n
  have y := join_count (S := S) (c := 32) (m := a) (ps := ps) fun p hp => (h p hp).a
  have z := join_count (S := S) (c := 59) (m := b) (ps := ps) fun p hp => (h p hp).b
  rw [if_neg ne] at y z
  have x2 := Nat.mul_le_mul_left (n + S.length) l
  have y2 := Nat.mul_le_mul_left (a + S.count 32) l
  have z2 := Nat.mul_le_mul_left (b + S.count 59) l
  refine ⟨by omega, by omega, by omega, fun c hc => ?_⟩
  rcases joinL_mem hc with m | ⟨p, hp, m⟩
  · exact fS c m
  · exact (h p hp).f c m
theorem lim_state {s : Sta} (h : StGood s) : Lim 807 13 2 (stateS s) := by
  have a := lim_nums (n := 4) h.a.sml h.a.1
  have b : Lim 4 2 0 [32, 124, 32] := ⟨by decide, by decide, by decide, fun c hc => by simp at hc; omega⟩
  have c : Lim 558 8 2 (rowsS s.2) := by
    unfold rowsS
    split
    · exact ⟨by decide, by decide, by decide, fun c hc => by simp [noneC] at hc; omega⟩
    · rename_i e
      refine (lim_join (S := [59, 32]) (n := 184) (a := 2) (b := 0) (k := 3) (fun p hp => ?_) (fun z => e (List.map_eq_nil_iff.mp z)) (by rw [List.length_map]; exact h.n) (fun c hc => by simp at hc; omega)).up (by decide) (by decide) (by decide)
      · obtain ⟨r, hr, rfl⟩ := List.mem_map.mp hp
        exact lim_nums (n := 3) (h.b r hr).sml (h.b r hr).1
  exact (lim_app a (lim_app b c)).up (by decide) (by decide) (by decide)
/-- the tables of the law -/
structure TabG (T : List (List Int × Sta)) : Prop where
  few : T.length ≤ 4
  key : ∀ e ∈ T, e.1.length = 2 ∧ ∀ i ∈ e.1, Sml i
  val : ∀ e ∈ T, StGood e.2
  asc : T.Pairwise (fun e f => HT.lexLt e.1 f.1 = true)
theorem TabG.ok {T : List (List Int × Sta)} (h : TabG T) : TabOk T := ⟨by have := h.few; omega, h.key, fun e he => ⟨(h.val e he).ok, (h.val e he).st⟩, h.asc⟩
theorem lim_table {T : List (List Int × Sta)} (h : TabG T) : Lim 3732 60 8 (tableS T) := by
  unfold tableS
  split
  · exact ⟨by decide, by decide, by decide, fun c hc => by simp [noneC] at hc; omega⟩
  · rename_i e
    refine (lim_join (S := [10]) (n := 932) (a := 15) (b := 2) (k := 4) (fun p hp => ?_) (fun z => e (List.map_eq_nil_iff.mp z)) (by rw [List.length_map]; exact h.few) (fun c hc => by simp at hc; omega)).up (by decide) (by decide) (by decide)
    obtain ⟨x, hx, rfl⟩ := List.mem_map.mp hp
    have b : Lim 2 1 0 [58, 32] := ⟨by decide, by decide, by decide, fun c hc => by simp at hc; omega⟩
    exact (lim_app (lim_nums (n := 2) (h.key x hx).2 (Nat.le_of_eq (h.key x hx).1)) (lim_app b (lim_state (h.val x hx)))).up (by decide) (by decide) (by decide)
theorem line_no {e : List Int × Sta} : (10 : Nat) ∉ lineS e := fun z => by
  rcases List.mem_append.mp z with z | z
  · exact numsS_no (by decide) z
  · rcases List.mem_append.mp z with z | z
    · simp at z
    · rcases List.mem_append.mp (show (10 : Nat) ∈ numsS e.2.1 ++ ([32, 124, 32] ++ rowsS e.2.2) from z) with z | z
      · exact numsS_no (by decide) z
      · rcases List.mem_append.mp z with z | z
        · simp at z
        · unfold rowsS at z
          split at z
          · simp [noneC] at z
          · rcases joinL_mem z with z | ⟨p, hp, z⟩
            · simp at z
            · obtain ⟨r, _, rfl⟩ := List.mem_map.mp hp
              exact numsS_no (by decide) z
theorem lines_back (T : List (List Int × Sta)) : linesC (tableS T) = T.map lineS := by
  unfold linesC tableS
  by_cases e : T = []
  · subst e
    rfl
  · rw [if_neg e, if_neg]
    · exact TL.spl_join (fun z => e (List.map_eq_nil_iff.mp z)) (fun p hp => by
        obtain ⟨x, _, rfl⟩ := List.mem_map.mp hp
        exact line_no)
    · intro z
      cases T with
      | nil => exact e rfl
      | cons x T =>
        have m : (58 : Nat) ∈ TL.joinL [10] ((x :: T).map lineS) := mem_join (p := lineS x) List.mem_cons_self (List.mem_append_right _ (List.mem_append_left _ List.mem_cons_self))
        rw [z] at m
        simp [noneC] at m
def entsP (T : List (List Int × Sta)) : List (List Int × PyData) := T.map fun e => (e.1, stateP e.2)
theorem go_back : ∀ {R A : List (List Int × Sta)}, (∀ e ∈ R, (e.1.length = 2 ∧ ∀ i ∈ e.1, Sml i) ∧ StGood e.2) → (A ++ R).Pairwise (fun e f => HT.lexLt e.1 f.1 = true) → tabGo (R.map lineS) (entsP A) = .inr (entsP (A ++ R))
  | [], A, _, _ => by rw [List.append_nil]; rfl
  | e :: R, A, h, pw => by
    obtain ⟨⟨k1, k2⟩, g⟩ := h e List.mem_cons_self
    have en := line_back g.ok g.st k1 k2
    have nb : badE (entsP A) (e.1, stateP e.2) = false := by
      unfold badE entsP
      rw [List.getLast?_map]
      cases el : A.getLast? with
      | none => rfl
      | some l =>
        have := (List.pairwise_append.mp pw).2.2 l (List.mem_of_getLast? el) e List.mem_cons_self
        show (!HT.lexLt l.1 e.1) = false
        rw [this]
        rfl
    have ih := go_back (R := R) (A := A ++ [e]) (fun x hx => h x (List.mem_cons_of_mem _ hx)) (by rw [List.append_assoc]; exact pw)
    rw [List.map_cons]
    show (match entO (lineS e) with | some e => if badE (entsP A) e = true then _ else _ | none => _) = _
    rw [en]
    show (if badE (entsP A) (e.1, stateP e.2) = true then _ else _) = _
    rw [nb, if_neg Bool.false_ne_true]
    have e2 : entsP A ++ [(e.1, stateP e.2)] = entsP (A ++ [e]) := by unfold entsP; rw [List.map_append]; rfl
    rw [e2, ih, List.append_assoc]
    rfl
theorem tab_back {T : List (List Int × Sta)} (h : TabG T) : tabC (tableS T) = .inr (entsP T) := by
  unfold tabC
  rw [lines_back]
  exact go_back (A := []) (fun e he => ⟨h.key e he, h.val e he⟩) h.asc
theorem Lim.few {n a b : Nat} {t : List Nat} (h : Lim n a b t) (x : n ≤ 4000) (y : a ≤ 62) (z : b ≤ 62) : Few t := ⟨Nat.le_trans h.n x, Nat.le_trans h.a y, Nat.le_trans h.b z⟩
/-! ### what the law asks of one throw -/
structure St (p tP0 : Addr) (H0 H : Hp) : Prop where
  x : LamX.ExtN (del H0 p) (del H p)
  d : Dc H p
  t : LamX.Tabs (lamT tP0) H
section
variable {p tP0 : Addr} {H0 H H' : Hp}
theorem St.same (s : St p tP0 H0 H) (e : Same H H') : St p tP0 H0 H' := ⟨LamX.ExtN.trans s.x (ext_del (xOf e) p), s.d.same e, Tabs.same s.t e⟩
theorem St.but (s : St p tP0 H0 H) (e : But p H H') (d : Dc H' p) (t : LamX.Tabs (lamT tP0) H') : St p tP0 H0 H' := ⟨LamX.ExtN.trans s.x fun b q h _ => by
  by_cases z : b = p
  · rw [z, del_same] at h
    cases h
  · rw [del_ne z] at h ⊢
    exact e b q z h, d, t⟩
end
theorem But.ev {p : Addr} {H H' : Hp} (b : But p H H') (d : Dc H p) (d' : Dc H' p) : Ev2 H H' := fun a o h => by
  by_cases z : a = p
  · subst z
    obtain ⟨x, y, w, e⟩ := d
    obtain ⟨x', y', w', e'⟩ := d'
    rw [e] at h
    cases h
    exact .inl ⟨_, _, rfl, e'⟩
  · exact .inr (b a o z h)
theorem But.none {p : Addr} {H H' : Hp} (b : But p H H') (d' : Dc H' p) {a : Addr} (h : H' a = none) : H a = none := by
  cases z : H a with
  | none => rfl
  | some o =>
    have := b a o (d'.ne h).symm z
    rw [h] at this
    cases this
theorem all_refs : ∀ {ys : List V}, (∀ y ∈ ys, ∃ b : Addr, y = V.ref b) → ∃ bs : List Addr, ys = bs.map V.ref
  | [], _ => ⟨[], rfl⟩
  | y :: ys, h => by
    obtain ⟨b, rfl⟩ := h y List.mem_cons_self
    obtain ⟨bs, rfl⟩ := all_refs fun z hz => h z (List.mem_cons_of_mem _ hz)
    exact ⟨b :: bs, rfl⟩
def vR : V → Addr
  | .ref a => a
  | _ => 0
theorem perm_refs {ys zs : List V} {l : List Addr} (h : (ys ++ zs).Perm (l.map V.ref)) : ∃ bs : List Addr, ys = bs.map V.ref ∧ ∃ cs : List Addr, (bs ++ cs).Perm l := by
  have mem : ∀ y ∈ ys ++ zs, ∃ b, y = V.ref b := fun y hy => by
    obtain ⟨b, _, e⟩ := List.mem_map.mp (h.mem_iff.mp hy)
    exact ⟨b, e.symm⟩
  obtain ⟨bs, rfl⟩ := all_refs fun y hy => mem y (List.mem_append_left _ hy)
  obtain ⟨cs, rfl⟩ := all_refs fun y hy => mem y (List.mem_append_right _ hy)
  refine ⟨bs, rfl, cs, ?_⟩
  have := h.map vR
  rw [← List.map_append, List.map_map, List.map_map] at this
  have e : ∀ k : List Addr, k.map (vR ∘ V.ref) = k := fun k => List.map_id k
  rw [e, e] at this
  exact this
theorem del_ev {H H' : Hp} (e : Ev2 H H') (a : Addr) : Ev2 (del H a) (del H' a) := fun b o h => by
  by_cases z : b = a
  · rw [z, del_same] at h
    cases h
  · rw [del_ne z] at h ⊢
    exact e b o h
theorem upd_del (H : Hp) (a : Addr) (o : HO) : Same (del H a) (upd H a o) := fun b q e => by
  by_cases z : b = a
  · rw [z, del_same] at e
    cases e
  · rw [del_ne z] at e
    rw [upd_ne z]
    exact e
theorem upd_del2 (H : Hp) (a : Addr) (o : HO) : Same (del H a) (del (upd H a o) a) := fun b q e => by
  by_cases z : b = a
  · rw [z, del_same] at e
    cases e
  · rw [del_ne z] at e ⊢
    rw [upd_ne z]
    exact e
theorem del_sm {H H' : Hp} (e : Same H H') (a : Addr) : Same (del H a) (del H' a) := fun b q h => by
  by_cases z : b = a
  · rw [z, del_same] at h
    cases h
  · rw [del_ne z] at h ⊢
    exact e b q h
theorem stP_df {s : Sta} (h : StGood s) : dictfree (stateP s) = true ∧ listfree (stateP s) = true := by
  rw [← st_back h.ok]
  exact ⟨df_stD _, lf_stD _⟩
theorem stPs_lf {T : List (List Int × Sta)} (h : ∀ e ∈ T, StGood e.2) : listfreeAll (T.map fun e => stateP e.2) = true := by
  induction T with
  | nil => rfl
  | cons e T ih =>
    show (listfree (stateP e.2) && listfreeAll (T.map fun e => stateP e.2)) = true
    rw [(stP_df (h e List.mem_cons_self)).2, ih fun x hx => h x (List.mem_cons_of_mem _ hx)]
    rfl
theorem Tabs.keep {T : List (Addr × Str)} {H H' : Hp} (t : LamX.Tabs T H) (k : ∀ c o, H c = some o → (∀ xs, o ≠ .lst xs) → (∀ kvs, o ≠ .dT kvs) → H' c = some o) : LamX.Tabs T H' := fun p hp => by
  obtain ⟨ps, h1, h2, h3⟩ := t p hp
  refine ⟨ps, k _ _ h1 (fun _ z => nomatch z) (fun _ z => nomatch z), h2, fun pos cv hc => ?_⟩
  obtain ⟨c, e1, e2⟩ := h3 pos cv hc
  exact ⟨c, e1, k _ _ e2 (fun xs z => by unfold LamX.CodeO at z; cases z) (fun xs z => by unfold LamX.CodeO at z; cases z)⟩
theorem rz_three {K : PySem.W.Frag} {H : Hp} {p : Addr} {v1 v2 v3 : V} {d1 d2 d3 : PyData} {m n1 n2 n3 : Nat} (hp : H p = some (.lst [v1, v2, v3])) (r1 : Ri K H v1 d1) (r2 : Ri K H v2 d2) (r3 : Ri K H v3 d3) (s1 : Shw m n1 d1) (s2 : Shw m n2 d2) (s3 : Shw m n3 d3) (hm : m ≤ 40) (hn : n1 + n2 + n3 ≤ 16777200) :
    RZ K H (.ref p) (listText [d1.shown, d2.shown, d3.shown]) := fun Q q => by
  obtain ⟨a1, b1, c1⟩ := s1
  obtain ⟨a2, b2, c2⟩ := s2
  obtain ⟨a3, b3, c3⟩ := s3
  have l := listText_len_le [d1.shown, d2.shown, d3.shown]
  simp only [List.map_cons, List.map_nil, List.sum_cons, List.sum_nil, List.length_cons, List.length_nil] at l
  refine .inr ⟨p, [v1, v2, v3], [d1, d2, d3], rfl, SqL.of hp, List.cons_ne_nil _ _, .cons r1 (.cons r2 (.cons r3 .nil)), ?_, ?_, ?_, q⟩
  · show (d1.showable && (d2.showable && (d3.showable && true))) = true
    rw [a1, a2, a3]
    rfl
  · show max d1.depth (max d2.depth (max d3.depth 0)) ≤ 40
    omega
  · show (listText [d1.shown, d2.shown, d3.shown]).length ≤ _
    rw [sizeLine_eq]
    omega
theorem fine_ok {t : List Nat} (h : Fine t) : PyData.strOk (SX.S t) = true := by
  unfold PyData.strOk
  show ((SX.S t).cps.all _) = true
  rw [← Array.all_toList]
  exact List.all_eq_true.mpr fun c hc => decide_eq_true (h c hc)
theorem eqv_strs : ∀ l : List Str, PyData.eqvAll (l.map .str) (l.map .str) = true
  | [] => rfl
  | x :: l => by simp [PyData.eqvAll, PyData.eqv, eqv_strs l]
theorem St.ext {p tP0 : Addr} {H0 H H' : Hp} (s : St p tP0 H0 H) (e : LamX.ExtN H H') (t : LamX.Tabs (lamT tP0) H') : St p tP0 H0 H' := ⟨LamX.ExtN.trans s.x (ext_del e p), by
  obtain ⟨x, y, z, h⟩ := s.d
  exact ⟨x, y, z, xl e h⟩, t⟩
def cQ : List Str := [Str.ofString "", Str.ofString "-", Str.ofString "none", Str.ofString "- | none", Str.ofString "0 0: - | -"]
theorem cQ_ok : cQ.all (fun y => decide ((TL.tl y).length ≤ 4000) && (decide ((TL.tl y).count 32 ≤ 62) && (decide ((TL.tl y).count 59 ≤ 62) && (TL.tl y).all fun c => decide (c < 1114112)))) = true := by decide +kernel
theorem cQ_few {y : Str} (h : y ∈ cQ) : Few (TL.tl y) ∧ Fine (TL.tl y) := by
  have := List.all_eq_true.mp cQ_ok y h
  simp only [Bool.and_eq_true, decide_eq_true_eq] at this
  exact ⟨⟨this.1, this.2.1, this.2.2.1⟩, fun c hc => of_decide_eq_true (List.all_eq_true.mp this.2.2.2 c hc)⟩
def numQ : List Int := [0, 0, 1, 5, 10 ^ Int.toNat 20]
theorem numQ_ok : numQ.all (fun i => decide (0 ≤ i) && decide (i < 10 ^ 60)) = true := by decide +kernel
theorem numQ_sml {i : Int} (h : i ∈ numQ) : Sml i := by
  have := List.all_eq_true.mp numQ_ok i h
  simp only [Bool.and_eq_true, decide_eq_true_eq] at this
  exact this
def keyQ : List (List Int) := [[0, 0], [0, 1], [1, 0], [2, 5], [10, 2]]
theorem keyQ_ok : keyQ.all (fun l => decide (l.length = 2) && l.all fun i => decide (0 ≤ i) && decide (i < 10 ^ 60)) = true ∧ keyQ.Nodup := by decide +kernel
theorem keyQ_key {l : List Int} (h : l ∈ keyQ) : l.length = 2 ∧ ∀ i ∈ l, Sml i := by
  have := List.all_eq_true.mp keyQ_ok.1 l h
  simp only [Bool.and_eq_true, decide_eq_true_eq] at this
  refine ⟨this.1, fun i hi => ?_⟩
  have := List.all_eq_true.mp this.2 i hi
  simp only [Bool.and_eq_true, decide_eq_true_eq] at this
  exact this
def spRt (tP0 : Addr) : Sp := fun vs H Q _ => ∃ p : Addr, vs = [.ref p] ∧ Dc H p ∧ LamX.Tabs (lamT tP0) H ∧ ∀ H', St p tP0 H H' → Q (.bl true) H'
theorem ok__law_right {f : Addr} {fd : FuncData} (F : Fun K "_law_right" "_law_right" s__law_right f fd) (T : Txt mg) (Z : PexZ K mg tx) {f__law_pick : Addr} {fd__law_pick : FuncData} (G__law_pick : FnOk P w K mg base CX0 2 f__law_pick fd__law_pick P__law_pick (spPick K)) (C__law_pick : Cal K mg "_law_pick" f__law_pick fd__law_pick P__law_pick) {f__law_roll : Addr} {fd__law_roll : FuncData} (G__law_roll : FnOk P w K mg base CX0 1 f__law_roll fd__law_roll P__law_roll spRoll) (C__law_roll : Cal K mg "_law_roll" f__law_roll fd__law_roll P__law_roll) {f__law_a_state : Addr} {fd__law_a_state : FuncData} (G__law_a_state : FnOk P w K mg base CX0 4 f__law_a_state fd__law_a_state P__law_a_state spSta) (C__law_a_state : Cal K mg "_law_a_state" f__law_a_state fd__law_a_state P__law_a_state) {f__law_some : Addr} {fd__law_some : FuncData} (G__law_some : FnOk P w K mg base CX0 2 f__law_some fd__law_some P__law_some (spSome K)) (C__law_some : Cal K mg "_law_some" f__law_some fd__law_some P__law_some) {f__law_line : Addr} {fd__law_line : FuncData} (G__law_line : FnOk P w K mg base CX0 1 f__law_line fd__law_line P__law_line spNT) (C__law_line : Cal K mg "_law_line" f__law_line fd__law_line P__law_line) {f__law_state_line : Addr} {fd__law_state_line : FuncData} (G__law_state_line : FnOk P w K mg base CX0 2 f__law_state_line fd__law_state_line P__law_state_line spSTx) (C__law_state_line : Cal K mg "_law_state_line" f__law_state_line fd__law_state_line P__law_state_line) {f_write_numbers : Addr} {fd_write_numbers : FuncData} (G_write_numbers : FnOk P w K mg base CX0 3 f_write_numbers fd_write_numbers P_write_numbers spNT) (C_write_numbers : Cal K mg "write_numbers" f_write_numbers fd_write_numbers P_write_numbers) {f_write_state : Addr} {fd_write_state : FuncData} (G_write_state : FnOk P w K mg base CX0 6 f_write_state fd_write_state P_write_state spWS) (C_write_state : Cal K mg "write_state" f_write_state fd_write_state P_write_state) {f_write_table : Addr} {fd_write_table : FuncData} (G_write_table : FnOk P w K mg base CX0 7 f_write_table fd_write_table P_write_table spWT) (C_write_table : Cal K mg "write_table" f_write_table fd_write_table P_write_table) {f_read_numbers : Addr} {fd_read_numbers : FuncData} (G_read_numbers : FnOk P w K mg base (L2.CX P w) 3 f_read_numbers fd_read_numbers P_read_numbers (spRN tx)) (C_read_numbers : Cal K mg "read_numbers" f_read_numbers fd_read_numbers P_read_numbers) {f_read_state : Addr} {fd_read_state : FuncData} (G_read_state : FnOk P w K mg base (L2.CX P w) 7 f_read_state fd_read_state P_read_state (spRS tx)) (C_read_state : Cal K mg "read_state" f_read_state fd_read_state P_read_state) {f_read_table : Addr} {fd_read_table : FuncData} (G_read_table : FnOk P w K mg base (L2.CX P w) 8 f_read_table fd_read_table P_read_table (spRT tx)) (C_read_table : Cal K mg "read_table" f_read_table fd_read_table P_read_table) {f__law_strings_right : Addr} {fd__law_strings_right : FuncData} (G__law_strings_right : FnG P w K mg base CX0 19 f__law_strings_right fd__law_strings_right P__law_strings_right (spStr tP0)) (C__law_strings_right : Cal K mg "_law_strings_right" f__law_strings_right fd__law_strings_right P__law_strings_right) {f__law_bent : Addr} {fd__law_bent : FuncData} (G__law_bent : FnOk P w K mg base CX0 3 f__law_bent fd__law_bent P__law_bent spBent) (C__law_bent : Cal K mg "_law_bent" f__law_bent fd__law_bent P__law_bent) : FnG P w K mg base CX0 20 f fd P__law_right (spRt tP0) := by
  refine okG F sc__law_right (fun vs H Q E h => ?_) (fun cdv A outer s H vs Q E hg hr h => ?_)
  · obtain ⟨p, rfl, _⟩ := h
    rfl
  · obtain ⟨p, rfl, hd, hT, q⟩ := h
    refine ⟨_, (pss_cons (ps_set (i := 1) sc__law_right.nd rfl (Or.inl rfl) (pe_callTy call_tuple_of (by rfl) T.n_tuple (by decide +kernel) (pa_cons (pe_lc (own := [("_law_turn", 2)]) (g := gName 2) (tt := tYes) rfl sc__law_right.nd (pi_range1 (by rfl) T.n_range (pa_cons (pe_call G__law_roll (hr.mono (by decide)) rfl C__law_roll.m C__law_roll.k C__law_roll.b .nil pass0 (pa_cons (pv 0) (pa_cons pe_int pa_nil))) pa_nil)) (blkOk_by (own := [("_law_turn", 2)]) (N := ["_law_dice_here", "_law_numbers", "_law_turn", "_law_state", "_law_table", "_law_lines", "_law_key", "_law_due", "_law_one"]) (sc := (defScope s__law_right)) (by decide +kernel)) (fun _ _ _ _ _ => (pg_name (i := 2) sc__law_right.nd rfl (Or.inl rfl))) (fun _ _ _ _ _ => pts_nil) (fun _ _ _ _ _ => (pe_call G__law_pick (hr.mono (by decide)) rfl C__law_pick.m C__law_pick.k C__law_pick.b .nil pass0 (pa_cons (pv 0) (pa_cons (pe_lst (pa_cons pe_int (pa_cons pe_int (pa_cons pe_int (pa_cons pe_int (pa_cons (pe_op op_powW pe_int pe_int) pa_nil)))))) pa_nil))))) pa_nil)))
      (pss_cons (ps_par3 (i := 3) (j := 4) (l := 5) (by rfl) sc__law_right.nd rfl rfl rfl (by decide) (by decide) (by decide) rfl rfl rfl (pa_cons (pe_call G__law_a_state (hr.mono (by decide)) rfl C__law_a_state.m C__law_a_state.k C__law_a_state.b .nil pass0 (pa_cons (pv 0) pa_nil)) (pa_cons pe_dnewT (pa_cons (pe_lst pa_nil) pa_nil))) (by rfl))
      (pss_cons (ps_for PassesOwn.never rfl (pi_list (pe_callB (cr_sortUL (hu64i hr)) (by rfl) T.n_sorted (by decide +kernel) (pa_cons (pe_call G__law_some (hr.mono (by decide)) rfl C__law_some.m C__law_some.k C__law_some.b .nil pass0 (pa_cons (pv 0) (pa_cons (pe_lst (pa_cons (pe_tup (pa_cons pe_int (pa_cons pe_int pa_nil))) (pa_cons (pe_tup (pa_cons pe_int (pa_cons pe_int pa_nil))) (pa_cons (pe_tup (pa_cons pe_int (pa_cons pe_int pa_nil))) (pa_cons (pe_tup (pa_cons pe_int (pa_cons pe_int pa_nil))) (pa_cons (pe_tup (pa_cons pe_int (pa_cons pe_int pa_nil))) pa_nil)))))) (pa_cons (pe_call G__law_roll (hr.mono (by decide)) rfl C__law_roll.m C__law_roll.k C__law_roll.b .nil pass0 (pa_cons (pv 0) (pa_cons pe_int pa_nil))) pa_nil)))) pa_nil))) (pg_name (i := 6) sc__law_right.nd rfl (Or.inl rfl)) (pss_cons (ps_asg (pe_call G__law_a_state (hr.mono (by decide)) rfl C__law_a_state.m C__law_a_state.k C__law_a_state.b .nil pass0 (pa_cons (pv 0) pa_nil)) (pg_sub (pv 4) (pv 6) (set_dict (hu_of hr))))
      (pss_one (ps_expr (pe_bm PySem.F.plainAttrs_list PySem.F.slot_list_append PySem.F.type_list_append mt_append (pv 5) (pa_cons (pe_op op_add_str (pe_op op_add_str (pe_call G__law_line (hr.mono (by decide)) rfl C__law_line.m C__law_line.k C__law_line.b .nil pass0 (pa_cons (pv 6) pa_nil)) pe_str) (pe_call G__law_state_line (hr.mono (by decide)) rfl C__law_state_line.m C__law_state_line.k C__law_state_line.b .nil pass0 (pa_cons (pe_dget (hu_of hr) (pv 4) (pv 6) (fun _ _ => rfl)) pa_nil))) pa_nil))))))
      (pss_cons (ps_set (i := 7) sc__law_right.nd rfl (Or.inl rfl) (pe_lst (pa_cons (pe_call G__law_line (hr.mono (by decide)) rfl C__law_line.m C__law_line.k C__law_line.b .nil pass0 (pa_cons (pv 1) pa_nil)) (pa_cons (pe_call G__law_state_line (hr.mono (by decide)) rfl C__law_state_line.m C__law_state_line.k C__law_state_line.b .nil pass0 (pa_cons (pv 3) pa_nil)) (pa_cons (pe_ifExp (pt_cmpR (op_neD hr.units) (pv 5) (pe_lst pa_nil) (nomark _)) (pe_join pe_str (pv 5)) pe_str) pa_nil)))))
      (pss_cons (ps_if (pt_cmpR (op_neD hr.units) (pe_lst (pa_cons (pe_call G_write_numbers (hr.mono (by decide)) rfl C_write_numbers.m C_write_numbers.k C_write_numbers.b .nil pass0 (pa_cons (pv 1) pa_nil)) (pa_cons (pe_call G_write_state (hr.mono (by decide)) rfl C_write_state.m C_write_state.k C_write_state.b .nil pass0 (pa_cons (pv 3) pa_nil)) (pa_cons (pe_call G_write_table (hr.mono (by decide)) rfl C_write_table.m C_write_table.k C_write_table.b .nil pass0 (pa_cons (pv 4) pa_nil)) pa_nil)))) (pv 7) (nomark _)) (pss_one (ps_ret pe_bl)) pss_nil)
      (pss_cons (ps_if (pt_cmpR op_ne (pe_callB (call_reprZ (K := K) hg (hu64i hr)) (by rfl) T.n_repr (by decide +kernel) (pa_cons (pe_lst (pa_cons (pe_call G_read_numbers (hr.mono (by decide)) rfl C_read_numbers.m C_read_numbers.k C_read_numbers.b .nil passL (pa_cons (pe_ix ix_list (pv 7) pe_int (fun _ _ => rfl)) pa_nil)) (pa_cons (pe_call G_read_state (hr.mono (by decide)) rfl C_read_state.m C_read_state.k C_read_state.b .nil passL (pa_cons (pe_ix ix_list (pv 7) pe_int (fun _ _ => rfl)) pa_nil)) (pa_cons (pe_call G_read_table (hr.mono (by decide)) rfl C_read_table.m C_read_table.k C_read_table.b .nil passL (pa_cons (pe_ix ix_list (pv 7) pe_int (fun _ _ => rfl)) pa_nil)) pa_nil)))) pa_nil)) (pe_callB (call_reprZ (K := K) hg (hu64i hr)) (by rfl) T.n_repr (by decide +kernel) (pa_cons (pe_lst (pa_cons (pv 1) (pa_cons (pv 3) (pa_cons (pv 4) pa_nil)))) pa_nil)) (nomark _)) (pss_one (ps_ret pe_bl)) pss_nil)
      (pss_cons (ps_for PassesOwn.never rfl (pi_range1 (by rfl) T.n_range (pa_cons pe_int pa_nil)) (pg_name (i := 2) sc__law_right.nd rfl (Or.inl rfl)) (pss_one (ps_if (pt_not (pt_val (pe_callG G__law_strings_right hg (hr.mono (by decide)) rfl C__law_strings_right.m C__law_strings_right.k C__law_strings_right.b .nil pass0 (pa_cons (pe_call G__law_bent (hr.mono (by decide)) rfl C__law_bent.m C__law_bent.k C__law_bent.b .nil pass0 (pa_cons (pv 0) (pa_cons (pe_ix ix_list (pv 7) pe_int (fun _ _ => rfl)) pa_nil))) (pa_cons (pe_call G__law_bent (hr.mono (by decide)) rfl C__law_bent.m C__law_bent.k C__law_bent.b .nil pass0 (pa_cons (pv 0) (pa_cons (pe_ix ix_list (pv 7) pe_int (fun _ _ => rfl)) pa_nil))) (pa_cons (pe_call G__law_bent (hr.mono (by decide)) rfl C__law_bent.m C__law_bent.k C__law_bent.b .nil pass0 (pa_cons (pv 0) (pa_cons (pe_ix ix_list (pv 7) pe_int (fun _ _ => rfl)) pa_nil))) pa_nil)))))) (pss_one (ps_ret pe_bl)) pss_nil)))
      (pss_one (ps_ret (pe_cmpR (op_eqD hr.units) (pe_lc (own := [("_law_one", 8)]) (g := gName 8) rfl sc__law_right.nd (pi_list (pe_lst (pa_cons pe_str (pa_cons pe_str (pa_cons pe_str (pa_cons pe_str (pa_cons pe_str pa_nil))))))) (blkOk_by (own := [("_law_one", 8)]) (N := ["_law_dice_here", "_law_numbers", "_law_turn", "_law_state", "_law_table", "_law_lines", "_law_key", "_law_due", "_law_one"]) (sc := (defScope s__law_right)) (by decide +kernel)) (fun _ _ _ _ _ => (pg_name (i := 8) sc__law_right.nd rfl (Or.inl rfl))) (fun _ _ _ _ _ => (pts_one (pt_not (pt_val (pe_callG G__law_strings_right hg (hr.mono (by decide)) rfl C__law_strings_right.m C__law_strings_right.k C__law_strings_right.b .nil pass0 (pa_cons (pv 8) (pa_cons (pv 8) (pa_cons (pv 8) pa_nil)))))))) (fun _ _ _ _ _ => (pv 8))) (pe_lst pa_nil) (nomark _))))))))))), ?_⟩
    -- the numbers
    refine ⟨_, rfl, p, 4, rfl, hd, by decide, by decide, fun r H1 r0 rlt e1 o1 d1 => ?_⟩
    refine ⟨r, rfl, by omega, by omega, fun D hD => ?_⟩
    have nDp : D ≠ p := (d1.ne hD).symm
    have b1 : But p H H1 := But.of1 o1
    have hT1 := Tabs.ev hT e1
    refine lc_range (lo := 0) (n := r.toNat) (fun i H' => But p H1 H' ∧ Dc H' p ∧ LamX.Tabs (lamT tP0) H' ∧ ∃ ks : List Int, H' D = some (.lst (ks.map V.int)) ∧ ks.length = i ∧ ∀ k ∈ ks, Sml k)
      ⟨But.ofS (sameOf hD fun b hb => upd_ne hb), d1.keep hD (fun b hb => upd_ne hb), Tabs.same hT1 (sameOf hD fun b hb => upd_ne hb), [], upd_same, rfl, fun q hq => by cases hq⟩ ?_ ?_
    · rintro i H' hi ⟨b2, d2, hT2, ks, hl, lk, hk⟩
      refine ⟨rfl, ?_⟩
      refine ⟨_, rfl, _, _, rfl, rfl, (powOk (by decide +kernel)), szr rfl, fun p1 n1 => ?_⟩
      generalize g1 : upd _ p1 _ = H3; obtain ⟨e3, o3, t3⟩ := made n1 g1; clear g1
      have t3 : H3 p1 = some (.lst (numQ.map V.int)) := t3
      have np1 : p1 ≠ p := (d2.ne n1).symm
      have d3 := d2.keep n1 o3
      have hl3 : H3 D = _ := (o3 D (ne_of_none hl n1)).trans hl
      refine ⟨p, p1, numQ.map V.int, rfl, d3, SqL.of t3, fun H' _ o => SqL.of ((o _ np1).trans t3), (by show 0 < 5; decide), (by show 5 < 1000000; decide), fun i2 v H4 hi2 e4 o4 d4 => ?_⟩
      rw [List.getElem?_map] at hi2
      cases hk2 : numQ[i2]? with
      | none => rw [hk2] at hi2; cases hi2
      | some k =>
        rw [hk2] at hi2
        cases hi2
        have hl4 := (o4 D nDp).trans hl3
        have b4 : But p H' H4 := (But.ofS (sameOf n1 o3)).trans (But.of1 o4)
        have evD : Ev2 H4 (upd H4 D (.lst (ks.map V.int ++ [V.int k]))) := Ev2.lst hl4
        refine ⟨_, hl4, szlt (by rw [List.length_map]; omega), fun b o nb hb => ?_, ?_, Tabs.ev (Tabs.ev (Tabs.ev hT2 e3) e4) evD, ks ++ [k], by rw [upd_same, List.map_append]; rfl, by rw [List.length_append, lk]; rfl, fun q hq => ?_⟩
        · rw [upd_ne (ne_of_none hb hD)]
          exact b4 b o nb (b2 b o nb hb)
        · obtain ⟨x, y, z, h⟩ := d4
          exact ⟨x, y, z, by rw [upd_ne nDp.symm]; exact h⟩
        · rcases List.mem_append.mp hq with hq | hq
          · exact hk q hq
          · rw [List.mem_singleton.mp hq]
            exact numQ_sml (List.mem_of_getElem? hk2)
    · rintro H2 ⟨b2, d2, hT2, nums, hl, lk, hk⟩
      have ln3 : nums.length ≤ 3 := by omega
      refine ⟨_, _, rfl, .inl ⟨SqL.of hl, fun pn n1 => ?_⟩⟩
      generalize g1 : upd _ pn _ = H3; obtain ⟨e3, o3, t3⟩ := made n1 g1; clear g1
      have d3 := d2.keep n1 o3
      have hT3 := Tabs.ev hT2 e3
      have b3 : But p H H3 := (b1.trans b2).trans (But.ofS (sameOf n1 o3))
      have npn : pn ≠ p := (d2.ne n1).symm
      -- the state, the table, the lines
      refine ⟨_, rfl, p, rfl, d3, fun vS sS H4 b4 d4 hS gS => ?_⟩
      have hT4 := Tabs.ev hT3 (b4.ev d3 d4)
      have t4 := b4 _ _ npn t3
      refine fun pt nt => ?_
      generalize g1 : upd _ pt _ = H5; obtain ⟨e5, o5, t5⟩ := made nt g1; clear g1
      have s5 := sameOf nt o5
      refine ⟨szr rfl, fun pl nl => ?_⟩
      generalize g1 : upd _ pl _ = H6; obtain ⟨e6, o6, t6⟩ := made nl g1; clear g1
      have s6 := sameOf nl o6
      refine ⟨_, _, _, rfl, ?_⟩
      have d6 := (d4.keep nt o5).keep nl o6
      -- the keys
      refine ⟨_, rfl, szr rfl, fun k1 m1 => ?_⟩
      generalize g1 : upd _ k1 _ = G1; obtain ⟨f1, q1, u1⟩ := made m1 g1; clear g1
      refine ⟨szr rfl, fun k2 m2 => ?_⟩
      generalize g1 : upd _ k2 _ = G2; obtain ⟨f2, q2, u2⟩ := made m2 g1; clear g1
      refine ⟨szr rfl, fun k3 m3 => ?_⟩
      generalize g1 : upd _ k3 _ = G3; obtain ⟨f3, q3, u3⟩ := made m3 g1; clear g1
      refine ⟨szr rfl, fun k4 m4 => ?_⟩
      generalize g1 : upd _ k4 _ = G4; obtain ⟨f4, q4, u4⟩ := made m4 g1; clear g1
      refine ⟨szr rfl, fun k5 m5 => ?_⟩
      generalize g1 : upd _ k5 _ = G5; obtain ⟨f5, q5, u5⟩ := made m5 g1; clear g1
      refine ⟨szr rfl, fun pk mk => ?_⟩
      generalize g1 : upd _ pk _ = G6; obtain ⟨f6, q6, u6⟩ := made mk g1; clear g1
      have v1 := sameOf m1 q1
      have v2 := sameOf m2 q2
      have v3 := sameOf m3 q3
      have v4 := sameOf m4 q4
      have v5 := sameOf m5 q5
      have v6 := sameOf mk q6
      have sG : Same H6 G6 := ((((v1.trans v2).trans v3).trans v4).trans v5).trans v6
      have dG := (((((d6.keep m1 q1).keep m2 q2).keep m3 q3).keep m4 q4).keep m5 q5).keep mk q6
      have hk0 : ∀ (j : Nat) (l : Addr), ([k1, k2, k3, k4, k5] : List Addr)[j]? = some l → ∃ kk : List Int, keyQ[j]? = some kk ∧ G6 l = some (.tup (kk.map V.int)) := by
        intro j l hj
        match j, hj with
        | 0, hj => cases hj; exact ⟨_, rfl, v6 _ _ (v5 _ _ (v4 _ _ (v3 _ _ (v2 _ _ u1))))⟩
        | 1, hj => cases hj; exact ⟨_, rfl, v6 _ _ (v5 _ _ (v4 _ _ (v3 _ _ u2)))⟩
        | 2, hj => cases hj; exact ⟨_, rfl, v6 _ _ (v5 _ _ (v4 _ _ u3))⟩
        | 3, hj => cases hj; exact ⟨_, rfl, v6 _ _ (v5 _ _ u4)⟩
        | 4, hj => cases hj; exact ⟨_, rfl, v6 _ _ u5⟩
        | j + 5, hj => cases hj
      have u6 : G6 pk = some (.lst ([k1, k2, k3, k4, k5].map V.ref)) := u6
      have eK : ([k1, k2, k3, k4, k5] : List Addr).map (intsAt G6) = keyQ := by
        refine List.ext_getElem? fun j => ?_
        rw [List.getElem?_map]
        cases hj : ([k1, k2, k3, k4, k5] : List Addr)[j]? with
        | none =>
          have : 5 ≤ j := List.getElem?_eq_none_iff.mp hj
          exact (List.getElem?_eq_none_iff.mpr this).symm
        | some l =>
          obtain ⟨kk, e1, e2⟩ := hk0 j l hj
          rw [e1]
          exact congrArg some (intsAt_of e2)
      have kTup : ∀ l ∈ ([k1, k2, k3, k4, k5] : List Addr), G6 l = some (.tup ((intsAt G6 l).map V.int)) ∧ intsAt G6 l ∈ keyQ := fun l hl => by
        obtain ⟨j, hj⟩ := List.getElem?_of_mem hl
        obtain ⟨kk, e1, e2⟩ := hk0 j l hj
        rw [intsAt_of e2]
        exact ⟨e2, List.mem_of_getElem? e1⟩
      generalize ([k1, k2, k3, k4, k5] : List Addr) = kas at u6 eK kTup
      clear u1 u2 u3 u4 u5 hk0
      have npk : pk ≠ p := (((((((d6.keep m1 q1).keep m2 q2).keep m3 q3).keep m4 q4).keep m5 q5)).ne mk).symm
      have lkas : kas.length = 5 := by
        have := congrArg List.length eK
        rw [List.length_map] at this
        exact this
      refine ⟨_, rfl, p, 5, rfl, dG, by decide, by decide, fun r2 G7 r20 r2lt e7 o7 d7 => ?_⟩
      have u7 : G7 pk = some (.lst (kas.map V.ref)) := (o7 pk npk).trans u6
      refine ⟨p, pk, kas.map V.ref, r2, rfl, d7, u7, r20, by omega, by rw [List.length_map]; omega, fun l ys zs G8 b8 d8 nl8 ne8 hl8 pm8 le8 => ?_⟩
      obtain ⟨bs, ebs, cs, pcs⟩ := perm_refs pm8
      subst ebs
      have lbs : bs.length ≤ 4 := by
        rw [List.length_map, List.length_map] at le8
        split at le8 <;> omega
      have b68 : But p G6 G8 := (But.of1 o7).trans b8
      have inK : ∀ b ∈ bs, b ∈ kas := fun b hb => pcs.mem_iff.mp (List.mem_append_left _ hb)
      have npK : ∀ b ∈ kas, b ≠ p := fun b hb z => by
        obtain ⟨x, y, w, e⟩ := dG
        have := (kTup b hb).1
        rw [z, e] at this
        cases this
      have kT8 : ∀ b ∈ kas, G8 b = some (.tup ((intsAt G6 b).map V.int)) := fun b hb => b68 _ _ (npK b hb) (kTup b hb).1
      have kI8 : ∀ b ∈ kas, intsAt G8 b = intsAt G6 b := fun b hb => intsAt_of (kT8 b hb)
      refine ⟨l, bs, rfl, SqL.of hl8, fun b hb => ⟨_, kT8 b (inK b hb)⟩, fun as pp pm pw np => ?_⟩
      generalize g1 : upd _ pp _ = G9; obtain ⟨e9, o9, t9⟩ := made np g1; clear g1
      have s9 := sameOf np o9
      have d9 := d8.keep np o9
      have inA : ∀ b ∈ as, b ∈ kas := fun b hb => inK b (pm.mem_iff.mp hb)
      have las : as.length ≤ 4 := by rw [pm.length_eq]; exact lbs
      have ndA : (as.map (intsAt G6)).Nodup := by
        have h1 : ((as ++ cs).map (intsAt G6)).Perm keyQ := by
          rw [← eK]
          exact ((pm.append_right cs).trans pcs).map _
        have h2 := h1.nodup_iff.mpr keyQ_ok.2
        rw [List.map_append] at h2
        exact (List.nodup_append.mp h2).1
      have pwA : (as.map (intsAt G6)).Pairwise (fun a b => HT.lexLt a b = true) := by
        have h1 : (as.map (intsAt G6)).Pairwise (fun a b => HT.lexLt b a = false) := by
          rw [List.pairwise_map]
          refine pw.imp_of_mem fun {a b} ha hb h => ?_
          rw [kI8 b (inA b hb), kI8 a (inA a ha)] at h
          exact h
        refine (h1.and ndA).imp fun {a b} xy => ?_
        cases z : HT.lexLt a b with
        | true => rfl
        | false => exact absurd (lex_tot z xy.1) xy.2
      have b69 : But p G6 G9 := b68.trans (But.ofS s9)
      refine ⟨_, rfl, ⟨_, SqL.of t9⟩, ?_⟩
      have npt : pt ≠ p := (d4.ne nt).symm
      have npl : pl ≠ p := ((d4.keep nt o5).ne nl).symm
      have tlp : pl ≠ pt := (ne_of_none t5 nl).symm
      have bA : But p H G9 := (((b3.trans b4).trans (But.ofS (s5.trans s6))).trans (But.ofS sG)).trans b69
      have S9 : St p tP0 H G9 := (⟨LamX.ExtN.refl _, hd, hT⟩ : St p tP0 H H).but bA d9 (Tabs.ev (Tabs.same (Tabs.same hT4 (s5.trans s6)) sG) (b69.ev dG d9))
      have hpt0 : H pt = none := But.none (b3.trans b4) d4 nt
      have hpl0 : H pl = none := But.none ((b3.trans b4).trans (But.ofS s5)) (d4.keep nt o5) nl
      have hS9 : Dx G9 vS (stateP sS) := (((hS.same (s5.trans s6)).same sG)).mono (b69.ev dG d9) (stP_df gS).2
      have c1 : G9 pn = some (.tup (nums.map V.int)) := b69 _ _ npn (sG _ _ (s6 _ _ (s5 _ _ t4)))
      have c2 : G9 pt = some (.dT []) := b69 _ _ npt (sG _ _ (s6 _ _ t5))
      have c3 : G9 pl = some (.lst []) := b69 _ _ npl (sG _ _ t6)
      have c4 : ∀ b ∈ as, G9 b = some (.tup ((intsAt G6 b).map V.int)) := fun b hb => s9 _ _ (kT8 b (inA b hb))
      have nep : pp ≠ pl ∧ pp ≠ pt ∧ pp ≠ p := ⟨fun z => (by have := b68 _ _ npl (sG _ _ t6); rw [← z, np] at this; cases this), fun z => (by have := b68 _ _ npt (sG _ _ (s6 _ _ t5)); rw [← z, np] at this; cases this), (d8.ne np).symm⟩
      have nen : pn ≠ pl ∧ pn ≠ pt := ⟨fun z => (by rw [z, c3] at c1; cases c1), fun z => (by rw [z, c2] at c1; cases c1)⟩
      have goodK : ∀ b ∈ as, (intsAt G6 b).length = 2 ∧ ∀ i ∈ intsAt G6 b, Sml i := fun b hb => keyQ_key (kTup b (inA b hb)).2
      generalize eJ : (fun b => intsAt G6 b) = J at c4 goodK ndA pwA
      have eJ2 : ∀ b, intsAt G6 b = J b := fun b => by rw [← eJ]
      simp only [eJ2] at c4 goodK
      have ndA : (as.map J).Nodup := by rw [← eJ]; exact ndA
      have pwA : (as.map J).Pairwise (fun a b => HT.lexLt a b = true) := by rw [← eJ]; exact pwA
      clear e1 o1 t3 e3 o3 b2 e5 o5 t5 e6 o6 t6 f1 q1 f2 q2 f3 q3 f4 q4 f5 q5 f6 q6 e7 o7 u6 u7 hl8 e9 o9 pw le8 hS t4 eK kTup kT8 kI8 pcs inK npK
      refine for_list (K := K) (a := pp) (xs := as.map V.ref) (fun i σ H' => ∃ (T : List (List Int × Sta)) (kvs : List (List Key × V)) (a6 : Option V), σ = [some (.ref p), some (.ref pn), none, some vS, some (.ref pt), some (.ref pl), a6, none, none] ∧ St p tP0 H H' ∧ H' pn = some (.tup (nums.map V.int)) ∧ Dx H' vS (stateP sS) ∧ H' pp = some (.lst (as.map V.ref)) ∧ (∀ b ∈ as, H' b = some (.tup ((J b).map V.int))) ∧
        H' pt = some (.dT kvs) ∧ kvs.map Prod.fst = T.map (fun e => (e.1.map Sum.inl : List Key)) ∧ DxAll (del H' pt) (kvs.map Prod.snd) (T.map fun e => stateP e.2) ∧ H' pl = some (.lst (T.map fun e => V.str (SX.S (lineS e)))) ∧ T.map Prod.fst = (as.take i).map J ∧ ∀ e ∈ T, StGood e.2)
        ⟨[], [], _, rfl, S9, c1, hS9, t9, c4, c2, rfl, .nil, c3, rfl, fun e he => by cases he⟩ (fun i σ H' _ ⟨_, _, _, _, _, _, _, h, _⟩ => SqL.of h) ?_ ?_
      · rintro i y σ E1 hi ⟨T, kvs, a6, rfl, S1, h1, h2, h3, h4, h5, h6, h7, h8, h9, h10⟩
        rw [List.getElem?_map] at hi
        cases hw : as[i]? with
        | none => rw [hw] at hi; cases hi
        | some b =>
          rw [hw] at hi
          cases hi
          have bm := List.mem_of_getElem? hw
          have il := (List.getElem?_eq_some_iff.mp hw).1
          have lT : T.length = i := by
            have := congrArg List.length h9
            rw [List.length_map, List.length_map, List.length_take] at this
            omega
          have lkv : kvs.length = i := by
            have := congrArg List.length h6
            rw [List.length_map, List.length_map] at this
            omega
          have nbt : b ≠ pt := fun z => by have := h4 b bm; rw [z, h5] at this; cases this
          have nbl : b ≠ pl := fun z => by have := h4 b bm; rw [z, h8] at this; cases this
          have nbp : b ≠ p := fun z => by
            obtain ⟨x, y, w, e⟩ := S1.d
            have := h4 b bm
            rw [z, e] at this
            cases this
          have newK : ((J b).map Sum.inl : List Key) ∉ kvs.map Prod.fst := fun m => by
            rw [h6] at m
            obtain ⟨e, he, z⟩ := List.mem_map.mp m
            have m2 : e.1 ∈ (as.take i).map J := by rw [← h9]; exact List.mem_map_of_mem he
            have nd2 : ((as.take (i + 1)).map J).Nodup := (List.Sublist.map J (List.take_sublist _ _)).nodup ndA
            rw [List.take_add_one, hw, Option.toList_some, List.map_append, List.nodup_append] at nd2
            exact nd2.2.2 _ m2 (J b) (by simp) (inl_inj z)
          refine ⟨_, rfl, p, rfl, S1.d, fun v s E2 b5 d5 hv gs => ?_⟩
          have ev2 := b5.ev S1.d d5
          have i5 := b5 _ _ npt h5
          have i8 := b5 _ _ npl h8
          have i4 : E2 b = some (.tup ((J b).map V.int)) := b5 _ _ nbp (h4 b bm)
          have iK : E2 b = some (.tup (((J b).map (Sum.inl : Int → Key)).map kV)) := by
            rw [List.map_map]
            exact i4
          obtain ⟨sdf, slf⟩ := stP_df gs
          refine ⟨_, rfl, _, rfl, pt, _, rfl, DPut.t (k := (J b).map Sum.inl) i5 iK (szlt (by omega)), ?_⟩
          rw [put_new newK]
          have dv : Dx (del E2 pt) v (stateP s) := dx_del i5 hv sdf
          generalize gE : upd E2 pt _ = E3
          have D23 : Same (del E2 pt) E3 := by rw [← gE]; exact upd_del _ _ _
          have D23d : Same (del E2 pt) (del E3 pt) := by rw [← gE]; exact upd_del2 _ _ _
          have at3 : ∀ {c : Addr} {o : HO}, c ≠ pt → E2 c = some o → E3 c = some o := fun n e => by rw [← gE, upd_ne n]; exact e
          have j5 : E3 pt = some (.dT (kvs ++ [((J b).map Sum.inl, v)])) := by rw [← gE]; exact upd_same
          have j4 := at3 nbt i4
          have jK := at3 nbt iK
          have j8 := at3 tlp i8
          refine ⟨_, rfl, (.inl ⟨rfl, _, SqL.of j8⟩), _, rfl, ?_⟩
          refine ⟨b, J b, rfl, j4, by have := (goodK b bm).1; omega, (goodK b bm).2, fun E4 s4 => ?_⟩
          have h9' : (T ++ [(J b, s)]).map Prod.fst = (as.take (i + 1)).map J := by
            rw [List.take_add_one, hw, Option.toList_some, List.map_append, List.map_append, h9]
            try rfl
          have asc' : (T ++ [(J b, s)]).Pairwise (fun e f => HT.lexLt e.1 f.1 = true) := by
            refine (List.pairwise_map (f := Prod.fst) (R := fun a b => HT.lexLt a b = true)).mp ?_
            rw [h9']
            exact pwA.sublist (List.Sublist.map J (List.take_sublist _ _))
          have k6' : (kvs ++ [((J b).map Sum.inl, v)]).map Prod.fst = (T ++ [(J b, s)]).map (fun e => (e.1.map Sum.inl : List Key)) := by
            rw [List.map_append, List.map_append, h6]
            rfl
          have ndk : ((kvs ++ [((J b).map Sum.inl, v)]).map Prod.fst).Nodup := by
            rw [k6']
            exact keys_nd asc'
          have gk := lim_nums (n := 2) (goodK b bm).2 (Nat.le_of_eq (goodK b bm).1)
          have lk1 : (sN (J b)).length ≤ 123 := by unfold sN; rw [len_S]; exact gk.n
          have ls1 : (SX.S (stateS s)).length ≤ 807 := by rw [len_S]; exact (lim_state gs).n
          refine ⟨_, _, rfl, rfl, (by rw [sizeLine_eq, show Str.length (Str.ofString ": ") = 2 from rfl]; omega), _, rfl, _, rfl, _, _, rfl, .inr ⟨_, (J b).map Sum.inl, b, .inl (s4 _ _ j5), rfl, s4 _ _ jK, (val_at (i := kvs.length) ndk List.getElem?_concat_length).symm⟩, ?_⟩
          have hv4 : Dx E4 v (stateP s) := (dv.same D23).same s4
          refine ⟨v, s, rfl, hv4, gs.ok, fun E5 s5 => ?_⟩
          refine ⟨_, _, rfl, rfl, (by rw [sizeLine_eq, len_app, show Str.length (Str.ofString ": ") = 2 from rfl]; omega), _, _, _, rfl, rfl, s5 _ _ (s4 _ _ j8), szlt (by rw [List.length_map]; omega), ?_⟩
          have eln : ((sN (J b) ++ Str.ofString ": " : Str) ++ SX.S (stateS s) : Str) = SX.S (lineS (J b, s)) := TL.ext_tl (by
            rw [TL.tl_append, TL.tl_append, sign_colon, sN, tl_S, tl_S, tl_S]
            unfold lineS
            simp)
          rw [eln]
          have s45 := s4.trans s5
          have a5 := s45 _ _ j5
          have a8 := s45 _ _ j8
          generalize gF : upd E5 pl _ = E6
          have evL : Ev2 E5 E6 := by rw [← gF]; exact Ev2.lst a8
          have at6 : ∀ {c : Addr} {o : HO}, c ≠ pl → E5 c = some o → E6 c = some o := fun n e => by rw [← gF, upd_ne n]; exact e
          have at25 : ∀ {c : Addr} {o : HO}, c ≠ pl → c ≠ pt → E2 c = some o → E6 c = some o := fun n n2 e => at6 n (s45 _ _ (at3 n2 e))
          refine ⟨T ++ [(J b, s)], kvs ++ [((J b).map Sum.inl, v)], _, rfl, ?_, at25 nen.1 nen.2 (b5 _ _ npn h1), ?_, at25 nep.1 nep.2.1 (b5 _ _ nep.2.2 h3), fun c hc => ?_, at6 tlp.symm a5, k6', ?_, by rw [← gF, upd_same, List.map_append]; rfl, h9', fun e he => ?_⟩
          · refine ⟨fun c o hc no => ?_, ?_, ?_⟩
            · by_cases z : c = p
              · rw [z, del_same] at hc
                cases hc
              · have e1 := S1.x c o hc no
                rw [del_ne z] at hc e1 ⊢
                exact at25 (fun w => by rw [w, hpl0] at hc; cases hc) (fun w => by rw [w, hpt0] at hc; cases hc) (b5 _ _ z e1)
            · obtain ⟨x, y, w, e⟩ := d5
              exact ⟨x, y, w, at25 npl.symm npt.symm e⟩
            · refine Tabs.keep (Tabs.ev S1.t ev2) fun c o hc n1 n2 => at25 (fun w => ?_) (fun w => ?_) hc
              · rw [w, i8] at hc
                cases hc
                exact n1 _ rfl
              · rw [w, i5] at hc
                cases hc
                exact n2 _ rfl
          · exact (((dx_del i5 (h2.mono ev2 (stP_df gS).2) (stP_df gS).1).same D23).same s45).mono evL (stP_df gS).2
          · have q1 := h4 c hc
            exact at25 (fun w => by rw [w, h8] at q1; cases q1) (fun w => by rw [w, h5] at q1; cases q1) (b5 _ _ (fun w => by
              obtain ⟨x, y, u, e⟩ := S1.d
              rw [w, e] at q1
              cases q1) q1)
          · rw [List.map_append, List.map_append]
            refine DxAll.app ?_ (.cons ?_ .nil)
            · exact (((h7.mono (del_ev ev2 pt) (stPs_lf h10)).same D23d).same (del_sm s45 pt)).mono (del_ev evL pt) (stPs_lf h10)
            · exact ((dv.same D23d).same (del_sm s45 pt)).mono (del_ev evL pt) slf
          · rcases List.mem_append.mp he with he | he
            · exact h10 e he
            · rw [List.mem_singleton.mp he]
              exact gs
      · rintro σ E1 ⟨T, kvs, a6, rfl, S1, h1, h2, h3, h4, h5, h6, h7, h8, h9, h10⟩
        rw [List.length_map, List.take_length] at h9
        have tg : TabG T := by
          refine ⟨?_, fun e he => ?_, h10, ?_⟩
          · have := congrArg List.length h9
            rw [List.length_map, List.length_map] at this
            omega
          · have m : e.1 ∈ as.map J := by rw [← h9]; exact List.mem_map_of_mem he
            obtain ⟨b, hb, z⟩ := List.mem_map.mp m
            rw [← z]
            exact goodK b hb
          · refine (List.pairwise_map (f := Prod.fst) (R := fun a b => HT.lexLt a b = true)).mp ?_
            rw [h9]
            exact pwA
        clear h3 h4 h9 h10 goodK ndA pwA c1 c2 c3 c4
        refine ⟨_, rfl, pn, nums, rfl, h1, by omega, hk, fun E2 s2 => ?_⟩
        refine ⟨_, rfl, vS, sS, rfl, h2.same s2, gS.ok, fun E3 s3 => ?_⟩
        have s23 := s2.trans s3
        refine ⟨_, rfl, szr rfl, fun p10 n10 => ?_⟩
        generalize g1 : upd _ p10 _ = E4; obtain ⟨e4, o4, t4⟩ := made n10 g1; clear g1
        have s4 := s23.trans (sameOf n10 o4)
        have fl : ∀ x ∈ T.map (fun e => SX.S (lineS e)), PyData.strOk x = true := fun x hx => by
          obtain ⟨e, he, rfl⟩ := List.mem_map.mp hx
          have b : Lim 2 1 0 [58, 32] := ⟨by decide, by decide, by decide, fun c hc => by simp at hc; omega⟩
          exact fine_ok (lim_app (lim_nums (n := 2) (tg.key e he).2 (Nat.le_of_eq (tg.key e he).1)) (lim_app b (lim_state (tg.val e he)))).f
        have h8' : E1 pl = some (.lst ((T.map fun e => SX.S (lineS e)).map V.str)) := by rw [List.map_map]; exact h8
        refine ⟨.list ((T.map fun e => SX.S (lineS e)).map .str), .list [], (Dx.lst (s4 _ _ h8') (dx_strs _)).dp (df_strs _), (Dx.lst t4 .nil).dp rfl, shaped_strs fl, rfl, _, rfl, ?_⟩
        have ec : (!PyData.eqv (.list ((T.map fun e => SX.S (lineS e)).map .str)) (.list [])) = !T.isEmpty := by cases T <;> rfl
        rw [ec]
        show (if (!T.isEmpty) = true then (?ta : TE) (?sg : L2.St) (?Hx : Hp) (?R : VK) else (?tb : TE) ?sg ?Hx ?R)
        have rest : ∀ E5, Same E4 E5 → ?R (.str (SX.S (tableS T))) E5 := by
          intro E5 s5
          have s15 := s4.trans s5
          refine ⟨szr rfl, fun pd nd => ?_⟩
          generalize g1 : upd _ pd _ = E6; obtain ⟨e6, o6, t6⟩ := made nd g1; clear g1
          have s16 := s15.trans (sameOf nd o6)
          have S6 := S1.same s16
          generalize hT1 : SX.S (tableS T) = x3 at t6
          have ex3 : TL.tl x3 = tableS T := by rw [← hT1, tl_S]
          have i1 := s16 _ _ h1
          have i2 := h2.same s16
          have i5 := s16 _ _ h5
          have i7 := h7.same (del_sm s16 pt)
          have sokn := lim_nums (n := 3) hk ln3
          have soks := lim_state gS
          have sokt := lim_table tg
          -- what is written
          refine ⟨_, rfl, pn, nums, rfl, i1, by omega, hk, fun E7 s7 => ?_⟩
          refine ⟨_, rfl, vS, sS, rfl, i2.same s7, gS.ok, gS.st, fun E8 s8 => ?_⟩
          have s78 := s7.trans s8
          refine ⟨_, rfl, pt, T, rfl, ⟨.inr ⟨kvs, s78 _ _ i5, h6, i7.same (del_sm s78 pt)⟩⟩, tg.ok, fun E9 s9 => ?_⟩
          have s79 := s78.trans s9
          rw [hT1]
          refine ⟨szr rfl, fun p12 n12 => ?_⟩
          generalize g1 : upd _ p12 _ = E10; obtain ⟨e10, o10, t10⟩ := made n12 g1; clear g1
          have s610 := s79.trans (sameOf n12 o10)
          have td := s610 _ _ t6
          generalize eds : [sN nums, SX.S (stateS sS), x3] = ds
          have t10 : E10 p12 = some (.lst (ds.map V.str)) := by rw [← eds]; exact t10
          have td : E10 pd = some (.lst (ds.map V.str)) := by rw [← eds]; exact td
          have okd : ∀ x ∈ ds, PyData.strOk x = true := fun x hx => by
            rw [← eds] at hx
            rcases List.mem_cons.mp hx with rfl | hx
            · exact fine_ok sokn.f
            · rcases List.mem_cons.mp hx with rfl | hx
              · exact fine_ok soks.f
              · rw [List.mem_singleton.mp hx, ← hT1]
                exact fine_ok sokt.f
          refine ⟨_, rfl, .list (ds.map .str), .list (ds.map .str), (Dx.lst t10 (dx_strs _)).dp (df_strs _), (Dx.lst td (dx_strs _)).dp (df_strs _), shaped_strs okd, shaped_strs okd, _, rfl, ?_⟩
          rw [show PyData.eqv (.list (ds.map .str)) (.list (ds.map .str)) = true from by rw [PyData.eqv]; exact eqv_strs ds]
          refine iteF ?_
          -- what is read
          have few1 : Few (TL.tl (sN nums)) := by rw [sN, tl_S]; exact sokn.few (by decide) (by decide) (by decide)
          have few2 : Few (TL.tl (SX.S (stateS sS))) := by rw [tl_S]; exact soks.few (by decide) (by decide) (by decide)
          have few3 : Few (TL.tl x3) := by rw [ex3]; exact sokt.few (by decide) (by decide) (by decide)
          have cN : numsC (TL.tl (sN nums)) = some nums := by rw [sN, tl_S]; exact numsC_numsS hk
          have cS : stD (TL.tl (SX.S (stateS sS))) = stateP sS := by rw [tl_S]; exact st_back gS.ok
          have cT : tabC (TL.tl x3) = .inr (entsP T) := by rw [ex3]; exact tab_back tg
          obtain ⟨shT, stT⟩ := tab_fits cT few3
          refine ⟨_, rfl, _, _, 0, .str (sN nums), rfl, rfl, SqL.of td, by rw [← eds]; exact atI_nat (j := 0) rfl, ?_⟩
          refine ⟨sN nums, rfl, by rw [TL.len_tl]; exact few1.1, fun l el v1 E11 s11 hv1 => ?_, fun en => by rw [cN] at en; cases en⟩
          cases cN.symm.trans el
          refine ⟨_, rfl, _, _, 1, .str (SX.S (stateS sS)), rfl, rfl, SqL.of (s11 _ _ td), by rw [← eds]; exact atI_nat (j := 1) rfl, ?_⟩
          refine ⟨SX.S (stateS sS), rfl, few2, fun el v2 E12 s12 hv2 => ?_, fun en => by rw [cS, gS.st] at en; cases en⟩
          rw [cS] at hv2
          refine ⟨_, rfl, _, _, 2, .str x3, rfl, rfl, SqL.of (s12 _ _ (s11 _ _ td)), by rw [← eds]; exact atI_nat (j := 2) rfl, ?_⟩
          refine ⟨x3, rfl, few3, fun es ees a3 E13 s13 hE3 => ?_, fun i ei => by rw [cT] at ei; cases ei⟩
          cases cT.symm.trans ees
          refine ⟨szr rfl, fun p13 n13 => ?_⟩
          generalize g1 : upd _ p13 _ = E14; obtain ⟨e14, o14, t14⟩ := made n13 g1; clear g1
          have s14 := sameOf n13 o14
          obtain ⟨sdf, slf⟩ := stP_df gS
          have shN : Shw 4 3909 (intsP nums) := (shw_ints hk (by omega)).up (by decide) (Nat.le_refl _)
          have shS : Shw 4 250312 (stateP sS) := (shw_stP (a := sS.1) (ls := sS.2) gS.ok.2.2.1 gS.ok.1 gS.ok.2.1 (fun r hr => ⟨(gS.ok.2.2.2 r hr).2, (gS.ok.2.2.2 r hr).1⟩)).up (by decide) (Nat.le_refl _)
          refine rz_three t14 (ri_dx ((hv1.same (s12.trans s13)).same s14) (df_ints nums) (lf_ints nums)) (ri_dx ((hv2.same s13).same s14) sdf slf) (ri_tab (hE3.ext (xOf s14)) stT) shN shS shT (by decide) (by decide) _ ?_
          have sA := (((s610.trans s11).trans s12).trans s13).trans s14
          refine ⟨_, rfl, _, rfl, _, rfl, szr rfl, fun p15 n15 => ?_⟩
          generalize g1 : upd _ p15 _ = E15; obtain ⟨e15, o15, t15⟩ := made n15 g1; clear g1
          have s15' := sameOf n15 o15
          have sB := sA.trans s15'
          have tE : TabE E15 pt (entsP T) := by
            refine ⟨.inr ⟨kvs, sB _ _ i5, ?_, ?_⟩⟩
            · unfold entsP
              rw [List.map_map]
              exact h6
            · unfold entsP
              rw [List.map_map]
              exact i7.same (del_sm sB pt)
          refine rz_three t15 (ri_dx (d := intsP nums) (.tup (sB _ _ i1) (dx_ints nums)) (df_ints nums) (lf_ints nums)) (ri_dx (i2.same sB) sdf slf) (ri_tab tE stT) shN shS shT (by decide) (by decide) _ ?_
          refine ⟨rfl, _, rfl, ?_⟩
          rw [decide_eq_true rfl]
          refine iteF ?_
          have S15 := S6.same sB
          have tdB : E15 pd = some (.lst (ds.map V.str)) := s15' _ _ (s14 _ _ (s13 _ _ (s12 _ _ (s11 _ _ td))))
          have npd : pd ≠ p := fun z => by
            obtain ⟨x, y, w, e⟩ := S1.d
            have := s15 _ _ e
            rw [← z, nd] at this
            cases this
          refine ⟨_, rfl, by decide, by decide, ?_⟩
          refine for_range (lo := 0) (n := 6) (fun i σ H' => ∃ (a2 a6' : Option V), σ = [some (.ref p), some (.ref pn), a2, some vS, some (.ref pt), some (.ref pl), a6', some (.ref pd), none] ∧ St p tP0 H H' ∧ H' pd = some (.lst (ds.map V.str))) ⟨_, _, rfl, S15, tdB⟩ ?_ ?_
          · rintro i σ E1 hi ⟨a2, a6', rfl, T1, w1⟩
            refine ⟨_, rfl, _, rfl, _, _, 0, .str (sN nums), rfl, rfl, SqL.of w1, by rw [← eds]; exact atI_nat (j := 0) rfl, ?_⟩
            refine ⟨p, sN nums, rfl, T1.d, by rw [sN, tl_S]; exact Nat.le_trans sokn.n (by decide), by rw [sN, tl_S]; exact Nat.le_trans sokn.a (by decide), by rw [sN, tl_S]; exact Nat.le_trans sokn.b (by decide), by rw [sN, tl_S]; exact sokn.f, fun y1 E2 b2 d2 f1 g1 => ?_⟩
            have w2 := b2 _ _ npd w1
            refine ⟨_, rfl, _, rfl, _, _, 1, .str (SX.S (stateS sS)), rfl, rfl, SqL.of w2, by rw [← eds]; exact atI_nat (j := 1) rfl, ?_⟩
            refine ⟨p, SX.S (stateS sS), rfl, d2, by rw [tl_S]; exact Nat.le_trans soks.n (by decide), by rw [tl_S]; exact Nat.le_trans soks.a (by decide), by rw [tl_S]; exact Nat.le_trans soks.b (by decide), by rw [tl_S]; exact soks.f, fun y2 E3 b3 d3 f2 g2 => ?_⟩
            have w3 := b3 _ _ npd w2
            refine ⟨_, rfl, _, rfl, _, _, 2, .str x3, rfl, rfl, SqL.of w3, by rw [← eds]; exact atI_nat (j := 2) rfl, ?_⟩
            refine ⟨p, x3, rfl, d3, by rw [ex3]; exact Nat.le_trans sokt.n (by decide), by rw [ex3]; exact Nat.le_trans sokt.a (by decide), by rw [ex3]; exact Nat.le_trans sokt.b (by decide), by rw [ex3]; exact sokt.f, fun y3 E4 b4 d4 f3 g3 => ?_⟩
            have w4 := b4 _ _ npd w3
            have bb := (b2.trans b3).trans b4
            have T4 : St p tP0 H E4 := T1.but bb d4 (Tabs.ev T1.t (But.ev bb T1.d d4))
            refine ⟨y1, y2, y3, rfl, fun y hy => ?_, T4.t, fun E5 x5 t5 => ?_⟩
            · rcases List.mem_cons.mp hy with rfl | hy
              · exact ⟨f1, g1⟩
              · rcases List.mem_cons.mp hy with rfl | hy
                · exact ⟨f2, g2⟩
                · rw [List.mem_singleton.mp hy]
                  exact ⟨f3, g3⟩
            refine ⟨_, rfl, ?_⟩
            refine iteF ?_
            exact ⟨_, _, rfl, T4.ext x5 t5, xl x5 w4⟩
          · rintro σ E1 ⟨a2, a6', rfl, T1, w1⟩
            refine ⟨szr rfl, fun p16 n16 => ?_⟩
            generalize g1 : upd _ p16 _ = E2; obtain ⟨e2, o2, t2⟩ := made n16 g1; clear g1
            have T2 := T1.same (sameOf n16 o2)
            have t2 : E2 p16 = some (.lst (cQ.map V.str)) := t2
            refine ⟨_, rfl, ⟨_, SqL.of t2⟩, fun D hD => ?_⟩
            refine lc_list (K := K) (a := p16) (xs := cQ.map V.str) (fun j G => St p tP0 H G ∧ G p16 = some (.lst (cQ.map V.str)) ∧ G D = some (.lst [])) ⟨T2.same (sameOf hD fun b hb => upd_ne hb), (upd_ne (ne_of_none t2 hD)).trans t2, upd_same⟩ (fun i G _ h => SqL.of h.2.1) ?_ ?_
            · rintro j y G hj ⟨T3, v1, v2⟩
              rw [List.getElem?_map] at hj
              cases hc : cQ[j]? with
              | none => rw [hc] at hj; cases hj
              | some c =>
                rw [hc] at hj
                cases hj
                have ok := cQ_few (List.mem_of_getElem? hc)
                refine ⟨rfl, ?_⟩
                refine ⟨_, rfl, _, rfl, _, rfl, c, c, c, rfl, fun y hy => ?_, T3.t, fun G2 x2 t2' => ?_⟩
                · rcases List.mem_cons.mp hy with rfl | hy
                  · exact ok
                  · rcases List.mem_cons.mp hy with rfl | hy
                    · exact ok
                    · rw [List.mem_singleton.mp hy]
                      exact ok
                refine ⟨_, rfl, ?_⟩
                refine iteF ?_
                exact ⟨T3.ext x2 t2', xl x2 v1, xl x2 v2⟩
            · rintro G ⟨T3, v1, v2⟩
              refine ⟨szr rfl, fun p17 n17 => ?_⟩
              generalize g1 : upd _ p17 _ = G2; obtain ⟨e3, o3, t3⟩ := made n17 g1; clear g1
              have s3 := sameOf n17 o3
              refine ⟨.list [], .list [], (Dx.lst (s3 _ _ v2) .nil).dp rfl, (Dx.lst t3 .nil).dp rfl, rfl, rfl, ?_⟩
              exact q _ (T3.same s3)
        cases eT : T with
        | nil =>
          refine iteF ?_
          have := rest E4 (Same.refl _)
          rw [eT] at this
          rw [show (Str.ofString "none") = SX.S (tableS []) from none_S]
          exact this
        | cons x0 xr =>
          have ne : T ≠ [] := by rw [eT]; exact List.cons_ne_nil _ _
          have el0 : tableS T = TL.joinL [10] (T.map lineS) := if_neg ne
          have h8'' : E4 pl = some (.lst (((T.map lineS).map SX.S).map V.str)) := by
            have := s4 _ _ h8'
            rw [List.map_map] at this ⊢
            rw [List.map_map]
            exact this
          refine iteT ?_
          refine ⟨⟨_, rfl⟩, _, rfl, _, _, (T.map lineS).map SX.S, rfl, rfl, .inl (SqL.of h8''), ?_, ?_⟩
          · have h5' := sum_num (l := T.map lineS) (m := 932) fun p hp => by
              obtain ⟨e, he, rfl⟩ := List.mem_map.mp hp
              have b : Lim 2 1 0 [58, 32] := ⟨by decide, by decide, by decide, fun c hc => by simp at hc; omega⟩
              exact (lim_app (lim_nums (n := 2) (tg.key e he).2 (Nat.le_of_eq (tg.key e he).1)) (lim_app b (lim_state (tg.val e he)))).n
            have := tg.few
            rw [List.length_map] at h5'
            rw [List.length_map, List.length_map, show Str.length (Str.ofString "\n") = 1 from rfl]
            omega
          · rw [nl_S, SX.join_S, ← el0]
            exact rest E4 (Same.refl _)

/-! ### the law -/
theorem one_all {α : Type} {x : α} {p : α → Prop} (hx : p x) : ∀ z ∈ [x], p z := fun z hz => by
  rw [List.mem_singleton.mp hz]
  exact hx
theorem tabs_one {H : Hp} {tP0 : Addr} (h0 : H tP0 = some (.tbl #[])) : LamX.Tabs (lamT tP0) H :=
  one_all ⟨#[], h0, trivial, fun _ _ z => nomatch z⟩
theorem St.ev {p tP0 : Addr} {H H' : Hp} (s : St p tP0 H H') (d : Dc H p) : EvN H H' := fun a o h n => by
  by_cases z : a = p
  · subst z
    obtain ⟨x, y, w, e⟩ := d
    obtain ⟨x', y', w', e'⟩ := s.d
    rw [e] at h
    cases h
    exact .inl ⟨_, _, rfl, e'⟩
  · have y := s.x a o (by rw [del_ne z]; exact h) n
    rw [del_ne z] at y
    exact .inr y
def spLaw9 (K : PySem.W.Frag) (tP0 : Addr) : Sp := fun vs H Q _ => ∃ (a : Addr) (ns : List Int), vs = [.ref a] ∧ ScrN K H a (ns.map V.int) ∧ ns.length ≤ 63 ∧ LamX.Tabs (lamT tP0) H ∧ ∀ H', Q (.bl true) H'
theorem ok_law {f : Addr} {fd : FuncData} (F : Fun K "law" "law" s_law f fd) (T : Txt mg) (Z : PexZ K mg tx) {f__law_dice : Addr} {fd__law_dice : FuncData} (G__law_dice : FnOk P w K mg base CX0 1 f__law_dice fd__law_dice P__law_dice (spDice K)) (C__law_dice : Cal K mg "_law_dice" f__law_dice fd__law_dice P__law_dice) {f__law_right : Addr} {fd__law_right : FuncData} (G__law_right : FnG P w K mg base CX0 20 f__law_right fd__law_right P__law_right (spRt tP0)) (C__law_right : Cal K mg "_law_right" f__law_right fd__law_right P__law_right) : FnG P w K mg base CX0 21 f fd P_law (spLaw9 K tP0) := by
  refine okG F sc_law (fun vs H Q E h => ?_) (fun cdv A outer s H vs Q E hg hr h => ?_)
  · obtain ⟨a, ns, rfl, _⟩ := h
    rfl
  · obtain ⟨a, ns, rfl, hS, hlen, hT, q⟩ := h
    refine ⟨_, (pss_cons (ps_for PassesOwn.never rfl (pi_range1 (by rfl) T.n_range (pa_cons (pe_callB (call_max2 rfl) (by rfl) T.n_max (by decide +kernel) (pa_cons pe_int (pa_cons (pe_callB (call_min2 rfl) (by rfl) T.n_min (by decide +kernel) (pa_cons pe_int (pa_cons (pe_callB call_len_seq (by rfl) T.n_len (by decide +kernel) (pa_cons (pv 0) pa_nil)) pa_nil))) pa_nil))) pa_nil)) (pg_name (i := 1) sc_law.nd rfl (Or.inl rfl)) (pss_one (ps_if (pt_not (pt_val (pe_callG G__law_right hg (hr.mono (by decide)) rfl C__law_right.m C__law_right.k C__law_right.b .nil pass0 (pa_cons (pe_call G__law_dice (hr.mono (by decide)) rfl C__law_dice.m C__law_dice.k C__law_dice.b .nil pass0 (pa_cons (pv 0) (pa_cons (pv 1) pa_nil))) pa_nil)))) (pss_one (ps_ret pe_bl)) pss_nil)))
      (pss_one (ps_ret pe_bl))), ?_⟩
    have hb := turns (n := (ns.map V.int).length)
    refine ⟨_, rfl, _, _, rfl, .inl hS.now, _, _, rfl, _, _, rfl, _, rfl, by omega, by omega, ?_⟩
    have hm8 : (if (if ((ns.map V.int).length : Int) < 8 then ((ns.map V.int).length : Int) else 8) > 1 then (if ((ns.map V.int).length : Int) < 8 then ((ns.map V.int).length : Int) else 8) else 1) ≤ 8 := hb.2
    generalize (if (if ((ns.map V.int).length : Int) < 8 then ((ns.map V.int).length : Int) else 8) > 1 then (if ((ns.map V.int).length : Int) < 8 then ((ns.map V.int).length : Int) else 8) else 1) = m at hm8
    refine for_range (lo := 0) (n := m.toNat) (fun i σ H' => ∃ a1, σ = [some (.ref a), a1] ∧ ScrN K H' a (ns.map V.int) ∧ LamX.Tabs (lamT tP0) H') ⟨none, rfl, hS, hT⟩ ?_ ?_
    · rintro i σ H1 hi ⟨a1, rfl, hS1, hT1⟩
      refine ⟨_, rfl, _, rfl, a, ns, _, rfl, hS1.now, by omega, by omega, by omega, fun p H2 np e2 o2 d2 => ?_⟩
      have hT2 := Tabs.ev hT1 e2
      have hS2 := hS1.mono (.ofEv e2)
      refine ⟨p, rfl, d2, hT2, fun H3 S3 => ?_⟩
      refine ⟨_, rfl, ?_⟩
      exact iteF ⟨_, rfl, hS2.mono (S3.ev d2), S3.t⟩
    · rintro σ H0 ⟨a1, rfl, hS0, hT0⟩
      exact q H0

end
theorem all_mk {l : PySem.W.OpenLaw} {w : World} {K : PySem.W.Frag} {h : Heap} {mg : Str → Option Value} {fa f_is_integer f_are_numbers f_ascends f_is_class_form f_are_classes_form f_is_state_form f_number_told f_numbers_told f_state_told f_key_told f_line_told f_check_text f_numbers_text f_state_text f_write_numbers f_read_numbers f_write_state f_read_state f_is_key f_write_table f_read_table f__law_dice f__law_roll f__law_pick f__law_some f__law_rising f__law_a_state f__law_line f__law_state_line f__law_due_numbers f__law_is_rising f__law_due_state f__law_due_table f__law_bent f__law_got f__law_strings_right f__law_right f_law : Addr} (X : K.In h) (G : h.Ns mainGlobals mg) (hfa : mg "law" = some (.ref fa))
    {od0 an0 od1 an1 od2 an2 od3 an3 od4 an4 od5 an5 od6 an6 od7 an7 od8 an8 od9 an9 od10 an10 od11 an11 od12 an12 od13 an13 od14 an14 od15 an15 od16 an16 od17 an17 od18 an18 od19 an19 od20 an20 od21 an21 od22 an22 od23 an23 od24 an24 od25 an25 od26 an26 od27 an27 od28 an28 od29 an29 od30 an30 od31 an31 od32 an32 od33 an33 od34 an34 od35 an35 od36 an36 od37 an37 : Option Addr} {sl0 sl1 sl2 sl3 sl4 sl5 sl6 sl7 sl8 sl9 sl10 sl11 sl12 sl13 sl14 sl15 sl16 sl17 sl18 sl19 sl20 sl21 sl22 sl23 sl24 sl25 sl26 sl27 sl28 sl29 sl30 sl31 sl32 sl33 sl34 sl35 sl36 sl37 : Array (Option Value)} {oc0 kV0 dc0 pm0 cd0 ct0 oc1 kV1 dc1 pm1 cd1 ct1 oc2 kV2 dc2 pm2 cd2 ct2 oc3 kV3 dc3 pm3 cd3 ct3 oc4 kV4 dc4 pm4 cd4 ct4 oc5 kV5 dc5 pm5 cd5 ct5 oc6 kV6 dc6 pm6 cd6 ct6 oc7 kV7 dc7 pm7 cd7 ct7 oc8 kV8 dc8 pm8 cd8 ct8 oc9 kV9 dc9 pm9 cd9 ct9 oc10 kV10 dc10 pm10 cd10 ct10 oc11 kV11 dc11 pm11 cd11 ct11 oc12 kV12 dc12 pm12 cd12 ct12 oc13 kV13 dc13 pm13 cd13 ct13 oc14 kV14 dc14 pm14 cd14 ct14 oc15 kV15 dc15 pm15 cd15 ct15 oc16 kV16 dc16 pm16 cd16 ct16 oc17 kV17 dc17 pm17 cd17 ct17 oc18 kV18 dc18 pm18 cd18 ct18 oc19 kV19 dc19 pm19 cd19 ct19 oc20 kV20 dc20 pm20 cd20 ct20 oc21 kV21 dc21 pm21 cd21 ct21 oc22 kV22 dc22 pm22 cd22 ct22 oc23 kV23 dc23 pm23 cd23 ct23 oc24 kV24 dc24 pm24 cd24 ct24 oc25 kV25 dc25 pm25 cd25 ct25 oc26 kV26 dc26 pm26 cd26 ct26 oc27 kV27 dc27 pm27 cd27 ct27 oc28 kV28 dc28 pm28 cd28 ct28 oc29 kV29 dc29 pm29 cd29 ct29 oc30 kV30 dc30 pm30 cd30 ct30 oc31 kV31 dc31 pm31 cd31 ct31 oc32 kV32 dc32 pm32 cd32 ct32 oc33 kV33 dc33 pm33 cd33 ct33 oc34 kV34 dc34 pm34 cd34 ct34 oc35 kV35 dc35 pm35 cd35 ct35 oc36 kV36 dc36 pm36 cd36 ct36 oc37 kV37 dc37 pm37 cd37 ct37 : Value}
    (a0 : PySem.W.nsIn K mainGlobals "is_integer" = some (some (.ref f_is_integer))) (l0 : K.lookup f_is_integer = some ⟨oc0, od0, .func (PySem.W.fnOf "is_integer" "is_integer" (defArgs s_is_integer) (defBody s_is_integer) (defScope s_is_integer) .none kV0 dc0 pm0 an0 cd0 ct0), sl0⟩) (c0 : PySem.W.codeIn K cd0 "is_integer" = true) (k0 : PySem.W.keepIn K (.ref f_is_integer) = true)
    (a1 : PySem.W.nsIn K mainGlobals "are_numbers" = some (some (.ref f_are_numbers))) (l1 : K.lookup f_are_numbers = some ⟨oc1, od1, .func (PySem.W.fnOf "are_numbers" "are_numbers" (defArgs s_are_numbers) (defBody s_are_numbers) (defScope s_are_numbers) .none kV1 dc1 pm1 an1 cd1 ct1), sl1⟩) (c1 : PySem.W.codeIn K cd1 "are_numbers" = true) (k1 : PySem.W.keepIn K (.ref f_are_numbers) = true)
    (a2 : PySem.W.nsIn K mainGlobals "ascends" = some (some (.ref f_ascends))) (l2 : K.lookup f_ascends = some ⟨oc2, od2, .func (PySem.W.fnOf "ascends" "ascends" (defArgs s_ascends) (defBody s_ascends) (defScope s_ascends) .none kV2 dc2 pm2 an2 cd2 ct2), sl2⟩) (c2 : PySem.W.codeIn K cd2 "ascends" = true) (k2 : PySem.W.keepIn K (.ref f_ascends) = true)
    (a3 : PySem.W.nsIn K mainGlobals "is_class_form" = some (some (.ref f_is_class_form))) (l3 : K.lookup f_is_class_form = some ⟨oc3, od3, .func (PySem.W.fnOf "is_class_form" "is_class_form" (defArgs s_is_class_form) (defBody s_is_class_form) (defScope s_is_class_form) .none kV3 dc3 pm3 an3 cd3 ct3), sl3⟩) (c3 : PySem.W.codeIn K cd3 "is_class_form" = true) (k3 : PySem.W.keepIn K (.ref f_is_class_form) = true)
    (a4 : PySem.W.nsIn K mainGlobals "are_classes_form" = some (some (.ref f_are_classes_form))) (l4 : K.lookup f_are_classes_form = some ⟨oc4, od4, .func (PySem.W.fnOf "are_classes_form" "are_classes_form" (defArgs s_are_classes_form) (defBody s_are_classes_form) (defScope s_are_classes_form) .none kV4 dc4 pm4 an4 cd4 ct4), sl4⟩) (c4 : PySem.W.codeIn K cd4 "are_classes_form" = true) (k4 : PySem.W.keepIn K (.ref f_are_classes_form) = true)
    (a5 : PySem.W.nsIn K mainGlobals "is_state_form" = some (some (.ref f_is_state_form))) (l5 : K.lookup f_is_state_form = some ⟨oc5, od5, .func (PySem.W.fnOf "is_state_form" "is_state_form" (defArgs s_is_state_form) (defBody s_is_state_form) (defScope s_is_state_form) .none kV5 dc5 pm5 an5 cd5 ct5), sl5⟩) (c5 : PySem.W.codeIn K cd5 "is_state_form" = true) (k5 : PySem.W.keepIn K (.ref f_is_state_form) = true)
    (a6 : PySem.W.nsIn K mainGlobals "number_told" = some (some (.ref f_number_told))) (l6 : K.lookup f_number_told = some ⟨oc6, od6, .func (PySem.W.fnOf "number_told" "number_told" (defArgs s_number_told) (defBody s_number_told) (defScope s_number_told) .none kV6 dc6 pm6 an6 cd6 ct6), sl6⟩) (c6 : PySem.W.codeIn K cd6 "number_told" = true) (k6 : PySem.W.keepIn K (.ref f_number_told) = true)
    (a7 : PySem.W.nsIn K mainGlobals "numbers_told" = some (some (.ref f_numbers_told))) (l7 : K.lookup f_numbers_told = some ⟨oc7, od7, .func (PySem.W.fnOf "numbers_told" "numbers_told" (defArgs s_numbers_told) (defBody s_numbers_told) (defScope s_numbers_told) .none kV7 dc7 pm7 an7 cd7 ct7), sl7⟩) (c7 : PySem.W.codeIn K cd7 "numbers_told" = true) (k7 : PySem.W.keepIn K (.ref f_numbers_told) = true)
    (a8 : PySem.W.nsIn K mainGlobals "state_told" = some (some (.ref f_state_told))) (l8 : K.lookup f_state_told = some ⟨oc8, od8, .func (PySem.W.fnOf "state_told" "state_told" (defArgs s_state_told) (defBody s_state_told) (defScope s_state_told) .none kV8 dc8 pm8 an8 cd8 ct8), sl8⟩) (c8 : PySem.W.codeIn K cd8 "state_told" = true) (k8 : PySem.W.keepIn K (.ref f_state_told) = true)
    (a9 : PySem.W.nsIn K mainGlobals "key_told" = some (some (.ref f_key_told))) (l9 : K.lookup f_key_told = some ⟨oc9, od9, .func (PySem.W.fnOf "key_told" "key_told" (defArgs s_key_told) (defBody s_key_told) (defScope s_key_told) .none kV9 dc9 pm9 an9 cd9 ct9), sl9⟩) (c9 : PySem.W.codeIn K cd9 "key_told" = true) (k9 : PySem.W.keepIn K (.ref f_key_told) = true)
    (a10 : PySem.W.nsIn K mainGlobals "line_told" = some (some (.ref f_line_told))) (l10 : K.lookup f_line_told = some ⟨oc10, od10, .func (PySem.W.fnOf "line_told" "line_told" (defArgs s_line_told) (defBody s_line_told) (defScope s_line_told) .none kV10 dc10 pm10 an10 cd10 ct10), sl10⟩) (c10 : PySem.W.codeIn K cd10 "line_told" = true) (k10 : PySem.W.keepIn K (.ref f_line_told) = true)
    (a11 : PySem.W.nsIn K mainGlobals "check_text" = some (some (.ref f_check_text))) (l11 : K.lookup f_check_text = some ⟨oc11, od11, .func (PySem.W.fnOf "check_text" "check_text" (defArgs s_check_text) (defBody s_check_text) (defScope s_check_text) .none kV11 dc11 pm11 an11 cd11 ct11), sl11⟩) (c11 : PySem.W.codeIn K cd11 "check_text" = true) (k11 : PySem.W.keepIn K (.ref f_check_text) = true)
    (a12 : PySem.W.nsIn K mainGlobals "numbers_text" = some (some (.ref f_numbers_text))) (l12 : K.lookup f_numbers_text = some ⟨oc12, od12, .func (PySem.W.fnOf "numbers_text" "numbers_text" (defArgs s_numbers_text) (defBody s_numbers_text) (defScope s_numbers_text) .none kV12 dc12 pm12 an12 cd12 ct12), sl12⟩) (c12 : PySem.W.codeIn K cd12 "numbers_text" = true) (k12 : PySem.W.keepIn K (.ref f_numbers_text) = true)
    (a13 : PySem.W.nsIn K mainGlobals "state_text" = some (some (.ref f_state_text))) (l13 : K.lookup f_state_text = some ⟨oc13, od13, .func (PySem.W.fnOf "state_text" "state_text" (defArgs s_state_text) (defBody s_state_text) (defScope s_state_text) .none kV13 dc13 pm13 an13 cd13 ct13), sl13⟩) (c13 : PySem.W.codeIn K cd13 "state_text" = true) (k13 : PySem.W.keepIn K (.ref f_state_text) = true)
    (a14 : PySem.W.nsIn K mainGlobals "write_numbers" = some (some (.ref f_write_numbers))) (l14 : K.lookup f_write_numbers = some ⟨oc14, od14, .func (PySem.W.fnOf "write_numbers" "write_numbers" (defArgs s_write_numbers) (defBody s_write_numbers) (defScope s_write_numbers) .none kV14 dc14 pm14 an14 cd14 ct14), sl14⟩) (c14 : PySem.W.codeIn K cd14 "write_numbers" = true) (k14 : PySem.W.keepIn K (.ref f_write_numbers) = true)
    (a15 : PySem.W.nsIn K mainGlobals "read_numbers" = some (some (.ref f_read_numbers))) (l15 : K.lookup f_read_numbers = some ⟨oc15, od15, .func (PySem.W.fnOf "read_numbers" "read_numbers" (defArgs s_read_numbers) (defBody s_read_numbers) (defScope s_read_numbers) .none kV15 dc15 pm15 an15 cd15 ct15), sl15⟩) (c15 : PySem.W.codeIn K cd15 "read_numbers" = true) (k15 : PySem.W.keepIn K (.ref f_read_numbers) = true)
    (a16 : PySem.W.nsIn K mainGlobals "write_state" = some (some (.ref f_write_state))) (l16 : K.lookup f_write_state = some ⟨oc16, od16, .func (PySem.W.fnOf "write_state" "write_state" (defArgs s_write_state) (defBody s_write_state) (defScope s_write_state) .none kV16 dc16 pm16 an16 cd16 ct16), sl16⟩) (c16 : PySem.W.codeIn K cd16 "write_state" = true) (k16 : PySem.W.keepIn K (.ref f_write_state) = true)
    (a17 : PySem.W.nsIn K mainGlobals "read_state" = some (some (.ref f_read_state))) (l17 : K.lookup f_read_state = some ⟨oc17, od17, .func (PySem.W.fnOf "read_state" "read_state" (defArgs s_read_state) (defBody s_read_state) (defScope s_read_state) .none kV17 dc17 pm17 an17 cd17 ct17), sl17⟩) (c17 : PySem.W.codeIn K cd17 "read_state" = true) (k17 : PySem.W.keepIn K (.ref f_read_state) = true)
    (a18 : PySem.W.nsIn K mainGlobals "is_key" = some (some (.ref f_is_key))) (l18 : K.lookup f_is_key = some ⟨oc18, od18, .func (PySem.W.fnOf "is_key" "is_key" (defArgs s_is_key) (defBody s_is_key) (defScope s_is_key) .none kV18 dc18 pm18 an18 cd18 ct18), sl18⟩) (c18 : PySem.W.codeIn K cd18 "is_key" = true) (k18 : PySem.W.keepIn K (.ref f_is_key) = true)
    (a19 : PySem.W.nsIn K mainGlobals "write_table" = some (some (.ref f_write_table))) (l19 : K.lookup f_write_table = some ⟨oc19, od19, .func (PySem.W.fnOf "write_table" "write_table" (defArgs s_write_table) (defBody s_write_table) (defScope s_write_table) .none kV19 dc19 pm19 an19 cd19 ct19), sl19⟩) (c19 : PySem.W.codeIn K cd19 "write_table" = true) (k19 : PySem.W.keepIn K (.ref f_write_table) = true)
    (a20 : PySem.W.nsIn K mainGlobals "read_table" = some (some (.ref f_read_table))) (l20 : K.lookup f_read_table = some ⟨oc20, od20, .func (PySem.W.fnOf "read_table" "read_table" (defArgs s_read_table) (defBody s_read_table) (defScope s_read_table) .none kV20 dc20 pm20 an20 cd20 ct20), sl20⟩) (c20 : PySem.W.codeIn K cd20 "read_table" = true) (k20 : PySem.W.keepIn K (.ref f_read_table) = true)
    (a21 : PySem.W.nsIn K mainGlobals "_law_dice" = some (some (.ref f__law_dice))) (l21 : K.lookup f__law_dice = some ⟨oc21, od21, .func (PySem.W.fnOf "_law_dice" "_law_dice" (defArgs s__law_dice) (defBody s__law_dice) (defScope s__law_dice) .none kV21 dc21 pm21 an21 cd21 ct21), sl21⟩) (c21 : PySem.W.codeIn K cd21 "_law_dice" = true) (k21 : PySem.W.keepIn K (.ref f__law_dice) = true)
    (a22 : PySem.W.nsIn K mainGlobals "_law_roll" = some (some (.ref f__law_roll))) (l22 : K.lookup f__law_roll = some ⟨oc22, od22, .func (PySem.W.fnOf "_law_roll" "_law_roll" (defArgs s__law_roll) (defBody s__law_roll) (defScope s__law_roll) .none kV22 dc22 pm22 an22 cd22 ct22), sl22⟩) (c22 : PySem.W.codeIn K cd22 "_law_roll" = true) (k22 : PySem.W.keepIn K (.ref f__law_roll) = true)
    (a23 : PySem.W.nsIn K mainGlobals "_law_pick" = some (some (.ref f__law_pick))) (l23 : K.lookup f__law_pick = some ⟨oc23, od23, .func (PySem.W.fnOf "_law_pick" "_law_pick" (defArgs s__law_pick) (defBody s__law_pick) (defScope s__law_pick) .none kV23 dc23 pm23 an23 cd23 ct23), sl23⟩) (c23 : PySem.W.codeIn K cd23 "_law_pick" = true) (k23 : PySem.W.keepIn K (.ref f__law_pick) = true)
    (a24 : PySem.W.nsIn K mainGlobals "_law_some" = some (some (.ref f__law_some))) (l24 : K.lookup f__law_some = some ⟨oc24, od24, .func (PySem.W.fnOf "_law_some" "_law_some" (defArgs s__law_some) (defBody s__law_some) (defScope s__law_some) .none kV24 dc24 pm24 an24 cd24 ct24), sl24⟩) (c24 : PySem.W.codeIn K cd24 "_law_some" = true) (k24 : PySem.W.keepIn K (.ref f__law_some) = true)
    (a25 : PySem.W.nsIn K mainGlobals "_law_rising" = some (some (.ref f__law_rising))) (l25 : K.lookup f__law_rising = some ⟨oc25, od25, .func (PySem.W.fnOf "_law_rising" "_law_rising" (defArgs s__law_rising) (defBody s__law_rising) (defScope s__law_rising) .none kV25 dc25 pm25 an25 cd25 ct25), sl25⟩) (c25 : PySem.W.codeIn K cd25 "_law_rising" = true) (k25 : PySem.W.keepIn K (.ref f__law_rising) = true)
    (a26 : PySem.W.nsIn K mainGlobals "_law_a_state" = some (some (.ref f__law_a_state))) (l26 : K.lookup f__law_a_state = some ⟨oc26, od26, .func (PySem.W.fnOf "_law_a_state" "_law_a_state" (defArgs s__law_a_state) (defBody s__law_a_state) (defScope s__law_a_state) .none kV26 dc26 pm26 an26 cd26 ct26), sl26⟩) (c26 : PySem.W.codeIn K cd26 "_law_a_state" = true) (k26 : PySem.W.keepIn K (.ref f__law_a_state) = true)
    (a27 : PySem.W.nsIn K mainGlobals "_law_line" = some (some (.ref f__law_line))) (l27 : K.lookup f__law_line = some ⟨oc27, od27, .func (PySem.W.fnOf "_law_line" "_law_line" (defArgs s__law_line) (defBody s__law_line) (defScope s__law_line) .none kV27 dc27 pm27 an27 cd27 ct27), sl27⟩) (c27 : PySem.W.codeIn K cd27 "_law_line" = true) (k27 : PySem.W.keepIn K (.ref f__law_line) = true)
    (a28 : PySem.W.nsIn K mainGlobals "_law_state_line" = some (some (.ref f__law_state_line))) (l28 : K.lookup f__law_state_line = some ⟨oc28, od28, .func (PySem.W.fnOf "_law_state_line" "_law_state_line" (defArgs s__law_state_line) (defBody s__law_state_line) (defScope s__law_state_line) .none kV28 dc28 pm28 an28 cd28 ct28), sl28⟩) (c28 : PySem.W.codeIn K cd28 "_law_state_line" = true) (k28 : PySem.W.keepIn K (.ref f__law_state_line) = true)
    (a29 : PySem.W.nsIn K mainGlobals "_law_due_numbers" = some (some (.ref f__law_due_numbers))) (l29 : K.lookup f__law_due_numbers = some ⟨oc29, od29, .func (PySem.W.fnOf "_law_due_numbers" "_law_due_numbers" (defArgs s__law_due_numbers) (defBody s__law_due_numbers) (defScope s__law_due_numbers) .none kV29 dc29 pm29 an29 cd29 ct29), sl29⟩) (c29 : PySem.W.codeIn K cd29 "_law_due_numbers" = true) (k29 : PySem.W.keepIn K (.ref f__law_due_numbers) = true)
    (a30 : PySem.W.nsIn K mainGlobals "_law_is_rising" = some (some (.ref f__law_is_rising))) (l30 : K.lookup f__law_is_rising = some ⟨oc30, od30, .func (PySem.W.fnOf "_law_is_rising" "_law_is_rising" (defArgs s__law_is_rising) (defBody s__law_is_rising) (defScope s__law_is_rising) .none kV30 dc30 pm30 an30 cd30 ct30), sl30⟩) (c30 : PySem.W.codeIn K cd30 "_law_is_rising" = true) (k30 : PySem.W.keepIn K (.ref f__law_is_rising) = true)
    (a31 : PySem.W.nsIn K mainGlobals "_law_due_state" = some (some (.ref f__law_due_state))) (l31 : K.lookup f__law_due_state = some ⟨oc31, od31, .func (PySem.W.fnOf "_law_due_state" "_law_due_state" (defArgs s__law_due_state) (defBody s__law_due_state) (defScope s__law_due_state) .none kV31 dc31 pm31 an31 cd31 ct31), sl31⟩) (c31 : PySem.W.codeIn K cd31 "_law_due_state" = true) (k31 : PySem.W.keepIn K (.ref f__law_due_state) = true)
    (a32 : PySem.W.nsIn K mainGlobals "_law_due_table" = some (some (.ref f__law_due_table))) (l32 : K.lookup f__law_due_table = some ⟨oc32, od32, .func (PySem.W.fnOf "_law_due_table" "_law_due_table" (defArgs s__law_due_table) (defBody s__law_due_table) (defScope s__law_due_table) .none kV32 dc32 pm32 an32 cd32 ct32), sl32⟩) (c32 : PySem.W.codeIn K cd32 "_law_due_table" = true) (k32 : PySem.W.keepIn K (.ref f__law_due_table) = true)
    (a33 : PySem.W.nsIn K mainGlobals "_law_bent" = some (some (.ref f__law_bent))) (l33 : K.lookup f__law_bent = some ⟨oc33, od33, .func (PySem.W.fnOf "_law_bent" "_law_bent" (defArgs s__law_bent) (defBody s__law_bent) (defScope s__law_bent) .none kV33 dc33 pm33 an33 cd33 ct33), sl33⟩) (c33 : PySem.W.codeIn K cd33 "_law_bent" = true) (k33 : PySem.W.keepIn K (.ref f__law_bent) = true)
    (a34 : PySem.W.nsIn K mainGlobals "_law_got" = some (some (.ref f__law_got))) (l34 : K.lookup f__law_got = some ⟨oc34, od34, .func (PySem.W.fnOf "_law_got" "_law_got" (defArgs s__law_got) (defBody s__law_got) (defScope s__law_got) .none kV34 dc34 pm34 an34 cd34 ct34), sl34⟩) (c34 : PySem.W.codeIn K cd34 "_law_got" = true) (k34 : PySem.W.keepIn K (.ref f__law_got) = true)
    (a35 : PySem.W.nsIn K mainGlobals "_law_strings_right" = some (some (.ref f__law_strings_right))) (l35 : K.lookup f__law_strings_right = some ⟨oc35, od35, .func (PySem.W.fnOf "_law_strings_right" "_law_strings_right" (defArgs s__law_strings_right) (defBody s__law_strings_right) (defScope s__law_strings_right) .none kV35 dc35 pm35 an35 cd35 ct35), sl35⟩) (c35 : PySem.W.codeIn K cd35 "_law_strings_right" = true) (k35 : PySem.W.keepIn K (.ref f__law_strings_right) = true)
    (a36 : PySem.W.nsIn K mainGlobals "_law_right" = some (some (.ref f__law_right))) (l36 : K.lookup f__law_right = some ⟨oc36, od36, .func (PySem.W.fnOf "_law_right" "_law_right" (defArgs s__law_right) (defBody s__law_right) (defScope s__law_right) .none kV36 dc36 pm36 an36 cd36 ct36), sl36⟩) (c36 : PySem.W.codeIn K cd36 "_law_right" = true) (k36 : PySem.W.keepIn K (.ref f__law_right) = true)
    (a37 : PySem.W.nsIn K mainGlobals "law" = some (some (.ref f_law))) (l37 : K.lookup f_law = some ⟨oc37, od37, .func (PySem.W.fnOf "law" "law" (defArgs s_law) (defBody s_law) (defScope s_law) .none kV37 dc37 pm37 an37 cd37 ct37), sl37⟩) (c37 : PySem.W.codeIn K cd37 "law" = true) (k37 : PySem.W.keepIn K (.ref f_law) = true)
    {A_C A_I : Addr} {odiP aniP : Option Addr} {sliP : Array (Option Value)} {ociP kViP dciP pmiP cdiP ctiP : Value} (xgC : PySem.W.nsIn K mainGlobals "ParseError" = some (some (.ref A_C)))
    (fP : PySem.W.findIn K (.ref A_C) "__init__" = some (some (.ref A_I))) (lP : K.lookup A_I = some ⟨ociP, odiP, .func (PySem.W.fnOf "__init__" "ParseError.__init__" (defArgs s_iParseError) (defBody s_iParseError) (defScope s_iParseError) .none kViP dciP pmiP aniP cdiP ctiP), sliP⟩) (cP : PySem.W.codeIn K cdiP "ParseError.__init__" = true) (kP : PySem.W.keepIn K (.ref A_I) = true) (bX : pexB K A_C A_I = true)
    {A_c0 A_p0 : Addr} {oA0 : Value} {oD0 : Option Addr} {vS0 : Array Value} {oS0 : Array (Option Value)} (ce0 : cd35 = .ref A_c0) (lc0 : K.lookup A_c0 = some ⟨oA0, oD0, .fields vS0, oS0⟩) (vp0 : (vS0[11]? : Option Value) = some (.ref A_p0)) (tN0 : K.lookup A_p0 = none)
    (hd0 : PySem.W.CodeHd h A_c0 A_p0 ∧ h.get? A_p0 = some (PySem.W.tabObj #[]))
    {t_EMPTY t_NONE t_MAX_DIGITS : Tok}
    (z0 : PySem.W.nsIn K mainGlobals "len" = some none)
    (z1 : PySem.W.nsIn K mainGlobals "int" = some none)
    (z2 : PySem.W.nsIn K mainGlobals "abs" = some none)
    (z3 : PySem.W.nsIn K mainGlobals "isinstance" = some none)
    (z4 : PySem.W.nsIn K mainGlobals "bool" = some none)
    (z5 : PySem.W.nsIn K mainGlobals "all" = some none)
    (z6 : PySem.W.nsIn K mainGlobals "tuple" = some none)
    (z7 : PySem.W.nsIn K mainGlobals "str" = some none)
    (z8 : PySem.W.nsIn K mainGlobals "sorted" = some none)
    (z9 : PySem.W.nsIn K mainGlobals "dict" = some none)
    (z10 : PySem.W.nsIn K mainGlobals "set" = some none)
    (z11 : PySem.W.nsIn K mainGlobals "list" = some none)
    (z12 : PySem.W.nsIn K mainGlobals "range" = some none)
    (z13 : PySem.W.nsIn K mainGlobals "max" = some none)
    (z14 : PySem.W.nsIn K mainGlobals "min" = some none)
    (z15 : PySem.W.nsIn K mainGlobals "enumerate" = some none)
    (z16 : PySem.W.nsIn K mainGlobals "repr" = some none)
    (z17 : PySem.W.nsIn K mainGlobals "EMPTY" = some (some (.str "-" t_EMPTY)))
    (z18 : PySem.W.nsIn K mainGlobals "NONE" = some (some (.str "none" t_NONE)))
    (z19 : PySem.W.nsIn K mainGlobals "MAX_DIGITS" = some (some (.int 60 t_MAX_DIGITS)))
    : ∃ (cs : List (Addr × Addr)) (sp : Sp), LawT l.prog w K mg h 21 fa "_law_script" cs sp ∧ ∀ (H : Hp) (a : Addr) (ns : List Int), ns.length ≤ 63 → Only2 H → (∀ p ∈ cs, H p.2 = some (.tbl #[])) → SqL K H a (ns.map V.int) → sp [.ref a] H (fun v _ => v = .bl true) fun _ _ _ => False := by
  have e := hfa.symm.trans (PySem.W.mg_of X G a37)
  cases e
  have T : Txt mg := ⟨PySem.W.mg_none_of X G z0, PySem.W.mg_none_of X G z1, PySem.W.mg_none_of X G z2, PySem.W.mg_none_of X G z3, PySem.W.mg_none_of X G z4, PySem.W.mg_none_of X G z5, PySem.W.mg_none_of X G z6, PySem.W.mg_none_of X G z7, PySem.W.mg_none_of X G z8, PySem.W.mg_none_of X G z9, PySem.W.mg_none_of X G z10, PySem.W.mg_none_of X G z11, PySem.W.mg_none_of X G z12, PySem.W.mg_none_of X G z13, PySem.W.mg_none_of X G z14, PySem.W.mg_none_of X G z15, PySem.W.mg_none_of X G z16, ⟨_, PySem.W.mg_of X G z17⟩, ⟨_, PySem.W.mg_of X G z18⟩, ⟨_, PySem.W.mg_of X G z19⟩⟩
  have Z : PexZ K mg ⟨A_C, A_I⟩ := pexZ (PySem.W.mg_of X G xgC) bX
  have F_iP := fun_mk (st := s_iParseError) lP cP kP
  have B_ParseError : Binds K _ P_iParseError [] := F_iP.binds fun _ _ _ _ _ _ us hl => match us, hl with | [_, _], _ => rfl
  have F_is_integer := fun_mk (st := s_is_integer) l0 c0 k0
  have C_is_integer : Cal K mg "is_integer" f_is_integer _ P_is_integer := ⟨PySem.W.mg_of X G a0, k0, F_is_integer.binds fun _ _ _ _ _ _ us hl => match us, hl with | [_], _ => rfl⟩
  have F_are_numbers := fun_mk (st := s_are_numbers) l1 c1 k1
  have C_are_numbers : Cal K mg "are_numbers" f_are_numbers _ P_are_numbers := ⟨PySem.W.mg_of X G a1, k1, F_are_numbers.binds fun _ _ _ _ _ _ us hl => match us, hl with | [_], _ => rfl⟩
  have F_ascends := fun_mk (st := s_ascends) l2 c2 k2
  have C_ascends : Cal K mg "ascends" f_ascends _ P_ascends := ⟨PySem.W.mg_of X G a2, k2, F_ascends.binds fun _ _ _ _ _ _ us hl => match us, hl with | [_], _ => rfl⟩
  have F_is_class_form := fun_mk (st := s_is_class_form) l3 c3 k3
  have C_is_class_form : Cal K mg "is_class_form" f_is_class_form _ P_is_class_form := ⟨PySem.W.mg_of X G a3, k3, F_is_class_form.binds fun _ _ _ _ _ _ us hl => match us, hl with | [_], _ => rfl⟩
  have F_are_classes_form := fun_mk (st := s_are_classes_form) l4 c4 k4
  have C_are_classes_form : Cal K mg "are_classes_form" f_are_classes_form _ P_are_classes_form := ⟨PySem.W.mg_of X G a4, k4, F_are_classes_form.binds fun _ _ _ _ _ _ us hl => match us, hl with | [_], _ => rfl⟩
  have F_is_state_form := fun_mk (st := s_is_state_form) l5 c5 k5
  have C_is_state_form : Cal K mg "is_state_form" f_is_state_form _ P_is_state_form := ⟨PySem.W.mg_of X G a5, k5, F_is_state_form.binds fun _ _ _ _ _ _ us hl => match us, hl with | [_], _ => rfl⟩
  have F_number_told := fun_mk (st := s_number_told) l6 c6 k6
  have C_number_told : Cal K mg "number_told" f_number_told _ P_number_told := ⟨PySem.W.mg_of X G a6, k6, F_number_told.binds fun _ _ _ _ _ _ us hl => match us, hl with | [_], _ => rfl⟩
  have F_numbers_told := fun_mk (st := s_numbers_told) l7 c7 k7
  have C_numbers_told : Cal K mg "numbers_told" f_numbers_told _ P_numbers_told := ⟨PySem.W.mg_of X G a7, k7, F_numbers_told.binds fun _ _ _ _ _ _ us hl => match us, hl with | [_], _ => rfl⟩
  have F_state_told := fun_mk (st := s_state_told) l8 c8 k8
  have C_state_told : Cal K mg "state_told" f_state_told _ P_state_told := ⟨PySem.W.mg_of X G a8, k8, F_state_told.binds fun _ _ _ _ _ _ us hl => match us, hl with | [_], _ => rfl⟩
  have F_key_told := fun_mk (st := s_key_told) l9 c9 k9
  have C_key_told : Cal K mg "key_told" f_key_told _ P_key_told := ⟨PySem.W.mg_of X G a9, k9, F_key_told.binds fun _ _ _ _ _ _ us hl => match us, hl with | [_], _ => rfl⟩
  have F_line_told := fun_mk (st := s_line_told) l10 c10 k10
  have C_line_told : Cal K mg "line_told" f_line_told _ P_line_told := ⟨PySem.W.mg_of X G a10, k10, F_line_told.binds fun _ _ _ _ _ _ us hl => match us, hl with | [_], _ => rfl⟩
  have F_check_text := fun_mk (st := s_check_text) l11 c11 k11
  have C_check_text : Cal K mg "check_text" f_check_text _ P_check_text := ⟨PySem.W.mg_of X G a11, k11, F_check_text.binds fun _ _ _ _ _ _ us hl => match us, hl with | [_], _ => rfl⟩
  have F_numbers_text := fun_mk (st := s_numbers_text) l12 c12 k12
  have C_numbers_text : Cal K mg "numbers_text" f_numbers_text _ P_numbers_text := ⟨PySem.W.mg_of X G a12, k12, F_numbers_text.binds fun _ _ _ _ _ _ us hl => match us, hl with | [_], _ => rfl⟩
  have F_state_text := fun_mk (st := s_state_text) l13 c13 k13
  have C_state_text : Cal K mg "state_text" f_state_text _ P_state_text := ⟨PySem.W.mg_of X G a13, k13, F_state_text.binds fun _ _ _ _ _ _ us hl => match us, hl with | [_], _ => rfl⟩
  have F_write_numbers := fun_mk (st := s_write_numbers) l14 c14 k14
  have C_write_numbers : Cal K mg "write_numbers" f_write_numbers _ P_write_numbers := ⟨PySem.W.mg_of X G a14, k14, F_write_numbers.binds fun _ _ _ _ _ _ us hl => match us, hl with | [_], _ => rfl⟩
  have F_read_numbers := fun_mk (st := s_read_numbers) l15 c15 k15
  have C_read_numbers : Cal K mg "read_numbers" f_read_numbers _ P_read_numbers := ⟨PySem.W.mg_of X G a15, k15, F_read_numbers.binds fun _ _ _ _ _ _ us hl => match us, hl with | [_], _ => rfl⟩
  have F_write_state := fun_mk (st := s_write_state) l16 c16 k16
  have C_write_state : Cal K mg "write_state" f_write_state _ P_write_state := ⟨PySem.W.mg_of X G a16, k16, F_write_state.binds fun _ _ _ _ _ _ us hl => match us, hl with | [_], _ => rfl⟩
  have F_read_state := fun_mk (st := s_read_state) l17 c17 k17
  have C_read_state : Cal K mg "read_state" f_read_state _ P_read_state := ⟨PySem.W.mg_of X G a17, k17, F_read_state.binds fun _ _ _ _ _ _ us hl => match us, hl with | [_], _ => rfl⟩
  have F_is_key := fun_mk (st := s_is_key) l18 c18 k18
  have C_is_key : Cal K mg "is_key" f_is_key _ P_is_key := ⟨PySem.W.mg_of X G a18, k18, F_is_key.binds fun _ _ _ _ _ _ us hl => match us, hl with | [_], _ => rfl⟩
  have F_write_table := fun_mk (st := s_write_table) l19 c19 k19
  have C_write_table : Cal K mg "write_table" f_write_table _ P_write_table := ⟨PySem.W.mg_of X G a19, k19, F_write_table.binds fun _ _ _ _ _ _ us hl => match us, hl with | [_], _ => rfl⟩
  have F_read_table := fun_mk (st := s_read_table) l20 c20 k20
  have C_read_table : Cal K mg "read_table" f_read_table _ P_read_table := ⟨PySem.W.mg_of X G a20, k20, F_read_table.binds fun _ _ _ _ _ _ us hl => match us, hl with | [_], _ => rfl⟩
  have F__law_dice := fun_mk (st := s__law_dice) l21 c21 k21
  have C__law_dice : Cal K mg "_law_dice" f__law_dice _ P__law_dice := ⟨PySem.W.mg_of X G a21, k21, F__law_dice.binds fun _ _ _ _ _ _ us hl => match us, hl with | [_, _], _ => rfl⟩
  have F__law_roll := fun_mk (st := s__law_roll) l22 c22 k22
  have C__law_roll : Cal K mg "_law_roll" f__law_roll _ P__law_roll := ⟨PySem.W.mg_of X G a22, k22, F__law_roll.binds fun _ _ _ _ _ _ us hl => match us, hl with | [_, _], _ => rfl⟩
  have F__law_pick := fun_mk (st := s__law_pick) l23 c23 k23
  have C__law_pick : Cal K mg "_law_pick" f__law_pick _ P__law_pick := ⟨PySem.W.mg_of X G a23, k23, F__law_pick.binds fun _ _ _ _ _ _ us hl => match us, hl with | [_, _], _ => rfl⟩
  have F__law_some := fun_mk (st := s__law_some) l24 c24 k24
  have C__law_some : Cal K mg "_law_some" f__law_some _ P__law_some := ⟨PySem.W.mg_of X G a24, k24, F__law_some.binds fun _ _ _ _ _ _ us hl => match us, hl with | [_, _, _], _ => rfl⟩
  have F__law_rising := fun_mk (st := s__law_rising) l25 c25 k25
  have C__law_rising : Cal K mg "_law_rising" f__law_rising _ P__law_rising := ⟨PySem.W.mg_of X G a25, k25, F__law_rising.binds fun _ _ _ _ _ _ us hl => match us, hl with | [_, _], _ => rfl⟩
  have F__law_a_state := fun_mk (st := s__law_a_state) l26 c26 k26
  have C__law_a_state : Cal K mg "_law_a_state" f__law_a_state _ P__law_a_state := ⟨PySem.W.mg_of X G a26, k26, F__law_a_state.binds fun _ _ _ _ _ _ us hl => match us, hl with | [_], _ => rfl⟩
  have F__law_line := fun_mk (st := s__law_line) l27 c27 k27
  have C__law_line : Cal K mg "_law_line" f__law_line _ P__law_line := ⟨PySem.W.mg_of X G a27, k27, F__law_line.binds fun _ _ _ _ _ _ us hl => match us, hl with | [_], _ => rfl⟩
  have F__law_state_line := fun_mk (st := s__law_state_line) l28 c28 k28
  have C__law_state_line : Cal K mg "_law_state_line" f__law_state_line _ P__law_state_line := ⟨PySem.W.mg_of X G a28, k28, F__law_state_line.binds fun _ _ _ _ _ _ us hl => match us, hl with | [_], _ => rfl⟩
  have F__law_due_numbers := fun_mk (st := s__law_due_numbers) l29 c29 k29
  have C__law_due_numbers : Cal K mg "_law_due_numbers" f__law_due_numbers _ P__law_due_numbers := ⟨PySem.W.mg_of X G a29, k29, F__law_due_numbers.binds fun _ _ _ _ _ _ us hl => match us, hl with | [_], _ => rfl⟩
  have F__law_is_rising := fun_mk (st := s__law_is_rising) l30 c30 k30
  have C__law_is_rising : Cal K mg "_law_is_rising" f__law_is_rising _ P__law_is_rising := ⟨PySem.W.mg_of X G a30, k30, F__law_is_rising.binds fun _ _ _ _ _ _ us hl => match us, hl with | [_], _ => rfl⟩
  have F__law_due_state := fun_mk (st := s__law_due_state) l31 c31 k31
  have C__law_due_state : Cal K mg "_law_due_state" f__law_due_state _ P__law_due_state := ⟨PySem.W.mg_of X G a31, k31, F__law_due_state.binds fun _ _ _ _ _ _ us hl => match us, hl with | [_], _ => rfl⟩
  have F__law_due_table := fun_mk (st := s__law_due_table) l32 c32 k32
  have C__law_due_table : Cal K mg "_law_due_table" f__law_due_table _ P__law_due_table := ⟨PySem.W.mg_of X G a32, k32, F__law_due_table.binds fun _ _ _ _ _ _ us hl => match us, hl with | [_], _ => rfl⟩
  have F__law_bent := fun_mk (st := s__law_bent) l33 c33 k33
  have C__law_bent : Cal K mg "_law_bent" f__law_bent _ P__law_bent := ⟨PySem.W.mg_of X G a33, k33, F__law_bent.binds fun _ _ _ _ _ _ us hl => match us, hl with | [_, _], _ => rfl⟩
  have F__law_got := fun_mk (st := s__law_got) l34 c34 k34
  have C__law_got : Cal K mg "_law_got" f__law_got _ P__law_got := ⟨PySem.W.mg_of X G a34, k34, F__law_got.binds fun _ _ _ _ _ _ us hl => match us, hl with | [_], _ => rfl⟩
  have F__law_strings_right := fun_mk (st := s__law_strings_right) l35 c35 k35
  have C__law_strings_right : Cal K mg "_law_strings_right" f__law_strings_right _ P__law_strings_right := ⟨PySem.W.mg_of X G a35, k35, F__law_strings_right.binds fun _ _ _ _ _ _ us hl => match us, hl with | [_, _, _], _ => rfl⟩
  have F__law_right := fun_mk (st := s__law_right) l36 c36 k36
  have C__law_right : Cal K mg "_law_right" f__law_right _ P__law_right := ⟨PySem.W.mg_of X G a36, k36, F__law_right.binds fun _ _ _ _ _ _ us hl => match us, hl with | [_], _ => rfl⟩
  have F_law := fun_mk (st := s_law) l37 c37 k37
  refine ⟨[(A_c0, A_p0)], spLaw9 K A_p0, ⟨one_all hd0.2, one_all tN0, one_all hd0.1, ?_⟩, fun H a ns hl hO ht hS => ⟨a, ns, rfl, scrN_of hO hS, hl, tabs_one (ht (A_c0, A_p0) (by simp)), fun _ => rfl⟩⟩
  refine ⟨PySem.W.fnOf "law" "law" (defArgs s_law) (defBody s_law) (defScope s_law) .none kV37 dc37 pm37 an37 cd37 ct37, fun s v => .of_eq rfl, fun base _ _ TBs => ?_⟩
  have G_is_integer := ok_is_integer (P := l.prog) (w := w) (base := base) F_is_integer T Z
  have G__law_dice := ok__law_dice (P := l.prog) (w := w) (base := base) F__law_dice T Z
  have G__law_roll := ok__law_roll (P := l.prog) (w := w) (base := base) F__law_roll T Z
  have G__law_pick := ok__law_pick (P := l.prog) (w := w) (base := base) F__law_pick T Z G__law_roll C__law_roll
  have G__law_some := ok__law_some (P := l.prog) (w := w) (base := base) F__law_some T Z G__law_roll C__law_roll
  have G_are_numbers := ok_are_numbers (P := l.prog) (w := w) (base := base) F_are_numbers T Z G_is_integer C_is_integer
  have G_ascends := ok_ascends (P := l.prog) (w := w) (base := base) F_ascends T Z
  have G_is_class_form := ok_is_class_form (P := l.prog) (w := w) (base := base) F_is_class_form T Z G_are_numbers C_are_numbers G_ascends C_ascends
  have G_are_classes_form := ok_are_classes_form (P := l.prog) (w := w) (base := base) F_are_classes_form T Z G_is_class_form C_is_class_form G_ascends C_ascends
  have G_is_state_form := ok_is_state_form (P := l.prog) (w := w) (base := base) F_is_state_form T Z G_is_class_form C_is_class_form G_are_classes_form C_are_classes_form
  have G_is_key := ok_is_key (P := l.prog) (w := w) (base := base) F_is_key T Z G_are_numbers C_are_numbers
  have G_number_told := ok_number_told (P := l.prog) (w := w) (base := base) F_number_told T Z
  have G_numbers_told := ok_numbers_told (P := l.prog) (w := w) (base := base) F_numbers_told T Z G_number_told C_number_told
  have G_key_told := ok_key_told (P := l.prog) (w := w) (base := base) F_key_told T Z G_numbers_told C_numbers_told
  have G_state_told := ok_state_told (P := l.prog) (w := w) (base := base) F_state_told T Z G_numbers_told C_numbers_told G_is_state_form C_is_state_form
  have G_line_told := ok_line_told (P := l.prog) (w := w) (base := base) F_line_told T Z G_key_told C_key_told G_state_told C_state_told
  have G_numbers_text := ok_numbers_text (P := l.prog) (w := w) (base := base) F_numbers_text T Z
  have G_state_text := ok_state_text (P := l.prog) (w := w) (base := base) F_state_text T Z G_numbers_text C_numbers_text
  have G_check_text := ok_check_text (P := l.prog) (w := w) (base := base) F_check_text T Z
  have G_write_numbers := ok_write_numbers (P := l.prog) (w := w) (base := base) F_write_numbers T Z G_are_numbers C_are_numbers G_numbers_text C_numbers_text
  have G_write_state := ok_write_state (P := l.prog) (w := w) (base := base) F_write_state T Z G_is_state_form C_is_state_form G_state_text C_state_text
  have G_read_numbers := ok_read_numbers (P := l.prog) (w := w) (base := base) F_read_numbers T Z G_check_text C_check_text G_numbers_told C_numbers_told (ok_iParseError (P := l.prog) (w := w) (mg := mg) (base := base) F_iP) B_ParseError
  have G_read_state := ok_read_state (P := l.prog) (w := w) (base := base) F_read_state T Z G_check_text C_check_text G_state_told C_state_told (ok_iParseError (P := l.prog) (w := w) (mg := mg) (base := base) F_iP) B_ParseError
  have G_write_table := ok_write_table (P := l.prog) (w := w) (base := base) F_write_table T Z G_is_key C_is_key G_is_state_form C_is_state_form G_numbers_text C_numbers_text G_state_text C_state_text
  have G_read_table := ok_read_table (P := l.prog) (w := w) (base := base) F_read_table T Z G_check_text C_check_text G_line_told C_line_told (ok_iParseError (P := l.prog) (w := w) (mg := mg) (base := base) F_iP) B_ParseError
  have G__law_line := ok__law_line (P := l.prog) (w := w) (base := base) F__law_line T Z
  have G__law_state_line := ok__law_state_line (P := l.prog) (w := w) (base := base) F__law_state_line T Z G__law_line C__law_line
  have G__law_rising := ok__law_rising (P := l.prog) (w := w) (base := base) F__law_rising T Z G__law_some C__law_some G__law_roll C__law_roll
  have G__law_a_state := ok__law_a_state (P := l.prog) (w := w) (base := base) F__law_a_state T Z G__law_rising C__law_rising G__law_roll C__law_roll
  have G__law_is_rising := ok__law_is_rising (P := l.prog) (w := w) (base := base) F__law_is_rising T Z
  have G__law_due_numbers := ok__law_due_numbers (P := l.prog) (w := w) (base := base) F__law_due_numbers T Z
  have G__law_due_state := ok__law_due_state (P := l.prog) (w := w) (base := base) F__law_due_state T Z G__law_due_numbers C__law_due_numbers G__law_is_rising C__law_is_rising
  have G__law_due_table := ok__law_due_table (P := l.prog) (w := w) (base := base) F__law_due_table T Z G__law_due_numbers C__law_due_numbers G__law_due_state C__law_due_state
  have G__law_bent := ok__law_bent (P := l.prog) (w := w) (base := base) F__law_bent T Z G__law_roll C__law_roll G__law_pick C__law_pick
  have G__law_strings_right := ok__law_strings_right (P := l.prog) (w := w) (base := base) F__law_strings_right T Z (ce0) (TBs (A_c0, A_p0) (by simp)) F__law_got C__law_got G__law_due_numbers C__law_due_numbers G__law_due_state C__law_due_state G__law_due_table C__law_due_table G_read_numbers C_read_numbers G_read_state C_read_state G_read_table C_read_table
  have G__law_right := ok__law_right (P := l.prog) (w := w) (base := base) F__law_right T Z G__law_pick C__law_pick G__law_roll C__law_roll G__law_a_state C__law_a_state G__law_some C__law_some G__law_line C__law_line G__law_state_line C__law_state_line G_write_numbers C_write_numbers G_write_state C_write_state G_write_table C_write_table G_read_numbers C_read_numbers G_read_state C_read_state G_read_table C_read_table G__law_strings_right C__law_strings_right G__law_bent C__law_bent
  exact ok_law F_law T Z G__law_dice C__law_dice G__law_right C__law_right
set_option maxHeartbeats 0 in
theorem facts_mk {l : PySem.W.OpenLaw} {w : World} {K : PySem.W.Frag} {h : Heap} {mg : Str → Option Value} {fa : Addr} (X : K.In h) (G : h.Ns mainGlobals mg) (hmg : mg "law" = some (.ref fa)) (c : Fn.HSays 101 flX fnX K) (hd0 : PySem.W.CodeHd h (Fn.htA K "_law_strings_right") (Fn.htP K "_law_strings_right") ∧ h.get? (Fn.htP K "_law_strings_right") = some (PySem.W.tabObj #[])) : ∃ (cs : List (Addr × Addr)) (sp : Sp), LawT l.prog w K mg h 21 fa "_law_script" cs sp ∧ ∀ (H : Hp) (a : Addr) (ns : List Int), ns.length ≤ 63 → Only2 H → (∀ p ∈ cs, H p.2 = some (.tbl #[])) → SqL K H a (ns.map V.int) → sp [.ref a] H (fun v _ => v = .bl true) fun _ _ _ => False := by
  obtain ⟨o1_0, o2_0, o3_0, o4_0, o5_0, o6_0, o7_0, o8_0, o9_0, l0, c0⟩ := c.def_ 0 (d := dX0) rfl
  obtain ⟨o1_1, o2_1, o3_1, o4_1, o5_1, o6_1, o7_1, o8_1, o9_1, l1, c1⟩ := c.def_ 1 (d := dX1) rfl
  obtain ⟨o1_2, o2_2, o3_2, o4_2, o5_2, o6_2, o7_2, o8_2, o9_2, l2, c2⟩ := c.def_ 2 (d := dX2) rfl
  obtain ⟨o1_3, o2_3, o3_3, o4_3, o5_3, o6_3, o7_3, o8_3, o9_3, l3, c3⟩ := c.def_ 3 (d := dX3) rfl
  obtain ⟨o1_4, o2_4, o3_4, o4_4, o5_4, o6_4, o7_4, o8_4, o9_4, l4, c4⟩ := c.def_ 4 (d := dX4) rfl
  obtain ⟨o1_5, o2_5, o3_5, o4_5, o5_5, o6_5, o7_5, o8_5, o9_5, l5, c5⟩ := c.def_ 5 (d := dX5) rfl
  obtain ⟨o1_6, o2_6, o3_6, o4_6, o5_6, o6_6, o7_6, o8_6, o9_6, l6, c6⟩ := c.def_ 6 (d := dX6) rfl
  obtain ⟨o1_7, o2_7, o3_7, o4_7, o5_7, o6_7, o7_7, o8_7, o9_7, l7, c7⟩ := c.def_ 7 (d := dX7) rfl
  obtain ⟨o1_8, o2_8, o3_8, o4_8, o5_8, o6_8, o7_8, o8_8, o9_8, l8, c8⟩ := c.def_ 8 (d := dX8) rfl
  obtain ⟨o1_9, o2_9, o3_9, o4_9, o5_9, o6_9, o7_9, o8_9, o9_9, l9, c9⟩ := c.def_ 9 (d := dX9) rfl
  obtain ⟨o1_10, o2_10, o3_10, o4_10, o5_10, o6_10, o7_10, o8_10, o9_10, l10, c10⟩ := c.def_ 10 (d := dX10) rfl
  obtain ⟨o1_11, o2_11, o3_11, o4_11, o5_11, o6_11, o7_11, o8_11, o9_11, l11, c11⟩ := c.def_ 11 (d := dX11) rfl
  obtain ⟨o1_12, o2_12, o3_12, o4_12, o5_12, o6_12, o7_12, o8_12, o9_12, l12, c12⟩ := c.def_ 12 (d := dX12) rfl
  obtain ⟨o1_13, o2_13, o3_13, o4_13, o5_13, o6_13, o7_13, o8_13, o9_13, l13, c13⟩ := c.def_ 13 (d := dX13) rfl
  obtain ⟨o1_14, o2_14, o3_14, o4_14, o5_14, o6_14, o7_14, o8_14, o9_14, l14, c14⟩ := c.def_ 14 (d := dX14) rfl
  obtain ⟨o1_15, o2_15, o3_15, o4_15, o5_15, o6_15, o7_15, o8_15, o9_15, l15, c15⟩ := c.def_ 15 (d := dX15) rfl
  obtain ⟨o1_16, o2_16, o3_16, o4_16, o5_16, o6_16, o7_16, o8_16, o9_16, l16, c16⟩ := c.def_ 16 (d := dX16) rfl
  obtain ⟨o1_17, o2_17, o3_17, o4_17, o5_17, o6_17, o7_17, o8_17, o9_17, l17, c17⟩ := c.def_ 17 (d := dX17) rfl
  obtain ⟨o1_18, o2_18, o3_18, o4_18, o5_18, o6_18, o7_18, o8_18, o9_18, l18, c18⟩ := c.def_ 18 (d := dX18) rfl
  obtain ⟨o1_19, o2_19, o3_19, o4_19, o5_19, o6_19, o7_19, o8_19, o9_19, l19, c19⟩ := c.def_ 19 (d := dX19) rfl
  obtain ⟨o1_20, o2_20, o3_20, o4_20, o5_20, o6_20, o7_20, o8_20, o9_20, l20, c20⟩ := c.def_ 20 (d := dX20) rfl
  obtain ⟨o1_21, o2_21, o3_21, o4_21, o5_21, o6_21, o7_21, o8_21, o9_21, l21, c21⟩ := c.def_ 21 (d := dX21) rfl
  obtain ⟨o1_22, o2_22, o3_22, o4_22, o5_22, o6_22, o7_22, o8_22, o9_22, l22, c22⟩ := c.def_ 22 (d := dX22) rfl
  obtain ⟨o1_23, o2_23, o3_23, o4_23, o5_23, o6_23, o7_23, o8_23, o9_23, l23, c23⟩ := c.def_ 23 (d := dX23) rfl
  obtain ⟨o1_24, o2_24, o3_24, o4_24, o5_24, o6_24, o7_24, o8_24, o9_24, l24, c24⟩ := c.def_ 24 (d := dX24) rfl
  obtain ⟨o1_25, o2_25, o3_25, o4_25, o5_25, o6_25, o7_25, o8_25, o9_25, l25, c25⟩ := c.def_ 25 (d := dX25) rfl
  obtain ⟨o1_26, o2_26, o3_26, o4_26, o5_26, o6_26, o7_26, o8_26, o9_26, l26, c26⟩ := c.def_ 26 (d := dX26) rfl
  obtain ⟨o1_27, o2_27, o3_27, o4_27, o5_27, o6_27, o7_27, o8_27, o9_27, l27, c27⟩ := c.def_ 27 (d := dX27) rfl
  obtain ⟨o1_28, o2_28, o3_28, o4_28, o5_28, o6_28, o7_28, o8_28, o9_28, l28, c28⟩ := c.def_ 28 (d := dX28) rfl
  obtain ⟨o1_29, o2_29, o3_29, o4_29, o5_29, o6_29, o7_29, o8_29, o9_29, l29, c29⟩ := c.def_ 29 (d := dX29) rfl
  obtain ⟨o1_30, o2_30, o3_30, o4_30, o5_30, o6_30, o7_30, o8_30, o9_30, l30, c30⟩ := c.def_ 30 (d := dX30) rfl
  obtain ⟨o1_31, o2_31, o3_31, o4_31, o5_31, o6_31, o7_31, o8_31, o9_31, l31, c31⟩ := c.def_ 31 (d := dX31) rfl
  obtain ⟨o1_32, o2_32, o3_32, o4_32, o5_32, o6_32, o7_32, o8_32, o9_32, l32, c32⟩ := c.def_ 32 (d := dX32) rfl
  obtain ⟨o1_33, o2_33, o3_33, o4_33, o5_33, o6_33, o7_33, o8_33, o9_33, l33, c33⟩ := c.def_ 33 (d := dX33) rfl
  obtain ⟨o1_34, o2_34, o3_34, o4_34, o5_34, o6_34, o7_34, o8_34, o9_34, l34, c34⟩ := c.def_ 34 (d := dX34) rfl
  obtain ⟨o1_35, o2_35, o3_35, o4_35, o5_35, o6_35, o7_35, o8_35, o9_35, l35, c35⟩ := c.def_ 35 (d := dX35) rfl
  obtain ⟨o1_36, o2_36, o3_36, o4_36, o5_36, o6_36, o7_36, o8_36, o9_36, l36, c36⟩ := c.def_ 36 (d := dX36) rfl
  obtain ⟨o1_37, o2_37, o3_37, o4_37, o5_37, o6_37, o7_37, o8_37, o9_37, l37, c37⟩ := c.def_ 37 (d := dX37) rfl
  obtain ⟨o1_38, o2_38, o3_38, o4_38, o5_38, o6_38, o7_38, o8_38, o9_38, lP, cP⟩ := c.def_ 38 (d := dX38) rfl
  obtain ⟨_, q_z17⟩ := Fn.hStr_ok (c.b (b := Fn.hStr K "EMPTY" "-") 98 rfl)
  obtain ⟨_, q_z18⟩ := Fn.hStr_ok (c.b (b := Fn.hStr K "NONE" "none") 99 rfl)
  obtain ⟨_, q_z19⟩ := Fn.hInt_ok (c.b (b := Fn.hInt K "MAX_DIGITS" 60) 100 rfl)
  obtain ⟨ce0, oA0, oD0, vS0, oS0, lc0, vp0⟩ := Fn.htOk (Fn.hGa_ok (c.b (b := Fn.hGa K "_law_strings_right") 70 rfl)) l35 (Fn.htT (c.b (b := Fn.htB K "_law_strings_right") 80 rfl))
  exact all_mk (f_is_integer := (He.ga K "is_integer")) (f_are_numbers := (He.ga K "are_numbers")) (f_ascends := (He.ga K "ascends")) (f_is_class_form := (He.ga K "is_class_form")) (f_are_classes_form := (He.ga K "are_classes_form")) (f_is_state_form := (He.ga K "is_state_form")) (f_number_told := (He.ga K "number_told")) (f_numbers_told := (He.ga K "numbers_told")) (f_state_told := (He.ga K "state_told")) (f_key_told := (He.ga K "key_told")) (f_line_told := (He.ga K "line_told")) (f_check_text := (He.ga K "check_text")) (f_numbers_text := (He.ga K "numbers_text")) (f_state_text := (He.ga K "state_text")) (f_write_numbers := (He.ga K "write_numbers")) (f_read_numbers := (He.ga K "read_numbers")) (f_write_state := (He.ga K "write_state")) (f_read_state := (He.ga K "read_state")) (f_is_key := (He.ga K "is_key")) (f_write_table := (He.ga K "write_table")) (f_read_table := (He.ga K "read_table")) (f__law_dice := (He.ga K "_law_dice")) (f__law_roll := (He.ga K "_law_roll")) (f__law_pick := (He.ga K "_law_pick")) (f__law_some := (He.ga K "_law_some")) (f__law_rising := (He.ga K "_law_rising")) (f__law_a_state := (He.ga K "_law_a_state")) (f__law_line := (He.ga K "_law_line")) (f__law_state_line := (He.ga K "_law_state_line")) (f__law_due_numbers := (He.ga K "_law_due_numbers")) (f__law_is_rising := (He.ga K "_law_is_rising")) (f__law_due_state := (He.ga K "_law_due_state")) (f__law_due_table := (He.ga K "_law_due_table")) (f__law_bent := (He.ga K "_law_bent")) (f__law_got := (He.ga K "_law_got")) (f__law_strings_right := (He.ga K "_law_strings_right")) (f__law_right := (He.ga K "_law_right")) (f_law := (He.ga K "law")) (A_C := (He.ga K "ParseError")) (A_I := (He.ma K (He.ga K "ParseError") "__init__")) (A_c0 := (Fn.htA K "_law_strings_right")) (A_p0 := (Fn.htP K "_law_strings_right")) X G hmg (Fn.hGa_ok (c.b (b := Fn.hGa K "is_integer") 0 rfl)) l0 c0 (c.b (b := PySem.W.keepIn K (.ref (He.ga K "is_integer"))) 1 rfl) (Fn.hGa_ok (c.b (b := Fn.hGa K "are_numbers") 2 rfl)) l1 c1 (c.b (b := PySem.W.keepIn K (.ref (He.ga K "are_numbers"))) 3 rfl) (Fn.hGa_ok (c.b (b := Fn.hGa K "ascends") 4 rfl)) l2 c2 (c.b (b := PySem.W.keepIn K (.ref (He.ga K "ascends"))) 5 rfl) (Fn.hGa_ok (c.b (b := Fn.hGa K "is_class_form") 6 rfl)) l3 c3 (c.b (b := PySem.W.keepIn K (.ref (He.ga K "is_class_form"))) 7 rfl) (Fn.hGa_ok (c.b (b := Fn.hGa K "are_classes_form") 8 rfl)) l4 c4 (c.b (b := PySem.W.keepIn K (.ref (He.ga K "are_classes_form"))) 9 rfl) (Fn.hGa_ok (c.b (b := Fn.hGa K "is_state_form") 10 rfl)) l5 c5 (c.b (b := PySem.W.keepIn K (.ref (He.ga K "is_state_form"))) 11 rfl) (Fn.hGa_ok (c.b (b := Fn.hGa K "number_told") 12 rfl)) l6 c6 (c.b (b := PySem.W.keepIn K (.ref (He.ga K "number_told"))) 13 rfl) (Fn.hGa_ok (c.b (b := Fn.hGa K "numbers_told") 14 rfl)) l7 c7 (c.b (b := PySem.W.keepIn K (.ref (He.ga K "numbers_told"))) 15 rfl) (Fn.hGa_ok (c.b (b := Fn.hGa K "state_told") 16 rfl)) l8 c8 (c.b (b := PySem.W.keepIn K (.ref (He.ga K "state_told"))) 17 rfl) (Fn.hGa_ok (c.b (b := Fn.hGa K "key_told") 18 rfl)) l9 c9 (c.b (b := PySem.W.keepIn K (.ref (He.ga K "key_told"))) 19 rfl) (Fn.hGa_ok (c.b (b := Fn.hGa K "line_told") 20 rfl)) l10 c10 (c.b (b := PySem.W.keepIn K (.ref (He.ga K "line_told"))) 21 rfl) (Fn.hGa_ok (c.b (b := Fn.hGa K "check_text") 22 rfl)) l11 c11 (c.b (b := PySem.W.keepIn K (.ref (He.ga K "check_text"))) 23 rfl) (Fn.hGa_ok (c.b (b := Fn.hGa K "numbers_text") 24 rfl)) l12 c12 (c.b (b := PySem.W.keepIn K (.ref (He.ga K "numbers_text"))) 25 rfl) (Fn.hGa_ok (c.b (b := Fn.hGa K "state_text") 26 rfl)) l13 c13 (c.b (b := PySem.W.keepIn K (.ref (He.ga K "state_text"))) 27 rfl) (Fn.hGa_ok (c.b (b := Fn.hGa K "write_numbers") 28 rfl)) l14 c14 (c.b (b := PySem.W.keepIn K (.ref (He.ga K "write_numbers"))) 29 rfl) (Fn.hGa_ok (c.b (b := Fn.hGa K "read_numbers") 30 rfl)) l15 c15 (c.b (b := PySem.W.keepIn K (.ref (He.ga K "read_numbers"))) 31 rfl) (Fn.hGa_ok (c.b (b := Fn.hGa K "write_state") 32 rfl)) l16 c16 (c.b (b := PySem.W.keepIn K (.ref (He.ga K "write_state"))) 33 rfl) (Fn.hGa_ok (c.b (b := Fn.hGa K "read_state") 34 rfl)) l17 c17 (c.b (b := PySem.W.keepIn K (.ref (He.ga K "read_state"))) 35 rfl) (Fn.hGa_ok (c.b (b := Fn.hGa K "is_key") 36 rfl)) l18 c18 (c.b (b := PySem.W.keepIn K (.ref (He.ga K "is_key"))) 37 rfl) (Fn.hGa_ok (c.b (b := Fn.hGa K "write_table") 38 rfl)) l19 c19 (c.b (b := PySem.W.keepIn K (.ref (He.ga K "write_table"))) 39 rfl) (Fn.hGa_ok (c.b (b := Fn.hGa K "read_table") 40 rfl)) l20 c20 (c.b (b := PySem.W.keepIn K (.ref (He.ga K "read_table"))) 41 rfl) (Fn.hGa_ok (c.b (b := Fn.hGa K "_law_dice") 42 rfl)) l21 c21 (c.b (b := PySem.W.keepIn K (.ref (He.ga K "_law_dice"))) 43 rfl) (Fn.hGa_ok (c.b (b := Fn.hGa K "_law_roll") 44 rfl)) l22 c22 (c.b (b := PySem.W.keepIn K (.ref (He.ga K "_law_roll"))) 45 rfl) (Fn.hGa_ok (c.b (b := Fn.hGa K "_law_pick") 46 rfl)) l23 c23 (c.b (b := PySem.W.keepIn K (.ref (He.ga K "_law_pick"))) 47 rfl) (Fn.hGa_ok (c.b (b := Fn.hGa K "_law_some") 48 rfl)) l24 c24 (c.b (b := PySem.W.keepIn K (.ref (He.ga K "_law_some"))) 49 rfl) (Fn.hGa_ok (c.b (b := Fn.hGa K "_law_rising") 50 rfl)) l25 c25 (c.b (b := PySem.W.keepIn K (.ref (He.ga K "_law_rising"))) 51 rfl) (Fn.hGa_ok (c.b (b := Fn.hGa K "_law_a_state") 52 rfl)) l26 c26 (c.b (b := PySem.W.keepIn K (.ref (He.ga K "_law_a_state"))) 53 rfl) (Fn.hGa_ok (c.b (b := Fn.hGa K "_law_line") 54 rfl)) l27 c27 (c.b (b := PySem.W.keepIn K (.ref (He.ga K "_law_line"))) 55 rfl) (Fn.hGa_ok (c.b (b := Fn.hGa K "_law_state_line") 56 rfl)) l28 c28 (c.b (b := PySem.W.keepIn K (.ref (He.ga K "_law_state_line"))) 57 rfl) (Fn.hGa_ok (c.b (b := Fn.hGa K "_law_due_numbers") 58 rfl)) l29 c29 (c.b (b := PySem.W.keepIn K (.ref (He.ga K "_law_due_numbers"))) 59 rfl) (Fn.hGa_ok (c.b (b := Fn.hGa K "_law_is_rising") 60 rfl)) l30 c30 (c.b (b := PySem.W.keepIn K (.ref (He.ga K "_law_is_rising"))) 61 rfl) (Fn.hGa_ok (c.b (b := Fn.hGa K "_law_due_state") 62 rfl)) l31 c31 (c.b (b := PySem.W.keepIn K (.ref (He.ga K "_law_due_state"))) 63 rfl) (Fn.hGa_ok (c.b (b := Fn.hGa K "_law_due_table") 64 rfl)) l32 c32 (c.b (b := PySem.W.keepIn K (.ref (He.ga K "_law_due_table"))) 65 rfl) (Fn.hGa_ok (c.b (b := Fn.hGa K "_law_bent") 66 rfl)) l33 c33 (c.b (b := PySem.W.keepIn K (.ref (He.ga K "_law_bent"))) 67 rfl) (Fn.hGa_ok (c.b (b := Fn.hGa K "_law_got") 68 rfl)) l34 c34 (c.b (b := PySem.W.keepIn K (.ref (He.ga K "_law_got"))) 69 rfl) (Fn.hGa_ok (c.b (b := Fn.hGa K "_law_strings_right") 70 rfl)) l35 c35 (c.b (b := PySem.W.keepIn K (.ref (He.ga K "_law_strings_right"))) 71 rfl) (Fn.hGa_ok (c.b (b := Fn.hGa K "_law_right") 72 rfl)) l36 c36 (c.b (b := PySem.W.keepIn K (.ref (He.ga K "_law_right"))) 73 rfl) (Fn.hGa_ok (c.b (b := Fn.hGa K "law") 74 rfl)) l37 c37 (c.b (b := PySem.W.keepIn K (.ref (He.ga K "law"))) 75 rfl) (Fn.hGa_ok (c.b (b := Fn.hGa K "ParseError") 76 rfl)) (Fn.hMa_ok (c.b (b := Fn.hMa K (He.ga K "ParseError") "__init__") 77 rfl)) lP cP (c.b (b := PySem.W.keepIn K (.ref (He.ma K (He.ga K "ParseError") "__init__"))) 78 rfl) (c.b (b := Fn.pexB K (He.ga K "ParseError") (He.ma K (He.ga K "ParseError") "__init__")) 79 rfl) ce0 lc0 vp0 (Fn.htN (c.b (b := Fn.htB K "_law_strings_right") 80 rfl)) hd0 (Fn.hFree_ok (c.b (b := Fn.hFree K "len") 81 rfl)) (Fn.hFree_ok (c.b (b := Fn.hFree K "int") 82 rfl)) (Fn.hFree_ok (c.b (b := Fn.hFree K "abs") 83 rfl)) (Fn.hFree_ok (c.b (b := Fn.hFree K "isinstance") 84 rfl)) (Fn.hFree_ok (c.b (b := Fn.hFree K "bool") 85 rfl)) (Fn.hFree_ok (c.b (b := Fn.hFree K "all") 86 rfl)) (Fn.hFree_ok (c.b (b := Fn.hFree K "tuple") 87 rfl)) (Fn.hFree_ok (c.b (b := Fn.hFree K "str") 88 rfl)) (Fn.hFree_ok (c.b (b := Fn.hFree K "sorted") 89 rfl)) (Fn.hFree_ok (c.b (b := Fn.hFree K "dict") 90 rfl)) (Fn.hFree_ok (c.b (b := Fn.hFree K "set") 91 rfl)) (Fn.hFree_ok (c.b (b := Fn.hFree K "list") 92 rfl)) (Fn.hFree_ok (c.b (b := Fn.hFree K "range") 93 rfl)) (Fn.hFree_ok (c.b (b := Fn.hFree K "max") 94 rfl)) (Fn.hFree_ok (c.b (b := Fn.hFree K "min") 95 rfl)) (Fn.hFree_ok (c.b (b := Fn.hFree K "enumerate") 96 rfl)) (Fn.hFree_ok (c.b (b := Fn.hFree K "repr") 97 rfl)) q_z17 q_z18 q_z19
end K70
open PySem PySem.W PyProof.Rows PySem.Calls
set_option maxRecDepth 100000 in
set_option maxHeartbeats 0 in
theorem PySem.Challenge.cw_firstneed_k70_whole_numbers_states_and_t_holds : PySem.Challenge.rw_firstneed_k70_whole_numbers_states_and_t.Holds := by
  w_on; o_law
  refine HandSHeadRun.head_any (r := OpenLaw.row PySem.Challenge.rw_firstneed_k70_whole_numbers_states_and_t) (q := K70.qv) (H := K70.hkX) (ob := K70.obX) (M := 20000) (loose := K70.nmL) (d := HandSHeadRun.topDef (OpenLaw.row PySem.Challenge.rw_firstneed_k70_whole_numbers_states_and_t).prog 50) (kwd := []) K70.obX_eq
    (by kernel_rfl) (fun s => by kernel_rfl) K70.runX (by kernel_rfl) (by kernel_rfl) (by kernel_rfl) (by rfl) (by first | assumption | decide +kernel) (by decide +kernel) ⟨rfl, rfl, rfl, rfl, rfl, by decide +kernel⟩ ?hw ?hc
  case hw => w_witness2
  case hc =>
    have e : (HandSHeadRun.topDef (OpenLaw.row PySem.Challenge.rw_firstneed_k70_whole_numbers_states_and_t).prog 50).name = ("law" : PySem.Str) := by kernel_rfl
    refine Fn.walkTX (l := PySem.Challenge.rw_firstneed_k70_whole_numbers_states_and_t) (n := 63) (k := 21) (x := "_law_script") rfl (by decide) (by kernel_rfl) ⟨rfl, by decide, by decide⟩ ?F
    intro w mean mg mb fa h Tp Y G hmg0
    obtain ⟨K, KX, c⟩ := Y
    rw [e] at hmg0
    exact ⟨K, KX, K70.facts_mk (l := PySem.Challenge.rw_firstneed_k70_whole_numbers_states_and_t) KX G hmg0 c (PySem.W.tab_of (d := HandSHeadRun.topDef (OpenLaw.row PySem.Challenge.rw_firstneed_k70_whole_numbers_states_and_t).prog 48) (x := "_law_strings_right") Tp KX (by kernel_rfl) (Fn.htT (c.b (b := Fn.htB K "_law_strings_right") 80 rfl)))⟩
