import PyProof.Rows.All
import Wide.All
import OpenK.AllK
import Wide.FinOn
import HandS.ForMost
import HandS.IsInst
import HandS.ExcField
import HandS.ClsMeth
import HandS.Property
import HandS.Words
import HandS.Head0
import HandS.Head1
import HandS.Head2
import HandS.HeadEnd
import HandS.HeadHook1
import HandS.HeadHook2
import HandS.Deep
import HandS.Walk
import KE.KDictWalk
import KE.KDictCopyH
import KE.KeyNested
import HandS.Small
import HandS.Style
import HandS.TupSets
import HandS.SetBool
import HandS.SortOrd
import PyProof.Rows.SortKeyStr
import HandS.Star
import HandS.ExcOwn
import HandS.TryOnly
import HandS.WordsExc
import HandS.TupMul
import HandS.FStr
import HandS.Iter
import HandS.Text
import PyProof.StrBlockL
import HandS.ExcInit
import HandS.ExcIs
import HandS.ExcValue
import KE.KExcMore
import KE.KExcInit
import HandS.SlotsOwn
import KE.KCallOwn
import PyProof.InstEq
import KE.GoesEnum
import KE.DataMinMax
import HandS.SortKw
import HandS.TupAny
import HandS.DictComp
import HandS.Finally
import HandS.TryMany
import HandS.Codes
import HandS.StrMore
import HandS.MapObj
import HandS.ListItems
import HandS.Conv
import KE.KDictZip
import HandS.EndTab
import PyProof.AutoSeq1
import HandS.More
import PyProof.NeKinds
import PyProof.NeData
import PyProof.IsRules
import PyProof.FactsAll.dict_2
import KE.KDictDisplayH
import KE.KDictKeyed
import PySem.Challenge.RW_firstneed_k72_errors_of_written_values
set_option Elab.async false
set_option linter.all false
set_option maxRecDepth 100000
set_option maxHeartbeats 4000000
/-! The facts of own classes as truth values that the kernel's run of the top can tell. -/
namespace Fn
open PySem PySem.Spec PyProof.Rows L2
def tyNs : List String := ["NoneType", "bool", "int", "str", "list", "tuple", "dict"]
def ownT (T : List Value) : List Value → Bool
  | .ref _ :: r => ownT T r
  | l => l == T
abbrev tVal : List Value := [.type "ValueError", .type "Exception", .type "BaseException", .type "object"]
abbrev tKey : List Value := [.type "KeyError", .type "LookupError", .type "Exception", .type "BaseException", .type "object"]
abbrev tLok : List Value := [.type "LookupError", .type "Exception", .type "BaseException", .type "object"]
abbrev tIdx : List Value := [.type "IndexError", .type "LookupError", .type "Exception", .type "BaseException", .type "object"]
abbrev tOvf : List Value := [.type "OverflowError", .type "ArithmeticError", .type "Exception", .type "BaseException", .type "object"]
abbrev tAri : List Value := [.type "ArithmeticError", .type "Exception", .type "BaseException", .type "object"]
abbrev tRun : List Value := [.type "RuntimeError", .type "Exception", .type "BaseException", .type "object"]
def clsX (K : PySem.W.Frag) (C : Addr) (T : List Value) (newId : String) : Bool := match K.lookup C with
  | some ⟨.type "type", _, .cls cd, sl⟩ => (match cd.mro, sl.toList with
    | .ref C' :: bm, [_, _, _, _, some (.builtin n), _] => C' == C && n == newId && !cd.hasDel && cd.hasDict && ownT T bm
    | _, _ => false)
  | _ => false
structure Ta where
  (T X fi fl pn gn pb gb : Addr)
abbrev mcT : Value := .type "type"
abbrev tValE : List Value := [.type "ValueError", .type "Exception", .type "BaseException", .type "object"]
def termB (K : PySem.W.Frag) (c : Ta) : Bool :=
  PySem.W.plainGet K c.T Str.empty && (PySem.W.hasDictIn K c.T && (PySem.W.plainOver K c.T && (decide (PySem.W.findIn K (.ref c.T) "__setattr__" = some (some (.builtin "object.__setattr__"))) && (PySem.W.makesIn K c.T && (PySem.W.isFn K (.ref c.fi) && (PySem.W.keepIn K (.ref c.T) &&
    (decide (PySem.W.findIn K (.ref c.T) "_nodes" = some none) && (PySem.W.isFn K (.ref c.fl) && (decide (PySem.W.specialIn K (.ref c.pn) "__get__" = some (some (.builtin "property.__get__"))) && (decide (PySem.W.takesIn K (.ref c.pn) = some true) &&
    (PySem.W.readsIn K c.T mcT && (decide (PySem.W.specialIn K (.ref c.T) "__getattribute__" = some (some (.builtin "type.__getattribute__"))) && (PySem.W.fnIn K c.gb && decide (PySem.W.kitOne K (.ref c.T) (.ref c.T) = some true))))))))))))))
def clB4 (K : PySem.W.Frag) (C : Addr) : Bool := decide (PySem.W.findIn K (.ref C) "__class__" = some (some (.builtin "object.__class__"))) && (decide (PySem.W.specialIn K (.builtin "object.__class__") "__get__" = some (some (.builtin "getset_descriptor.__get__"))) && (decide (PySem.W.takesIn K (.builtin "object.__class__") = some true) && decide (PySem.W.mroIn K C (.type "object") = some true)))
def kitsB (K : PySem.W.Frag) (C : Addr) : Bool := ["NoneType", "bool", "int", "str", "list", "tuple", "dict"].all fun n => decide (PySem.W.kitOne K (.type n) (.ref C) = some false)
def invB (K : PySem.W.Frag) (X : Addr) : Bool :=
  PySem.W.excIn K X tValE "ValueError.__new__" && (PySem.W.keepIn K (.ref X) && (decide (PySem.W.subIn K (.ref X) (.type "BaseException") = some true) && (decide (PySem.W.typeIn K (.ref X) = some (.type "type")) && decide (PySem.W.exmOne K (.ref X) (.ref X) = some true))))
def exB (K : PySem.W.Frag) (C : Addr) : Bool :=
  xfB K C && (PySem.W.keepIn K (.ref C) && (decide (PySem.W.findIn K (.ref C) "__class__" = some (some (.builtin "object.__class__"))) && (decide (PySem.W.specialIn K (.builtin "object.__class__") "__get__" = some (some (.builtin "getset_descriptor.__get__"))) &&
    (decide (PySem.W.takesIn K (.builtin "object.__class__") = some true) && decide (PySem.W.mroIn K C (.type "object") = some true)))))
def iniB (K : PySem.W.Frag) (C I : Addr) (f : Str) (T : List Value) (newId : String) : Bool :=
  clsX K C T newId && (decide (PySem.W.findIn K (.ref C) "__setattr__" = some (some (.builtin "object.__setattr__"))) && (decide (PySem.W.findIn K (.ref C) f = some none) && (decide (PySem.W.findIn K (.ref C) "__init__" = some (some (.ref I))) &&
    decide (PySem.W.typeIn K (.ref I) = some (.type "function")))))
def strB (K : PySem.W.Frag) (C : Addr) : Bool := decide (PySem.W.findIn K (.ref C) "__str__" = some (some (.builtin "BaseException.__str__")))
def rowB (K : PySem.W.Frag) (C : Addr) (cs : List Value) (bs : List Bool) : Bool := (cs.zip bs).all fun p => decide (PySem.W.kitOne K (.ref C) p.1 = some p.2)
def clB : Stmt → List Stmt
  | .ClassDef _ _ _ body _ _ _ _ _ _ _ => body
  | _ => []
structure Pa where
  (C I : Addr)
def prsB (K : PySem.W.Frag) (X C I : Addr) : Bool :=
  exB K C && (iniB K C I "line" tVal "ValueError.__new__" && (decide (PySem.W.typeIn K (.ref C) = some (.type "type")) && (decide (PySem.W.exmOne K (.ref C) (.ref C) = some true) && decide (PySem.W.exmOne K (.ref X) (.ref C) = some false))))
def bitB (K : PySem.W.Frag) (C : Addr) : Bool := PySem.W.selfFirst K C && tyNs.all fun n => decide (PySem.W.subIn K (.type n) (.ref C) = some false)
structure Ea where
  (O U I : Addr)
def four (c : Ta) (p : Pa) (e : Ea) (i : Nat) : Addr := [c.X, e.O, e.U, p.C].getD i 0
def errB (K : PySem.W.Frag) (c : Ta) (p : Pa) (e : Ea) : Bool :=
  decide (PySem.W.keepIn K (.ref e.O) = true) && (decide (PySem.W.subIn K (.ref e.O) (.type "BaseException") = some true) && (decide (PySem.W.typeIn K (.ref e.O) = some (.type "type")) &&
    (exB K e.U && (iniB K e.U e.I "spot" tLok "LookupError.__new__" && (decide (PySem.W.typeIn K (.ref e.U) = some (.type "type")) && (bitB K c.T && (decide (PySem.W.findIn K (.ref c.T) (dunderR "and") = some none) && (decide (PySem.W.findIn K (.ref c.T) (dunderR "or") = some none) &&
      (List.range 4).all fun i => (List.range 4).all fun j => decide (PySem.W.exmOne K (.ref (four c p e i)) (.ref (four c p e j)) = some (i == j))))))))))
structure Xa where
  (B R P O C I G : Addr)
def five (x : Xa) (i : Nat) : Addr := [x.B, x.R, x.P, x.O, x.C].getD i 0
def texB (K : PySem.W.Frag) (x : Xa) : Bool :=
  ((List.range 4).all fun i => decide (PySem.W.keepIn K (.ref (five x i)) = true) && (decide (PySem.W.subIn K (.ref (five x i)) (.type "BaseException") = some true) && decide (PySem.W.typeIn K (.ref (five x i)) = some (.type "type")))) &&
    (exB K x.C && (iniB K x.C x.I "line" tVal "ValueError.__new__" && (decide (PySem.W.typeIn K (.ref x.C) = some (.type "type")) && (kitsB K x.G &&
      (List.range 5).all fun i => (List.range 5).all fun j => decide (PySem.W.exmOne K (.ref (five x i)) (.ref (five x j)) = some (i == j))))))
def pexB (K : PySem.W.Frag) (C I : Addr) : Bool :=
  exB K C && (iniB K C I "line" tVal "ValueError.__new__" && (decide (PySem.W.typeIn K (.ref C) = some (.type "type")) && decide (PySem.W.exmOne K (.ref C) (.ref C) = some true)))
end Fn

set_option Elab.async false
set_option linter.all false
set_option maxRecDepth 100000
set_option maxHeartbeats 4000000
/-! The head by one kernel run: which addresses the facts are told of, the facts as truth values, each def as an object; the Hook of these; how each fact is read off it; the entry of a law over such a head. -/
namespace Fn
open PySem PySem.Spec PyProof.Rows L2
/-! ### addresses: forced to numerals -/
def hFr {α : Type} : List Addr → (List Addr → α) → α
  | [], k => k []
  | a :: r, k => HandSHeadRun.frNat a fun a => hFr r fun r => k (a :: r)
theorem hFr_eq {α : Type} : ∀ (as : List Addr) (k : List Addr → α), hFr as k = k as
  | [], _ => rfl
  | a :: r, k => by
    show HandSHeadRun.frNat a (fun a => hFr r fun r => k (a :: r)) = _
    rw [HandSHeadRun.frNat_eq, hFr_eq r]
/-- the object of an empty table of code -/
def htE (o : Obj) : Bool := match o.cls, o.data with
  | .none, .fields vs => vs.size == 0
  | _, _ => false
/-- what an object leads to: a class to its names and its bases, names to what they stand for, a property to what it holds, a function to its code -/
def hRef (o : Obj) : List Addr := match o.data with
  | .func fd => He.refV fd.code
  | .cls cd => cd.ns :: cd.mro.flatMap He.refV
  | .dict es _ => es.toList.flatMap fun e => He.refV e.val
  | .fields vs => (match o.cls with
    | .type n => if n == "property" || n == "classmethod" then vs.toList.flatMap He.refV else []
    | _ => [])
  | _ => []
def hRefS (o : Obj) : List Addr := match o.data with
  | .cls cd => cd.ns :: cd.mro.flatMap He.refV
  | _ => []
/-- one level on -/
def hNext (f : Obj → List Addr) (g : Addr → Option Obj) (as : List Addr) : List Addr := (as.flatMap fun a => match g a with
  | some o => f o
  | none => []).eraseDups
def hKeep (g : Addr → Option Obj) (as : List Addr) : List Addr := as.filter fun a => match g a with
  | some o => !htE o
  | none => false
def hGlo (g : Addr → Option Obj) (xs : List Str) : List Addr := match g mainGlobals with
  | some ⟨_, _, .dict es _, _⟩ => xs.flatMap fun x => match es.toList.find? (·.key.isStr x) with
    | some e => He.refV e.val
    | none => []
  | _ => []
/-- the functions with their code; the classes as deep as a property's code; classes of which only the bases are asked -/
def hAs {α : Type} (g : Addr → Option Obj) (fs cs ss : List Str) (k : List Addr → α) : α :=
  hFr (hGlo g fs) fun f0 => hFr (hNext hRef g f0) fun f1 =>
  hFr (hGlo g ss) fun s0 => hFr (hNext hRefS g s0) fun s1 => hFr (hNext hRefS g s1) fun s2 =>
  hFr (hGlo g cs) fun c0 => hFr (hNext hRef g c0) fun c1 => hFr (hNext hRef g c1) fun c2 => hFr (hNext hRef g c2) fun c3 => hFr (hNext hRef g c3) fun c4 => hFr (hNext hRef g c4) fun c5 =>
  hFr (hKeep g ([mainGlobals] ++ (c0 ++ (c1 ++ (s0 ++ (s1 ++ (s2 ++ (f0 ++ (f1 ++ (c2 ++ (c3 ++ (c4 ++ c5))))))))))).eraseDups) k
def hAll (g : Addr → Option Obj) (fs cs ss : List Str) : List Addr := hAs g fs cs ss id
theorem hAs_eq {α : Type} (g : Addr → Option Obj) (fs cs ss : List Str) (k : List Addr → α) : hAs g fs cs ss k = k (hAll g fs cs ss) := by
  unfold hAll hAs
  simp only [hFr_eq, id]
/-! ### defs -/
structure HDef where
  ad : PySem.W.Frag → Addr
  name : Str
  qual : Str
  params : Arguments
  body : List Stmt
  scope : Scope
def HDef.val (d : HDef) : He.FnV := some (d.name, d.qual, d.params, .stmts d.body, d.scope, mainGlobals, [], .none, builtinsNs)
def HDef.obs (K : PySem.W.Frag) (d : HDef) : He.FnV := match K.lookup (d.ad K) with
  | some ⟨_, _, .func fd, _⟩ => some (fd.name, fd.qualname, fd.params, fd.body, fd.scope, fd.globals, fd.closure, fd.defaults, fd.builtins)
  | _ => none
def HDef.code (K : PySem.W.Frag) (d : HDef) : Bool := match K.lookup (d.ad K) with
  | some ⟨_, _, .func fd, _⟩ => PySem.W.codeIn K fd.code d.qual
  | _ => false
theorem HDef.ok {K : PySem.W.Frag} {d : HDef} (e : d.obs K = d.val) (c : d.code K = true) :
    ∃ oc od osl kV doc pm an cdv ct, K.lookup (d.ad K) = some ⟨oc, od, .func (PySem.W.fnOf d.name d.qual d.params d.body d.scope .none kV doc pm an cdv ct), osl⟩ ∧ PySem.W.codeIn K cdv d.qual = true := by
  unfold HDef.obs at e
  unfold HDef.code at c
  cases q : K.lookup (d.ad K) with
  | none =>
    rw [q] at c
    cases c
  | some o =>
    obtain ⟨oc, od, dt, osl⟩ := o
    rw [q] at c e
    cases dt with
    | func fd =>
      obtain ⟨n1, n2, n3, n4, n5, n6, n7, n8, n9, n10, n11, n12, n13, n14, n15⟩ := fd
      have e2 : (some (n1, n2, n3, n4, n5, n6, n7, n8, n15) : He.FnV) = some (d.name, d.qual, d.params, .stmts d.body, d.scope, mainGlobals, [], .none, builtinsNs) := e
      simp only [Option.some.injEq, Prod.mk.injEq] at e2
      obtain ⟨h1, h2, h3, h4, h5, h6, h7, h8, h9⟩ := e2
      subst h1 h2 h3 h4 h5 h6 h7 h8 h9
      exact ⟨oc, od, osl, n9, n10, n11, n12, n13, n14, rfl, c⟩
    | _ => cases c
/-! ### the Hook -/
abbrev HAl : Type := List Bool × List Bool × List He.FnV
def hObs (fl : PySem.W.Frag → List Bool) (fn : List HDef) (K : PySem.W.Frag) : HAl := (fl K, fn.map fun d => d.code K, fn.map fun d => d.obs K)
def hVal (n : Nat) (fn : List HDef) : HAl := (List.replicate n true, fn.map fun _ => true, fn.map HDef.val)
def HSays (n : Nat) (fl : PySem.W.Frag → List Bool) (fn : List HDef) (K : PySem.W.Frag) : Prop := hObs fl fn K = hVal n fn
def hObsG (fs cs ss : List Str) (fl : PySem.W.Frag → List Bool) (fn : List HDef) (g : Addr → Option Obj) : HAl := hAs g fs cs ss fun as => hObs fl fn (He.frG g as)
def hHook (n : Nat) (fs cs ss : List Str) (fl : PySem.W.Frag → List Bool) (fn : List HDef) : PySem.W.Hook where
  α := HAl
  obs := fun s => hObsG fs cs ss fl fn s.heap.get?
  val := fun _ => hVal n fn
  says := fun _ h => ∃ K : PySem.W.Frag, K.In h ∧ HSays n fl fn K
  of := fun _ s e => ⟨He.frG s.heap.get? (hAll s.heap.get? fs cs ss), He.frG_in, by
    have e2 := e
    unfold hObsG at e2
    rw [hAs_eq] at e2
    exact e2⟩
  keeps := fun _ _ _ ⟨K, hK, c⟩ k => ⟨K, PySem.W.Frag.In.keeps hK k, c⟩
theorem hObsG_eq {n : Nat} {fs cs ss : List Str} {fl : PySem.W.Frag → List Bool} {fn : List HDef} {g : Addr → Option Obj} {s : Shared} (h : ∀ a, g a = s.heap.get? a) : hObsG fs cs ss fl fn g = (hHook n fs cs ss fl fn).obs s := by
  have e : g = s.heap.get? := funext h
  rw [e] <;> rfl
section
variable {n : Nat} {fl : PySem.W.Frag → List Bool} {fn : List HDef} {K : PySem.W.Frag}
theorem HSays.b (c : HSays n fl fn K) (i : Nat) {b : Bool} (h : (fl K)[i]? = some b := by rfl) : b = true := by
  have e : fl K = List.replicate n true := congrArg (fun z : HAl => z.1) c
  have m := List.mem_of_getElem? h
  rw [e] at m
  exact List.eq_of_mem_replicate m
theorem HSays.def_ (c : HSays n fl fn K) (i : Nat) {d : HDef} (h : fn[i]? = some d := by rfl) :
    ∃ oc od osl kV doc pm an cdv ct, K.lookup (d.ad K) = some ⟨oc, od, .func (PySem.W.fnOf d.name d.qual d.params d.body d.scope .none kV doc pm an cdv ct), osl⟩ ∧ PySem.W.codeIn K cdv d.qual = true := by
  have e1 : fn.map (fun d => d.code K) = fn.map fun _ => true := congrArg (fun z : HAl => z.2.1) c
  have e2 : fn.map (fun d => d.obs K) = fn.map HDef.val := congrArg (fun z : HAl => z.2.2) c
  have g1 : (fn.map fun d => d.code K)[i]? = (fn.map fun _ => true)[i]? := by rw [e1]
  have g2 : (fn.map fun d => d.obs K)[i]? = (fn.map HDef.val)[i]? := by rw [e2]
  rw [List.getElem?_map, List.getElem?_map, h] at g1 g2
  exact HDef.ok (Option.some.inj g2) (Option.some.inj g1)
end
/-! ### facts as truth values -/
def hInt (K : PySem.W.Frag) (x : Str) (i : Int) : Bool := match PySem.W.nsIn K mainGlobals x with
  | some (some (.int j _)) => decide (j = i)
  | _ => false
theorem hInt_ok {K : PySem.W.Frag} {x : Str} {i : Int} (c : hInt K x i = true) : ∃ t, PySem.W.nsIn K mainGlobals x = some (some (.int i t)) := by
  unfold hInt at c
  cases e : PySem.W.nsIn K mainGlobals x with
  | none => rw [e] at c; cases c
  | some o =>
    rw [e] at c
    cases o with
    | none => cases c
    | some v =>
      cases v with
      | int j t =>
        have ej : j = i := of_decide_eq_true c
        exact ⟨t, by rw [ej]⟩
      | _ => cases c
def hStr (K : PySem.W.Frag) (x z : Str) : Bool := match PySem.W.nsIn K mainGlobals x with
  | some (some (.str y _)) => decide (y = z)
  | _ => false
theorem hStr_ok {K : PySem.W.Frag} {x z : Str} (c : hStr K x z = true) : ∃ t, PySem.W.nsIn K mainGlobals x = some (some (.str z t)) := by
  unfold hStr at c
  cases e : PySem.W.nsIn K mainGlobals x with
  | none => rw [e] at c; cases c
  | some o =>
    rw [e] at c
    cases o with
    | none => cases c
    | some v =>
      cases v with
      | str y t =>
        have ej : y = z := of_decide_eq_true c
        exact ⟨t, by rw [ej]⟩
      | _ => cases c
def hFree (K : PySem.W.Frag) (x : Str) : Bool := decide (PySem.W.nsIn K mainGlobals x = some none)
theorem hFree_ok {K : PySem.W.Frag} {x : Str} (c : hFree K x = true) : PySem.W.nsIn K mainGlobals x = some none := of_decide_eq_true c
def hGa (K : PySem.W.Frag) (x : Str) : Bool := decide (PySem.W.nsIn K mainGlobals x = some (some (.ref (He.ga K x))))
theorem hGa_ok {K : PySem.W.Frag} {x : Str} (c : hGa K x = true) : PySem.W.nsIn K mainGlobals x = some (some (.ref (He.ga K x))) := of_decide_eq_true c
def hMa (K : PySem.W.Frag) (C : Addr) (x : Str) : Bool := decide (PySem.W.findIn K (.ref C) x = some (some (.ref (He.ma K C x))))
theorem hMa_ok {K : PySem.W.Frag} {C : Addr} {x : Str} (c : hMa K C x = true) : PySem.W.findIn K (.ref C) x = some (some (.ref (He.ma K C x))) := of_decide_eq_true c
/-- the first of the values that an object of the type T holds -/
def hrA (K : PySem.W.Frag) (p : Addr) (T : String) : Addr := match PySem.W.recIn K p T with
  | some (.ref a :: _) => a
  | _ => 0
def hrR (K : PySem.W.Frag) (p : Addr) (T : String) : List Value := match PySem.W.recIn K p T with
  | some (_ :: r) => r
  | _ => []
def hrB (K : PySem.W.Frag) (p : Addr) (T : String) : Bool := match PySem.W.recIn K p T with
  | some (.ref _ :: _) => true
  | _ => false
theorem hrC {K : PySem.W.Frag} {p : Addr} {T : String} (c : hrB K p T = true) : PySem.W.recIn K p T = some (.ref (hrA K p T) :: hrR K p T) := by
  unfold hrB at c
  unfold hrA hrR
  cases e : PySem.W.recIn K p T with
  | none => rw [e] at c; cases c
  | some l =>
    rw [e] at c
    cases l with
    | nil => cases c
    | cons v r => cases v <;> first | rfl | cases c
/-- a classmethod's object -/
def hkA (K : PySem.W.Frag) (C : Addr) (x : Str) : Addr := match PySem.W.findCls K (.ref C) mcT x with
  | some (.get _ (.ref a) _ _) => a
  | _ => 0
def hkB (K : PySem.W.Frag) (C : Addr) (x : Str) : Bool := match PySem.W.findCls K (.ref C) mcT x with
  | some (.get (.builtin n) (.ref _) .none (.ref t)) => decide (n = "classmethod.__get__") && decide (t = C)
  | _ => false
theorem hkC {K : PySem.W.Frag} {C : Addr} {x : Str} (c : hkB K C x = true) : PySem.W.findCls K (.ref C) mcT x = some (.get (.builtin "classmethod.__get__") (.ref (hkA K C x)) .none (.ref C)) := by
  unfold hkB at c
  unfold hkA
  split at c
  · rename_i n a t e
    rw [e]
    simp only [Bool.and_eq_true, decide_eq_true_eq] at c
    obtain ⟨rfl, rfl⟩ := c
    rfl
  · cases c
/-! ### tables of code -/
def htA (K : PySem.W.Frag) (x : Str) : Addr := match PySem.W.tabIn K x with
  | some (a, _) => a
  | none => 0
def htP (K : PySem.W.Frag) (x : Str) : Addr := match PySem.W.tabIn K x with
  | some (_, a) => a
  | none => 0
def htB (K : PySem.W.Frag) (x : Str) : Bool := (PySem.W.tabIn K x).isSome && (K.lookup (htP K x)).isNone
theorem htT {K : PySem.W.Frag} {x : Str} (c : htB K x = true) : PySem.W.tabIn K x = some (htA K x, htP K x) := by
  have c2 := (Bool.and_eq_true_iff.mp c).1
  unfold htA htP
  cases e : PySem.W.tabIn K x with
  | none => rw [e] at c2; cases c2
  | some p => rfl
theorem htN {K : PySem.W.Frag} {x : Str} (c : htB K x = true) : K.lookup (htP K x) = none := by
  have c2 := (Bool.and_eq_true_iff.mp c).2
  cases e : K.lookup (htP K x) with
  | none => rfl
  | some p => rw [e] at c2; cases c2
theorem htOk {K : PySem.W.Frag} {x : Str} {f : Addr} {oc : Value} {od : Option Addr} {fd : FuncData} {sl : Array (Option Value)} (a : PySem.W.nsIn K mainGlobals x = some (some (.ref f))) (l : K.lookup f = some ⟨oc, od, .func fd, sl⟩) (t : PySem.W.tabIn K x = some (A, Q)) :
    fd.code = .ref A ∧ ∃ oA oD vS oS, K.lookup A = some ⟨oA, oD, .fields vS, oS⟩ ∧ (vS[11]? : Option Value) = some (.ref Q) := by
  unfold PySem.W.tabIn at t
  rw [a] at t
  simp only [l] at t
  split at t
  · rename_i c2 hc
    split at t
    · rename_i oA oD vS oS hl
      split at t
      · rename_i P2 hv
        cases t
        exact ⟨hc, oA, oD, vS, oS, hl, hv⟩
      · cases t
    · cases t
  · cases t
def htNe (K : PySem.W.Frag) (x y : Str) : Bool := decide (htP K x ≠ htP K y)
theorem htNe_ok {K : PySem.W.Frag} {x y : Str} (c : htNe K x y = true) : htP K x ≠ htP K y := of_decide_eq_true c
end Fn

set_option Elab.async false
set_option linter.all false
set_option maxRecDepth 100000
set_option maxHeartbeats 4000000
namespace K72
open PySem PySem.Spec PyProof.Rows L2 Fn
def top (i : Nat) : Stmt := PySem.Challenge.pw_firstneed_k72_errors_of_written_values.main.body.getD i (.Pass ⟨0, 0, 0, 0⟩)
abbrev RX : PySem.W.OpenRow := PySem.W.OpenLaw.row PySem.Challenge.rw_firstneed_k72_errors_of_written_values
abbrev qv : Program := PySem.W.view RX.prog [122, 123]
def nmL0 : List PySem.Str := [("_wall" : PySem.Str), ("__name__" : PySem.Str), ("makes_one_tree" : PySem.Str), ("part_end" : PySem.Str), ("part_at" : PySem.Str), ("places_above" : PySem.Str), ("places_of" : PySem.Str), ("height_of" : PySem.Str), ("text_of" : PySem.Str), ("told_nodes" : PySem.Str), ("MAX_LETTERS" : PySem.Str), ("MAX_ARITY" : PySem.Str), ("MAX_SYMBOLS" : PySem.Str), ("ANY" : PySem.Str), ("LOST" : PySem.Str), ("is_integer" : PySem.Str)]
def nmL1 : List PySem.Str := [("is_index" : PySem.Str), ("is_word" : PySem.Str), ("is_arity" : PySem.Str), ("is_leaf" : PySem.Str), ("is_node" : PySem.Str), ("is_symbols" : PySem.Str), ("common_instance" : PySem.Str), ("common_pattern" : PySem.Str), ("NeedError" : PySem.Str), ("InvalidTerm" : PySem.Str), ("InvalidBook" : PySem.Str), ("InvalidProgram" : PySem.Str), ("InvalidTable" : PySem.Str), ("InvalidRows" : PySem.Str), ("InvalidOperation" : PySem.Str), ("ParseError" : PySem.Str)]
def nmL2 : List PySem.Str := [("UnknownPlace" : PySem.Str), ("InvalidNumber" : PySem.Str), ("MAX_NODES" : PySem.Str), ("is_tree" : PySem.Str), ("symbols_in" : PySem.Str), ("Term" : PySem.Str), ("is_term_of" : PySem.Str), ("is_ground_of" : PySem.Str), ("check_ground" : PySem.Str), ("check_rule" : PySem.Str), ("parts_below" : PySem.Str), ("ARROW" : PySem.Str), ("BEGINNING" : PySem.Str), ("ARITIES" : PySem.Str), ("symbols_line" : PySem.Str), ("told_symbols" : PySem.Str)]
def nmL3 : List PySem.Str := [("told_sides" : PySem.Str), ("rule_line" : PySem.Str), ("told_term" : PySem.Str), ("told_rules" : PySem.Str), ("MAX_RULES" : PySem.Str), ("MAX_RULE_NODES" : PySem.Str), ("MAX_PARTS" : PySem.Str), ("is_side" : PySem.Str), ("is_rule" : PySem.Str), ("is_rule_books" : PySem.Str), ("are_rules" : PySem.Str), ("Book" : PySem.Str), ("VARIABLES" : PySem.Str), ("is_variable" : PySem.Str), ("is_scheme_node" : PySem.Str), ("is_scheme_upto" : PySem.Str)]
def nmL4 : List PySem.Str := [("told_scheme" : PySem.Str), ("variables_in" : PySem.Str), ("opened" : PySem.Str), ("opened_below" : PySem.Str), ("is_scheme" : PySem.Str), ("is_rule_programs" : PySem.Str), ("full_book" : PySem.Str), ("told_rule" : PySem.Str), ("check_program" : PySem.Str), ("Program" : PySem.Str), ("are_numbers" : PySem.Str), ("ascends" : PySem.Str), ("is_class_form" : PySem.Str), ("are_classes_form" : PySem.Str), ("is_state_form" : PySem.Str), ("EMPTY" : PySem.Str)]
def nmL5 : List PySem.Str := [("NONE" : PySem.Str), ("MAX_DIGITS" : PySem.Str), ("MAX_USES" : PySem.Str), ("number_told" : PySem.Str), ("numbers_told" : PySem.Str), ("state_told" : PySem.Str), ("key_told" : PySem.Str), ("line_told" : PySem.Str), ("is_row_form" : PySem.Str), ("row_told" : PySem.Str), ("check_text" : PySem.Str), ("numbers_text" : PySem.Str), ("state_text" : PySem.Str), ("write_numbers" : PySem.Str), ("read_numbers" : PySem.Str), ("write_state" : PySem.Str)]
def nmL6 : List PySem.Str := [("read_state" : PySem.Str), ("is_key" : PySem.Str), ("write_table" : PySem.Str), ("read_table" : PySem.Str), ("write_rows" : PySem.Str), ("read_rows" : PySem.Str), ("write_program" : PySem.Str), ("read_program" : PySem.Str), ("_law_dice" : PySem.Str), ("_law_roll" : PySem.Str), ("_law_pick" : PySem.Str), ("_law_met" : PySem.Str)]
def nmL : List PySem.Str := nmL0 ++ (nmL1 ++ (nmL2 ++ (nmL3 ++ (nmL4 ++ (nmL5 ++ (nmL6))))))
def nmF0 : List PySem.Str := [("is_integer" : PySem.Str), ("is_index" : PySem.Str), ("is_word" : PySem.Str), ("is_arity" : PySem.Str), ("is_leaf" : PySem.Str), ("are_numbers" : PySem.Str), ("ascends" : PySem.Str), ("is_class_form" : PySem.Str), ("are_classes_form" : PySem.Str), ("is_state_form" : PySem.Str), ("number_told" : PySem.Str), ("numbers_told" : PySem.Str), ("is_row_form" : PySem.Str), ("check_program" : PySem.Str), ("check_text" : PySem.Str), ("numbers_text" : PySem.Str)]
def nmF1 : List PySem.Str := [("write_numbers" : PySem.Str), ("read_numbers" : PySem.Str), ("write_state" : PySem.Str), ("read_state" : PySem.Str), ("is_key" : PySem.Str), ("write_table" : PySem.Str), ("read_table" : PySem.Str), ("write_rows" : PySem.Str), ("read_rows" : PySem.Str), ("write_program" : PySem.Str), ("read_program" : PySem.Str), ("_law_dice" : PySem.Str), ("_law_roll" : PySem.Str), ("_law_pick" : PySem.Str), ("_law_met" : PySem.Str), ("_law_right" : PySem.Str)]
def nmF2 : List PySem.Str := [("law" : PySem.Str)]
def nmF : List PySem.Str := nmF0 ++ (nmF1 ++ (nmF2))
def nmC0 : List PySem.Str := [("InvalidTable" : PySem.Str), ("InvalidRows" : PySem.Str), ("InvalidProgram" : PySem.Str), ("InvalidOperation" : PySem.Str), ("ParseError" : PySem.Str)]
def nmC : List PySem.Str := nmC0
def nmS0 : List PySem.Str := [("Program" : PySem.Str)]
def nmS : List PySem.Str := nmS0
def flX0 (K : PySem.W.Frag) : List Bool := [Fn.hGa K "is_integer", PySem.W.keepIn K (.ref (He.ga K "is_integer")), Fn.hGa K "is_index", PySem.W.keepIn K (.ref (He.ga K "is_index")), Fn.hGa K "is_word", PySem.W.keepIn K (.ref (He.ga K "is_word")), Fn.hGa K "is_arity", PySem.W.keepIn K (.ref (He.ga K "is_arity")), Fn.hGa K "is_leaf", PySem.W.keepIn K (.ref (He.ga K "is_leaf")), Fn.hGa K "are_numbers", PySem.W.keepIn K (.ref (He.ga K "are_numbers")), Fn.hGa K "ascends", PySem.W.keepIn K (.ref (He.ga K "ascends")), Fn.hGa K "is_class_form", PySem.W.keepIn K (.ref (He.ga K "is_class_form"))]
def flX1 (K : PySem.W.Frag) : List Bool := [Fn.hGa K "are_classes_form", PySem.W.keepIn K (.ref (He.ga K "are_classes_form")), Fn.hGa K "is_state_form", PySem.W.keepIn K (.ref (He.ga K "is_state_form")), Fn.hGa K "number_told", PySem.W.keepIn K (.ref (He.ga K "number_told")), Fn.hGa K "numbers_told", PySem.W.keepIn K (.ref (He.ga K "numbers_told")), Fn.hGa K "is_row_form", PySem.W.keepIn K (.ref (He.ga K "is_row_form")), Fn.hGa K "check_program", PySem.W.keepIn K (.ref (He.ga K "check_program")), Fn.hGa K "check_text", PySem.W.keepIn K (.ref (He.ga K "check_text")), Fn.hGa K "numbers_text", PySem.W.keepIn K (.ref (He.ga K "numbers_text"))]
def flX2 (K : PySem.W.Frag) : List Bool := [Fn.hGa K "write_numbers", PySem.W.keepIn K (.ref (He.ga K "write_numbers")), Fn.hGa K "read_numbers", PySem.W.keepIn K (.ref (He.ga K "read_numbers")), Fn.hGa K "write_state", PySem.W.keepIn K (.ref (He.ga K "write_state")), Fn.hGa K "read_state", PySem.W.keepIn K (.ref (He.ga K "read_state")), Fn.hGa K "is_key", PySem.W.keepIn K (.ref (He.ga K "is_key")), Fn.hGa K "write_table", PySem.W.keepIn K (.ref (He.ga K "write_table")), Fn.hGa K "read_table", PySem.W.keepIn K (.ref (He.ga K "read_table")), Fn.hGa K "write_rows", PySem.W.keepIn K (.ref (He.ga K "write_rows"))]
def flX3 (K : PySem.W.Frag) : List Bool := [Fn.hGa K "read_rows", PySem.W.keepIn K (.ref (He.ga K "read_rows")), Fn.hGa K "write_program", PySem.W.keepIn K (.ref (He.ga K "write_program")), Fn.hGa K "read_program", PySem.W.keepIn K (.ref (He.ga K "read_program")), Fn.hGa K "_law_dice", PySem.W.keepIn K (.ref (He.ga K "_law_dice")), Fn.hGa K "_law_roll", PySem.W.keepIn K (.ref (He.ga K "_law_roll")), Fn.hGa K "_law_pick", PySem.W.keepIn K (.ref (He.ga K "_law_pick")), Fn.hGa K "_law_met", PySem.W.keepIn K (.ref (He.ga K "_law_met")), Fn.hGa K "_law_right", PySem.W.keepIn K (.ref (He.ga K "_law_right"))]
def flX4 (K : PySem.W.Frag) : List Bool := [Fn.hGa K "law", PySem.W.keepIn K (.ref (He.ga K "law")), Fn.hGa K "InvalidTable", Fn.hGa K "InvalidRows", Fn.hGa K "InvalidProgram", Fn.hGa K "InvalidOperation", Fn.hGa K "ParseError", Fn.hGa K "Program", PySem.W.excIn K (He.ga K "InvalidTable") tVal "ValueError.__new__", PySem.W.excIn K (He.ga K "InvalidRows") tVal "ValueError.__new__", PySem.W.excIn K (He.ga K "InvalidProgram") tVal "ValueError.__new__", PySem.W.excIn K (He.ga K "InvalidOperation") tVal "ValueError.__new__", Fn.hMa K (He.ga K "ParseError") "__init__", PySem.W.keepIn K (.ref (He.ma K (He.ga K "ParseError") "__init__")), Fn.texB K ⟨(He.ga K "InvalidTable"), (He.ga K "InvalidRows"), (He.ga K "InvalidProgram"), (He.ga K "InvalidOperation"), (He.ga K "ParseError"), (He.ma K (He.ga K "ParseError") "__init__"), (He.ga K "Program")⟩, Fn.htB K "_law_right"]
def flX5 (K : PySem.W.Frag) : List Bool := [Fn.htB K "law", Fn.htNe K "_law_right" "law", Fn.hFree K "len", Fn.hFree K "int", Fn.hFree K "abs", Fn.hFree K "isinstance", Fn.hFree K "bool", Fn.hFree K "all", Fn.hFree K "str", Fn.hFree K "tuple", Fn.hFree K "dict", Fn.hFree K "sorted", Fn.hFree K "list", Fn.hFree K "range", Fn.hFree K "max", Fn.hFree K "min"]
def flX6 (K : PySem.W.Frag) : List Bool := [Fn.hFree K "enumerate", Fn.hFree K "repr", Fn.hInt K "MAX_LETTERS" 8, Fn.hInt K "MAX_ARITY" 3, Fn.hStr K "ANY" "_", Fn.hStr K "LOST" "#", Fn.hStr K "EMPTY" "-", Fn.hStr K "NONE" "none", Fn.hInt K "MAX_DIGITS" 60, Fn.hInt K "MAX_USES" 3]
def flX (K : PySem.W.Frag) : List Bool := flX0 K ++ (flX1 K ++ (flX2 K ++ (flX3 K ++ (flX4 K ++ (flX5 K ++ (flX6 K))))))
def dX0 : Fn.HDef := ⟨fun K => (He.ga K "is_integer"), "is_integer", "is_integer", defArgs (top 16), defBody (top 16), defScope (top 16)⟩
def dX1 : Fn.HDef := ⟨fun K => (He.ga K "is_index"), "is_index", "is_index", defArgs (top 17), defBody (top 17), defScope (top 17)⟩
def dX2 : Fn.HDef := ⟨fun K => (He.ga K "is_word"), "is_word", "is_word", defArgs (top 18), defBody (top 18), defScope (top 18)⟩
def dX3 : Fn.HDef := ⟨fun K => (He.ga K "is_arity"), "is_arity", "is_arity", defArgs (top 19), defBody (top 19), defScope (top 19)⟩
def dX4 : Fn.HDef := ⟨fun K => (He.ga K "is_leaf"), "is_leaf", "is_leaf", defArgs (top 20), defBody (top 20), defScope (top 20)⟩
def dX5 : Fn.HDef := ⟨fun K => (He.ga K "are_numbers"), "are_numbers", "are_numbers", defArgs (top 85), defBody (top 85), defScope (top 85)⟩
def dX6 : Fn.HDef := ⟨fun K => (He.ga K "ascends"), "ascends", "ascends", defArgs (top 86), defBody (top 86), defScope (top 86)⟩
def dX7 : Fn.HDef := ⟨fun K => (He.ga K "is_class_form"), "is_class_form", "is_class_form", defArgs (top 87), defBody (top 87), defScope (top 87)⟩
def dX8 : Fn.HDef := ⟨fun K => (He.ga K "are_classes_form"), "are_classes_form", "are_classes_form", defArgs (top 88), defBody (top 88), defScope (top 88)⟩
def dX9 : Fn.HDef := ⟨fun K => (He.ga K "is_state_form"), "is_state_form", "is_state_form", defArgs (top 89), defBody (top 89), defScope (top 89)⟩
def dX10 : Fn.HDef := ⟨fun K => (He.ga K "number_told"), "number_told", "number_told", defArgs (top 95), defBody (top 95), defScope (top 95)⟩
def dX11 : Fn.HDef := ⟨fun K => (He.ga K "numbers_told"), "numbers_told", "numbers_told", defArgs (top 96), defBody (top 96), defScope (top 96)⟩
def dX12 : Fn.HDef := ⟨fun K => (He.ga K "is_row_form"), "is_row_form", "is_row_form", defArgs (top 100), defBody (top 100), defScope (top 100)⟩
def dX13 : Fn.HDef := ⟨fun K => (He.ga K "check_program"), "check_program", "check_program", defArgs (top 82), defBody (top 82), defScope (top 82)⟩
def dX14 : Fn.HDef := ⟨fun K => (He.ga K "check_text"), "check_text", "check_text", defArgs (top 103), defBody (top 103), defScope (top 103)⟩
def dX15 : Fn.HDef := ⟨fun K => (He.ga K "numbers_text"), "numbers_text", "numbers_text", defArgs (top 104), defBody (top 104), defScope (top 104)⟩
def dX16 : Fn.HDef := ⟨fun K => (He.ga K "write_numbers"), "write_numbers", "write_numbers", defArgs (top 106), defBody (top 106), defScope (top 106)⟩
def dX17 : Fn.HDef := ⟨fun K => (He.ga K "read_numbers"), "read_numbers", "read_numbers", defArgs (top 107), defBody (top 107), defScope (top 107)⟩
def dX18 : Fn.HDef := ⟨fun K => (He.ga K "write_state"), "write_state", "write_state", defArgs (top 108), defBody (top 108), defScope (top 108)⟩
def dX19 : Fn.HDef := ⟨fun K => (He.ga K "read_state"), "read_state", "read_state", defArgs (top 109), defBody (top 109), defScope (top 109)⟩
def dX20 : Fn.HDef := ⟨fun K => (He.ga K "is_key"), "is_key", "is_key", defArgs (top 110), defBody (top 110), defScope (top 110)⟩
def dX21 : Fn.HDef := ⟨fun K => (He.ga K "write_table"), "write_table", "write_table", defArgs (top 111), defBody (top 111), defScope (top 111)⟩
def dX22 : Fn.HDef := ⟨fun K => (He.ga K "read_table"), "read_table", "read_table", defArgs (top 112), defBody (top 112), defScope (top 112)⟩
def dX23 : Fn.HDef := ⟨fun K => (He.ga K "write_rows"), "write_rows", "write_rows", defArgs (top 113), defBody (top 113), defScope (top 113)⟩
def dX24 : Fn.HDef := ⟨fun K => (He.ga K "read_rows"), "read_rows", "read_rows", defArgs (top 114), defBody (top 114), defScope (top 114)⟩
def dX25 : Fn.HDef := ⟨fun K => (He.ga K "write_program"), "write_program", "write_program", defArgs (top 115), defBody (top 115), defScope (top 115)⟩
def dX26 : Fn.HDef := ⟨fun K => (He.ga K "read_program"), "read_program", "read_program", defArgs (top 116), defBody (top 116), defScope (top 116)⟩
def dX27 : Fn.HDef := ⟨fun K => (He.ga K "_law_dice"), "_law_dice", "_law_dice", defArgs (top 118), defBody (top 118), defScope (top 118)⟩
def dX28 : Fn.HDef := ⟨fun K => (He.ga K "_law_roll"), "_law_roll", "_law_roll", defArgs (top 119), defBody (top 119), defScope (top 119)⟩
def dX29 : Fn.HDef := ⟨fun K => (He.ga K "_law_pick"), "_law_pick", "_law_pick", defArgs (top 120), defBody (top 120), defScope (top 120)⟩
def dX30 : Fn.HDef := ⟨fun K => (He.ga K "_law_met"), "_law_met", "_law_met", defArgs (top 121), defBody (top 121), defScope (top 121)⟩
def dX31 : Fn.HDef := ⟨fun K => (He.ga K "_law_right"), "_law_right", "_law_right", defArgs (top 122), defBody (top 122), defScope (top 122)⟩
def dX32 : Fn.HDef := ⟨fun K => (He.ga K "law"), "law", "law", defArgs (top 123), defBody (top 123), defScope (top 123)⟩
def dX33 : Fn.HDef := ⟨fun K => (He.ma K (He.ga K "ParseError") "__init__"), "__init__", "ParseError.__init__", defArgs ((clB (top 34)).getD 0 (.Pass ⟨0, 0, 0, 0⟩)), defBody ((clB (top 34)).getD 0 (.Pass ⟨0, 0, 0, 0⟩)), defScope ((clB (top 34)).getD 0 (.Pass ⟨0, 0, 0, 0⟩))⟩
def fnX0 : List Fn.HDef := [dX0, dX1, dX2, dX3, dX4, dX5, dX6, dX7, dX8, dX9, dX10, dX11, dX12, dX13, dX14, dX15]
def fnX1 : List Fn.HDef := [dX16, dX17, dX18, dX19, dX20, dX21, dX22, dX23, dX24, dX25, dX26, dX27, dX28, dX29, dX30, dX31]
def fnX2 : List Fn.HDef := [dX32, dX33]
def fnX : List Fn.HDef := fnX0 ++ (fnX1 ++ (fnX2))
abbrev hkX : PySem.W.Hook := Fn.hHook 106 nmF nmC nmS flX fnX
def obX (s : PySem.W.SharedT) : Fn.HAl := Fn.hObsG nmF nmC nmS flX fnX (HandSHeadRun.getT s)
theorem obX_eq (s : PySem.W.SharedT) : obX s = hkX.obs s.abs := Fn.hObsG_eq (HandSHeadRun.getT_eq s)
set_option maxHeartbeats 0 in
theorem runF (w : World) : HandSHeadRun.RunEq RX qv hkX obX 20000 nmL (w.withFollow "special-get-raises" false) := by
  intro os
  kernel_rfl
set_option maxHeartbeats 0 in
theorem runT (w : World) : HandSHeadRun.RunEq RX qv hkX obX 20000 nmL (w.withFollow "special-get-raises" true) := by
  intro os
  kernel_rfl
theorem runX (w : World) : HandSHeadRun.RunEq RX qv hkX obX 20000 nmL w := PySem.W.byRow2 "special-get-raises" (P := fun w => HandSHeadRun.RunEq RX qv hkX obX 20000 nmL w) runF runT w
end K72

set_option Elab.async false
set_option maxRecDepth 100000
/-! Rules and promises that all laws share: powers of great numbers, repr of a truth value, the dice. -/
namespace Fn
open PySem PySem.Spec PyProof.Rows L2
section
variable {X : Cx}
def CPowW (i j : Int) : Prop := 0 ≤ j ∧ (Builtin.Int.intBits i : Int) * j ≤ 2 ^ 27
theorem op_powW : OpR X (binaryOp .Pow) (rI CPowW fun i j => .int (i ^ j.toNat)) := opI fun _ _ _ _ _ _ _ hc q => pow_int hc.1 hc.2 q
theorem call_repr_b : CallR X (.builtin "repr") (fun xs H Q => ∃ b, xs = [.bl b] ∧ Q (.str (if b then "True" else "False")) H) := by
  intro pins s σ H xs us Q I r h
  obtain ⟨b, rfl, q⟩ := h
  obtain ⟨u, rfl, r1⟩ := vals1 r
  cases r1
  exact PySem.P.repr_of_bool ⟨.str _, H, I.tok _, ⟨_, rfl⟩, q⟩
end
theorem powOk {i j : Int} (h : (decide (0 ≤ j) && decide ((Builtin.Int.intBits i : Int) * j ≤ 2 ^ 27)) = true) : CPowW i j := by
  rw [Bool.and_eq_true] at h
  exact ⟨of_decide_eq_true h.1, of_decide_eq_true h.2⟩
theorem modc {j : Int} (h : 0 < j) : 0 < j := h
theorem szr {α : Type} {xs : List α} (h : Nat.ble xs.length 100000 = true) : xs.length ≤ sizeLine := Nat.le_trans (Nat.le_of_ble_eq_true h) (by decide)
theorem szl {α : Type} {xs : List α} (h : xs.length ≤ 100000) : xs.length ≤ sizeLine := Nat.le_trans h (by decide)
theorem szlt {n : Nat} (h : n ≤ 100000) : n < sizeLine := Nat.lt_of_le_of_lt h (by decide)
theorem script_at {ns : List Int} {k : Int} (h0 : 0 ≤ k) (h : k < (ns.length : Int)) : ∃ c : Int, atI (ns.map V.int) k = some (.int c) := by
  have hlt : k.toNat < ns.length := by omega
  have ek : ((k.toNat : Nat) : Int) = k := by omega
  have g : atI (ns.map V.int) ((k.toNat : Nat) : Int) = some (.int ns[k.toNat]) := atI_nat (by rw [List.getElem?_map, List.getElem?_eq_getElem hlt] <;> rfl)
  rw [ek] at g
  exact ⟨_, g⟩
/-! ### places in the text: the scope of a comprehension -/
def kidsE : Expr → List Expr
  | .BoolOp _ vs _ => vs
  | .BinOp a _ b _ => [a, b]
  | .UnaryOp _ a _ => [a]
  | .IfExp t a b _ => [t, a, b]
  | .ListComp e gs _ _ => e :: gs.flatMap fun c => c.iter :: c.ifs
  | .Compare l _ cs _ => l :: cs
  | .Call f xs _ _ => f :: xs
  | .Attribute v _ _ => [v]
  | .Subscript a b _ => [a, b]
  | .List es _ => es
  | .Tuple es _ _ => es
  | _ => []
def goE (e : Expr) (path : List Nat) : Expr := path.foldl (fun e i => (kidsE e).getD i e) e
def stE : Stmt → Expr
  | .Return (some e) _ => e
  | .Assign _ e _ => e
  | .AugAssign _ _ e _ => e
  | .For _ e _ _ _ => e
  | .While e _ _ _ => e
  | .If e _ _ _ => e
  | .Expr e _ => e
  | _ => .Name "" ⟨0, 0, 0, 0⟩
def stB : Stmt → List Stmt
  | .For _ _ a b _ => a ++ b
  | .While _ a b _ => a ++ b
  | .If _ a b _ => a ++ b
  | _ => []
def goS (body : List Stmt) (path : List Nat) : Stmt := match path with
  | [] => .Pass ⟨0, 0, 0, 0⟩
  | i :: r => r.foldl (fun s j => (stB s).getD j s) (body.getD i (.Pass ⟨0, 0, 0, 0⟩))
def lcSc : Expr → Scope
  | .ListComp _ _ sc _ => sc
  | _ => { kind := .function, names := [], isGenerator := false, isCoroutine := false }
theorem mulL {i j : Int} (h : -(2 ^ 64) < i ∧ i < 2 ^ 64) : CMul i j := Or.inl h
theorem mulR {i j : Int} (h : -(2 ^ 64) < j ∧ j < 2 ^ 64) : CMul i j := Or.inr h
/-- a def as a callee: its name, its object, how its arguments bind -/
structure Cal (K : PySem.W.Frag) (mg : Str → Option Value) (x : Str) (f : Addr) (fd : FuncData) (ps : List Str) : Prop where
  m : mg x = some (.ref f)
  k : PySem.W.keepIn K (.ref f) = true
  b : Binds K fd ps []
/-- three ints: the dice -/
def dl (x y z : Int) : HO := .lst [.int x, .int y, .int z]
theorem sq_upd {K : PySem.W.Frag} {H : Hp} {p a : Addr} {o : HO} {xs : List V} (h : a ≠ p) (hs : H a = some (.lst xs)) : SqL K (upd H p o) a xs := SqL.of (by rw [upd_ne h]; exact hs)

/-! ### what stays: all but the contents of lists -/
def Ev2 (H H' : Hp) : Prop := ∀ (a : Addr) (o : HO), H a = some o → (∃ xs ys, o = .lst xs ∧ H' a = some (.lst ys)) ∨ H' a = some o
theorem Ev2.refl (H : Hp) : Ev2 H H := fun _ _ h => .inr h
theorem Ev2.trans {H H1 H2 : Hp} (a : Ev2 H H1) (b : Ev2 H1 H2) : Ev2 H H2 := fun x o h => by
  rcases a x o h with ⟨xs, ys, rfl, h1⟩ | h1
  · rcases b x _ h1 with ⟨_, zs, _, h2⟩ | h2
    · exact .inl ⟨_, zs, rfl, h2⟩
    · exact .inl ⟨_, ys, rfl, h2⟩
  · exact b x o h1
theorem Ev2.new {H : Hp} {p : Addr} {o : HO} (h : H p = none) : Ev2 H (upd H p o) := fun a u e => .inr (by
  rw [upd_ne (ne_of_none e h)]
  exact e)
theorem Ev2.lst {H : Hp} {p : Addr} {xs ys : List V} (h : H p = some (.lst xs)) : Ev2 H (upd H p (.lst ys)) := fun a u e => by
  by_cases q : a = p
  · subst q
    rw [h] at e
    exact .inl ⟨xs, ys, (Option.some.inj e).symm, upd_same⟩
  · exact .inr (by rw [upd_ne q]; exact e)
theorem Ev2.tup {H H' : Hp} {a : Addr} {xs : List V} (h : H a = some (.tup xs)) (e : Ev2 H H') : H' a = some (.tup xs) := by
  rcases e a _ h with ⟨_, _, q, _⟩ | q
  · cases q
  · exact q
theorem Ev2.frz {H H' : Hp} {a : Addr} {o : Obj} {u : HO} (h : H a = some (.frz o u)) (e : Ev2 H H') : H' a = some (.frz o u) := by
  rcases e a _ h with ⟨_, _, q, _⟩ | q
  · cases q
  · exact q
theorem Ev2.dK {H H' : Hp} {a : Addr} {kvs : List (Key × V)} (h : H a = some (.dK kvs)) (e : Ev2 H H') : H' a = some (.dK kvs) := by
  rcases e a _ h with ⟨_, _, q, _⟩ | q
  · cases q
  · exact q
theorem Ev2.isL {H H' : Hp} {a : Addr} {xs : List V} (h : H a = some (.lst xs)) (e : Ev2 H H') : ∃ ys, H' a = some (.lst ys) := by
  rcases e a _ h with ⟨_, ys, _, q⟩ | q
  · exact ⟨ys, q⟩
  · exact ⟨xs, q⟩
theorem Ev2.some {H H' : Hp} {a : Addr} {o : HO} (h : H a = some o) (e : Ev2 H H') : ∃ u, H' a = some u := by
  rcases e a _ h with ⟨_, ys, _, q⟩ | q
  · exact ⟨_, q⟩
  · exact ⟨_, q⟩
theorem Ev2.fresh {H H' : Hp} {a : Addr} (e : Ev2 H H') (h : H' a = none) : H a = none := by
  cases q : H a with
  | none => rfl
  | some o =>
    obtain ⟨u, z⟩ := Ev2.some q e
    rw [z] at h
    cases h
theorem ne_new {H H' : Hp} {a p : Addr} {o : HO} (h : H a = some o) (e : Ev2 H H') (hp : H' p = none) : a ≠ p := ne_of_none h (e.fresh hp)
/-- a new object: the heap behind is named -/
theorem made {H H1 : Hp} {p : Addr} {o : HO} (n : H p = none) (g : upd H p o = H1) : Ev2 H H1 ∧ (∀ b, b ≠ p → H1 b = H b) ∧ H1 p = some o := by
  subst g
  exact ⟨Ev2.new n, fun _ hb => upd_ne hb, upd_same⟩
/-- the script, in a heap that knows nothing else -/
def Scr (K : PySem.W.Frag) (H : Hp) (a : Addr) (xs : List V) : Prop := SqL K H a xs ∧ ∀ H', Ev2 H H' → SqL K H' a xs
theorem scr_of {K : PySem.W.Frag} {H : Hp} {a : Addr} {xs : List V} (hO : Only H) (h : SqL K H a xs) : Scr K H a xs := by
  refine ⟨h, fun H' e => ?_⟩
  rcases h with (h | ⟨o, h⟩) | h
  · rcases hO a with q | ⟨o, ys, q⟩
    · rw [q] at h
      cases h
    · rw [q] at h
      cases h
  · exact .inl (.inr ⟨o, Ev2.frz h e⟩)
  · exact .inr h
theorem Scr.mono {K : PySem.W.Frag} {H H' : Hp} {a : Addr} {xs : List V} (h : Scr K H a xs) (e : Ev2 H H') : Scr K H' a xs := ⟨h.2 _ e, fun _ e2 => h.2 _ (e.trans e2)⟩
/-- kinds of values that are looked at by isinstance -/
def Ty (K : PySem.W.Frag) (H : Hp) (v : V) (n : String) : Prop := match v with
  | .non => n = "NoneType" | .bl _ => n = "bool" | .int _ => n = "int" | .str _ => n = "str"
  | .ref a => (n = "list" ∧ ∃ xs, H a = some (.lst xs)) ∨ (n = "tuple" ∧ ∃ xs, H a = some (.tup xs)) ∨ (n = "dict" ∧ ∃ kvs, H a = some (.dK kvs))
  | _ => False
theorem Ty.x {K : PySem.W.Frag} {H : Hp} {v : V} {n : String} (h : Ty K H v n) : TyX K H v (.type n) := by
  cases v with
  | non => cases (show n = "NoneType" from h); exact .base .non
  | bl b => cases (show n = "bool" from h); exact .base (.bl b)
  | int i => cases (show n = "int" from h); exact .base (.int i)
  | str x => cases (show n = "str" from h); exact .base (.str x)
  | byt b => exact h.elim
  | flt b => exact h.elim
  | ty b => exact h.elim
  | ref a =>
    rcases h with ⟨rfl, xs, e⟩ | ⟨rfl, xs, e⟩ | ⟨rfl, xs, e⟩
    · exact .base (.lst e)
    · exact .base (.tup e)
    · exact .base (.dK e)
theorem Ty.mono {K : PySem.W.Frag} {H H' : Hp} {v : V} {n : String} (h : Ty K H v n) (e : Ev2 H H') : Ty K H' v n := by
  cases v with
  | ref a =>
    rcases h with ⟨rfl, xs, q⟩ | ⟨rfl, xs, q⟩ | ⟨rfl, xs, q⟩
    · exact .inl ⟨rfl, Ev2.isL q e⟩
    · exact .inr (.inl ⟨rfl, xs, Ev2.tup q e⟩)
    · exact .inr (.inr ⟨rfl, xs, Ev2.dK q e⟩)
  | non => exact h
  | bl b => exact h
  | int i => exact h
  | str x => exact h
  | byt b => exact h
  | flt b => exact h
  | ty b => exact h
/-- the dice stand at p -/
def Dc (H : Hp) (p : Addr) : Prop := ∃ x y z : Int, H p = some (dl x y z)
/-- only what stands at p is another -/
def Only1 (H H' : Hp) (p : Addr) : Prop := ∀ b, b ≠ p → H' b = H b
theorem keepAt {H H1 : Hp} {a p : Addr} {o : HO} (t : H a = some o) (n : H p = none) (k : ∀ b, b ≠ p → H1 b = H b) : H1 a = some o := (k a (ne_of_none t n)).trans t
theorem sameOf {H H1 : Hp} {p : Addr} (n : H p = none) (k : ∀ b, b ≠ p → H1 b = H b) : Same H H1 := fun _ _ e => keepAt e n k
theorem Ev2.same {H H1 : Hp} (s : Same H H1) : Ev2 H H1 := fun a o e => .inr (s a o e)
theorem Dc.keep {H H1 : Hp} {a p : Addr} (t : Dc H a) (n : H p = none) (k : ∀ b, b ≠ p → H1 b = H b) : Dc H1 a := by
  obtain ⟨x, y, z, t⟩ := t
  exact ⟨x, y, z, keepAt t n k⟩
theorem Dc.ne {H : Hp} {a p : Addr} (t : Dc H a) (n : H p = none) : a ≠ p := by
  obtain ⟨x, y, z, t⟩ := t
  exact ne_of_none t n
/-- all but what stands at p is the same -/
def But (p : Addr) (H H' : Hp) : Prop := ∀ a o, a ≠ p → H a = some o → H' a = some o
theorem But.refl (p : Addr) (H : Hp) : But p H H := fun _ _ _ h => h
theorem But.trans {p : Addr} {H H1 H2 : Hp} (x : But p H H1) (y : But p H1 H2) : But p H H2 := fun a o n h => y a o n (x a o n h)
theorem But.of1 {p : Addr} {H H' : Hp} (k : Only1 H H' p) : But p H H' := fun a o n h => (k a n).trans h
theorem But.ofS {p : Addr} {H H' : Hp} (k : Same H H') : But p H H' := fun a o _ h => k a o h
theorem But.ev {p : Addr} {H H' : Hp} (k : But p H H') (d : Dc H p) (d' : Dc H' p) : Ev2 H H' := fun a o h => by
  by_cases e : a = p
  · subst e
    obtain ⟨x, y, z, h1⟩ := d
    obtain ⟨x', y', z', h2⟩ := d'
    rw [h1] at h
    exact .inl ⟨_, _, (Option.some.inj h).symm, h2⟩
  · exact .inr (k a o e h)
theorem But.at {p : Addr} {H H' : Hp} {a : Addr} {o : HO} (h : H a = some o) (n : a ≠ p) (k : But p H H') : H' a = some o := k a o n h
theorem Dc.same {H H' : Hp} {p : Addr} (d : Dc H p) (s : Same H H') : Dc H' p := by
  obtain ⟨x, y, z, h⟩ := d
  exact ⟨x, y, z, s _ _ h⟩
theorem Dc.neOf {H : Hp} {a p : Addr} {xs : List V} (d : Dc H p) (h : H a = some (.lst xs)) (n : ∀ x y z : Int, xs ≠ [.int x, .int y, .int z]) : a ≠ p := by
  rintro rfl
  obtain ⟨x, y, z, h1⟩ := d
  rw [h1] at h
  exact n x y z (HO.lst.inj (Option.some.inj h)).symm
def spDice (K : PySem.W.Frag) : Sp := fun vs H Q _ => ∃ (a : Addr) (ns : List Int) (k : Int), vs = [.ref a, .int k] ∧ SqL K H a (ns.map V.int) ∧ ns.length ≤ 1000 ∧ 0 ≤ k ∧ k < 1000 ∧
  ∀ (p : Addr) (H' : Hp), H p = none → Ev2 H H' → Only1 H H' p → Dc H' p → Q (.ref p) H'
def spRoll : Sp := fun vs H Q _ => ∃ (p : Addr) (n : Int), vs = [.ref p, .int n] ∧ Dc H p ∧ 0 < n ∧ n < 1000000 ∧
  ∀ (r : Int) (H' : Hp), 0 ≤ r → r < n → Ev2 H H' → Only1 H H' p → Dc H' p → Q (.int r) H'
def spPick (K : PySem.W.Frag) : Sp := fun vs H Q _ => ∃ (p a : Addr) (xs : List V), vs = [.ref p, .ref a] ∧ Dc H p ∧ SqL K H a xs ∧ (∀ H', Ev2 H H' → Only1 H H' p → SqL K H' a xs) ∧ 0 < xs.length ∧ xs.length < 1000000 ∧
  ∀ (i : Nat) (v : V) (H' : Hp), xs[i]? = some v → Ev2 H H' → Only1 H H' p → Dc H' p → Q v H'
theorem perm_erase {α : Type} : ∀ {zs : List α} {i : Nat} (h : i < zs.length), ([zs[i]] ++ zs.eraseIdx i).Perm zs
  | z :: zs, 0, _ => List.Perm.refl _
  | z :: zs, i + 1, h => by
    have h' : i < zs.length := by simpa using h
    have ih := perm_erase h'
    exact (List.Perm.swap z (zs[i]'h') _).trans (List.Perm.cons z ih)
/-- some of a list, taken without putting back -/
def spSome (K : PySem.W.Frag) : Sp := fun vs H Q _ => ∃ (p a : Addr) (xs : List V) (n : Int), vs = [.ref p, .ref a, .int n] ∧ Dc H p ∧ H a = some (.lst xs) ∧ 0 ≤ n ∧ n ≤ 1000 ∧ xs.length ≤ 1000 ∧
  ∀ (l : Addr) (ys zs : List V) (H' : Hp), But p H H' → Dc H' p → H l = none → l ≠ p → H' l = some (.lst ys) → (ys ++ zs).Perm xs → (ys.length : Int) = (if (xs.length : Int) < n then (xs.length : Int) else n) → Q (.ref l) H'
theorem Dc.set {H : Hp} {p : Addr} (h : Dc H p) (x y z : Int) : Ev2 H (upd H p (dl x y z)) ∧ Only1 H (upd H p (dl x y z)) p ∧ Dc (upd H p (dl x y z)) p := by
  obtain ⟨x0, y0, z0, h⟩ := h
  exact ⟨Ev2.lst h, fun _ hb => upd_ne hb, x, y, z, upd_same⟩
/-- the list that is picked from is not the dice -/
theorem pick_l {K : PySem.W.Frag} {H : Hp} {a p : Addr} {xs : List V} (h : H a = some (.lst xs)) (d : a ≠ p) : SqL K H a xs ∧ ∀ H', Ev2 H H' → Only1 H H' p → SqL K H' a xs :=
  ⟨SqL.of h, fun H' _ k => SqL.of ((k a d).trans h)⟩
def spLaw (K : PySem.W.Frag) : Sp := fun vs H Q _ => ∃ (a : Addr) (ns : List Int), vs = [.ref a] ∧ Scr K H a (ns.map V.int) ∧ ns.length ≤ 63 ∧ ∀ H', Q (.bl true) H'
/-- the number of turns of a law: between 1 and 8 -/
theorem turns {n : Nat} : 0 ≤ (if (if (n : Int) < 8 then (n : Int) else 8) > 1 then (if (n : Int) < 8 then (n : Int) else 8) else 1) ∧ (if (if (n : Int) < 8 then (n : Int) else 8) > 1 then (if (n : Int) < 8 then (n : Int) else 8) else 1) ≤ 8 := by
  split <;> split <;> omega
end Fn

set_option Elab.async false
set_option maxRecDepth 100000
/-! Data at an address: values that are told as PyData; what is in a list or tuple of data. -/
namespace Fn
open PySem PySem.Spec PyProof.Rows L2
mutual
inductive Dx (H : Hp) : V → PyData → Prop
  | non : Dx H .non .none
  | bl (b : Bool) : Dx H (.bl b) (.bool b)
  | int (i : Int) : Dx H (.int i) (.int i)
  | str (x : Str) : Dx H (.str x) (.str x)
  | lst {a : Addr} {xs : List V} {ds : List PyData} : H a = some (.lst xs) → DxAll H xs ds → Dx H (.ref a) (.list ds)
  | tup {a : Addr} {xs : List V} {ds : List PyData} : H a = some (.tup xs) → DxAll H xs ds → Dx H (.ref a) (.tuple ds)
  | dct {a : Addr} : H a = some (.dK []) → Dx H (.ref a) (.dict [])
inductive DxAll (H : Hp) : List V → List PyData → Prop
  | nil : DxAll H [] []
  | cons {v : V} {vs : List V} {d : PyData} {ds : List PyData} : Dx H v d → DxAll H vs ds → DxAll H (v :: vs) (d :: ds)
end
theorem DxAll.len {H : Hp} : ∀ {ds : List PyData} {vs : List V}, DxAll H vs ds → vs.length = ds.length
  | [], _, h => by cases h; rfl
  | d :: ds, _, h => by
    cases h with
    | cons h1 h2 =>
      show _ + 1 = _ + 1
      rw [DxAll.len h2]
theorem DxAll.get {H : Hp} : ∀ {ds : List PyData} {vs : List V} {i : Nat} {v : V}, DxAll H vs ds → vs[i]? = some v → ∃ d, ds[i]? = some d ∧ Dx H v d
  | [], _, i, v, h, e => by cases h; simp at e
  | d :: ds, _, 0, v, h, e => by
    cases h with
    | cons h1 h2 =>
      cases (show some _ = some v from e)
      exact ⟨d, rfl, h1⟩
  | d :: ds, _, i + 1, v, h, e => by
    cases h with
    | cons h1 h2 => exact DxAll.get (i := i) h2 (by simpa using e)
mutual
def dictfree : PyData → Bool
  | .list xs => dictfreeAll xs
  | .tuple xs => dictfreeAll xs
  | .dict _ => false
  | _ => true
def dictfreeAll : List PyData → Bool
  | [] => true
  | d :: ds => dictfree d && dictfreeAll ds
end
mutual
def listfree : PyData → Bool
  | .list _ => false
  | .tuple xs => listfreeAll xs
  | _ => true
def listfreeAll : List PyData → Bool
  | [] => true
  | d :: ds => listfree d && listfreeAll ds
end
mutual
theorem Dx.dp {K : PySem.W.Frag} {H : Hp} : ∀ {d : PyData} {v : V}, Dx H v d → dictfree d = true → Dp K H v d
  | .none, _, h, _ => by cases h; exact .non
  | .bool b, _, h, _ => by cases h; exact .bl b
  | .int i, _, h, _ => by cases h; exact .int i
  | .str x, _, h, _ => by cases h; exact .str x
  | .list ds, _, h, f => by
    cases h with
    | lst h1 h2 => exact .lst (SqL.of h1) (DxAll.dp h2 (by simpa only [dictfree] using f))
  | .tuple ds, _, h, f => by
    cases h with
    | tup h1 h2 => exact .tup (SqT.of h1) (DxAll.dp h2 (by simpa only [dictfree] using f))
  | .dict kvs, _, h, f => by
    simp only [dictfree] at f
    cases f
theorem DxAll.dp {K : PySem.W.Frag} {H : Hp} : ∀ {ds : List PyData} {vs : List V}, DxAll H vs ds → dictfreeAll ds = true → DpAll K H vs ds
  | [], _, h, _ => by cases h; exact .nil
  | d :: ds, _, h, f => by
    simp only [dictfreeAll, Bool.and_eq_true] at f
    cases h with
    | cons h1 h2 => exact .cons (Dx.dp h1 f.1) (DxAll.dp h2 f.2)
end
mutual
theorem Dx.mono {H H' : Hp} (e : Ev2 H H') : ∀ {d : PyData} {v : V}, Dx H v d → listfree d = true → Dx H' v d
  | .none, _, h, _ => by cases h; exact .non
  | .bool b, _, h, _ => by cases h; exact .bl b
  | .int i, _, h, _ => by cases h; exact .int i
  | .str x, _, h, _ => by cases h; exact .str x
  | .list ds, _, h, f => by
    simp only [listfree] at f
    cases f
  | .tuple ds, _, h, f => by
    cases h with
    | tup h1 h2 => exact .tup (Ev2.tup h1 e) (DxAll.mono e h2 (by simpa only [listfree] using f))
  | .dict kvs, _, h, f => by
    cases h with
    | dct h1 => exact .dct (Ev2.dK h1 e)
theorem DxAll.mono {H H' : Hp} (e : Ev2 H H') : ∀ {ds : List PyData} {vs : List V}, DxAll H vs ds → listfreeAll ds = true → DxAll H' vs ds
  | [], _, h, _ => by cases h; exact .nil
  | d :: ds, _, h, f => by
    simp only [listfreeAll, Bool.and_eq_true] at f
    cases h with
    | cons h1 h2 => exact .cons (Dx.mono e h1 f.1) (DxAll.mono e h2 f.2)
end
mutual
theorem Dx.same {H H' : Hp} (e : Same H H') : ∀ {d : PyData} {v : V}, Dx H v d → Dx H' v d
  | .none, _, h => by cases h; exact .non
  | .bool b, _, h => by cases h; exact .bl b
  | .int i, _, h => by cases h; exact .int i
  | .str x, _, h => by cases h; exact .str x
  | .list ds, _, h => by
    cases h with
    | lst h1 h2 => exact .lst (e _ _ h1) (DxAll.same e h2)
  | .tuple ds, _, h => by
    cases h with
    | tup h1 h2 => exact .tup (e _ _ h1) (DxAll.same e h2)
  | .dict kvs, _, h => by
    cases h with
    | dct h1 => exact .dct (e _ _ h1)
theorem DxAll.same {H H' : Hp} (e : Same H H') : ∀ {ds : List PyData} {vs : List V}, DxAll H vs ds → DxAll H' vs ds
  | [], _, h => by cases h; exact .nil
  | d :: ds, _, h => by
    cases h with
    | cons h1 h2 => exact .cons (Dx.same e h1) (DxAll.same e h2)
end
def three : List PyData → Bool
  | [.int _, .int _, .int _] => true
  | _ => false
mutual
/-- no list of three ints is within: so no list that is told is the dice -/
def nodice : PyData → Bool
  | .list ds => !three ds && nodiceAll ds
  | .tuple ds => nodiceAll ds
  | _ => true
def nodiceAll : List PyData → Bool
  | [] => true
  | d :: ds => nodice d && nodiceAll ds
end
theorem nodice_list {ds : List PyData} (h : nodice (.list ds) = true) : nodiceAll ds = true ∧ ∀ x y z, ds ≠ [.int x, .int y, .int z] := by
  simp only [nodice, Bool.and_eq_true] at h
  refine ⟨h.2, fun x y z e => ?_⟩
  subst e
  exact Bool.noConfusion h.1
mutual
theorem Dx.but {H H' : Hp} {p : Addr} (hd : Dc H p) (o : But p H H') : ∀ {d : PyData} {v : V}, Dx H v d → nodice d = true → Dx H' v d
  | .none, _, h, _ => by cases h; exact .non
  | .bool b, _, h, _ => by cases h; exact .bl b
  | .int i, _, h, _ => by cases h; exact .int i
  | .str x, _, h, _ => by cases h; exact .str x
  | .list ds, _, h, f => by
    obtain ⟨f1, f2⟩ := nodice_list f
    cases h with
    | @lst a xs _ h1 h2 =>
      have hne : a ≠ p := by
        rintro rfl
        obtain ⟨x, y, z, hp⟩ := hd
        rw [hp] at h1
        cases (HO.lst.inj (Option.some.inj h1))
        cases h2 with
        | cons q1 h2 =>
          cases h2 with
          | cons q2 h2 =>
            cases h2 with
            | cons q3 h2 =>
              cases h2
              cases q1
              cases q2
              cases q3
              exact f2 _ _ _ rfl
      exact .lst (o _ _ hne h1) (DxAll.but hd o h2 f1)
  | .tuple ds, _, h, f => by
    cases h with
    | @tup a xs _ h1 h2 =>
      have hne : a ≠ p := by
        rintro rfl
        obtain ⟨x, y, z, hp⟩ := hd
        rw [hp] at h1
        cases h1
      exact .tup (o _ _ hne h1) (DxAll.but hd o h2 (by simpa only [nodice] using f))
  | .dict kvs, _, h, f => by
    cases h with
    | @dct a h1 =>
      have hne : a ≠ p := by
        rintro rfl
        obtain ⟨x, y, z, hp⟩ := hd
        rw [hp] at h1
        cases h1
      exact .dct (o _ _ hne h1)
theorem DxAll.but {H H' : Hp} {p : Addr} (hd : Dc H p) (o : But p H H') : ∀ {ds : List PyData} {vs : List V}, DxAll H vs ds → nodiceAll ds = true → DxAll H' vs ds
  | [], _, h, _ => by cases h; exact .nil
  | d :: ds, _, h, f => by
    simp only [nodiceAll, Bool.and_eq_true] at f
    cases h with
    | cons h1 h2 => exact .cons (Dx.but hd o h1 f.1) (DxAll.but hd o h2 f.2)
end
theorem Dx.only {H H' : Hp} {p : Addr} (hd : Dc H p) (o : Only1 H H' p) {d : PyData} {v : V} (h : Dx H v d) (f : nodice d = true) : Dx H' v d := Dx.but hd (But.of1 o) h f
theorem DxAll.only {H H' : Hp} {p : Addr} (hd : Dc H p) (o : Only1 H H' p) {ds : List PyData} {vs : List V} (h : DxAll H vs ds) (f : nodiceAll ds = true) : DxAll H' vs ds := DxAll.but hd (But.of1 o) h f
theorem nodiceAll_get : ∀ {ds : List PyData} {i : Nat} {d : PyData}, nodiceAll ds = true → ds[i]? = some d → nodice d = true
  | [], _, _, _, e => by simp at e
  | d :: ds, 0, _, h, e => by
    simp only [nodiceAll, Bool.and_eq_true] at h
    cases (show some d = some _ from e)
    exact h.1
  | d :: ds, i + 1, _, h, e => by
    simp only [nodiceAll, Bool.and_eq_true] at h
    exact nodiceAll_get (i := i) h.2 (by simpa using e)
theorem pick_dx {H G : Hp} {p : Addr} {xs : List V} {ds : List PyData} {i : Nat} {v : V} (hx : DxAll H xs ds) (hv : xs[i]? = some v) (hd : Dc H p) (o : Only1 H G p) (hn : nodiceAll ds = true) : ∃ d, ds[i]? = some d ∧ Dx G v d := by
  obtain ⟨d, h1, h2⟩ := hx.get hv
  exact ⟨d, h1, Dx.only hd o h2 (nodiceAll_get hn h1)⟩
theorem Same.at {H H' : Hp} {a : Addr} {o : HO} (h : H a = some o) (e : Same H H') : H' a = some o := e _ _ h
/-- the name of the type of data -/
def tyN : PyData → String
  | .none => "NoneType" | .bool _ => "bool" | .int _ => "int" | .str _ => "str" | .list _ => "list" | .tuple _ => "tuple" | .dict _ => "dict"
theorem Dx.ty {K : PySem.W.Frag} {H : Hp} {v : V} {d : PyData} (h : Dx H v d) : TyX K H v (.type (tyN d)) := by
  cases h with
  | non => exact .base .non
  | bl b => exact .base (.bl b)
  | int i => exact .base (.int i)
  | str x => exact .base (.str x)
  | lst h1 h2 => exact .base (.lst h1)
  | tup h1 h2 => exact .base (.tup h1)
  | dct h1 => exact .base (.dK h1)
theorem tyN_mem (d : PyData) : tyN d ∈ tyNs := by cases d <;> (simp only [tyN]; decide)
theorem kit_all : ∀ n ∈ tyNs, kitB n "int" = some (n == "int" || n == "bool") ∧ kitB n "bool" = some (n == "bool") ∧ kitB n "str" = some (n == "str") ∧ kitB n "tuple" = some (n == "tuple") ∧ kitB n "list" = some (n == "list") ∧ kitB n "dict" = some (n == "dict") := by decide +kernel
section
variable {K : PySem.W.Frag} (d : PyData)
theorem kit_int : PySem.W.kitOne K (.type (tyN d)) (.type "int") = some (tyN d == "int" || tyN d == "bool") := kit_ty (kit_all _ (tyN_mem d)).1
theorem kit_bool : PySem.W.kitOne K (.type (tyN d)) (.type "bool") = some (tyN d == "bool") := kit_ty (kit_all _ (tyN_mem d)).2.1
theorem kit_str : PySem.W.kitOne K (.type (tyN d)) (.type "str") = some (tyN d == "str") := kit_ty (kit_all _ (tyN_mem d)).2.2.1
theorem kit_tuple : PySem.W.kitOne K (.type (tyN d)) (.type "tuple") = some (tyN d == "tuple") := kit_ty (kit_all _ (tyN_mem d)).2.2.2.1
theorem kit_list : PySem.W.kitOne K (.type (tyN d)) (.type "list") = some (tyN d == "list") := kit_ty (kit_all _ (tyN_mem d)).2.2.2.2.1
theorem kit_dict : PySem.W.kitOne K (.type (tyN d)) (.type "dict") = some (tyN d == "dict") := kit_ty (kit_all _ (tyN_mem d)).2.2.2.2.2
end
/-- x in a list or a tuple of data -/
def rInX (K : PySem.W.Frag) (neg : Bool) : R2 := fun x y H Q => ∃ d c ds, Dp K H x d ∧ Dp K H y c ∧ (c = .list ds ∨ c = .tuple ds) ∧ SeqAt.shaped d = true ∧ SeqAt.shaped c = true ∧ Q (.bl (if neg then !(ds.any fun z => PyData.eqv z d) else ds.any fun z => PyData.eqv z d)) H
section
variable {X : Cx}
theorem op_inX (hu : X.A.units + 65 < cLine) : OpR X (compareOp .In) (rInX X.K false) := by
  intro pins s σ H x y v u Q I rx ry h
  obtain ⟨d, c, ds, hd, he, hc, sd, se, q⟩ := h
  obtain ⟨as, r1⟩ := Dp.reads I d x v hd rx
  obtain ⟨bs, r2⟩ := Dp.reads I c y u he ry
  rcases hc with rfl | rfl
  · exact SeqAt.in_list_reads r2 r1 (SeqAt.canLay_of_shaped se) (SeqAt.canLay_of_shaped sd) (room_in_shaped sd hu) ⟨.bl _, H, I, rfl, q⟩
  · exact SeqAt.in_tuple_reads r2 r1 (SeqAt.canLay_of_shaped se) (SeqAt.canLay_of_shaped sd) (room_in_shaped sd hu) ⟨.bl _, H, I, rfl, q⟩
theorem op_notInX (hu : X.A.units + 65 < cLine) : OpR X (compareOp .NotIn) (rInX X.K true) := by
  intro pins s σ H x y v u Q I rx ry h
  obtain ⟨d, c, ds, hd, he, hc, sd, se, q⟩ := h
  obtain ⟨as, r1⟩ := Dp.reads I d x v hd rx
  obtain ⟨bs, r2⟩ := Dp.reads I c y u he ry
  rcases hc with rfl | rfl
  · exact SeqAt.notIn_list_reads r2 r1 (SeqAt.canLay_of_shaped se) (SeqAt.canLay_of_shaped sd) (room_in_shaped sd hu) ⟨.bl _, H, I, rfl, q⟩
  · exact SeqAt.notIn_tuple_reads r2 r1 (SeqAt.canLay_of_shaped se) (SeqAt.canLay_of_shaped sd) (room_in_shaped sd hu) ⟨.bl _, H, I, rfl, q⟩
end
theorem hu65 {A : Around} {k : Nat} (hr : Room k A) : A.units + 65 < cLine := by
  have := hr.un
  omega
/-! ### rules whose readings name the written part: with a letter of its own for it (within comprehensions) -/
def rLenK (K : PySem.W.Frag) : List V → Hp → VK → Prop := fun xs H Q => ∃ p ys, xs = [.ref p] ∧ (SqL K H p ys ∨ SqT K H p ys) ∧ Q (.int ys.length) H
def rListK (K : PySem.W.Frag) : List V → Hp → VK → Prop := fun xs H Q => ∃ p ys, xs = [.ref p] ∧ (SqL K H p ys ∨ SqT K H p ys) ∧ ∀ l, H l = none → Q (.ref l) (upd H l (.lst ys))
section
variable {X : Cx}
theorem call_len_k {K : PySem.W.Frag} (hK : X.K = K := by rfl) : CallR X (.builtin "len") (rLenK K) := by subst hK; exact call_len_seq
theorem call_list_k {K : PySem.W.Frag} (hK : X.K = K := by rfl) : CallR X (.type "list") (rListK K) := by subst hK; exact call_list_of
theorem call_isi_k {K : PySem.W.Frag} (hK : X.K = K := by rfl) : CallR X (.builtin "isinstance") (rIsi K) := by subst hK; exact call_isi
theorem cr_all_k {K : PySem.W.Frag} (hc : X.calm = true) (hK : X.K = K := by rfl) : CallR X (.builtin "all") (rAll K) := by subst hK; exact cr_all hc
theorem cr_any_k {K : PySem.W.Frag} (hc : X.calm = true) (hK : X.K = K := by rfl) : CallR X (.builtin "any") (rAny K) := by subst hK; exact cr_any hc
theorem ix_list_k {K : PySem.W.Frag} (hK : X.K = K := by rfl) : IxR X (rIxL K) := by subst hK; exact ix_list
theorem ix_tup_k {K : PySem.W.Frag} (hK : X.K = K := by rfl) : IxR X (rIxT K) := by subst hK; exact ix_tup
theorem sl_list_k {K : PySem.W.Frag} (hK : X.K = K := by rfl) : SlR X (rSlL K) := by subst hK; exact sl_list
theorem sl_tup_k {K : PySem.W.Frag} (hK : X.K = K := by rfl) : SlR X (rSlT K) := by subst hK; exact sl_tup
theorem op_inX_k {K : PySem.W.Frag} (hu : X.A.units + 65 < cLine) (hK : X.K = K := by rfl) : OpR X (compareOp .In) (rInX K false) := by subst hK; exact op_inX hu
theorem op_notInX_k {K : PySem.W.Frag} (hu : X.A.units + 65 < cLine) (hK : X.K = K := by rfl) : OpR X (compareOp .NotIn) (rInX K true) := by subst hK; exact op_notInX hu
theorem op_eqD_k {K : PySem.W.Frag} (hu : X.A.units + 64 < cLine) (hK : X.K = K := by rfl) : OpR X (compareOp .Eq) (rEqD K) := by subst hK; exact op_eqD hu
theorem op_neD_k {K : PySem.W.Frag} (hu : X.A.units + 64 < cLine) (hK : X.K = K := by rfl) : OpR X (compareOp .NotEq) (rNeD K) := by subst hK; exact op_neD hu
theorem pi_list_k {tg l : Expr} {tl : TE} {K : PySem.W.Frag} (hl : PE X l tl) (hK : X.K = K := by rfl) : PI X tg l (iList K tl) := by subst hK; exact pi_list hl
theorem pi_tup_k {tg l : Expr} {tl : TE} {K : PySem.W.Frag} (hl : PE X l tl) (hK : X.K = K := by rfl) : PI X tg l (iTup K tl) := by subst hK; exact pi_tup hl
variable {o e : Expr} {es : List Expr} {to : TE} {t : TA} {name : Str} {apos cpos : Pos} {T id : String} {r : V → List V → Hp → VK → Prop}
theorem pe_bm_k {K : PySem.W.Frag} (pa : PlainAttrs T) (slot : Slot T name id) (hty : typeOf (.builtin id) = pure (.type "method_descriptor")) (hm : MtR X id r) (ho : PE X o to) (ha : PA X (e :: es) t)
    (hbase : attributeBase o name X.env (eval o X.env) = eval o X.env := by rfl)
    (hfew : ((backTo cpos (starEach (e :: es) X.env)).all (fun x => !x.1) && (backToKw cpos (keywordEach [] X.env)).all (fun x => x.1.isSome)
      && decide ((e :: es).length + ([] : List Keyword).length + (if ([] : List Keyword).isEmpty then 0 else 1) < 30)) = true := by rfl)
    (hline : (apos.endLine == cpos.line) = true := by rfl) (hs : starEach (e :: es) X.env = (false, eval e X.env) :: starEach es X.env := by rfl) (hplain : (backTo cpos (starEach es X.env)).any (·.1) = false := by rfl) (hK : X.K = K := by rfl) :
    PE X (.Call (.Attribute o name apos) (e :: es) [] cpos) (tBM K T r to t) := by
  subst hK
  exact pe_bm pa slot hty hm ho ha hbase hfew hline hs hplain
def tJoin (K : PySem.W.Frag) (to te : TE) : TE := tM1 (fun x xs H Q => ∃ a p, ∃ ys : List Str, x = .str a ∧ xs = [.ref p] ∧ (SqL K H p (ys.map V.str) ∨ SqT K H p (ys.map V.str)) ∧
      (ys.map (·.length)).sum + ys.length * a.length ≤ 16777216 ∧ Q (.str (Txt.join a ys)) H) to te
theorem pe_join_k {te : TE} {K : PySem.W.Frag} (ho : PE X o to) (he : PE X e te) (hs : starEach [e] X.env = [(false, eval e X.env)] := by rfl) (hbase : attributeBase o "join" X.env (eval o X.env) = eval o X.env := by rfl) (hline : (apos.endLine == cpos.line) = true := by rfl) (hK : X.K = K := by rfl) :
    PE X (.Call (.Attribute o "join" apos) [e] [] cpos) (tJoin K to te) := by
  subst hK
  exact pe_join ho he hs hbase hline
end
/-! ### list(text) -/
def signV (z : Str) : List V := z.cps.toList.map fun c => V.str ⟨#[c]⟩
theorem paired_get {α β : Type} {R : α → β → Prop} : ∀ {xs : List α} {us : List β}, xs.length = us.length → (∀ (j : Nat) (x : α) (u : β), xs[j]? = some x → us[j]? = some u → R x u) → Paired R xs us
  | [], [], _, _ => .nil
  | [], _ :: _, h, _ => by cases h
  | _ :: _, [], h, _ => by cases h
  | x :: xs, u :: us, h, k => .cons (k 0 x u rfl rfl) (paired_get (by simpa using h) fun j y v h1 h2 => k (j + 1) y v (by simpa using h1) (by simpa using h2))
theorem call_listS {X : Cx} (hcalm : X.calm = true) : CallR X (.type "list") (fun xs H Q => ∃ z, xs = [.str z] ∧ z.length ≤ sizeLine ∧ ∀ p, H p = none → Q (.ref p) (upd H p (.lst (signV z)))) := by
  intro pins s σ H xs us Q I r h
  obtain ⟨z, rfl, hz, q⟩ := h
  obtain ⟨u, rfl, t, rfl⟩ := vals1 r
  refine call_list_str (I.ok.hd hcalm) z t (hn := hz) fun h' tk acc' c' hk hS' hacc => ?_
  have hl : (signV z).length = z.length := by
    unfold signV
    rw [List.length_map, Array.length_toList]
    rfl
  have hv : Vals (signV z) acc'.toList := by
    refine paired_get (R := RelV) (by rw [hl, Array.length_toList, hacc.1]; rfl) fun j x u h1 h2 => ?_
    obtain ⟨c, t', hc, rfl⟩ := hacc.2 j u (by rw [← Array.getElem?_toList]; exact h2)
    unfold signV at h1
    rw [List.getElem?_map, Array.getElem?_toList, hc] at h1
    cases (show some (V.str ⟨#[c]⟩) = some x from h1)
    exact ⟨t', rfl⟩
  exact ⟨.ref s.heap.objs.size, upd H s.heap.objs.size (.lst (signV z)), I.laid (t' := tk) hk (Nat.le_refl _)
    (show ObjOk X.prog X.w _ _ _ (.lst (signV z)) from ⟨by rw [hl]; exact hz, acc'.toList, c', hv, by rw [Array.toArray_toList]; exact hS'⟩), rfl, q _ (I.hok.fresh (Nat.le_refl _))⟩
/-! ### the program's judges, on data -/
def isIntD : PyData → Bool
  | .int i => decide ((if i < 0 then -i else i) < 10 ^ Int.toNat 60)
  | _ => false
def lowZ (c : Nat) : Bool := (!decide ([c] < [97])) && (!decide ([122] < [c]))
def isWordS (x : Str) : Bool := (decide (1 ≤ x.length) && decide (x.length ≤ 8)) && x.cps.toList.all lowZ
def isWordD : PyData → Bool
  | .str x => isWordS x
  | _ => false
def isArityD : PyData → Bool
  | .int i => isIntD (.int i) && (decide (0 ≤ i) && decide (i ≤ 3))
  | _ => false
def isLeafD (d : PyData) : Bool := ([.str "_", .str "#"] : List PyData).any fun z => PyData.eqv z d
def isNodeD : PyData → Bool
  | .tuple [s, m] => if isLeafD s then (isArityD m && PyData.eqv m (.int 0)) else (isWordD s && isArityD m)
  | _ => false
end Fn

set_option Elab.async false
set_option maxRecDepth 100000
set_option maxHeartbeats 4000000
/-! A dict with any keys, told by its pairs of values: read by len, isinstance, walks; a key of another kind put into a dict of texts. -/
namespace Fn
open PySem PySem.Spec PyProof.Rows L2
def EntV (kvs : List (V × V)) (es : Array DictEntry) : Prop := es.size = kvs.length ∧ ∀ (i : Nat) (k v : V), kvs[i]? = some (k, v) → ∃ en, es[i]? = some en ∧ RelV k en.key ∧ RelV v en.val
def MxO (d : Addr) (kvs : List (V × V)) : HO := .ext fun h => (d == sysModules) = false ∧ kvs.length ≤ sizeLine ∧ ∃ es ep, h.DictRaw d es ep ∧ EntV kvs es
inductive DM (d : Addr) : HO → List (V × V) → Prop
  | mx (kvs : List (V × V)) : DM d (MxO d kvs) kvs
  | dk (ks : List (Key × V)) : DM d (.dK ks) (ks.map fun p => (kV p.1, p.2))
theorem DM.mut {d : Addr} {u : HO} {kvs : List (V × V)} (D : DM d u kvs) : Mut (some u) := by
  cases D <;> exact True.intro
theorem EntV.of_kv {P : Program} {w : World} {ks : List (Key × V)} {vs : List (Key × Value)} {es : Array DictEntry} (kv : KV ks vs) (hz : es.size = vs.length)
    (he : ∀ i (hi : i < es.size) k v, vs[i]? = some (k, v) → (mixKind P w).is k es[i].key = true ∧ es[i].val = v) : EntV (ks.map fun p => (kV p.1, p.2)) es := by
  refine ⟨by rw [List.length_map, hz]; exact (Paired.length kv).symm, fun i k v e => ?_⟩
  rw [List.getElem?_map] at e
  cases hk : ks[i]? with
  | none => rw [hk] at e; cases e
  | some p =>
    obtain ⟨kk, x⟩ := p
    rw [hk] at e
    cases (show some (kV kk, x) = some (k, v) from e)
    obtain ⟨u, hu, ru⟩ := kv_get kv hk
    have hi : i < es.size := by
      rw [hz]
      exact (List.getElem?_eq_some_iff.mp hu).1
    obtain ⟨h1, h2⟩ := he i hi _ _ hu
    exact ⟨es[i], Array.getElem?_eq_getElem hi, relV_key (show keyIs kk _ = true from h1), by rw [h2]; exact ru⟩
theorem DM.raw {P : Program} {w : World} {H : Hp} {h : Heap} {d : Addr} {u : HO} {kvs : List (V × V)} (D : DM d u kvs) (x : ObjOk P w H h d u) :
    (d == sysModules) = false ∧ kvs.length ≤ sizeLine ∧ ∃ es ep, h.DictRaw d es ep ∧ EntV kvs es := by
  cases D with
  | mx => exact x.1
  | dk ks =>
    obtain ⟨z, hd, vs, kv, dd⟩ := x
    obtain ⟨es, ep, r, hz, he⟩ := dd.raw
    exact ⟨hd, by rw [List.length_map]; exact z, es, ep, r, EntV.of_kv kv hz he⟩
section
variable {X : Cx} {pins : List (Addr × Obj)} {σ : L2.St} {H : Hp} {s : Shared} {d : Addr} {o : Obj} {u : HO} {kvs : List (V × V)}
theorem frzM (I : Inv X pins σ H s) (h : H d = some (.frz o u)) (D : DM d u kvs) :
    (d == sysModules) = false ∧ kvs.length ≤ sizeLine ∧ ∃ es ep, o.data = .dict es ep ∧ s.heap.DictRaw d es ep ∧ EntV kvs es := by
  obtain ⟨h1, h2⟩ := I.hok d _ h
  obtain ⟨a, b, es, ep, r, e⟩ := D.raw h2
  obtain ⟨o', ho, hx, hd⟩ := id r
  rw [h1] at ho
  cases ho
  exact ⟨a, b, es, ep, hd, r, e⟩
end
def Mtk (d : Addr) (o : Obj) (u : HO) (kvs : List (V × V)) : It :=
  ⟨fun i H => H d = some (.frz o u) ∧ i < kvs.length, fun i H x H' => H' = H ∧ ∃ v, kvs[i]? = some (x, v), fun i H => H d = some (.frz o u) ∧ kvs.length ≤ i⟩
def Mtd (d : Addr) (o : Obj) (u : HO) (kvs : List (V × V)) : It :=
  ⟨fun i H => H d = some (.frz o u) ∧ i < kvs.length, fun i H x H' => H' = H ∧ ∃ k, kvs[i]? = some (k, x), fun i H => H d = some (.frz o u) ∧ kvs.length ≤ i⟩
def Mti (d : Addr) (o : Obj) (u : HO) (kvs : List (V × V)) : It :=
  ⟨fun i H => H d = some (.frz o u) ∧ i < kvs.length, fun i H x H' => ∃ T k v, kvs[i]? = some (k, v) ∧ x = .ref T ∧ H T = none ∧ H' = upd H T (.tup [k, v]), fun i H => H d = some (.frz o u) ∧ kvs.length ≤ i⟩
section
variable {P : Program} {w : World} {K : PySem.W.Frag} {tg : Expr} {d : Addr} {o : Obj} {es : Array DictEntry} {ep : Nat} {u : HO} {kvs : List (V × V)}
theorem turn_keysM (D : DM d u kvs) (it : Addr) (hod : o.data = .dict es ep) : Turn P w K tg (Mtk d o u kvs) [it] it (fun i h => h.IsKeyIter it d i es.size ep) where
  mem := by simp
  obj := fun i h st b hb => by
    have e : b = it := by simpa using hb
    subst e
    obtain ⟨oi, e, c, dd⟩ := st
    exact ⟨oi, e, fun v z => by rw [dd] at z; cases z⟩
  keep := fun i h h' st k => st.at fun oi e => k it (by simp) oi e
  item := by
    intro X hP hw hK hc i pins s σ H E I hf st hg
    subst hP hw hK
    obtain ⟨hd, hi⟩ := hg
    obtain ⟨f0, f1, f2, f3, f4, f5⟩ := hf it (by simp)
    obtain ⟨hs, hz, es', ep', hdt, hr, hsz, ent⟩ := frzM I hd D
    obtain ⟨rfl, rfl⟩ := dict_ep hod hdt
    obtain ⟨⟨k, v⟩, hkv⟩ : ∃ p, kvs[i]? = some p := ⟨kvs[i], List.getElem?_eq_getElem hi⟩
    obtain ⟨en, hen, rk, rv⟩ := ent i k v hkv
    have hi' : i < es'.size := by omega
    refine wpAny_pyNext_keys_item_raw st hr hi' fun h' st' sb => ?_
    have I1 : Inv X pins σ H { s with heap := h' } := I.turned (t' := s.toks) (fun b ob hb e => (sb.2 b hb).trans e) f0 f1 f3 f4 f5
    obtain ⟨oi, e, c, dd⟩ := id st'
    have een : es'[i] = en := by
      rw [Array.getElem?_eq_getElem hi'] at hen
      exact Option.some.inj hen
    rw [een]
    exact ⟨en.key, rfl, go_of (s := { s with heap := h' }) e c dd (by decide) ⟨k, H, I1, rk, ⟨rfl, v, hkv⟩, st', fun b hb => (hf b hb).1⟩⟩
  done := by
    intro X hP hw hK hc i pins s σ H E I hf st hg
    subst hP hw hK
    obtain ⟨hd, hi⟩ := hg
    obtain ⟨f0, f1, f2, f3, f4, f5⟩ := hf it (by simp)
    obtain ⟨hs, hz, es', ep', hdt, hr, hsz, ent⟩ := frzM I hd D
    obtain ⟨rfl, rfl⟩ := dict_ep hod hdt
    exact wpAny_pyNext_keys_end_raw (I.ok.hd hc) st hr (by omega) fun h' eb => ⟨rfl, I.turned (t' := s.toks) (fun b ob hb e => eb b ob hb e) f0 f1 f3 f4 f5⟩
  self := fun A i s Q E st h => wpAny_pyIter_keyiter st h
theorem turn_valsM (D : DM d u kvs) (it : Addr) (hod : o.data = .dict es ep) : Turn P w K tg (Mtd d o u kvs) [it] it (fun i h => h.IsValIter it d i es.size ep) where
  mem := by simp
  obj := fun i h st b hb => by
    have e : b = it := by simpa using hb
    subst e
    obtain ⟨oi, e, c, dd⟩ := st
    exact ⟨oi, e, fun v z => by rw [dd] at z; cases z⟩
  keep := fun i h h' st k => st.at fun oi e => k it (by simp) oi e
  item := by
    intro X hP hw hK hc i pins s σ H E I hf st hg
    subst hP hw hK
    obtain ⟨hd, hi⟩ := hg
    obtain ⟨f0, f1, f2, f3, f4, f5⟩ := hf it (by simp)
    obtain ⟨hs, hz, es', ep', hdt, hr, hsz, ent⟩ := frzM I hd D
    obtain ⟨rfl, rfl⟩ := dict_ep hod hdt
    obtain ⟨⟨k, v⟩, hkv⟩ : ∃ p, kvs[i]? = some p := ⟨kvs[i], List.getElem?_eq_getElem hi⟩
    obtain ⟨en, hen, rk, rv⟩ := ent i k v hkv
    have hi' : i < es'.size := by omega
    refine wpAny_pyNext_values_item_raw st hr hi' fun h' st' sb => ?_
    have I1 : Inv X pins σ H { s with heap := h' } := I.turned (t' := s.toks) (fun b ob hb e => (sb.2 b hb).trans e) f0 f1 f3 f4 f5
    obtain ⟨oi, e, c, dd⟩ := id st'
    have een : es'[i] = en := by
      rw [Array.getElem?_eq_getElem hi'] at hen
      exact Option.some.inj hen
    rw [een]
    exact ⟨en.val, rfl, go_of (s := { s with heap := h' }) e c dd (by decide) ⟨v, H, I1, rv, ⟨rfl, k, hkv⟩, st', fun b hb => (hf b hb).1⟩⟩
  done := by
    intro X hP hw hK hc i pins s σ H E I hf st hg
    subst hP hw hK
    obtain ⟨hd, hi⟩ := hg
    obtain ⟨f0, f1, f2, f3, f4, f5⟩ := hf it (by simp)
    obtain ⟨hs, hz, es', ep', hdt, hr, hsz, ent⟩ := frzM I hd D
    obtain ⟨rfl, rfl⟩ := dict_ep hod hdt
    exact wpAny_pyNext_values_end_raw (I.ok.hd hc) st hr (by omega) fun h' eb => ⟨rfl, I.turned (t' := s.toks) (fun b ob hb e => eb b ob hb e) f0 f1 f3 f4 f5⟩
  self := fun A i s Q E st h => wpAny_pyIter_valiter st h
theorem turn_itemsM (D : DM d u kvs) {elts : List Expr} {kk : Nat} {tpos : Pos} (it : Addr) (hod : o.data = .dict es ep) :
    Turn P w K (.Tuple elts kk tpos) (Mti d o u kvs) [it] it (fun i h => ∃ ok ov, IsItemIter h it d i es.size ep ok ov) where
  mem := by simp
  obj := fun i h st b hb => by
    have e : b = it := by simpa using hb
    subst e
    obtain ⟨ok, ov, e⟩ := st
    exact ⟨_, e, fun v z => nomatch z⟩
  keep := fun i h h' st k => let ⟨ok, ov, e⟩ := st; ⟨ok, ov, k it (by simp) _ e⟩
  item := by
    intro X hP hw hK hc i pins s σ H E I hf st hg
    subst hP hw hK
    obtain ⟨hd, hi⟩ := hg
    obtain ⟨hs, hz, es', ep', hdt, hr, hsz, ent⟩ := frzM I hd D
    obtain ⟨rfl, rfl⟩ := dict_ep hod hdt
    obtain ⟨⟨k, v⟩, hkv⟩ : ∃ p, kvs[i]? = some p := ⟨kvs[i], List.getElem?_eq_getElem hi⟩
    obtain ⟨en, hen, rk, rv⟩ := ent i k v hkv
    have hi' : i < es'.size := by omega
    have een : es'[i] = en := by
      rw [Array.getElem?_eq_getElem hi'] at hen
      exact Option.some.inj hen
    obtain ⟨ok, ov, he⟩ := st
    have hlt : it < s.heap.objs.size := Heap.lt_size he
    refine wpAny_pyNext_items_item_raw he hr hi' fun h' ho hT hz hk => ?_
    rw [een] at ho hT
    refine ⟨_, rfl, wpAny_letOwnedTupleGo_items (s := { s with heap := h' }) ho fun h'' he' sb => ?_⟩
    have hT2 : h''.get? s.heap.objs.size = some { cls := .type "tuple", data := .seq #[en.key, en.val] } := (sb.2 _ (Nat.ne_of_gt hlt)).trans hT
    have new : ObjOk X.prog X.w (upd H s.heap.objs.size (.tup [k, v])) h'' s.heap.objs.size (.tup [k, v]) :=
      ⟨by show 2 ≤ sizeLine; decide, [en.key, en.val], .cons rk (.cons rv .nil), ⟨_, hT2, rfl, _, rfl⟩⟩
    have I1 : Inv X pins σ (upd H s.heap.objs.size (.tup [k, v])) { s with heap := h'' } :=
      I.turnedNew (t' := s.toks) (ch := [it]) (fun b ob hb e => (sb.2 b (by simpa using hb)).trans (hk b ob (by simpa using hb) e)) hf (Nat.le_refl _) new
    refine ⟨.ref s.heap.objs.size, _, I1, rfl, ⟨_, k, v, hkv, rfl, I.hok.fresh (Nat.le_refl _), rfl⟩, ⟨en.key, en.val, he'⟩, fun b hb => ?_⟩
    have e : b = it := by simpa using hb
    rw [e, upd_ne (Nat.ne_of_lt hlt)]
    exact (hf it (by simp)).1
  done := by
    intro X hP hw hK hc i pins s σ H E I hf st hg
    subst hP hw hK
    obtain ⟨hd, hi⟩ := hg
    obtain ⟨f0, f1, f2, f3, f4, f5⟩ := hf it (by simp)
    obtain ⟨hs, hz, es', ep', hdt, hr, hsz, ent⟩ := frzM I hd D
    obtain ⟨rfl, rfl⟩ := dict_ep hod hdt
    obtain ⟨ok, ov, he⟩ := st
    exact wpAny_pyNext_items_end_raw (I.ok.hd hc) he hr (by omega) fun h' eb => ⟨rfl, I.turned (t' := s.toks) (fun b ob hb e => eb b ob hb e) f0 f1 f3 f4 f5⟩
  self := fun A i s Q E st h => let ⟨_, _, e⟩ := st; PySem.W.kcp_self e h
end
section
variable {d : Addr} {o : Obj} {u : HO} {kvs : List (V × V)}
theorem walk_keysX : Walk (Mtk d o u kvs) kvs.length (fun H => H d = some (.frz o u)) (fun i H x H' => H' = H ∧ ∃ v, kvs[i]? = some (x, v)) :=
  ⟨fun _ _ hi q => ⟨q, hi⟩, fun _ q => ⟨q, Nat.le_refl _⟩, fun _ _ _ _ _ _ y => y⟩
theorem walk_valsX : Walk (Mtd d o u kvs) kvs.length (fun H => H d = some (.frz o u)) (fun i H x H' => H' = H ∧ ∃ k, kvs[i]? = some (k, x)) :=
  ⟨fun _ _ hi q => ⟨q, hi⟩, fun _ q => ⟨q, Nat.le_refl _⟩, fun _ _ _ _ _ _ y => y⟩
theorem walk_itemsX : Walk (Mti d o u kvs) kvs.length (fun H => H d = some (.frz o u)) (fun i H x H' => ∃ T k v, kvs[i]? = some (k, v) ∧ x = .ref T ∧ H T = none ∧ H' = upd H T (.tup [k, v])) :=
  ⟨fun _ _ hi q => ⟨q, hi⟩, fun _ q => ⟨q, Nat.le_refl _⟩, fun _ _ _ _ _ _ y => y⟩
end
def iKeysX (td : TE) : TI := fun σ H R => td σ H fun x H1 => ∃ d o u kvs, x = .ref d ∧ H1 d = some (.frz o u) ∧ DM d u kvs ∧ R (Mtk d o u kvs) H1
def iValsX (td : TE) : TI := fun σ H R => td σ H fun x H1 => ∃ d o u kvs, x = .ref d ∧ H1 d = some (.frz o u) ∧ DM d u kvs ∧ R (Mtd d o u kvs) H1
def iItemsX (td : TE) : TI := fun σ H R => td σ H fun x H1 => ∃ d o u kvs, x = .ref d ∧ H1 d = some (.frz o u) ∧ DM d u kvs ∧ R (Mti d o u kvs) H1
section
variable {X : Cx} {tg e : Expr} {td : TE} {apos cpos : Pos}
theorem pi_keysX (he : PE X e td) : PI X tg e (iKeysX td) := by
  refine ⟨fun pins s σ H R I h => ?_⟩
  refine thn (he.run pins s σ H _ I h) fun v s1 ⟨x, H1, I1, rx, d, o, u, kvs, ex, hd, D, q⟩ => ?_
  subst ex
  obtain rfl : v = Value.ref d := rx
  obtain ⟨hs, hz, es, ep, hdt, hr, ent⟩ := frzM I1 hd D
  exact wpAny_pyIter_dict_raw hs hr (pi_one (tk := s1.toks) I1 _ (turn_keysM D _ hdt) ⟨_, Heap.get?_push_size _ rfl, rfl, rfl⟩ q)
theorem pi_valuesX (he : PE X e td) (hbase : attributeBase e "values" X.env (eval e X.env) = eval e X.env := by rfl) (hline : (apos.endLine == cpos.line) = true := by rfl) : PI X tg (.Call (.Attribute e "values" apos) [] [] cpos) (iValsX td) := by
  refine ⟨fun pins s σ H R I h => ?_⟩
  refine wpAny_Call_method (T := "dict") (id := "dict.values") hbase rfl hline F.plainAttrs_dict F.slot_dict_values F.type_dict_values (thn (he.run pins s σ H _ I h) fun v s1 ⟨x, H1, I1, rx, d, o, u, kvs, ex, hd, D, q⟩ => ?_)
  subst ex
  obtain rfl : v = Value.ref d := rx
  obtain ⟨hs, hz, es, ep, hdt, hr, ent⟩ := frzM I1 hd D
  refine ⟨hr.typeIs, fun b e => ?_, ?_⟩
  · cases e
    obtain ⟨ob, ho, hc, _⟩ := hr
    exact ⟨ob, ho, hc.2.1⟩
  have I2 : Inv X pins σ H1 { s1 with heap := s1.heap.push { cls := .type "dict_values", data := .fields #[.ref d] } } := I1.kept (t' := s1.toks) fun b ob q => Heap.get?_push_of_some _ q
  have fin : wpAny (model X.prog X.w) X.A (pyIter (.ref s1.heap.objs.size)) (PIE X pins σ tg R) X.xe { s1 with heap := s1.heap.push { cls := .type "dict_values", data := .fields #[.ref d] } } :=
    wpAny_pyIter_values_raw (d := d) (es := es) (ep := ep) ⟨_, Heap.get?_push_size _ rfl, rfl, rfl⟩ (hr.push _) (pi_one (tk := s1.toks) I2 _ (turn_valsM D _ hdt) ⟨_, Heap.get?_push_size _ rfl, rfl, rfl⟩ q)
  show wpAny _ _ (callWith cpos (.builtin "dict.values") [.ref d] [] []) _ X.xe s1
  exact method_meetsIn F.slot_dict_values F.entry_dict_values rfl (PySem.evalArgs_none ⟨rfl, hr.typeIs, F.args_dict_values_1 _, _, meets_dict_values_raw d hs, ⟨es, ep, hr⟩, fin⟩)
theorem pi_itemsX {elts : List Expr} {kk : Nat} {tpos : Pos} (he : PE X e td) (hbase : attributeBase e "items" X.env (eval e X.env) = eval e X.env := by rfl) (hline : (apos.endLine == cpos.line) = true := by rfl) :
    PI X (.Tuple elts kk tpos) (.Call (.Attribute e "items" apos) [] [] cpos) (iItemsX td) := by
  refine ⟨fun pins s σ H R I h => ?_⟩
  refine wpAny_Call_method (T := "dict") (id := "dict.items") hbase rfl hline F.plainAttrs_dict F.slot_dict_items F.type_dict_items (thn (he.run pins s σ H _ I h) fun v s1 ⟨x, H1, I1, rx, d, o, u, kvs, ex, hd, D, q⟩ => ?_)
  subst ex
  obtain rfl : v = Value.ref d := rx
  obtain ⟨hs, hz, es, ep, hdt, hr, ent⟩ := frzM I1 hd D
  refine ⟨hr.typeIs, fun b e => ?_, ?_⟩
  · cases e
    obtain ⟨ob, ho, hc, _⟩ := hr
    exact ⟨ob, ho, hc.2.1⟩
  have I2 : Inv X pins σ H1 { s1 with heap := s1.heap.push { cls := .type "dict_items", data := .fields #[.ref d] } } := I1.kept (t' := s1.toks) fun b ob q => Heap.get?_push_of_some _ q
  have fin : wpAny (model X.prog X.w) X.A (pyIter (.ref s1.heap.objs.size)) (PIE X pins σ (.Tuple elts kk tpos) R) X.xe { s1 with heap := s1.heap.push { cls := .type "dict_items", data := .fields #[.ref d] } } :=
    wpAny_pyIter_items_raw (d := d) (es := es) (ep := ep) ⟨_, Heap.get?_push_size _ rfl, rfl, rfl⟩ (hr.push _) (pi_one (tk := s1.toks) I2 _ (turn_itemsM D _ hdt) ⟨.none, .none, Heap.get?_push_size _ rfl⟩ q)
  show wpAny _ _ (callWith cpos (.builtin "dict.items") [.ref d] [] []) _ X.xe s1
  exact method_meetsIn F.slot_dict_items F.entry_dict_items rfl (PySem.evalArgs_none ⟨rfl, hr.typeIs, F.args_dict_items_1 _, _, meets_dict_items_raw d hs, ⟨es, ep, hr⟩, fin⟩)
/-- isinstance(x, c) where x may be a dict with any keys -/
def rIsiM (K : PySem.W.Frag) : List V → Hp → VK → Prop := fun xs H Q => rIsi K xs H Q ∨
  ∃ (d : Addr) (w : HO) (kvs : List (V × V)) (c : V) (u : Value) (b : Bool), xs = [.ref d, c] ∧ ClsV c u ∧ H d = some w ∧ DM d w kvs ∧ PySem.W.kitOne K (.type "dict") u = some b ∧ Q (.bl b) H
theorem call_isiM {K : PySem.W.Frag} (hK : X.K = K := by rfl) : CallR X (.builtin "isinstance") (rIsiM K) := by
  subst hK
  intro pins s σ H xs us Q I r h
  rcases h with h | ⟨d, w, kvs, c, u, b, rfl, k, hd, D, e, q⟩
  · exact call_isi pins s σ H xs us Q I r h
  · obtain ⟨u1, u2, rfl, r1, r2⟩ := vals2 r
    have e2 := k.eq r2
    subst e2
    cases (show u1 = Value.ref d from r1)
    obtain ⟨hs, hz, es, ep, ⟨o, ho, hc, hdt⟩, ent⟩ := D.raw (I.hok d _ hd)
    exact PySem.W.kia_one PySem.W.kitx_dict I.kIn ⟨o, ho, hc.1⟩ e (fun z => nomatch z) fun tk => ⟨.bl b, H, I.tok tk, rfl, q⟩
def rLenM : List V → Hp → VK → Prop := fun xs H Q => ∃ (d : Addr) (w : HO) (kvs : List (V × V)), xs = [.ref d] ∧ H d = some w ∧ DM d w kvs ∧ Q (.int kvs.length) H
theorem call_lenM : CallR X (.builtin "len") rLenM := by
  intro pins s σ H xs us Q I r h
  obtain ⟨d, w, kvs, rfl, hd, D, q⟩ := h
  obtain rfl := Vals.ref1 r
  obtain ⟨hs, hz, es, ep, hr, hsz, ent⟩ := D.raw (I.hok d _ hd)
  have hl := line63
  refine call_len_slot (n := (es.size : Int)) hr.typeIs F.slot_dict_len (fun Q' hq => call_len_raw hs hr hq) (by omega) (by omega) ?_
  exact ⟨.int kvs.length, H, I.tok _, ⟨_, by rw [hsz]⟩, q⟩
end
theorem pg_tup_k {X : Cx} {K : PySem.W.Frag} {pos : Pos} {es : List Expr} {k : Nat} {t : TGs} {n : Nat} (hc : X.calm = true) (h : PGs X es t)
    (hn : (assignEach es X.env).length = n := by rfl) (hst : (assignEach es X.env).findIdx? (·.1) = none := by rfl) (hK : X.K = K := by rfl) : PG X (.Tuple es k pos) (gTup K n t) := by
  subst hK
  exact pg_tup hc h hn hst
/-! ### list(d.values()) -/
def tListVals (te : TE) : TE := fun σ H Q => te σ H fun x H1 => ∃ (d : Addr) (w : HO) (kvs : List (V × V)), x = .ref d ∧ H1 d = some w ∧ DM d w kvs ∧
  ∀ p, H1 p = none → Q (.ref p) (upd H1 p (.lst (kvs.map Prod.snd)))
theorem pe_listVals {X : Cx} {e : Expr} {te : TE} {p apos cpos pos : Pos} (hc : X.calm = true) (he : PE X e te) (hg : Gl X "list") (hm : X.mg "list" = none) (hv : bootBuiltins "list" = some (.type "list")) (hbase : attributeBase e "values" X.env (eval e X.env) = eval e X.env := by rfl) (hline : (apos.endLine == cpos.line) = true := by rfl)
    (hs : starEach [.Call (.Attribute e "values" apos) [] [] cpos] X.env = (false, eval (.Call (.Attribute e "values" apos) [] [] cpos) X.env) :: starEach [] X.env := by rfl) :
    PE X (.Call (.Name "list" p) [.Call (.Attribute e "values" apos) [] [] cpos] [] pos) (tListVals te) := by
  refine ⟨fun pins s σ H Q I hq => ?_⟩
  refine wpAny_Call_Name_kw (ld_blt I hg hm hv ?_)
  refine PyProof.Rows.callWith_type1 ?_ hs rfl
  rw [hs]
  show wpAny _ _ (spliced ((false, eval (.Call (.Attribute e "values" apos) [] [] cpos) X.env) :: backTo pos (starEach [] X.env))) _ _ s
  refine Calls.spliced_cons ?_
  refine wpAny_Call_method (T := "dict") (id := "dict.values") hbase rfl hline F.plainAttrs_dict F.slot_dict_values F.type_dict_values (thn (he.run pins s σ H _ I hq) fun u s1 ⟨x, H1, I1, rx, d, w, kvs, ex, hd, D, q⟩ => ?_)
  subst ex
  obtain rfl : u = Value.ref d := rx
  obtain ⟨hs0, hz, es, ep, hr, hsz, ent⟩ := D.raw (I1.hok d _ hd)
  have I2 : Inv X pins σ H1 { s1 with heap := s1.heap.push { cls := .type "dict_values", data := .fields #[.ref d] } } := I1.kept (t' := s1.toks) fun b ob q => Heap.get?_push_of_some _ q
  refine ⟨hr.typeIs, fun b e => ?_, ?_⟩
  · cases e
    obtain ⟨ob, ho, hc, _⟩ := hr
    exact ⟨ob, ho, hc.2.1⟩
  show wpAny _ _ (callWith cpos (.builtin "dict.values") [.ref d] [] []) _ X.xe s1
  refine method_meetsIn F.slot_dict_values F.entry_dict_values rfl (PySem.evalArgs_none ⟨rfl, hr.typeIs, F.args_dict_values_1 _, _, meets_dict_values_raw d hs0, ⟨es, ep, hr⟩, ?_⟩)
  refine Calls.spliced_nil ?_
  refine PySem.W.kdl_call (KdlSrc.rawValues (es := es) (ep := ep)) (I1.ok.hd hc) ⟨⟨_, Heap.get?_push_size _ rfl, rfl, rfl⟩, hr.push _⟩ (by rw [hsz]; exact hz) fun h' tk acc' c' hk hS hacc => ?_
  have hv : Vals (kvs.map Prod.snd) acc'.toList := by
    refine paired_get (R := RelV) (by rw [List.length_map, Array.length_toList (xs := acc'), hacc.1, hsz]) fun j x u h1 h2 => ?_
    obtain ⟨hi, rfl⟩ := hacc.2 j u (by rw [← Array.getElem?_toList]; exact h2)
    rw [List.getElem?_map] at h1
    cases hkv : kvs[j]? with
    | none => rw [hkv] at h1; cases h1
    | some pr =>
      obtain ⟨k, v⟩ := pr
      rw [hkv] at h1
      cases (show some v = some x from h1)
      obtain ⟨en, hen, rk, rv⟩ := ent j k _ hkv
      rw [Array.getElem?_eq_getElem hi] at hen
      cases hen
      exact rv
  exact ⟨.ref _, upd H1 _ (.lst (kvs.map Prod.snd)), I2.laid (t' := tk) hk (Nat.le_refl _)
    (show ObjOk X.prog X.w _ _ _ (.lst (kvs.map Prod.snd)) from ⟨by rw [List.length_map]; exact hz, acc'.toList, c', hv, by rw [Array.toArray_toList]; exact hS⟩), rfl, q _ (I2.hok.fresh (Nat.le_refl _))⟩
/-! ### a key of another kind put into a dict of texts -/
section
variable {prog : Program} {w : World} {A : Around} {E : Value → Shared → Prop} {s : Shared}
theorem find_absent {d : Addr} {o : Obj} {es : Array DictEntry} {ep : Nat} {key : Value} {k : NestedKey} {hsh : Int} {Q : Option Nat → Shared → Prop} (hu : A.units + 0 < cLine) (ho : s.heap.get? d = some o) (hd : o.data = .dict es ep)
    (hs : ∀ e ∈ es, ∃ x t, e.key = .str x t) (hkey : NestedIs s.heap k key) (hk : (k = .none) ∨ ∃ ks, k = .tup ks) (hdep : k.depth ≤ 8) (hq : Q none s) :
    wpAny (model prog w) A (dictFind d key hsh) Q E s := by
  have hat : ∀ (x : Nat) (e : DictEntry), es[x]? = some e → ∀ Q' : Bool → Shared → Prop, Q' false s → wpAny (model prog w) A (eqBool e.key key) Q' E s := by
    intro x e he Q' hq'
    obtain ⟨y, t, ek⟩ := hs e (Array.mem_of_getElem? he)
    rw [ek]
    refine eqAt_key (.text y) k A s _ _ (.text y t) hkey (by simp only [NestedKey.depth]; omega) _ _ _ _ ?_
    rcases hk with rfl | ⟨ks, rfl⟩ <;> exact hq'
  have hst : ∀ v ∈ (placesWithHash es.size (fun i => es[i]?.map (·.hash)) hsh).filterMap (fun i => es[i]?.map (·.key)), ∃ x t, v = .str x t := by
    intro v hv
    obtain ⟨i, _, hi⟩ := List.mem_filterMap.mp hv
    cases hei : es[i]? with
    | none => rw [hei] at hi; cases hi
    | some e =>
      rw [hei] at hi
      obtain rfl : e.key = v := by simpa using hi
      exact hs e (Array.mem_of_getElem? hei)
  unfold dictFind
  try with_reducible refine wpAny_holding ?_
  refine wpAny_bind (wpAny_dictEntries ho hd ?_)
  have mem : ∀ x ∈ placesWithHash es.size (fun i => es[i]?.map (·.hash)) hsh, ∃ e, es[x]? = some e := by
    intro x hx
    rw [placesWithHash] at hx
    obtain ⟨h1, _⟩ := List.mem_filter.mp hx
    exact ⟨es[x]'(List.mem_range.mp h1), Array.getElem?_eq_getElem _⟩
  cases hkey with
  | none =>
    dsimp only
    rw [if_pos (by
      rw [List.all_cons]
      show (true && _) = true
      rw [Bool.true_and, List.all_eq_true]
      intro v hv
      obtain ⟨x, t, rfl⟩ := hst v hv
      rfl)]
    unfold dictWalkPlain
    refine wpAny_bind ?_
    refine wpAny_forIn_list _ (fun rest b s' => s' = s ∧ b = (none, ()) ∧ ∀ x ∈ rest, ∃ e, es[x]? = some e) _ ?_ ?_ _ _ ⟨rfl, rfl, mem⟩
    · rintro x rest b s' ⟨rfl, rfl, hm⟩
      obtain ⟨e, he⟩ := hm x List.mem_cons_self
      have hm' : ∀ y ∈ rest, ∃ e, es[y]? = some e := fun y hy => hm y (List.mem_cons_of_mem _ hy)
      rw [he]
      dsimp only
      split
      · refine wpAny_bind (wpAny_dictEpoch ho hd (wpAny_bind (hat x e he _ (wpAny_bind (wpAny_dictEpoch ho hd ?_)))))
        show wpAny _ _ (if (ep != ep) = true then _ else _) _ E _
        rw [if_neg (by simp)]
        exact wpAny_bind (wpAny_rule (wpAny_pure ⟨rfl, rfl, hm'⟩))
      · exact wpAny_pure ⟨rfl, rfl, hm'⟩
    · rintro b s' ⟨rfl, rfl, _⟩
      exact wpAny_pure hq
  | bool e => rcases hk with h | ⟨ks, h⟩ <;> cases h
  | int i t => rcases hk with h | ⟨ks, h⟩ <;> cases h
  | text x t => rcases hk with h | ⟨ks, h⟩ <;> cases h
  | @tup a ob vs n ks hg hc hdd hall =>
    have hkey : NestedIs s.heap (.tup ks) (.ref a) := .tup hg hc hdd hall
    dsimp only
    rw [if_neg (show ¬ ((Value.ref a :: (placesWithHash es.size (fun i => es[i]?.map (·.hash)) hsh).filterMap (fun i => es[i]?.map (·.key))).all carriedByValue) = true by simp [carriedByValue])]
    rw [if_neg (by
      rw [← Array.any_toList, List.any_eq_true]
      rintro ⟨e, hin, hc⟩
      obtain ⟨x, t, ek⟩ := hs e (Array.mem_toList_iff.mp hin)
      rw [ek] at hc
      simp at hc)]
    rw [if_neg (by
      intro hc
      have hc' := eq_of_beq hc
      have : Value.ref a ∈ (placesWithHash es.size (fun i => es[i]?.map (·.hash)) hsh).filterMap (fun i => es[i]?.map (·.key)) := by rw [hc']; exact List.mem_singleton.mpr rfl
      obtain ⟨x, t, e⟩ := hst _ this
      cases e)]
    have quiet : ∀ Q' : Bool → Shared → Prop, Q' false s → wpAny (model prog w) A (tableMayTell (.ref a) ((placesWithHash es.size (fun i => es[i]?.map (·.hash)) hsh).filterMap (fun i => es[i]?.map (·.key)))) Q' E s := by
      intro Q' hq'
      unfold tableMayTell
      split
      · exact wpAny_pure hq'
      · refine wpAny_bind (quiet_key (.tup ks) _ 8 s hkey hdep A E _ ?_)
        simp only [Bool.not_true, Bool.false_eq_true, if_false]
        refine wpAny_bind ?_
        refine wpAny_forIn_list _ (fun rest r s' => s' = s ∧ r = (none, ()) ∧ ∀ v ∈ rest, ∃ x t, v = .str x t) _ ?_ ?_ _ _ ⟨rfl, rfl, hst⟩
        · rintro x rest r s' ⟨rfl, rfl, hr⟩
          obtain ⟨y, t, rfl⟩ := hr x List.mem_cons_self
          refine wpAny_bind (quiet_key (.text y) _ 8 s' (.text y t) (by simp [NestedKey.depth]) A E _ ?_)
          simp only [Bool.not_true, Bool.false_eq_true, if_false]
          exact wpAny_pure ⟨rfl, rfl, fun v hv => hr v (List.mem_cons_of_mem _ hv)⟩
        · rintro r s' ⟨rfl, rfl, _⟩
          exact wpAny_pure hq'
    refine wpAny_bind (quiet _ ?_)
    rw [if_neg (by simp)]
    refine wpAny_bind ?_
    refine wpAny_forIn_list _ (fun rest b s' => s' = s ∧ b = (none, none) ∧ ∀ x ∈ rest, ∃ e, es[x]? = some e) _ ?_ ?_ _ _ ⟨rfl, rfl, mem⟩
    · rintro x rest b s' ⟨rfl, rfl, hm⟩
      obtain ⟨e, he⟩ := hm x List.mem_cons_self
      have hm' : ∀ y ∈ rest, ∃ e, es[y]? = some e := fun y hy => hm y (List.mem_cons_of_mem _ hy)
      rw [he]
      dsimp only
      split
      · refine wpAny_bind (wpAny_dictEpoch ho hd (wpAny_bind (hat x e he _ (wpAny_bind (wpAny_dictEpoch ho hd ?_)))))
        show wpAny _ _ (if (ep != ep) = true then _ else _) _ E _
        rw [if_neg (by simp)]
        simp only [Bool.false_eq_true, if_false]
        refine wpAny_bind (wpAny_rule ?_)
        first | rw [if_neg (by simp)] | skip
        first
          | exact wpAny_pure ⟨rfl, rfl, hm'⟩
          | exact wpAny_bind (wpAny_pure (wpAny_pure ⟨rfl, rfl, hm'⟩))
      · exact wpAny_pure ⟨rfl, rfl, hm'⟩
    · rintro b s' ⟨rfl, rfl, _⟩
      exact wpAny_pure hq
theorem setItem_absent {d : Addr} {o : Obj} {es : Array DictEntry} {ep : Nat} {key v : Value} {k : NestedKey} {Q : Unit → Shared → Prop} (hu : A.units + 16 < cLine) (ho : s.heap.get? d = some o) (hx : o.ExactDict) (hd : o.data = .dict es ep)
    (hs : ∀ e ∈ es, ∃ x t, e.key = .str x t) (hkey : NestedIs s.heap k key) (hk : (k = .none) ∨ ∃ ks, k = .tup ks) (hdep : k.depth ≤ 8) (hsz : es.size ≤ sizeLine)
    (hq : ∀ h' ep' tk, h'.DictRaw d (es.push ⟨k.hash w, key, v⟩) ep' → Heap.SameBut d s.heap h' → Q () { s with heap := h', toks := tk }) :
    wpAny (model prog w) A (setItem (.ref d) key v) Q E s := by
  have hT : s.TypeIs (.ref d) "dict" := ⟨o, ho, hx.1⟩
  unfold setItem
  try with_reducible refine wpAny_holding ?_
  refine wpAny_bind (wpAny_sequenceKey hT (by decide) ?_)
  refine wpAny_bind (wpAny_callSpecial?_slot (name := Str.ofString "__setitem__") hT slot_dict_setitem
    (wpAny_call_entry slot_dict_setitem hT entry_dict_setitem ?_ (args_dict_setitem _ _ _)))
  show wpAny _ _ (Builtin.Dict.notOrdered "__setitem__" ⟨[.ref d, key, v], []⟩ >>= _) _ _ s
  refine wpAny_bind (wpAny_notOrdered_dict hT ?_)
  show wpAny _ _ (dictSet d key v >>= _) _ _ s
  refine wpAny_bind ?_
  unfold dictSet
  try with_reducible refine wpAny_holding ?_
  have hu' : A.in1.units + k.depth < cLine := by show A.units + 1 + k.depth < cLine; omega
  refine wpAny_bind (pyHash_key k key _ s _ hkey hu' ?_)
  unfold dictSetHashed
  try with_reducible refine wpAny_holding ?_
  refine wpAny_bind (find_absent (s := { s with toks := s.toks + k.draws }) (by show A.units + 1 + 0 < cLine; omega) ho hd hs hkey hk hdep ?_)
  refine wpAny_bind (wpAny_rule (wpAny_updateDictKeys (hz := by omega) (s := { s with toks := s.toks + k.draws }) ho hd ?_))
  refine wpAny_pure ⟨.none, rfl, wpAny_pure (hq _ (ep + 1) _ ⟨_, Heap.get?_update_self _ ho (Obj.isFreed_of_dict (Obj.data_mapDictKeys hd _)), hx.mapDictKeys _, Obj.data_mapDictKeys hd _⟩ (Heap.SameBut.update ..))⟩
end
/-- d[y] = v: a text or int; or None, or a tuple of one text, into a dict of texts -/
def rSetM : TSet := fun o i v H Q => ∃ a, o = .ref a ∧ ((∃ H', DPut H a i v H' ∧ Q H') ∨
  ∃ kvs : List (Key × V), H a = some (.dK kvs) ∧ (∀ p ∈ kvs, ∃ x, p.1 = Sum.inr x) ∧ kvs.length < sizeLine ∧ (i = .non ∨ ∃ b x, i = .ref b ∧ H b = some (.tup [.str x])) ∧
    Q (upd H a (MxO a (kvs.map (fun p => (kV p.1, p.2)) ++ [(i, v)]))))
theorem EntV.push {kvs : List (V × V)} {es : Array DictEntry} (e : EntV kvs es) {k v : V} {en : DictEntry} (rk : RelV k en.key) (rv : RelV v en.val) : EntV (kvs ++ [(k, v)]) (es.push en) := by
  refine ⟨by rw [Array.size_push, List.length_append, e.1]; rfl, fun i k' v' h => ?_⟩
  rcases Nat.lt_or_ge i kvs.length with hi | hi
  · rw [List.getElem?_append_left hi] at h
    obtain ⟨en', h1, h2⟩ := e.2 i k' v' h
    have hi' : i < es.size := by rw [e.1]; exact hi
    refine ⟨en', ?_, h2⟩
    rw [Array.getElem?_push_lt hi', ← Array.getElem?_eq_getElem hi']
    exact h1
  · rw [List.getElem?_append_right hi] at h
    have hz : i - kvs.length = 0 := by
      rcases Nat.eq_zero_or_pos (i - kvs.length) with z | z
      · exact z
      · rw [List.getElem?_eq_none (by simp; omega)] at h
        cases h
    rw [hz] at h
    cases (show some (k, v) = some (k', v') from h)
    have hi' : i = es.size := by rw [e.1]; omega
    subst hi'
    exact ⟨en, Array.getElem?_push_size, rk, rv⟩
theorem set_mix {X : Cx} (hu : X.A.units + 65 < cLine) : PSet X rSetM := by
  intro pins s σ H o i v ov iv u Q I ro ri rv h
  obtain ⟨a, eo, h⟩ := h
  subst eo
  cases (show ov = Value.ref a from ro)
  rcases h with ⟨H', g, q⟩ | ⟨kvs, e, ht, hl, hi, q⟩
  · exact d_setItem (by omega) I g ri rv fun s' I' => ⟨H', I', q⟩
  · obtain ⟨hs, hz, es, ep, hr, ent⟩ := (DM.dk kvs).raw (I.hok a _ e)
    obtain ⟨ob, ho, hx, hd⟩ := id hr
    have hstr : ∀ en ∈ es, ∃ x t, en.key = .str x t := by
      intro en hen
      obtain ⟨j, hj, rfl⟩ := Array.mem_iff_getElem.mp hen
      have hj' : j < kvs.length := by
        have := ent.1
        rw [List.length_map] at this
        omega
      obtain ⟨x, ex⟩ := ht kvs[j] (List.getElem_mem hj')
      obtain ⟨en', h1, h2, _⟩ := ent.2 j (kV kvs[j].1) kvs[j].2 (by rw [List.getElem?_map, List.getElem?_eq_getElem hj']; rfl)
      rw [Array.getElem?_eq_getElem hj] at h1
      cases h1
      rw [ex] at h2
      obtain ⟨t, h2⟩ := (show ∃ t, es[j].key = Value.str x t from h2)
      exact ⟨x, t, h2⟩
    have key : ∃ k : NestedKey, NestedIs s.heap k iv ∧ ((k = .none) ∨ ∃ ks, k = .tup ks) ∧ k.depth ≤ 8 := by
      rcases hi with rfl | ⟨b, x, rfl, hb⟩
      · cases (show iv = Value.none from ri)
        exact ⟨.none, .none, .inl rfl, by simp [NestedKey.depth]⟩
      · cases (show iv = Value.ref b from ri)
        obtain ⟨_, its, rt, o', h1, h2, n, h3⟩ := (show ObjOk X.prog X.w H s.heap b (.tup [.str x]) from I.hok b _ hb)
        refine ⟨.tup [.text x], .tup h1 h2 h3 ?_, .inr ⟨_, rfl⟩, by simp [NestedKey.depth, NestedKey.depthAll]⟩
        cases rt with
        | cons r1 r2 =>
          cases r2
          obtain ⟨t, rfl⟩ := r1
          exact .cons (.text x t) .nil
    obtain ⟨k, hk, hkk, hdep⟩ := key
    refine setItem_absent (by omega) ho hx hd hstr hk hkk hdep (by have := ent.1; rw [List.length_map] at this; omega) fun h' ep' tk hr' sb => ?_
    refine ⟨_, d_write I (by rw [e]; exact True.intro) sb (let ⟨q, hq, _⟩ := hr'; ⟨q, hq⟩) ?_, q⟩
    refine ⟨⟨hs, by rw [List.length_append, List.length_map]; show kvs.length + 1 ≤ sizeLine; omega, _, ep', hr', ent.push ri rv⟩, (let ⟨q, hq, _⟩ := hr'; ⟨q, hq⟩), fun h1 h2 p kk => ?_⟩
    obtain ⟨p1, p2, es1, ep1, r1, e1⟩ := p
    exact ⟨p1, p2, es1, ep1, r1.at kk, e1⟩
end Fn

set_option Elab.async false
set_option maxRecDepth 100000
set_option maxHeartbeats 4000000
/-! Sets of things that stand at addresses and are keys (tuples of ints and texts among them), fewer than 64: for any kind of such keys. The plan follows the library's sets of tuples of ints; the table's own theory is the library's. -/
namespace Fn
open PySem PySem.Spec PyProof.Rows L2
section
variable {κ : Type} [DecidableEq κ] {P : Program} {w : World}
/-- what a kind of keys must give so that a set of them can be searched -/
structure SetLike (knd : HeapKind P w κ) : Prop where
  byv : ∀ {A : Around} {E : Value → Shared → Prop} {s : Shared} {k : κ} {b : Addr} {Q : Bool → Shared → Prop}, knd.is s.heap k b → (∀ r, Q r s) → wpAny (model P w) A (hashByValue 8 (.ref b)) Q E s
  seen : ∀ {A : Around} {E : Value → Shared → Prop} {s : Shared} {k : κ} {b : Addr} {ys : List Value} {Q : Bool → Shared → Prop}, knd.is s.heap k b → (∀ y ∈ ys, ∃ k' c, y = Value.ref c ∧ knd.is s.heap k' c) → Q false s →
    wpAny (model P w) A (searchCouldBeSeen (.ref b) ys) Q E s
  apart : ∀ {h h' : Heap} {k : κ} {a b : Addr} {o : Obj} {es : Array (Int × Value)} {ep : Nat} {t : SetTable}, knd.is h k b → h.get? a = some o → o.data = .set es ep t → Heap.SameBut a h h' → knd.is h' k b
  keep : ∀ {h h' : Heap} {k : κ} {b : Addr}, knd.is h k b → (∀ c o, h.get? c = some o → h'.get? c = some o) → knd.is h' k b
variable {knd : HeapKind P w κ}
/-- the rows of the table for these members -/
def rowK (knd : HeapKind P w κ) (p : Addr × κ) : Int × Value := (knd.hash p.2, Value.ref p.1)
def hashK (knd : HeapKind P w κ) (p : Addr × κ) : Int := knd.hash p.2
/-- the set at a, its members L in the table's order; without what the members are -/
structure HSet (knd : HeapKind P w κ) (h : Heap) (a : Addr) (L : List (Addr × κ)) (es : Array (Int × Value)) (ep : Nat) (t : SetTable) : Prop where
  obj : ∃ o, h.get? a = some o ∧ o.ExactSet ∧ o.data = .set es ep t
  rows : es.toList = L.map (rowK knd)
  tab : TabOk t (L.map (hashK knd))
  diff : (L.map Prod.snd).Nodup
  led : w.params.followText "set-order" = true ∨ t.led = true
  room : L.length * 5 < t.mask * 3
  few : L.length < 64
variable {h : Heap} {a : Addr} {L : List (Addr × κ)} {es : Array (Int × Value)} {ep : Nat} {t : SetTable}
theorem rows_size {L : List (Addr × κ)} (e : es.toList = L.map (rowK knd)) : es.size = L.length := by
  rw [← Array.length_toList, e, List.length_map]
theorem rows_at {L : List (Addr × κ)} (e : es.toList = L.map (rowK knd)) {i : Nat} {p : Addr × κ} (hp : L[i]? = some p) : es[i]? = some (rowK knd p) := by
  rw [← Array.getElem?_toList, e, List.getElem?_map, hp]
  rfl
theorem HSet.places (R : HSet knd h a L es ep t) : t.place.size = L.length := by
  have := R.tab.sz
  rwa [List.length_map] at this
theorem fits_of (hd : t.dummies = #[]) (e : t.place.size = es.size) (l : es.size ≤ t.mask) : t.fits es.size = true := by
  unfold SetTable.fits SetTable.fill
  rw [hd, Bool.and_eq_true, beq_iff_eq, decide_eq_true_eq]
  show t.place.size = es.size ∧ t.place.size + 0 ≤ t.mask
  omega
theorem HSet.fits (R : HSet knd h a L es ep t) : t.fits es.size = true := by
  have h1 := R.places
  have h2 := rows_size R.rows
  have h3 := R.room
  exact fits_of R.tab.dm (by omega) (by omega)
theorem HSet.stays {h' : Heap} (R : HSet knd h a L es ep t) (k : ∀ o, h.get? a = some o → h'.get? a = some o) : HSet knd h' a L es ep t := by
  obtain ⟨o, ho, r⟩ := R.obj
  exact ⟨⟨o, k o ho, r⟩, R.rows, R.tab, R.diff, R.led, R.room, R.few⟩
theorem HSet.empty (ho : h.get? a = some { cls := .type "set", dict := none, data := .set #[] 0 (.fresh 0 0 (!w.params.followText "set-order")) }) : HSet knd h a [] #[] 0 (.fresh 0 0 (!w.params.followText "set-order")) := by
  refine ⟨⟨_, ho, ⟨rfl, rfl, rfl⟩, rfl⟩, rfl, ⟨List.Pairwise.nil, rfl, rfl, .inl rfl, fun x hx => (by cases hx), fun i h j hi => (by simp at hi)⟩, List.nodup_nil, ?_, by show 0 * 5 < 7 * 3; decide, by show 0 < 64; decide⟩
  show _ ∨ (!w.params.followText "set-order") = true
  cases w.params.followText "set-order" <;> simp
end
section
variable {κ : Type} [DecidableEq κ] {P : Program} {w : World} {knd : HeapKind P w κ} {A : Around} {E : Value → Shared → Prop} {s : Shared} {a : Addr} {L : List (Addr × κ)} {es : Array (Int × Value)} {ep : Nat} {t : SetTable}
/-- the probe that a search begins with -/
abbrev p0 (t : SetTable) (z : Int) : SetTable.Probe := runAt t.mask (SetTable.bits z % (t.mask + 1)) (SetTable.bits z)
theorem p0_clean (m : Nat) : ∀ (n : Nat) (p : SetTable.Probe), p.dummy = none → (nth m p n).dummy = none
  | 0, _, h => h
  | n + 1, p, h => by
    refine p0_clean m n (adv m p) ?_
    unfold adv
    split <;> exact h
/-- searching on from the c-th slot of the way; K is the first empty one -/
theorem look_from (SL : SetLike knd) (R : HSet knd s.heap a L es ep t) (mem : ∀ p ∈ L, knd.is s.heap p.2 p.1) {x : Addr} {k : κ} (hx : knd.is s.heap k x) (hu : knd.room A) {K : Nat} (kf : K < 10 * SetTable.turns t.mask)
    (kn : way t.mask (knd.hash k) K ∉ t.place.toList) (kb : ∀ c, c < K → way t.mask (knd.hash k) c ∈ t.place.toList) {Q : SetFound → Shared → Prop}
    (yes : k ∈ L.map Prod.snd → Q (.there none) s) (no : k ∉ L.map Prod.snd → Q (.free (way t.mask (knd.hash k) K) false) s) :
    ∀ (f c : Nat) (stand : Option SetTable.Probe), stand.getD (t.probeStart (knd.hash k)) = nth t.mask (p0 t (knd.hash k)) c → c ≤ K → K - c < f →
      (∀ (i : Nat) p, L[i]? = some p → p.2 = k → ∃ c', c ≤ c' ∧ c' < K ∧ t.place.toList[i]? = some (way t.mask (knd.hash k) c')) →
      wpAny (model P w) A (setSearchFrom a (.ref x) (knd.hash k) true f stand) Q E s := by
  intro f
  induction f with
  | zero => intro c stand _ _ hf _; exact absurd hf (Nat.not_lt_zero _)
  | succ f ih =>
    intro c stand hst hc hf left
    obtain ⟨o, ho, hex, hd⟩ := R.obj
    rw [setSearchFrom_succ]
    refine wpAny_bind (wpAny_setState_of ho hd R.fits ?_)
    dsimp only
    have gw : ¬ t.gaveWay = true := by
      unfold SetTable.gaveWay
      rw [mask_odd R.tab.mok]
      decide
    refine wp_if_neg gw ?_
    try refine wpAny_bind (wpAny_pure ?_)
    have shift : ∀ q, nth t.mask (nth t.mask (p0 t (knd.hash k)) c) q = nth t.mask (p0 t (knd.hash k)) (c + q) := fun q => (nth_add t.mask c _ q).symm
    have slotAt : ∀ q, (nth t.mask (nth t.mask (p0 t (knd.hash k)) c) q).j = way t.mask (knd.hash k) (c + q) := fun q => congrArg SetTable.Probe.j (shift q)
    have hK : c + (K - c) = K := by omega
    have spec := go_spec t R.tab.ris R.tab.dm (fun i => (es[i]?.map (·.1)).getD 0) (knd.hash k) (10 * SetTable.turns t.mask) (K - c) _ (p0_clean t.mask c (p0 t (knd.hash k)) rfl) (by omega)
      (fun q hq => by rw [slotAt]; exact kb (c + q) (by omega)) (by rw [slotAt, hK]; exact kn)
    have hashOf : ∀ (i : Nat) p, L[i]? = some p → (es[i]?.map (·.1)).getD 0 = knd.hash p.2 := fun i p hp => by
      rw [rows_at R.rows hp]
      rfl
    -- no member with this key has been passed
    have still : ∀ (i : Nat) p (q : Nat), L[i]? = some p → p.2 = k → (∀ (q' : Nat) (i' : Nat), q' < q → t.place.toList[i']? = some (way t.mask (knd.hash k) (c + q')) → ¬ (es[i']?.map (·.1)).getD 0 = knd.hash k) →
        ∃ c', c + q ≤ c' ∧ c' < K ∧ t.place.toList[i]? = some (way t.mask (knd.hash k) c') := by
      intro i p q hp hk hno
      obtain ⟨c', b1, b2, b3⟩ := left i p hp hk
      refine ⟨c', ?_, b2, b3⟩
      rcases Nat.lt_or_ge c' (c + q) with z | z
      · have e : c + (c' - c) = c' := by omega
        exact absurd ((hashOf i p hp).trans (congrArg knd.hash hk)) (hno (c' - c) i (by omega) (by rw [e]; exact b3))
      · exact z
    rcases spec with ⟨q, i, hq, hi, hh, hno, hpr⟩ | ⟨hno, hpr⟩
    · have hpr' : t.probe (fun i => (es[i]?.map (·.1)).getD 0) (knd.hash k) (stand.getD (t.probeStart (knd.hash k))) = some (.candidate (way t.mask (knd.hash k) (c + q)) i (nth t.mask (p0 t (knd.hash k)) (c + (q + 1)))) := by
        rw [hst, ← slotAt, ← shift]
        exact hpr
      rw [hpr']
      dsimp only
      rw [slotAt] at hi
      have hil : i < L.length := by
        have h1 := (List.getElem?_eq_some_iff.mp hi).1
        rw [Array.length_toList, R.places] at h1
        exact h1
      obtain ⟨p, hp⟩ : ∃ p, L[i]? = some p := ⟨L[i], List.getElem?_eq_getElem hil⟩
      have hpm : p ∈ L := List.mem_of_getElem? hp
      have on : wpAny (model P w) A (searchRest a (.ref x) (knd.hash k) true f es t (way t.mask (knd.hash k) (c + q)) i (nth t.mask (p0 t (knd.hash k)) (c + (q + 1)))) Q E s := by
        unfold searchRest
        rw [rows_at R.rows hp]
        dsimp only [rowK]
        refine wpAny_bind (wpAny_holding (knd.eqBool hu (mem p hpm) hx ?_))
        refine wpAny_bind (wpAny_setState_of ho hd R.fits ?_)
        dsimp only
        by_cases e : p.2 = k
        · refine wp_if_pos (by simp [e]) ?_
          exact wpAny_pure (yes (List.mem_map.mpr ⟨p, hpm, e⟩))
        · refine wp_if_neg (by simp [e]) ?_
          try refine wpAny_bind (wpAny_pure ?_)
          rw [sameMem]
          dsimp only
          have hsl := slot_live R.tab.ris hi
          simp only [if_true, hsl, rows_at R.rows hp, rowK]
          refine wpAny_bind (wpAny_isSame_ref_self (wpAny_bind (wpAny_pure ?_)))
          simp only [if_true]
          refine wp_if_neg (by simp [e]) ?_
          refine ih (c + (q + 1)) _ rfl (by omega) (by omega) fun i1 p1 h1 hk1 => ?_
          obtain ⟨c', b1, b2, b3⟩ := still i1 p1 q h1 hk1 (fun q' i' hq' hi' => hno q' i' hq' (by rw [slotAt]; exact hi'))
          refine ⟨c', ?_, b2, b3⟩
          rcases Nat.lt_or_ge (c + q) c' with y | y
          · omega
          · have ec : c' = c + q := by omega
            subst ec
            have s1 := slot_live R.tab.ris b3
            rw [hsl] at s1
            injection s1 with s1
            rw [← s1, hp] at h1
            exact absurd ((congrArg Prod.snd (Option.some.inj h1)).trans hk1) e
      by_cases hl : t.led = true
      · refine wp_if_neg (by simp [hl]) ?_
        try refine wpAny_bind (wpAny_pure ?_)
        exact on
      · refine wp_if_pos (by simp [hl]) ?_
        refine wpAny_bind (SL.seen hx (fun y hy => ?_) ?_)
        · obtain ⟨e, he, ee⟩ := List.mem_map.mp hy
          have he2 : e ∈ es ∧ e.1 = knd.hash k := by simpa using he
          have he3 : e ∈ es.toList := by simpa using he2.1
          rw [R.rows] at he3
          obtain ⟨p2, hp2, e2⟩ := List.mem_map.mp he3
          exact ⟨p2.2, p2.1, by rw [← ee, ← e2]; rfl, mem p2 hp2⟩
        · refine wp_if_neg (by decide) ?_
          try refine wpAny_bind (wpAny_pure ?_)
          exact on
    · have hpr' : t.probe (fun i => (es[i]?.map (·.1)).getD 0) (knd.hash k) (stand.getD (t.probeStart (knd.hash k))) = some (.empty (way t.mask (knd.hash k) K) none) := by
        have e2 : way t.mask (knd.hash k) K = (nth t.mask (nth t.mask (p0 t (knd.hash k)) c) (K - c)).j := by rw [slotAt, hK]
        rw [hst, e2]
        exact hpr
      rw [hpr']
      dsimp only
      refine wpAny_pure (no fun hm => ?_)
      obtain ⟨p1, h1, hk1⟩ := List.mem_map.mp hm
      obtain ⟨i1, hi1⟩ := List.mem_iff_getElem?.mp h1
      obtain ⟨c', b1, b2, b3⟩ := still i1 p1 (K - c) hi1 hk1 (fun q' i' hq' hi' => hno q' i' hq' (by rw [slotAt]; exact hi'))
      omega
/-- searching for a key that is to be added -/
theorem look (SL : SetLike knd) (R : HSet knd s.heap a L es ep t) (mem : ∀ p ∈ L, knd.is s.heap p.2 p.1) {x : Addr} {k : κ} (hx : knd.is s.heap k x) (hu : knd.room A) {Q : SetFound → Shared → Prop}
    (yes : k ∈ L.map Prod.snd → Q (.there none) s)
    (no : ∀ K, k ∉ L.map Prod.snd → way t.mask (knd.hash k) K ∉ t.place.toList → (∀ c, c < K → way t.mask (knd.hash k) c ∈ t.place.toList) → Q (.free (way t.mask (knd.hash k) K) false) s) :
    wpAny (model P w) A (setSearch a (.ref x) (knd.hash k) true) Q E s := by
  have hroom := R.room
  obtain ⟨K, kf, kn, kb⟩ := R.tab.first (by rw [List.length_map]; omega) (knd.hash k)
  have small : K < 100000 := by
    have b : 10 * SetTable.turns t.mask ≤ 1420 := by
      unfold SetTable.turns
      rcases R.tab.mok with e | e | e <;> omega
    omega
  unfold setSearch
  refine look_from SL R mem hx hu kf kn kb yes (fun hn => no K hn kn kb) 100000 0 none rfl (Nat.zero_le _) (by omega) fun i p hp hk => ?_
  have hi : (L.map (hashK knd))[i]? = some (knd.hash k) := by
    rw [List.getElem?_map, hp, ← hk]
    rfl
  have hil : i < t.place.toList.length := by
    rw [Array.length_toList, R.places]
    exact (List.getElem?_eq_some_iff.mp hp).1
  obtain ⟨c, hc, e⟩ := R.tab.before kn hi (List.getElem?_eq_getElem hil)
  exact ⟨c, Nat.zero_le _, hc, by rw [List.getElem?_eq_getElem hil, e]⟩
/-- the rows in another order -/
theorem rows_order {es : Array (Int × Value)} (hr : es.toList = L.map (rowK knd)) {order : Array Nat} (hp : order.toList.Perm (List.range L.length)) :
    ∃ L2 : List (Addr × κ), (order.filterMap (es[·]?)).toList = L2.map (rowK knd) ∧ L2.Perm L ∧ L2.map (hashK knd) = order.toList.map fun i => (es.map (·.1)).getD i 0 := by
  have inR : ∀ i ∈ order.toList, i < L.length := fun i hi => List.mem_range.mp (hp.mem_iff.mp hi)
  refine ⟨order.toList.filterMap fun i => L[i]?, ?_, ?_, ?_⟩
  · have key : ∀ l : List Nat, l.filterMap (fun i => es[i]?) = (l.filterMap fun i => L[i]?).map (rowK knd) := by
      intro l
      induction l with
      | nil => rfl
      | cons i l ih =>
        cases hl : L[i]? with
        | none =>
          have : es[i]? = none := by
            rw [Array.getElem?_eq_none_iff, rows_size hr]
            exact List.getElem?_eq_none_iff.mp hl
          rw [List.filterMap_cons_none this, List.filterMap_cons_none hl, ih]
        | some p => rw [List.filterMap_cons_some (rows_at hr hl), List.filterMap_cons_some hl, List.map_cons, ih]
    have := key order.toList
    first | (rw [Array.toList_filterMap]; exact this) | simpa using this
  · have all : (List.range L.length).filterMap (fun i => L[i]?) = L := by
      have key : ∀ n, n ≤ L.length → (List.range n).filterMap (fun i => L[i]?) = L.take n := by
        intro n
        induction n with
        | zero => intro _; rfl
        | succ n ih =>
          intro hn
          have e : L[n]? = some (L[n]'hn) := List.getElem?_eq_getElem hn
          rw [List.range_succ, List.filterMap_append, ih (Nat.le_of_lt hn), List.take_succ, e, List.filterMap_cons_some e]
          rfl
      rw [key L.length (Nat.le_refl _), List.take_length]
    have h2 := hp.filterMap fun i => L[i]?
    rwa [all] at h2
  · have key : ∀ l : List Nat, (∀ i ∈ l, i < L.length) → (l.filterMap fun i => L[i]?).map (hashK knd) = l.map fun i => (es.map (·.1)).getD i 0 := by
      intro l
      induction l with
      | nil => intro _; rfl
      | cons i l ih =>
        intro hl
        have e : L[i]? = some (L[i]'(hl i List.mem_cons_self)) := List.getElem?_eq_getElem _
        have e2 : (es.map (·.1)).getD i 0 = knd.hash (L[i]'(hl i List.mem_cons_self)).2 := by
          rw [Array.getD_eq_getD_getElem?, Array.getElem?_map, rows_at hr e]
          rfl
        rw [List.filterMap_cons_some e, List.map_cons, List.map_cons, ih fun j hj => hl j (List.mem_cons_of_mem _ hj), e2]
        rfl
    exact key _ inR
/-- a larger table -/
theorem larger {o : Obj} (ho : s.heap.get? a = some o) (hex : o.ExactSet) (hd : o.data = .set es ep t) (hrows : es.toList = L.map (rowK knd)) (hsz : t.place.size = es.size) (hdm : t.dummies = #[]) (hfl : es.size ≤ t.mask)
    (nd : (L.map Prod.snd).Nodup) (ld : w.params.followText "set-order" = true ∨ t.led = true) (few : L.length < 64) {wanted M : Nat}
    (hw : SetTable.sizeAbove wanted - 1 = M) (hM : MaskOk M) (hw2 : SetTable.sizeAbove wanted ≤ 128) (hn : L.length * 5 < M * 3) {Q : Unit → Shared → Prop}
    (hQ : ∀ h' L' es' ep' t', Heap.SameBut a s.heap h' → HSet knd h' a L' es' ep' t' → L'.Perm L → Q () { s with heap := h' }) : wpAny (model P w) A (setRelay a wanted) Q E s := by
  have hsl := rows_size hrows
  obtain ⟨t', order, e, hp, T, em, el, ep', ed⟩ := relaid_ok t (hs := es.map (·.1)) (wanted := wanted) hw hM (by rw [Array.size_map, hsl]; omega)
  rw [Array.size_map, hsl] at hp
  obtain ⟨L2, r1, r2, r3⟩ := rows_order hrows hp
  rw [← r3] at T
  have hs2 : (order.filterMap (es[·]?)).size = es.size := by rw [rows_size r1, r2.length_eq, hsl]
  rw [setRelay_eq]
  refine wpAny_bind (wpAny_setState_of ho hd (fits_of hdm hsz hfl) ?_)
  dsimp only
  refine wp_if_neg (by rw [sizeLine_eq]; omega) ?_
  try refine wpAny_bind (wpAny_pure ?_)
  rw [e]
  dsimp only
  refine wpAny_bind ?_
  refine wp_if_neg (by rw [hs2]; simp) ?_
  try refine wpAny_bind (wpAny_pure ?_)
  refine wpAny_pure ?_
  dsimp only
  refine wpAny_storeSet_of ho hd ?_ (by rw [hs2, hsl, sizeLine_eq]; omega)
  refine hQ _ L2 (order.filterMap (es[·]?)) (ep + 1) t' (Heap.SameBut.update ..) ?_ r2
  exact ⟨⟨_, store_at ho hd, ⟨hex.1, hex.2.1, hex.2.2⟩, rfl⟩, r1, T, (r2.map Prod.snd).nodup_iff.mpr nd, by rw [el]; exact ld, by rw [r2.length_eq, em]; exact hn, by rw [r2.length_eq]; exact few⟩
/-- set.add of such a key -/
theorem add_key (SL : SetLike knd) (R : HSet knd s.heap a L es ep t) (mem : ∀ p ∈ L, knd.is s.heap p.2 p.1) {x : Addr} {k : κ} (hx : knd.is s.heap k x) (hu : knd.room A) (hfew : L.length + 1 < 64) {Q : Bool → Shared → Prop}
    (hQ : ∀ b h' L' es' ep' t', Heap.SameBut a s.heap h' → HSet knd h' a L' es' ep' t' → (k ∈ L.map Prod.snd → L' = L) → (k ∉ L.map Prod.snd → L'.Perm ((x, k) :: L)) → Q b { s with heap := h' }) :
    wpAny (model P w) A (setAddHashed a (.ref x) (knd.hash k)) Q E s := by
  obtain ⟨o, ho, hex, hd⟩ := R.obj
  have hsl := rows_size R.rows
  have hroom := R.room
  unfold setAddHashed
  refine wpAny_holding ?_
  rw [show (100000 : Nat) = 99999 + 1 from rfl, setAddHashedIn_succ]
  refine wpAny_bind (wpAny_setState_of ho hd R.fits ?_)
  dsimp only
  refine wp_if_neg (by simp [byScan, Value.scannable]) ?_
  try refine wpAny_bind (wpAny_pure ?_)
  refine wpAny_bind (look SL R mem hx hu (fun hm => ?_) fun K hm kn kb => ?_)
  · dsimp only
    exact wpAny_pure (hQ false s.heap L es ep t (Heap.SameBut.refl a s.heap) R (fun _ => rfl) fun z => absurd hm z)
  · dsimp only
    refine wpAny_bind (wpAny_setState_of ho hd R.fits ?_)
    dsimp only
    obtain ⟨q1, q2, q3, q4, q5, q6, q7, q8, q9⟩ := R.tab.put kn kb
    generalize t.put (way t.mask (knd.hash k) K) = pt at q1 q3 q4 q5 q6 q7 q8 q9 ⊢
    obtain ⟨t1, p⟩ := pt
    dsimp only at q1 q3 q4 q5 q6 q7 q8 q9 ⊢
    subst q1
    generalize SetTable.below t.place (way t.mask (knd.hash k) K) = p at q2 q3 ⊢
    have hin : (SetTable.insertAt es p (knd.hash k, Value.ref x)).toList = (L.take p ++ (x, k) :: L.drop p).map (rowK knd) := by
      rw [SetTable.toList_insertAt, R.rows, List.map_append, List.map_cons, List.map_take, List.map_drop]
      rfl
    have pm := put_perm L p (x, k)
    have hhs : (L.take p ++ (x, k) :: L.drop p).map (hashK knd) = (L.map (hashK knd)).take p ++ knd.hash k :: (L.map (hashK knd)).drop p := by
      rw [List.map_append, List.map_cons, List.map_take, List.map_drop]
      rfl
    rw [← hhs] at q3
    generalize SetTable.insertAt es p (knd.hash k, Value.ref x) = es1 at hin ⊢
    generalize L.take p ++ (x, k) :: L.drop p = L1 at pm q3 hin
    have hlen : L1.length = L.length + 1 := pm.length_eq
    have hes : es1.size = L.length + 1 := by rw [rows_size hin, hlen]
    have nd1 : (L1.map Prod.snd).Nodup := by
      refine (pm.map Prod.snd).nodup_iff.mpr ?_
      rw [List.map_cons]
      exact List.nodup_cons.mpr ⟨hm, R.diff⟩
    have ld1 : w.params.followText "set-order" = true ∨ t1.led = true := by rw [q5]; exact R.led
    have pz : t1.place.size = L.length + 1 := by
      have := q3.sz
      rw [List.length_map] at this
      omega
    have dz := q3.dm
    have cont : ∀ t2 : SetTable, TabOk t2 (L1.map (hashK knd)) → t2.mask = t.mask → (w.params.followText "set-order" = true ∨ t2.led = true) → t2.place.size = L.length + 1 → t2.dummies = #[] → t2.tooFull = t1.tooFull →
        wpAny (model P w) A (do
          storeSet a es1 t2
          if (!false && t2.tooFull) = true then do
            setRelay a (SetTable.grown (es.size + 1))
            pure true
          else pure true) Q E s := by
      intro t2 T2 m2 l2 z2 d2 f2
      refine wpAny_bind (wpAny_storeSet_of ho hd ?_ (by rw [hes, sizeLine_eq]; omega))
      have sb : Heap.SameBut a s.heap (s.heap.update a (Obj.putSet es1 t2)) := Heap.SameBut.update ..
      have ho1 := store_at (es' := es1) (t' := t2) ho hd
      generalize s.heap.update a (Obj.putSet es1 t2) = h1 at sb ho1 ⊢
      have fullAt : t2.tooFull = decide ((L.length + 1) * 5 ≥ t.mask * 3) := by
        rw [f2]
        unfold SetTable.tooFull
        rw [q9, List.length_map, q4]
      by_cases hf : t2.tooFull = true
      · refine wp_if_pos (by simp [hf]) ?_
        refine wpAny_bind ?_
        have hfull : (L.length + 1) * 5 ≥ t.mask * 3 := of_decide_eq_true (fullAt.symm.trans hf)
        rw [hsl]
        have go : ∀ M, SetTable.sizeAbove (SetTable.grown (L.length + 1)) - 1 = M → MaskOk M → SetTable.sizeAbove (SetTable.grown (L.length + 1)) ≤ 128 → (L.length + 1) * 5 < M * 3 → L.length + 1 ≤ t2.mask →
            wpAny (model P w) A (setRelay a (SetTable.grown (L.length + 1))) (fun _ s' => wpAny (model P w) A (pure true) Q E s') E { s with heap := h1 } := fun M b1 b2 b3 b4 b5 => by
          refine larger (s := { s with heap := h1 }) (L := L1) ho1 ⟨hex.1, hex.2.1, hex.2.2⟩ rfl hin (by rw [z2, hes]) d2 (by rw [hes]; exact b5) nd1 l2 (by omega) b1 b2 b3 (by omega) ?_
          intro h2 L2 es2 ep2 t2 sb2 R2 pm2
          exact wpAny_pure (hQ true h2 L2 es2 ep2 t2 (sb.trans sb2) R2 (fun z => absurd z hm) fun _ => pm2.trans pm)
        rcases R.tab.mok with e | e | e <;> rw [e] at hroom <;> rw [e] at hfull
        · have e2 : L.length = 4 := by omega
          exact go 31 (by rw [e2, size_20]) (.inr (.inl rfl)) (by rw [e2, size_20]; decide) (by omega) (by rw [m2, e]; omega)
        · have e2 : L.length = 18 := by omega
          exact go 127 (by rw [e2, size_76]) (.inr (.inr rfl)) (by rw [e2, size_76]; decide) (by omega) (by rw [m2, e]; omega)
        · omega
      · refine wp_if_neg (by simp [hf]) ?_
        have hroom1 : ¬ (L.length + 1) * 5 ≥ t.mask * 3 := fun z => hf (fullAt.trans (decide_eq_true z))
        exact wpAny_pure (hQ true h1 L1 es1 (ep + 1) t2 sb ⟨⟨_, ho1, ⟨hex.1, hex.2.1, hex.2.2⟩, rfl⟩, hin, T2, nd1, l2, by rw [m2]; omega, by omega⟩ (fun z => absurd z hm) fun _ => pm)
    have both : ∀ r : Bool, wpAny (model P w) A (do
          storeSet a es1 (if r = true then t1 else { t1 with plain := false })
          if (!false && (if r = true then t1 else { t1 with plain := false }).tooFull) = true then do
            setRelay a (SetTable.grown (es.size + 1))
            pure true
          else pure true) Q E s := by
      intro r
      cases r with
      | true => exact cont t1 q3 q4 ld1 pz dz rfl
      | false => exact cont { t1 with plain := false } ⟨q3.ris, q3.dm, q3.sz, q3.mok, q3.bd, q3.reach⟩ q4 ld1 pz dz rfl
    by_cases hpl : t1.plain = true
    · first
        | (refine wpAny_bind ?_; refine wp_if_pos hpl ?_; refine SL.byv hx fun r => both r)
        | (refine wp_if_pos hpl (wpAny_bind (SL.byv hx fun r => both r)))
    · first
        | (refine wpAny_bind ?_; refine wp_if_neg hpl ?_; refine wpAny_pure (both true))
        | (refine wp_if_neg hpl ?_; exact both true)
end
end Fn

set_option Elab.async false
set_option maxRecDepth 100000
set_option maxHeartbeats 4000000
/-! Sets of pairs of a text and an int; sorted of such a set; a set comprehension of tuples. -/
namespace Fn
open PySem PySem.Spec PyProof.Rows L2
/-! ### tuples of ints and texts as members -/
section
variable {P : Program} {w : World} {A : Around} {E : Value → Shared → Prop} {s : Shared}
abbrev KT2 (P : Program) (w : World) : HeapKind P w (List Key) := tupleKind (mixKind P w)
theorem items_plain {k : List Key} {vs : List Value} (h : ItemsAre (mixKind P w) k vs) : ∀ v ∈ vs, (∃ i t, v = Value.int i t) ∨ ∃ x t, v = Value.str x t := by
  induction h with
  | nil => intro v hv; cases hv
  | @cons k0 v' ks vs h1 _ ih =>
    intro v hv
    rcases List.mem_cons.mp hv with rfl | hv
    · rcases keyIs_shape (show keyIs k0 v = true from h1) with ⟨i, t, _, e⟩ | ⟨x, t, _, e⟩
      · exact .inl ⟨i, t, e⟩
      · exact .inr ⟨x, t, e⟩
    · exact ih v hv
theorem plain_class {v : Value} (h : (∃ i t, v = Value.int i t) ∨ ∃ x t, v = Value.str x t) (n : Nat) : ofAClassStatement n v = pure false := by
  rcases h with ⟨i, t, rfl⟩ | ⟨x, t, rfl⟩ <;> cases n <;> rfl
theorem plain_hash {v : Value} (h : (∃ i t, v = Value.int i t) ∨ ∃ x t, v = Value.str x t) (n : Nat) : ∃ b, hashByValue n v = pure b := by
  rcases h with ⟨i, t, rfl⟩ | ⟨x, t, rfl⟩ <;> cases n <;> exact ⟨_, rfl⟩
theorem tup_class {k : List Key} {b : Addr} {Q : Bool → Shared → Prop} (hk : IsTupleKey (mixKind P w) s.heap k b) (h : Q false s) : wpAny (model P w) A (ofAClassStatement 8 (.ref b)) Q E s := by
  have hT := hk.typeIs
  obtain ⟨o, items, n, ho, _, hd, hi⟩ := hk
  unfold ofAClassStatement
  refine wpAny_bind (wpAny_typeOf hT ?_)
  dsimp only
  have e : (("tuple" : String) == "tuple") = true := by decide
  simp only [e, if_true, Bool.not_true, Bool.false_eq_true, if_false]
  try refine wpAny_bind (wpAny_pure ?_)
  try simp only [Bool.not_true, Bool.false_eq_true, if_false]
  show wpAny _ _ (seqItems? (.ref b) >>= _) _ _ s
  refine wpAny_bind (wpAny_seqItems ho hd ?_)
  dsimp only
  refine wpAny_bind ?_
  show wpAny _ _ (forIn items _ _) _ _ s
  rw [← Array.forIn_toList]
  refine wpAny_forIn_list _ (fun rest r s' => r.1 = none ∧ s' = s ∧ ∀ v ∈ rest, (∃ i t, v = Value.int i t) ∨ ∃ x t, v = Value.str x t) _ ?_ ?_ _ _ ⟨rfl, rfl, items_plain hi⟩
  · rintro v rest r s' ⟨hr, rfl, hall⟩
    rw [plain_class (hall v List.mem_cons_self)]
    refine wpAny_bind (wpAny_pure ?_)
    simp only [Bool.false_eq_true, if_false]
    exact wpAny_pure ⟨rfl, rfl, fun u hu' => hall u (List.mem_cons_of_mem _ hu')⟩
  · rintro ⟨r1, r2⟩ s' ⟨hr, rfl, _⟩
    simp only at hr
    subst hr
    exact wpAny_pure h
theorem setLike_pairs : SetLike (KT2 P w) where
  byv := fun {A E s k b Q} hk h => by
    have hT := IsTupleKey.typeIs hk
    obtain ⟨o, items, n, ho, _, hd, hi⟩ := hk
    unfold hashByValue
    refine wpAny_bind (wpAny_specialOf hT F.slot_tuple_hash.lookup ?_)
    show wpAny _ _ (seqItems? (.ref b) >>= _) _ _ s
    refine wpAny_bind (wpAny_seqItems ho hd ?_)
    refine wpAny_bind ?_
    show wpAny _ _ (forIn items _ _) _ _ s
    rw [← Array.forIn_toList]
    refine wpAny_forIn_list _ (fun rest r s' => s' = s ∧ ∀ v ∈ rest, (∃ i t, v = Value.int i t) ∨ ∃ x t, v = Value.str x t) _ ?_ ?_ _ _ ⟨rfl, items_plain hi⟩
    · rintro v rest r s' ⟨rfl, hall⟩
      obtain ⟨bb, eb⟩ := plain_hash (hall v List.mem_cons_self) 7
      rw [eb]
      refine wpAny_bind (wpAny_pure ?_)
      cases bb
      · simp only [Bool.not_false, if_true]
        exact wpAny_pure (wpAny_pure (h _))
      · simp only [Bool.not_true, Bool.false_eq_true, if_false]
        exact wpAny_pure ⟨rfl, fun u hu' => hall u (List.mem_cons_of_mem _ hu')⟩
    · rintro ⟨r1, r2⟩ s' ⟨rfl, _⟩
      cases r1 with
      | none => exact wpAny_pure (h _)
      | some b => exact wpAny_pure (h _)
  seen := fun {A E s k b ys Q} hk hy h => by
    unfold searchCouldBeSeen
    refine wpAny_bind ?_
    refine wpAny_forIn_list _ (fun rest r s' => r.1 = none ∧ s' = s ∧ ∀ y ∈ rest, ∃ k' c, y = Value.ref c ∧ (KT2 P w).is s.heap k' c) _ ?_ ?_ _ _ ⟨rfl, rfl, hy⟩
    · rintro v rest r s' ⟨hr, rfl, hall⟩
      obtain ⟨k', c, rfl, hc⟩ := hall v List.mem_cons_self
      have rest' : ∀ y ∈ rest, ∃ k' c, y = Value.ref c ∧ (KT2 P w).is s'.heap k' c := fun u hu' => hall u (List.mem_cons_of_mem _ hu')
      dsimp only
      by_cases hv : (b == c || (carriedByValue (.ref b) && carriedByValue (.ref c))) = true
      · refine wp_if_pos hv ?_
        exact wpAny_pure ⟨rfl, rfl, rest'⟩
      · refine wp_if_neg hv ?_
        refine wpAny_bind (wpAny_eqIsQuiet_tuple hk ?_)
        simp only [Bool.not_true, Bool.false_eq_true, if_false]
        refine wpAny_bind (wpAny_eqIsQuiet_tuple hc ?_)
        simp only [Bool.not_true, Bool.false_eq_true, if_false]
        refine wpAny_bind (tup_class hk ?_)
        simp only [Bool.false_eq_true, if_false]
        refine wpAny_bind (tup_class hc ?_)
        simp only [Bool.false_eq_true, if_false]
        exact wpAny_pure ⟨rfl, rfl, rest'⟩
    · rintro ⟨r1, r2⟩ s' ⟨hr, rfl, _⟩
      simp only at hr
      subst hr
      exact wpAny_pure h
  apart := fun {h h' k a b o es ep t} hb ho hd hs => by
    obtain ⟨o', items, n, ho', hc, hd', hi⟩ := hb
    have hne : b ≠ a := by
      rintro rfl
      obtain rfl : o' = o := Option.some.inj (ho'.symm.trans ho)
      rw [hd] at hd'
      exact nomatch hd'
    exact ⟨o', items, n, (hs.2 b hne).trans ho', hc, hd', hi⟩
  keep := fun {h h' k b} hb hk => by
    obtain ⟨o, items, n, ho, r⟩ := hb
    exact ⟨o, items, n, hk b o ho, r⟩
end
/-! ### the set as a tracked thing -/
def PSetO (P : Program) (w : World) (a : Addr) (L : List (Addr × List Key)) : HO := .ext fun h => ∃ es ep t, HSet (KT2 P w) h a L es ep t
theorem pset_ok {P : Program} {w : World} {H : Hp} {h : Heap} {a : Addr} {L : List (Addr × List Key)} {es : Array (Int × Value)} {ep : Nat} {t : SetTable} (R : HSet (KT2 P w) h a L es ep t) : ObjOk P w H h a (PSetO P w a L) := by
  obtain ⟨o, ho, r⟩ := id R.obj
  refine ⟨⟨es, ep, t, R⟩, ⟨o, ho⟩, fun h1 h2 p k => ?_⟩
  obtain ⟨es1, ep1, t1, R1⟩ := p
  exact ⟨es1, ep1, t1, R1.stays k⟩
/-- the members are tuples that stand there -/
def Members (H : Hp) (L : List (Addr × List Key)) : Prop := ∀ p ∈ L, H p.1 = some (.tup (p.2.map kV))
section
variable {X : Cx} {pins : List (Addr × Obj)} {σ : L2.St} {H : Hp} {s : Shared}
theorem setp_add {A : Around} {E : Value → Shared → Prop} {D b : Addr} {k : List Key} {L : List (Addr × List Key)} {Q : Value → Shared → Prop} (hu : A.units + 8 < cLine) (I : Inv X pins σ H s) (hD : H D = some (PSetO X.prog X.w D L)) (hm : Members H L) (hb : H b = some (.tup (k.map kV))) (few : L.length + 1 < 64)
    (h : ∀ s' L', (k ∈ L.map Prod.snd → L' = L) → (k ∉ L.map Prod.snd → L'.Perm ((b, k) :: L)) → Inv X pins σ (upd H D (PSetO X.prog X.w D L')) s' → Q .none s') :
    wpAny (model X.prog X.w) A (call (.builtin "set.add") [.ref D, .ref b]) Q E s := by
  obtain ⟨⟨es, ep, t, R⟩, _⟩ := I.hok D _ hD
  obtain ⟨o, ho, hex, hd⟩ := id R.obj
  have hT : s.TypeIs (.ref D) "set" := ⟨o, ho, hex.1⟩
  refine wpAny_call_entry F.slot_set_add hT F.entry_set_add ?_ (F.args_set_add_2 _ _)
  unfold Builtin.«set.add» Builtin.Frozenset.oneOther
  simp only [List.isEmpty_nil, bind_assoc]
  unfold Builtin.Frozenset.addrOf setAdd
  refine wpAny_bind (wpAny_pure ?_)
  try dsimp only
  refine wpAny_bind (wpAny_pure ?_)
  try dsimp only
  refine wpAny_bind ?_
  refine wpAny_holding ?_
  have hkb : (KT2 X.prog X.w).is s.heap k b := key_of I.hok hb
  refine wpAny_bind ((KT2 X.prog X.w).pyHash (show A.in1.units < cLine by show A.units + 1 < cLine; omega) hkb ?_)
  refine add_key (s := { s with toks := s.toks + (k.length + 1) }) setLike_pairs R (fun p hp => key_of I.hok (hm p hp)) hkb (show A.in1.units < cLine by show A.units + 1 < cLine; omega) few fun bb h' L' es' ep' t' sb R' c1 c2 => ?_
  show wpAny _ _ (ret Value.none) _ _ _
  obtain ⟨o', ho', _⟩ := id R'.obj
  exact wpAny_pure ⟨_, rfl, h _ L' c1 c2 (I.write (e := D) (t' := s.toks + (k.length + 1)) (by rw [hD]; trivial) (.inl rfl) (fun b u hb hu => (sb.2 b hb).trans hu) ⟨o', ho'⟩ (pset_ok R'))⟩
end
/-! ### the comprehension -/
def tScP (P : Program) (w : World) (wi : TI) (g : TG) (tt : TT) (te : TE) (vs : List Nat) : TE := fun σ H Q => wi σ H fun J H1 => ∀ D, H1 D = none → ∃ W : Nat → Nat → Hp → Prop, (∃ m, W 0 m (upd H1 D (PSetO P w D []))) ∧ ∀ i m H, W i m H →
  (J.stop i H ∧ Q (.ref D) H) ∨ (J.go i H ∧ ∃ Nx : Hp → Prop, (∀ H', Nx H' → ∃ m', m' < m ∧ W (i + 1) m' H') ∧ ∀ x H', J.yld i H x H' → g x (wipe σ vs) H' fun σ2 H2 => wipe σ2 vs = wipe σ vs ∧ tt σ2 H2 fun b H3 =>
    if b = true then te σ2 H3 fun y H4 => ∃ (c : Addr) (k : List Key) (L : List (Addr × List Key)), y = .ref c ∧ H4 c = some (.tup (k.map kV)) ∧ H4 D = some (PSetO P w D L) ∧ Members H4 L ∧ L.length + 1 < 64 ∧
      ∀ L', (k ∈ L.map Prod.snd → L' = L) → (k ∉ L.map Prod.snd → L'.Perm ((c, k) :: L)) → Nx (upd H4 D (PSetO P w D L')) else Nx H3)
section
variable {X : Cx}
theorem pe_scP {elt tg iter : Expr} {ifs : List Expr} {scope : Scope} {own : List (PySem.Str × Nat)} {pos : Pos} {wi : TI} {g : TG} {tt : TT} {te : TE} (hu : X.A.units + 64 < cLine) (hc : X.calm = true) (hN : X.N.Nodup) (hi : PI X tg iter wi) (ok : BlkOk X.N X.env.scope scope own)
    (hg : ∀ (s : Shared) (H : Hp) (C : Addr) (cl : List (PySem.Str × Addr)) (fp : List Addr), PG (X.blk s H scope (compEnvC scope cl C X.env) fp) tg g) (ht : ∀ (s : Shared) (H : Hp) (C : Addr) (cl : List (PySem.Str × Addr)) (fp : List Addr), PTs (X.blk s H scope (compEnvC scope cl C X.env) fp) ifs tt)
    (he : ∀ (s : Shared) (H : Hp) (C : Addr) (cl : List (PySem.Str × Addr)) (fp : List Addr), PE (X.blk s H scope (compEnvC scope cl C X.env) fp) elt te) (hs : ∀ x, foldedSetIterable iter X.env x = pure x := by intro _; rfl) :
    PE X (.SetComp elt [⟨tg, iter, ifs, 0⟩] scope pos) (tScP X.prog X.w wi g tt te (own.map (·.2))) := by
  refine ⟨fun pins s σ H Q I h => ?_⟩
  rw [PpSet.eval_SetComp]
  have hfree : ∀ y ∈ scope.names, y.2 = .free → ∃ c, X.env.cells.lookup y.1 = some c := fun y hy e => by
    rcases ok.free y hy e with k | k
    · exact I.ok.has _ (.inl k)
    · exact I.ok.has _ (.inr k)
  refine wpAny_comprehension_free (use := none) rfl hs (closure_ok hfree) ok.kind (fun y hy e => by rw [ok.uniq y hy, e])
    (thn (hi.run pins s σ H _ I h) fun xv s1 hx => thn hx fun itv s2 h2 => ?_)
  obtain ⟨it, fp, tn, J, H2, e, I2, T, st2, f2, q⟩ := h2
  subst e
  refine PpSet.newSet_ok (newEnv_comp ?_)
  generalize hD : s2.heap.objs.size = D
  have hDn : H2 D = none := I2.hok.fresh (Nat.le_of_eq hD)
  obtain ⟨W, ⟨m0, w0⟩, turn⟩ := q D hDn
  generalize hs3 : ({ s2 with heap := s2.heap.push { cls := .type "set", dict := none, data := .set #[] 0 (.fresh 0 0 (!X.w.params.followText "set-order")) } } : Shared) = s3
  have I3 : Inv X pins σ (upd H2 D (PSetO X.prog X.w D [])) s3 := by
    rw [← hs3]
    refine I2.laid (t' := s2.toks) (fun b o e => Heap.get?_push_of_some _ e) (Nat.le_of_eq hD) ?_
    rw [← hD]
    exact pset_ok (HSet.empty (Heap.get?_push_size _ rfl))
  have h3 : s3.heap = s2.heap.push { cls := .type "set", dict := none, data := .set #[] 0 (.fresh 0 0 (!X.w.params.followText "set-order")) } := by rw [← hs3]
  have f3 : ∀ b ∈ fp, FpOk X pins (upd H2 D (PSetO X.prog X.w D [])) b ∧ b < s3.heap.objs.size := fun b hb => by
    obtain ⟨o, e, _⟩ := T.obj _ _ st2 b hb
    have hlt := Heap.lt_size e
    refine ⟨⟨?_, (f2 b hb).2⟩, by rw [h3, Heap.size_push]; exact Nat.lt_succ_of_lt hlt⟩
    rw [upd_ne (by rw [← hD]; exact Nat.ne_of_lt hlt)]
    exact (f2 b hb).1
  have st3 : tn 0 s3.heap := T.keep _ _ _ st2 fun b _ o e => by rw [h3]; exact Heap.get?_push_of_some _ e
  have I4 := block_start I3 ok hN f3
  have pg := hg s3 (upd H2 D (PSetO X.prog X.w D [])) s3.heap.objs.size (cellsFrom (s3.heap.objs.size + 1) scope.names (cloFrom X.env.cells scope.names [])) fp
  have pt := ht s3 (upd H2 D (PSetO X.prog X.w D [])) s3.heap.objs.size (cellsFrom (s3.heap.objs.size + 1) scope.names (cloFrom X.env.cells scope.names [])) fp
  have pe := he s3 (upd H2 D (PSetO X.prog X.w D [])) s3.heap.objs.size (cellsFrom (s3.heap.objs.size + 1) scope.names (cloFrom X.env.cells scope.names [])) fp
  show codeAny _ _ (.compStart (.SetComp elt [⟨tg, iter, ifs, 0⟩] scope pos) 0 (.ref it) (.ref D) (compEnvC scope (cellsFrom (s3.heap.objs.size + 1) scope.names (cloFrom X.env.cells scope.names [])) s3.heap.objs.size X.env)) (compPost (model X.prog X.w) X.A X.xe none (EP X pins σ Q) (.ref D) s3.heap.objs.size) { s3 with heap := pushCells (s3.heap.push { cls := .type "dict", data := .dict #[] }) scope.names }
  have nfp : ∀ b ∈ fp, (upd H2 D (PSetO X.prog X.w D [])) b = none := fun b hb => (f3 b hb).1.1
  generalize hce : compEnvC scope (cellsFrom (s3.heap.objs.size + 1) scope.names (cloFrom X.env.cells scope.names [])) s3.heap.objs.size X.env = ce at I4 pg pt pe ⊢
  have cL : ce.locals = s3.heap.objs.size := by subst hce; rfl
  generalize hH3 : upd H2 D (PSetO X.prog X.w D []) = H3 at I3 I4 pg pt pe w0 nfp f3
  generalize hs4 : ({ s3 with heap := pushCells (s3.heap.push { cls := .type "dict", data := .dict #[] }) scope.names } : Shared) = s4 at I4 ⊢
  have st4 : tn 0 s4.heap := T.keep _ _ _ st3 fun b _ o e => by rw [← hs4]; exact pushCells_keeps _ _ _ _ (Heap.get?_push_of_some _ e)
  have stat : ∀ {σ' : L2.St} {H' : Hp} {s' : Shared}, Inv (X.blk s3 H3 scope ce fp) [] σ' H' s' → (∀ b ∈ fp, H' b = none) → ∀ b ∈ fp, FpOk (X.blk s3 H3 scope ce fp) [] H' b := fun {σ' H' s'} I' hn b hb =>
    ⟨hn b hb, (I'.ok.exf b hb).1, I'.ok.exfs b hb, .inl hb, fun x c e => (I'.ok.exf b hb).2 x c e, fun p hp => absurd (show p ∈ ([] : List (Addr × Obj)) ++ [] from hp) (by simp)⟩
  have loop : codeAny (model X.prog X.w) X.A (.compLoop (.SetComp elt [⟨tg, iter, ifs, 0⟩] scope pos) 0 (.ref it) (.ref D) ce) (compPost (model X.prog X.w) X.A X.xe none (EP X pins σ Q) (.ref D) s3.heap.objs.size) s4 := by
    refine PpSet.compLoopS_any (fun n s' => ∃ i H', Inv (X.blk s3 H3 scope ce fp) [] (wipe σ (own.map (·.2))) H' s' ∧ tn i s'.heap ∧ (∀ b ∈ fp, H' b = none) ∧ W i n H') ?_ m0 ⟨0, H3, I4, st4, nfp, w0⟩
    rintro n s5 ⟨i, H5, I5, st5, n5, w5⟩
    rcases turn i n H5 w5 with ⟨stop, qq⟩ | ⟨go, Nx, hNx, step⟩
    · have td := T.done (X.blk s3 H3 scope ce fp) rfl rfl rfl hc i [] s5 _ H5 (fun _ _ => False) I5 (stat I5 n5) st5 stop
      refine thnF td fun r s6 ⟨hr, I6⟩ => ?_
      subst hr
      have I7 : Inv X pins σ H5 s6 := I3.call' (ch := fp) I6.os I6.base I6.hok I6.bare fun b hb => ⟨(f3 b hb).1.2.2.2.1, (f3 b hb).1.2.1, (f3 b hb).1.2.2.2.2.1, (f3 b hb).1.2.2.2.2.2⟩
      have nC : H5 s3.heap.objs.size = none := by
        have z : H5 ce.locals = none := I6.free
        rw [cL] at z
        exact z
      obtain ⟨m, hn, _⟩ := I6.loc
      have hn : s6.heap.Ns ce.locals m := hn
      rw [cL] at hn
      obtain ⟨g0, g1, g2, g3, g4, g5⟩ := (I3.fpOk (Nat.le_refl _) nC)
      refine ⟨m, hn, fun h'' sb => ?_⟩
      exact ⟨.ref D, H5, I7.turned (t' := s6.toks) (fun b o hb e => (sb.2 b hb).trans e) nC g1 g3 g4 g5, rfl, qq⟩
    · have ti := T.item (X.blk s3 H3 scope ce fp) rfl rfl rfl hc i [] s5 _ H5 (fun _ _ => False) I5 (stat I5 n5) st5 go
      refine thnF ti fun r s6 ⟨u, hr, h6⟩ => ?_
      subst hr
      refine thnF h6 fun _ s7 ⟨x, H7, I7, r7, y7, st7, n7⟩ => ?_
      have I7' := I7.pinned (stat I7 n7) (T.obj _ _ st7)
      refine thnF (pg.run _ s7 _ H7 x u _ I7' r7 (step x H7 y7)) fun _ s8 ⟨σ8, H8, I8, hw8, q8⟩ => ?_
      refine thnF (pt.run _ s8 σ8 H8 _ I8 q8) fun b s9 ⟨H9, I9, q9⟩ => ?_
      have fin : ∀ {s' : Shared} {H' : Hp}, Inv (X.blk s3 H3 scope ce fp) ([] ++ pinsAt fp s7.heap) σ8 H' s' → Nx H' → ∃ m, m < n ∧ ∃ i H', Inv (X.blk s3 H3 scope ce fp) [] (wipe σ (own.map (·.2))) H' s' ∧ tn i s'.heap ∧ (∀ b ∈ fp, H' b = none) ∧ W i m H' := fun {s' H'} I' nx => by
        obtain ⟨m', hm, w'⟩ := hNx H' nx
        have pin' : ∀ b ∈ fp, ∀ o, s7.heap.get? b = some o → s'.heap.get? b = some o ∧ H' b = none := fun b hb o e =>
          let z := I'.pin (b, o) (List.mem_append_right _ (List.mem_append_right _ (mem_pinsAt hb e)))
          ⟨z.1, z.2.1⟩
        have hl : (wipe σ (own.map (·.2))).length = σ8.length := by rw [← hw8, wipe_length]
        refine ⟨m', hm, i + 1, H', (I'.unpinned (pins := [])).weak hl (fun j v e => ?_), T.keep _ _ _ st7 fun b hb o e => (pin' b hb o e).1, fun b hb => ?_, w'⟩
        · rw [← hw8] at e
          exact (wipe_some e).1
        · obtain ⟨o, e, _⟩ := T.obj _ _ st7 b hb
          exact (pin' b hb o e).2
      cases b with
      | false =>
        simp only [Bool.false_eq_true, if_false] at q9 ⊢
        exact fin I9 q9
      | true =>
        simp only [if_true] at q9 ⊢
        refine thnF (pe.run _ s9 σ8 H9 _ I9 q9) fun z s10 ⟨yv, H10, I10, r10, c, k, L, ey, hc10, hD10, hm10, few, nx⟩ => ?_
        subst ey
        cases (show z = Value.ref c from r10)
        exact setp_add (X := X.blk s3 H3 scope ce fp) (A := X.A) (by omega) I10 hD10 hm10 hc10 few fun s11 L' c1 c2 I11 => fin I11 (nx L' c1 c2)
  exact PpSet.codeAny_compStart_set loop (T.self X.A 0 _ _ _ st4 loop)
end
/-! ### sorted of such a set -/
def lexS (p q : Str × Int) : Bool := if p.1 = q.1 then decide (p.2 < q.2) else decide (p.1.cps.toList < q.1.cps.toList)
theorem str_ne {x y : Str} (h : x ≠ y) : x.cps.toList ≠ y.cps.toList := by
  obtain ⟨x⟩ := x
  obtain ⟨y⟩ := y
  intro e
  exact h (by rw [show x = y from Array.toList_inj.mp e])
theorem lexS_iff {p q : Str × Int} : lexS p q = true ↔ p.1.cps.toList < q.1.cps.toList ∨ (p.1 = q.1 ∧ p.2 < q.2) := by
  unfold lexS
  by_cases e : p.1 = q.1
  · rw [if_pos e, decide_eq_true_eq, e]
    constructor
    · exact fun h => .inr ⟨rfl, h⟩
    · rintro (h | h)
      · exact absurd h (List.lt_irrefl _)
      · exact h.2
  · rw [if_neg e, decide_eq_true_eq]
    constructor
    · exact .inl
    · rintro (h | h)
      · exact h
      · exact absurd h.1 e
theorem lexS_tot {p q : Str × Int} (h : lexS q p = false) : lexS p q = true ∨ p = q := by
  by_cases e : p.1 = q.1
  · have h2 : ¬ q.2 < p.2 := fun z => by
      rw [lexS_iff.mpr (.inr ⟨e.symm, z⟩)] at h
      cases h
    rcases Int.lt_trichotomy p.2 q.2 with c | c | c
    · exact .inl (lexS_iff.mpr (.inr ⟨e, c⟩))
    · exact .inr (Prod.ext e c)
    · exact absurd c h2
  · have h2 : ¬ q.1.cps.toList < p.1.cps.toList := fun z => by
      rw [lexS_iff.mpr (.inl z)] at h
      cases h
    rw [List.not_lt] at h2
    rcases List.le_iff_lt_or_eq.mp h2 with c | c
    · exact .inl (lexS_iff.mpr (.inl c))
    · exact absurd c (str_ne e)
theorem lexS_asym {p q : Str × Int} (h : lexS p q = true) : lexS q p = false := by
  cases h2 : lexS q p with
  | false => rfl
  | true =>
    rcases lexS_iff.mp h with a | ⟨a, b⟩
    · rcases lexS_iff.mp h2 with c | ⟨c, d⟩
      · exact absurd (List.lt_trans a c) (List.lt_irrefl _)
      · rw [c] at a
        exact absurd a (List.lt_irrefl _)
    · rcases lexS_iff.mp h2 with c | ⟨c, d⟩
      · rw [a] at c
        exact absurd c (List.lt_irrefl _)
      · omega
theorem lexS_trans {p q r : Str × Int} (h1 : lexS p q = true) (h2 : lexS q r = true) : lexS p r = true := by
  rcases lexS_iff.mp h1 with a | ⟨a, b⟩
  · rcases lexS_iff.mp h2 with c | ⟨c, d⟩
    · exact lexS_iff.mpr (.inl (List.lt_trans a c))
    · rw [c] at a
      exact lexS_iff.mpr (.inl a)
  · rcases lexS_iff.mp h2 with c | ⟨c, d⟩
    · rw [← a] at c
      exact lexS_iff.mpr (.inl c)
    · exact lexS_iff.mpr (.inr ⟨a.trans c, by omega⟩)
theorem swo_lexS {α : Type} (k : α → Str × Int) : SrtO.Swo fun v u => lexS (k v) (k u) := by
  refine ⟨fun x y h => lexS_asym h, fun x y z h1 h2 => ?_⟩
  rcases lexS_tot h1 with a | a
  · rcases lexS_tot h2 with b | b
    · exact lexS_asym (lexS_trans a b)
    · rw [← b]
      exact lexS_asym a
  · rw [a]
    exact h2
/-- a pair of a text and an int -/
def IsPairS (h : Heap) (v : Value) (p : Str × Int) : Prop := ∃ a o t u n, v = .ref a ∧ h.get? a = some o ∧ o.cls = .type "tuple" ∧ o.data = .seq #[.str p.1 t, .int p.2 u] n
section
variable {prog : Program} {w : World} {A : Around} {E : Value → Shared → Prop} {s : Shared}
theorem pairS_cmp {vs : List Value} {k : Value → Str × Int} (hp : ∀ v ∈ vs, IsPairS s.heap v (k v)) : SrtO.Cmp prog w A s (tuples' true) (fun p => p.1 ∈ vs) (SrtO.lt2 fun v u => lexS (k v) (k u)) := by
  intro p q hm hm'
  obtain ⟨a, o, t, u, n, e, ho, hc, hd⟩ := hp _ hm
  obtain ⟨a', o', t', u', n', e', ho', hc', hd'⟩ := hp _ hm'
  show wpAny (model prog w) A (keyLt' (tuples' true) p.1 q.1) (fun r s' => s' = s ∧ r = lexS (k p.1) (k q.1)) (fun _ _ => False) s
  unfold lexS
  generalize k p.1 = x at hd ⊢
  generalize k q.1 = y at hd' ⊢
  rw [e, e']
  refine PySem.W.kat_lt ho hd ho' hd' ?_
  show PySem.W.KatLex prog w A true (decide (2 < 2)) _ [(.str x.1 t, .str y.1 t'), (.int x.2 u, .int y.2 u')] 0 s
  refine PySem.W.kat_cons (SeqAt.EqAt.str_str x.1 t y.1 t' prog w _ _ ?_)
  refine PySem.W.kat_go (fun e1 => ?_) (fun e1 => ?_)
  · have ex : x.1 = y.1 := by simpa using e1
    refine PySem.W.kat_yes (PySem.W.kat_cons (SeqAt.EqAt.int_int x.2 u y.2 u' prog w _ _ ?_))
    refine PySem.W.kat_go (fun e2 => ?_) (fun e2 => ?_)
    · have ey : x.2 = y.2 := by simpa using e2
      refine PySem.W.kat_yes (PySem.W.kat_nil ⟨rfl, ?_⟩)
      rw [if_pos ex, ey]
      exact (decide_eq_false (Int.lt_irrefl _)).symm
    · refine PySem.W.kat_no (PySem.W.kat_one _ _ (PyProof.Rows.lt_int ?_))
      exact (show s = s ∧ decide (x.2 < y.2) = (if x.1 = y.1 then decide (x.2 < y.2) else decide (x.1.cps.toList < y.1.cps.toList)) from ⟨rfl, (if_pos ex).symm⟩)
  · have ex : ¬ x.1 = y.1 := by simpa using e1
    exact PySem.W.kat_no (oneLt_str ⟨rfl, (if_neg ex).symm⟩)
theorem firstsS {h : Heap} : ∀ {vs : List Value}, (∀ v ∈ vs, ∃ p, IsPairS h v p) → ∃ fs : List Value, PySem.W.KatTups h vs fs ∧ fs.length = vs.length ∧ ∀ f ∈ fs, ∃ x t, f = Value.str x t
  | [], _ => ⟨[], PySem.W.KatTups.nil, rfl, fun _ hm => by simp at hm⟩
  | v :: vs, hp => by
    obtain ⟨fs, h1, h2, h3⟩ := firstsS (vs := vs) fun v' hm => hp v' (List.mem_cons_of_mem _ hm)
    obtain ⟨p, a, o, t, u, n, rfl, ho, hc, hd⟩ := hp v List.mem_cons_self
    refine ⟨.str p.1 t :: fs, PySem.W.KatTups.cons ho hc hd rfl h1, by rw [List.length_cons, List.length_cons, h2], fun f hm => ?_⟩
    rcases List.mem_cons.mp hm with rfl | hm
    · exact ⟨p.1, t, rfl⟩
    · exact h3 f hm
theorem pairS_keeps {h h' : Heap} {v : Value} {p : Str × Int} (x : IsPairS h v p) (k : ∀ b o, h.get? b = some o → o.cls = .type "tuple" → h'.get? b = some o) : IsPairS h' v p := by
  obtain ⟨a, o, t, u, n, e, ho, hc, hd⟩ := x
  exact ⟨a, o, t, u, n, e, k _ _ ho hc, hc, hd⟩
theorem pairS_sortable {a : Addr} {vs : List Value} {k : Value → Str × Int} (h0 : 0 < vs.length) (hp : ∀ v ∈ vs, IsPairS s.heap v (k v)) (ha : ∀ o, s.heap.get? a = some o → o.cls ≠ .type "tuple") : SrtO.SortableO prog w A s a vs fun v u => lexS (k v) (k u) := by
  intro h' keep
  have hp' : ∀ v ∈ vs, IsPairS h' v (k v) := fun v hm => pairS_keeps (hp v hm) fun b o e c => keep b o (fun z => by subst z; exact ha o e c) e
  obtain ⟨fs, h1, h2, h3⟩ := firstsS fun v hm => ⟨_, hp' v hm⟩
  refine ⟨tuples' true, fun Q E hq => ?_, pairS_cmp hp'⟩
  refine PySem.W.kat_kind (T := .type "str") h1 (by omega) (fun f hm => ?_) (by rfl) ?_
  · obtain ⟨x, t, rfl⟩ := h3 f hm
    exact PySem.W.Looks.now
  · have e : (Value.type "str" != Value.type "tuple") = true := by first | decide +kernel | rfl | decide
    rw [e]
    exact hq
end
theorem perm_map_inv {α β : Type} {f : α → β} : ∀ {l m : List β}, l.Perm m → ∀ L : List α, m = L.map f → ∃ L' : List α, L'.Perm L ∧ l = L'.map f := by
  intro l m h
  induction h with
  | nil => intro L e; exact ⟨[], by rw [List.map_eq_nil_iff.mp e.symm], rfl⟩
  | @cons x l m h ih =>
    intro L e
    obtain ⟨y, L1, rfl, rfl, e1⟩ := List.map_eq_cons_iff.mp e.symm
    obtain ⟨L', p, rfl⟩ := ih L1 e1.symm
    exact ⟨y :: L', p.cons y, rfl⟩
  | swap x y l =>
    intro L e
    obtain ⟨a, L1, rfl, rfl, e1⟩ := List.map_eq_cons_iff.mp e.symm
    obtain ⟨b, L2, rfl, rfl, e2⟩ := List.map_eq_cons_iff.mp e1
    subst e2
    exact ⟨b :: a :: L2, List.Perm.swap .., rfl⟩
  | trans h1 h2 ih1 ih2 =>
    intro L e
    obtain ⟨L2, p2, e2⟩ := ih2 L e
    obtain ⟨L1, p1, e1⟩ := ih1 L2 e2
    exact ⟨L1, p1.trans p2, e1⟩
/-- the pair that stands at an address -/
def pairAt (H : Hp) (a : Addr) : Str × Int := match H a with
  | some (.tup [.str x, .int i]) => (x, i)
  | _ => ("", 0)
def PairsAt (H : Hp) (L : List (Addr × List Key)) : Prop := ∀ p ∈ L, ∃ x i, p.2 = [Sum.inr x, Sum.inl i] ∧ H p.1 = some (.tup [.str x, .int i])
def rSortP (P : Program) (w : World) : List V → Hp → VK → Prop := fun vs H Q => ∃ (a : Addr) (L : List (Addr × List Key)), vs = [V.ref a] ∧ H a = some (PSetO P w a L) ∧ PairsAt H L ∧ 
  ∀ (as : List Addr) (p : Addr), as.Perm (L.map Prod.fst) → as.Pairwise (fun b c => lexS (pairAt H c) (pairAt H b) = false) → H p = none → Q (.ref p) (upd H p (.lst (as.map V.ref)))
theorem cr_sortP {X : Cx} (hc : X.calm = true) : CallR X (.builtin "sorted") (rSortP X.prog X.w) := by
  intro pins s σ H vs us Q I r h
  obtain ⟨a, L, rfl, ha, hL, q⟩ := h
  obtain ⟨⟨es, ep, t, R⟩, _⟩ := I.hok a _ ha
  obtain ⟨o, ho, hex, hd⟩ := id R.obj
  have hsz := rows_size R.rows
  have hfew := R.few
  rw [Vals.ref1 r]
  let k : Value → Str × Int := fun v => match v with | .ref b => pairAt H b | _ => ("", 0)
  have pk : ∀ b ∈ L.map Prod.fst, IsPairS s.heap (.ref b) (k (.ref b)) := by
    intro b hb
    obtain ⟨p, hp, rfl⟩ := List.mem_map.mp hb
    obtain ⟨x, i, e, hx⟩ := hL p hp
    obtain ⟨_, its, rv, ob, h1, h2, n, h3⟩ := I.hok _ _ hx
    obtain ⟨u1, u2, rfl, ⟨t1, rfl⟩, t2, rfl⟩ := vals2 rv
    have ek : k (.ref p.1) = (x, i) := by
      show pairAt H p.1 = _
      unfold pairAt
      rw [hx]
    rw [ek]
    exact ⟨p.1, ob, t1, t2, n, rfl, h1, h2, h3⟩
  refine Calls.call_function_entry kind_sorted plain_sorted entry_sorted (args_sorted1 _) ?_
  unfold Builtin.«sorted»
  refine wpAny_bind (m := checkCount "sorted" 1 1 _) (wpAny_pure ?_)
  refine wpAny_bind (collect_set (P := X.prog) (w := X.w) (A := X.A.in1) (I.ok.hd hc) ⟨o, ho, hex.1, hd⟩ R.fits (by unfold scanBound; omega) R.tab.ris R.led fun s1 vs k1 hz g1 o1 pm => ?_)
  have hes : es.toList.map (·.2) = (L.map Prod.fst).map Value.ref := by
    rw [R.rows, List.map_map, List.map_map]
    rfl
  rw [hes] at pm
  obtain ⟨as0, pas0, rfl⟩ := perm_map_inv pm (L.map Prod.fst) rfl
  have hvl : (as0.map Value.ref).length < 64 := by rw [List.length_map, pas0.length_eq, List.length_map]; exact hfew
  refine wpAny_bind (wpAny_newList ?_ (by rw [sizeLine_eq]; omega))
  have hoL : (s1.heap.push (seqObj "list" (as0.map Value.ref).toArray 0)).get? s1.heap.objs.size = some (seqObj "list" (as0.map Value.ref).toArray 0) := Heap.get?_push_size _ rfl
  have pk1 : ∀ v ∈ as0.map Value.ref, IsPairS (s1.heap.push (seqObj "list" (as0.map Value.ref).toArray 0)) v (k v) := by
    intro v hv
    obtain ⟨b, hb, rfl⟩ := List.mem_map.mp hv
    exact pairS_keeps (pk b (pas0.mem_iff.mp hb)) fun c u e _ => Heap.get?_push_of_some _ (k1 c u e)
  refine wpAny_bind (wpAny_holding (wpAny_call_entry slot_list_sort ⟨_, hoL, rfl⟩ entry_list_sort (SrtO.list_sort_ord (s := { s1 with heap := s1.heap.push (seqObj "list" (as0.map Value.ref).toArray 0) }) (swo_lexS k) hoL (by rw [sizeLine_eq]; omega) (fun h2 => pairS_sortable (by omega) pk1 fun o2 e2 c2 => ?_) fun out hs hb => ⟨_, rfl, ?_⟩) (args_list_sort _)))
  · have e3 : some o2 = some (seqObj "list" (as0.map Value.ref).toArray 0) := e2.symm.trans hoL
    cases e3
    exact absurd (Value.type.inj c2) (by decide)
  · obtain ⟨as, pas, rfl⟩ := perm_map_inv hb.perm as0 rfl
    obtain ⟨c, hcl⟩ := sortedHeap_at (vs := as0.map Value.ref) (out := (as.map Value.ref).toArray) hoL
    have keep : ∀ b u, s.heap.get? b = some u → (sortedHeap (s1.heap.push (seqObj "list" (as0.map Value.ref).toArray 0)) s1.heap.objs.size (as0.map Value.ref) (as.map Value.ref).toArray).get? b = some u := fun b u e => by
      have q := k1 b u e
      have hlt := Heap.lt_size q
      rw [sortedHeap_old (Nat.ne_of_lt hlt) (by rw [size_push']; exact Nat.lt_succ_of_lt hlt)]
      exact Heap.get?_push_of_some _ q
    have hn : H s1.heap.objs.size = none := I.hok.fresh hz
    have hlen : (as.map V.ref).length ≤ sizeLine := by rw [List.length_map, pas.length_eq, sizeLine_eq]; rw [List.length_map] at hvl; omega
    have vr : ∀ l : List Addr, Vals (l.map V.ref) (l.map Value.ref) := fun l => by
      induction l with
      | nil => exact .nil
      | cons b l ih => exact .cons rfl ih
    have J : Inv X pins σ (upd H s1.heap.objs.size (.lst (as.map V.ref))) { s with heap := sortedHeap (s1.heap.push (seqObj "list" (as0.map Value.ref).toArray 0)) s1.heap.objs.size (as0.map Value.ref) (as.map Value.ref).toArray, gens := s1.gens, drawn := s1.drawn, toks := s1.toks } :=
      I.call (ch := []) (Un.laid keep hz hn) (I.hok.laid keep hz ⟨hlen, as.map Value.ref, c, vr as, hcl⟩) (by rw [g1]; exact I.bare) (fun _ z => nomatch z)
    refine wpAny_pure ⟨_, rfl, ?_⟩
    have e : ({ s1 with heap := sortedHeap (s1.heap.push (seqObj "list" (as0.map Value.ref).toArray 0)) s1.heap.objs.size (as0.map Value.ref) (as.map Value.ref).toArray } : Shared) = { s with heap := sortedHeap (s1.heap.push (seqObj "list" (as0.map Value.ref).toArray 0)) s1.heap.objs.size (as0.map Value.ref) (as.map Value.ref).toArray, gens := s1.gens, drawn := s1.drawn, toks := s1.toks } := by
      cases s1
      cases s
      cases o1
      rfl
    refine ⟨.ref s1.heap.objs.size, _, by rw [← e] at J; exact J, rfl, q as _ (pas.trans pas0) ?_ hn⟩
    exact List.pairwise_map.mp hs
end Fn

set_option Elab.async false
set_option maxRecDepth 100000
set_option maxHeartbeats 2000000
/-! Instances that are made by a def which may raise, within a try or not; a class held by a local; a classmethod; len of an instance. -/
namespace Fn
open PySem PySem.Spec PyProof.Rows L2
section
variable {X : Cx} {CX : CXT} {k : Nat} {f C : Addr} {fd : FuncData} {ps : List Str} {sp : Sp} {E : L2.St → XK}
theorem run_rawS {pins : List (Addr × Obj)} {σ : L2.St} {H : Hp} {s : Shared} {Q : VK} {us : List Value} {vs : List V} (F : FnR X.prog X.w X.K X.mg X.base CX k f sp) (hr : Room k X.A) (hx : PassesAt CX X σ (E σ)) (I : Inv X pins σ H s) (r : Vals vs us) (h : sp vs H Q (E σ)) :
    codeAny (model X.prog X.w) X.A (.call (.ref f) ⟨us, []⟩) (fun r s' => match r with | .ok (.ret v) => EP X pins σ Q v s' | .ok _ => False | .error e => X.xe e s') s := by
  refine codeAny_mono (F X.A X.stack s H us vs Q (E σ) hr I.env0 r h) fun r s' hq => ?_
  cases r with
  | error e => exact hx pins H s e s' I hq
  | ok fl =>
    cases fl with
    | ret u => exact I.after hq
    | next => exact False.elim hq
    | brk => exact False.elim hq
    | cont => exact False.elim hq
theorem raw0 {P : Program} {w : World} {K : PySem.W.Frag} {mg : PySem.Str → Option Value} {base : Heap} {CX : CXT} (F : FnOk P w K mg base CX k f fd ps sp) (hb : Binds K fd ps []) : FnR P w K mg base CX k f sp :=
  (F.raw hb .nil).imp fun vs H Q E h => by
    show sp (vs ++ []) H Q E
    rw [List.append_nil]
    exact h
/-- C(e, ..); what the caller wishes of an exception may hang on the slots -/
def tMakeS (C : Addr) (sp : Sp) (E : L2.St → XK) (t : TA) : TE := fun σ H Q => t σ H fun vs H1 => ∀ x dx, H1 x = Option.none → H1 dx = Option.none → dx ≠ x →
  sp (V.ref x :: vs) (upd (upd H1 dx (.own x)) x (.ins C dx [])) (fun v H2 => v = .non ∧ Q (.ref x) H2) (E σ)
theorem run_makeS {pins : List (Addr × Obj)} {σ : L2.St} {H : Hp} {s : Shared} {Q : VK} {us : List Value} {vs : List V} (M : Mk X.K C f) (F : FnOk X.prog X.w X.K X.mg X.base CX k f fd ps sp) (hb : Binds X.K fd ps []) (hr : Room (k + 1) X.A) (hx : PassesAt CX X σ (E σ)) (I : Inv X pins σ H s) (r : Vals vs us)
    (h : ∀ x dx, H x = Option.none → H dx = Option.none → dx ≠ x → sp (V.ref x :: vs) (upd (upd H dx (.own x)) x (.ins C dx [])) (fun v H2 => v = .non ∧ Q (.ref x) H2) (E σ)) :
    wpAny (model X.prog X.w) X.A (call (.ref C) us) (EP X pins σ Q) X.xe s := by
  have hq := h (s.heap.objs.size + 1) s.heap.objs.size (I.hok.fresh (Nat.le_succ _)) (I.hok.fresh (Nat.le_refl _)) (Nat.ne_of_lt (Nat.lt_succ_self _))
  have I2 := Inv.made (C := C) I
  have r2 : Vals (V.ref (s.heap.objs.size + 1) :: vs) (Value.ref (s.heap.objs.size + 1) :: us) := .cons rfl r
  have F' := raw0 F hb
  refine wpAny_call (make_map (f := f) I.kIn M.makes M.init (beq_iff_eq.mp M.fn) (codeAny_mono (F' _ X.stack _ _ (Value.ref (s.heap.objs.size + 1) :: us) _ _ (E σ) (hr.make C us []) (I2.env0.make C us []) r2 hq) fun r s' hq' => ?_))
  cases r with
  | error e => exact hx pins _ _ e s' I2 hq'
  | ok fl =>
    cases fl with
    | ret u =>
      obtain ⟨v, H', I3, rv, ev, q3⟩ := I2.after hq'
      subst ev
      exact ⟨rv, ⟨V.ref (s.heap.objs.size + 1), H', I3, rfl, q3⟩⟩
    | next => exact False.elim hq'
    | brk => exact False.elim hq'
    | cont => exact False.elim hq'
variable {x m : Str} {e o : Expr} {es : List Expr} {t : TA} {ta : TE} {p pos apos : Pos}
theorem pe_makeS (M : Mk X.K C f) (F : FnOk X.prog X.w X.K X.mg X.base CX k f fd ps sp) (hb : Binds X.K fd ps []) (hr : Room (k + 1) X.A) (hg : Gl X x) (hm : X.mg x = some (.ref C)) (hx : ∀ σ, PassesAt CX X σ (E σ)) (ha : PA X (e :: es) t) (hdb : (x == ("__debug__" : Str)) = false := by decide)
    (he : starEach (e :: es) X.env = (false, eval e X.env) :: starEach es X.env := by rfl) (hpl : (backTo pos (starEach es X.env)).any (·.1) = false := by rfl) : PE X (.Call (.Name x p) (e :: es) [] pos) (tMakeS C sp E t) := by
  refine ⟨fun pins s σ H Q I h => ?_⟩
  refine wpAny_Call_Name_kw (ld_glob I hg hm ?_ hdb)
  refine PySem.W.callWith_K (h₀ := X.base) I.ok.mod.kin M.kp (thn (ha.run pos pins s σ H _ I h) fun us s1 ⟨vs, H1, I1, r, q⟩ => ⟨I1.kIn, ?_⟩) he hpl
  exact run_makeS M F hb hr (hx σ) I1 r q
/-- .. the class is held by a local -/
theorem pe_makeLS {i : Nat} (M : Mk X.K C f) (F : FnOk X.prog X.w X.K X.mg X.base CX k f fd ps sp) (hb : Binds X.K fd ps []) (hr : Room (k + 1) X.A) (hN : X.N[i]? = some x) (hv : Vis X.env.scope x) (hx : ∀ σ, PassesAt CX X σ (E σ)) (ha : PA X (e :: es) t) (hdb : (x == ("__debug__" : Str)) = false := by decide) (hcd : (x == ("__classdict__" : Str)) = false := by decide)
    (he : starEach (e :: es) X.env = (false, eval e X.env) :: starEach es X.env := by rfl) (hpl : (backTo pos (starEach es X.env)).any (·.1) = false := by rfl) : PE X (.Call (.Name x p) (e :: es) [] pos) (fun σ H Q => σ[i]? = some (some (.ref C)) ∧ tMakeS C sp E t σ H Q) := by
  refine ⟨fun pins s σ H Q I h => ?_⟩
  obtain ⟨hs, ht⟩ := h
  refine wpAny_Call_Name_kw (thn ((pe_var (pos := p) hN hv hdb hcd).run pins s σ H (fun v H1 => v = .ref C ∧ H1 = H) I ⟨.ref C, hs, rfl, rfl⟩) fun u s1 ⟨v, H1, I1, r1, q1⟩ => ?_)
  obtain ⟨rfl, rfl⟩ := q1
  cases r1
  refine PySem.W.callWith_K (h₀ := X.base) I.ok.mod.kin M.kp (thn (ha.run pos pins s1 σ _ _ I1 ht) fun us s2 ⟨vs, H2, I2, r, q⟩ => ⟨I2.kIn, ?_⟩) he hpl
  exact run_makeS M F hb hr (hx σ) I2 r q
/-- e.m(..), e the class at C, m a classmethod -/
def tCMethS (C : Addr) (sp : Sp) (E : L2.St → XK) (ta : TE) (t : TA) : TE := fun σ H Q => ta σ H fun x H1 => x = .ref C ∧ t σ H1 fun vs H2 => sp (.ref C :: vs) H2 Q (E σ)
theorem run_cmS {g q : Addr} {pins : List (Addr × Obj)} {σ : L2.St} {H : Hp} {s : Shared} {Q : VK} {us : List Value} {vs : List V} (F : FnR X.prog X.w X.K X.mg X.base CX k g sp) (hr : Room k X.A) (hx : PassesAt CX X σ (E σ)) (I : Inv X ((q, PySem.W.methodObj (.ref g) (.ref C)) :: pins) σ H s)
    (r : Vals vs us) (h : sp (.ref C :: vs) H Q (E σ)) : wpAny (model X.prog X.w) X.A (call (.ref q) us) (EP X pins σ Q) X.xe s := by
  have z : wpAny (model X.prog X.w) X.A (call (.ref q) us) (EP X ((q, PySem.W.methodObj (.ref g) (.ref C)) :: pins) σ Q) X.xe s :=
    wpAny_call (PySem.W.method_call (ClX.pin_at I) (run_rawS (us := .ref C :: us) (vs := .ref C :: vs) F hr hx I (.cons rfl r) h))
  exact thn z fun _ _ y => ClX.unpinE y
theorem pe_cmethS {g pa : Addr} {mc : Value} {pl : Sem Bool} (he : PE X o ta) (r : ClX.CRead X.K C mc) (c : ClX.CMet X.K C mc m pa g) (F : FnR X.prog X.w X.K X.mg X.base CX k g sp) (hr : Room k X.A) (hx : ∀ σ, PassesAt CX X σ (E σ)) (ha : PA X (e :: es) t)
    (hst : starEach (e :: es) X.env = (false, eval e X.env) :: starEach es X.env := by rfl) (hpl : (backTo pos (starEach es X.env)).any (·.1) = false := by rfl)
    (ht : eval (.Call (.Attribute o m apos) (e :: es) [] pos) X.env = (do
      let ov ← eval o X.env
      standAt apos.atName
      let (f, first) ← holding [ov] (getMethod ov m pl)
      callWith pos f first (backTo pos (starEach (e :: es) X.env)) (backToKw pos (keywordEach [] X.env))) := by rfl) :
    PE X (.Call (.Attribute o m apos) (e :: es) [] pos) (tCMethS C sp E ta t) := by
  refine ⟨fun pins s σ H Q I h => ?_⟩
  refine PySem.W.methodCall_KW (pl := pl) (thn (he.run pins s σ H _ I h) fun u s1 ⟨x, H1, I1, rx, ex, q⟩ => ?_) ht
  subst ex
  obtain rfl : u = Value.ref C := rx
  refine ClX.getmethcm_ok I1 r c fun s2 I2 => ?_
  refine ClX.callwith_cm I2 (ClX.base_none I1 (Nat.le_refl _)) c.fi (thn (ha.run pos _ s2 σ H1 _ I2 q) fun us s3 ⟨vs, H2, I3, rv, q2⟩ => ⟨⟨ClX.pin_at I3, I3.kIn⟩, ?_⟩) hst hpl
  exact run_cmS F hr (hx σ) I3 rv q2
/-- len(o), by the class's own __len__, which raises nothing -/
def rLenO (C : Addr) (sp : Sp) : List V → Hp → VK → Prop := fun xs H Q => ∃ (a dx : Addr) (fs : List (Str × V)), xs = [.ref a] ∧ H a = some (.ins C dx fs) ∧ sp [.ref a] H (fun v H' => ∃ n : Int, v = .int n ∧ 0 ≤ n ∧ n < 2 ^ 63 ∧ Q (.int n) H') E0
theorem call_lenO {g : Addr} (hs : PySem.W.findIn X.K (.ref C) "__len__" = some (some (.ref g))) (hf : PySem.W.isFn X.K (.ref g) = true) (F : FnOk X.prog X.w X.K X.mg X.base CX0 k g fd ps sp) (hb : Binds X.K fd ps []) (hr : Room (k + 1) X.A) : CallR X (.builtin "len") (rLenO C sp) := by
  intro pins s σ H xs us Q I r h
  obtain ⟨a, dx, fs, rfl, ea, q⟩ := h
  obtain ⟨u, rfl, ru⟩ := vals1 r
  obtain rfl : u = Value.ref a := ru
  obtain ⟨mA, O, _, _, _, _⟩ := ins_get I.hok ea
  obtain ⟨od, J, _⟩ := O.look
  refine Calls.call_function_entry kind_len plain_len entry_len (args_len1 _) ?_
  unfold Builtin.«len»
  refine wpAny_bind (m := oneArg "len" _) (wpAny_pure ?_)
  refine wpAny_bind (m := callSpecial? (.ref a) (Str.ofString "__len__")) (PySem.W.special_fn (args := []) I.kIn J hs (beq_iff_eq.mp hf) ?_)
  have F' := raw0 F hb
  refine wpAny_call (codeAny_mono (F' X.A.in1 X.stack s H [.ref a] [.ref a] _ E0 hr.in1 I.env0.in1 (.cons rfl .nil) q) fun r s' hq => ?_)
  cases r with
  | error e => exact False.elim hq
  | ok fl =>
    cases fl with
    | ret u =>
      obtain ⟨v, H', I3, rv, n, rfl, h0, h1, q3⟩ := I.after hq
      obtain ⟨tk, rfl⟩ : ∃ tk, u = Value.int n tk := rv
      refine wpAny_bind (wpAny_holding (wpAny_pure ?_))
      refine wpAny_bind (wpAny_letGo ?_)
      show wpAny _ _ (if n < 0 then _ else _) _ _ _
      rw [if_neg (by omega)]
      show wpAny _ _ (if n ≥ 2 ^ 63 then _ else _) _ _ _
      rw [if_neg (by omega)]
      exact wpAny_bind (wpAny_mkInt (wpAny_pure ⟨_, rfl, .int n, H', I3.tok _, ⟨_, rfl⟩, q3⟩))
    | next => exact False.elim hq
    | brk => exact False.elim hq
    | cont => exact False.elim hq
end
/-! ### what the written part says of the classes Term and InvalidTerm -/
structure TermZ (K : PySem.W.Frag) (mg : PySem.Str → Option Value) (c : Ta) : Prop where
  g_T : mg "Term" = some (.ref c.T)
  g_X : mg "InvalidTerm" = some (.ref c.X)
  cls : Cls K c.T
  mkc : Mk K c.T c.fi
  no : NoAttr K c.T "_nodes"
  len : PySem.W.findIn K (.ref c.T) "__len__" = some (some (.ref c.fl))
  lenF : PySem.W.isFn K (.ref c.fl) = true
  prop : PropOf K c.T "nodes" c.pn c.gn
  read : ClX.CRead K c.T mcT
  met : ClX.CMet K c.T mcT "build" c.pb c.gb
  kit : ∀ n ∈ ["NoneType", "bool", "int", "str", "list", "tuple", "dict"], PySem.W.kitOne K (.type n) (.ref c.T) = some false
  kitT : PySem.W.kitOne K (.ref c.T) (.ref c.T) = some true
  c1 : PySem.W.findIn K (.ref c.T) "__class__" = some (some (.builtin "object.__class__"))
  c2 : PySem.W.specialIn K (.builtin "object.__class__") "__get__" = some (some (.builtin "getset_descriptor.__get__"))
  c3 : PySem.W.takesIn K (.builtin "object.__class__") = some true
  c4 : PySem.W.mroIn K c.T (.type "object") = some true
  exc : PySem.W.excIn K c.X tValE "ValueError.__new__" = true
  kX : PySem.W.keepIn K (.ref c.X) = true
  subX : PySem.W.subIn K (.ref c.X) (.type "BaseException") = some true
  tyX : PySem.W.typeIn K (.ref c.X) = some (.type "type")
  exm : PySem.W.exmOne K (.ref c.X) (.ref c.X) = some true
theorem termZ {K : PySem.W.Frag} {mg : PySem.Str → Option Value} {c : Ta} {rp rb : List Value} (g1 : mg "Term" = some (.ref c.T)) (g2 : mg "InvalidTerm" = some (.ref c.X)) (hi : PySem.W.findIn K (.ref c.T) "__init__" = some (some (.ref c.fi))) (hl : PySem.W.findIn K (.ref c.T) "__len__" = some (some (.ref c.fl)))
    (hp : PySem.W.findIn K (.ref c.T) "nodes" = some (some (.ref c.pn))) (hg : PySem.W.recIn K c.pn "property" = some (.ref c.gn :: rp)) (hm : PySem.W.findCls K (.ref c.T) mcT "build" = some (.get (.builtin "classmethod.__get__") (.ref c.pb) .none (.ref c.T))) (hb : PySem.W.recIn K c.pb "classmethod" = some (.ref c.gb :: rb))
    (h1 : termB K c = true) (h2 : kitsB K c.T = true) (h4 : clB4 K c.T = true) (h3 : invB K c.X = true) : TermZ K mg c := by
  simp only [termB, Bool.and_eq_true, decide_eq_true_eq] at h1
  simp only [invB, Bool.and_eq_true, decide_eq_true_eq] at h3
  simp only [clB4, Bool.and_eq_true, decide_eq_true_eq] at h4
  obtain ⟨a1, a2, a3, a4, a5, a6, a7, a8, a9, a10, a11, a12, a13, a14, a15⟩ := h1
  obtain ⟨b1, b2, b3, b4, b5⟩ := h3
  exact ⟨g1, g2, ⟨a1, a2, a3, a4⟩, ⟨a5, hi, a6, a7⟩, a8, hl, a9, ⟨hp, a10, a11, _, hg⟩, ⟨a12, a13⟩, ⟨hm, ⟨_, hb⟩, a14⟩, fun n hn => of_decide_eq_true (List.all_eq_true.mp h2 n hn), a15, h4.1, h4.2.1, h4.2.2.1, h4.2.2.2, b1, b2, b3, b4, b5⟩
theorem TermZ.ty {K : PySem.W.Frag} {mg : PySem.Str → Option Value} {c : Ta} (Z : TermZ K mg c) {H : Hp} {a dx : Addr} {fs : List (PySem.Str × V)} (e : H a = some (.ins c.T dx fs)) : TyX K H (.ref a) (.ref c.T) := .base (.ins e Z.cls Z.c1 Z.c2 Z.c3 Z.c4)
/-- the statements of a class; the scope of a set comprehension -/
def clS : Stmt → List Stmt
  | .ClassDef _ _ _ body _ _ _ _ _ _ _ => body
  | _ => []
def scSc : Expr → Scope
  | .SetComp _ _ sc _ => sc
  | _ => { kind := .function, names := [], isGenerator := false, isCoroutine := false }
theorem hu64i {A : Around} {k : Nat} (hr : Room k A) : A.units + 64 < cLine := by
  have := hr.un
  omega
theorem passAt0 {X : Cx} (σ : L2.St) : PassesAt (L2.CX X.prog X.w) X σ E0 := fun pins H s e s' I c => passL pins σ H s e s' I c
abbrev WR (E : XK) : WX := fun cls d _ H => E cls d H
end Fn

set_option Elab.async false
set_option maxRecDepth 100000
set_option maxHeartbeats 2000000
/-! Nodes of terms as data; the set of the nodes with words; how long a dict of pairs is. -/
namespace Fn
open PySem PySem.Spec PyProof.Rows L2
/-- a set comprehension over a tuple, by what holds behind each item -/
theorem sc_over_tup {P : Program} {w : World} {K : PySem.W.Frag} {b : Addr} {ys : List V} {gr : TG} {cond : TT} {el : TE} {vs : List Nat} {σ : L2.St} {Hs : Hp} {D : Addr} {End : Hp → Prop} (G : Nat → Hp → Prop) (start : G 0 (upd Hs D (PSetO P w D []))) (there : ∀ i H, G i H → SqT K H b ys) (fin : ∀ H, G ys.length H → End H)
    (turn : ∀ i x H, ys[i]? = some x → G i H → gr x (wipe σ vs) H fun σ' H' => wipe σ' vs = wipe σ vs ∧ cond σ' H' fun t Ht =>
      if t = true then el σ' Ht fun y Hy => ∃ (c : Addr) (k : List Key) (L : List (Addr × List Key)), y = .ref c ∧ Hy c = some (.tup (k.map kV)) ∧ Hy D = some (PSetO P w D L) ∧ Members Hy L ∧ L.length + 1 < 64 ∧
        ∀ L', (k ∈ L.map Prod.snd → L' = L) → (k ∉ L.map Prod.snd → L'.Perm ((c, k) :: L)) → G (i + 1) (upd Hy D (PSetO P w D L')) else G (i + 1) Ht) :
    ∃ M : Nat → Nat → Hp → Prop, (∃ m, M 0 m (upd Hs D (PSetO P w D []))) ∧ ∀ i m H, M i m H → ((Itt K b).stop i H ∧ End H) ∨ ((Itt K b).go i H ∧ ∃ Nx : Hp → Prop, (∀ H', Nx H' → ∃ m', m' < m ∧ M (i + 1) m' H') ∧ ∀ x H', (Itt K b).yld i H x H' → gr x (wipe σ vs) H' fun σ2 H2 => wipe σ2 vs = wipe σ vs ∧ cond σ2 H2 fun t H3 =>
      if t = true then el σ2 H3 fun y H4 => ∃ (c : Addr) (k : List Key) (L : List (Addr × List Key)), y = .ref c ∧ H4 c = some (.tup (k.map kV)) ∧ H4 D = some (PSetO P w D L) ∧ Members H4 L ∧ L.length + 1 < 64 ∧
        ∀ L', (k ∈ L.map Prod.snd → L' = L) → (k ∉ L.map Prod.snd → L'.Perm ((c, k) :: L)) → Nx (upd H4 D (PSetO P w D L')) else Nx H3) := by
  refine ⟨fun i m H => m + i = ys.length ∧ G i H, ⟨_, Nat.add_zero _, start⟩, ?_⟩
  rintro i m H ⟨em, g⟩
  have sq := there i H g
  rcases Nat.lt_or_ge i ys.length with hi | hi
  · right
    have at_ : ys[i]? = some ys[i] := List.getElem?_eq_getElem hi
    refine ⟨⟨ys, ys[i], sq, at_⟩, G (i + 1), fun H' g' => ⟨m - 1, by omega, by omega, g'⟩, ?_⟩
    rintro x H' ⟨rfl, hy⟩
    exact turn i x _ (hy ys sq) g
  · left
    have e : i = ys.length := by omega
    rw [e] at g
    exact ⟨⟨ys, sq, hi⟩, fin H g⟩
/-- any walk over a tuple, by what holds behind each item -/
theorem over_tup {K : PySem.W.Frag} {b : Addr} {ys : List V} {End : Hp → Prop} {T : (Hp → Prop) → V → Hp → Prop} {S : Hp} (G : Nat → Hp → Prop) (start : G 0 S) (there : ∀ i H, G i H → SqT K H b ys) (fin : ∀ H, G ys.length H → End H)
    (turn : ∀ i x H, ys[i]? = some x → G i H → T (G (i + 1)) x H) : ∃ M : Nat → Nat → Hp → Prop, (∃ m, M 0 m S) ∧ ∀ i m H, M i m H → ((Itt K b).stop i H ∧ End H) ∨ ((Itt K b).go i H ∧ ∃ Nx : Hp → Prop, (∀ H', Nx H' → ∃ m', m' < m ∧ M (i + 1) m' H') ∧ ∀ x H', (Itt K b).yld i H x H' → T Nx x H') := by
  refine ⟨fun i m H => m + i = ys.length ∧ G i H, ⟨_, Nat.add_zero _, start⟩, ?_⟩
  rintro i m H ⟨em, g⟩
  have sq := there i H g
  rcases Nat.lt_or_ge i ys.length with hi | hi
  · right
    have at_ : ys[i]? = some ys[i] := List.getElem?_eq_getElem hi
    refine ⟨⟨ys, ys[i], sq, at_⟩, G (i + 1), fun H' g' => ⟨m - 1, by omega, by omega, g'⟩, ?_⟩
    rintro x H' ⟨rfl, hy⟩
    exact turn i x _ (hy ys sq) g
  · left
    have e : i = ys.length := by omega
    rw [e] at g
    exact ⟨⟨ys, sq, hi⟩, fin H g⟩
theorem merge_all : ∀ (kvs acc : List (Key × V)), ((acc ++ kvs).map Prod.fst).Nodup → (mergeK acc kvs).length = acc.length + kvs.length
  | [], acc, _ => rfl
  | p :: r, acc, h => by
    have nv : valV acc p.1 = none := by
      cases e : valV acc p.1 with
      | none => rfl
      | some v =>
        have a := valV_any p.1 acc
        rw [e] at a
        obtain ⟨q, hq, hd⟩ := List.any_eq_true.mp a
        rw [List.map_append, List.nodup_append] at h
        exact absurd (of_decide_eq_true hd) (h.2.2 _ (List.mem_map_of_mem (f := Prod.fst) hq) _ (by simp))
    show (mergeK (putK acc p.1 p.2) r).length = _
    rw [putK_new p.2 nv, merge_all r _ (by rw [List.append_assoc]; exact h), List.length_append, List.length_cons, List.length_cons]
    simp only [List.length_nil]
    omega
theorem merge_less : ∀ (kvs acc : List (Key × V)), (acc.map Prod.fst).Nodup → ¬ ((acc ++ kvs).map Prod.fst).Nodup → (mergeK acc kvs).length < acc.length + kvs.length
  | [], acc, ha, h => by
    rw [List.append_nil] at h
    exact absurd ha h
  | p :: r, acc, ha, h => by
    show (mergeK (putK acc p.1 p.2) r).length < _
    by_cases e : (valV acc p.1).isSome = true
    · have le := length_mergeK r (putK acc p.1 p.2)
      have eq : (putK acc p.1 p.2).length = acc.length := by
        unfold putK
        rw [if_pos (by rw [valV_any]; exact e), List.length_map]
      rw [List.length_cons]
      omega
    · have nv : valV acc p.1 = none := by simpa using e
      rw [putK_new p.2 nv]
      have nm : p.1 ∉ acc.map Prod.fst := fun hm => by
        obtain ⟨q, hq, eq⟩ := List.mem_map.mp hm
        have a := valV_any p.1 acc
        rw [nv, List.any_eq_true.mpr ⟨q, hq, decide_eq_true eq⟩] at a
        cases a
      have z := merge_less r (acc ++ [(p.1, p.2)]) (by
        rw [List.map_append, List.nodup_append]
        refine ⟨ha, by simp, fun a h1 b h2 e => ?_⟩
        rw [show b = p.1 by simpa using h2] at e
        exact nm (e ▸ h1)) (by rw [List.append_assoc]; exact h)
      rw [List.length_append, List.length_cons, List.length_nil] at z
      rw [List.length_cons]
      omega
/-- a dict of pairs is as long as the row exactly if the texts are different -/
def kvOf (p : Str × Int) : Key × V := (.inr p.1, .int p.2)
def OneEach (ps : List (Str × Int)) : Prop := ∀ p ∈ ps, ∀ q ∈ ps, p.1 = q.1 → p.2 = q.2
theorem one_pw : ∀ {ps : List (Str × Int)}, ps.Pairwise (fun p q => p.1 ≠ q.1) → OneEach ps
  | [], _, p, hp, _, _, _ => by cases hp
  | r :: rs, h, p, hp, q, hq, e => by
    rw [List.pairwise_cons] at h
    rcases List.mem_cons.mp hp with e1 | h1
    · rcases List.mem_cons.mp hq with e2 | h2
      · rw [e1, e2]
      · exact absurd (e1 ▸ e) (h.1 q h2)
    · rcases List.mem_cons.mp hq with e2 | h2
      · exact absurd (e2 ▸ e.symm) (h.1 p h1)
      · exact one_pw h.2 p h1 q h2 e
theorem pw_one {ps : List (Str × Int)} (n : ps.Nodup) (h : OneEach ps) : ps.Pairwise (fun p q => p.1 ≠ q.1) :=
  List.Pairwise.imp_of_mem (fun {a b} ha hb ne e => ne (Prod.ext e (h a ha b hb e))) n
theorem keys_nodup {ps : List (Str × Int)} : ((ps.map kvOf).map Prod.fst).Nodup ↔ ps.Pairwise (fun p q => p.1 ≠ q.1) := by
  rw [List.map_map, List.Nodup, List.pairwise_map]
  constructor
  · exact fun h => h.imp fun {a b} z e => z (by show Sum.inr a.1 = Sum.inr b.1; rw [e])
  · exact fun h => h.imp fun {a b} z e => z (Sum.inr.inj e)
instance {ps : List (Str × Int)} : Decidable (OneEach ps) := by
  unfold OneEach
  infer_instance
theorem dict_len {ps : List (Str × Int)} (n : ps.Nodup) : decide (((mergeK [] (ps.map kvOf)).length : Int) < (ps.length : Int)) = !decide (OneEach ps) := by
  by_cases h : OneEach ps
  · rw [decide_eq_true h, Bool.not_true, decide_eq_false]
    have e := merge_all (ps.map kvOf) [] (keys_nodup.mpr (pw_one n h))
    rw [List.length_map] at e
    simp only [List.length_nil] at e
    omega
  · rw [decide_eq_false h, Bool.not_false, decide_eq_true]
    have e := merge_less (ps.map kvOf) [] List.nodup_nil (fun z => h (one_pw (keys_nodup.mp z)))
    rw [List.length_map] at e
    simp only [List.length_nil] at e
    omega
theorem one_mem {ps qs : List (Str × Int)} (h : ∀ p, p ∈ ps ↔ p ∈ qs) : OneEach ps ↔ OneEach qs :=
  ⟨fun z p hp q hq => z p ((h p).mpr hp) q ((h q).mpr hq), fun z p hp q hq => z p ((h p).mp hp) q ((h q).mp hq)⟩
/-! ### the nodes with words -/
theorem node_shape {d : PyData} (h : isNodeD d = true) : ∃ (x : Str) (k : Int), d = .tuple [.str x, .int k] ∧ 0 ≤ k ∧ k ≤ 3 := by
  match d, h with
  | .tuple [s, m], h =>
    have h' : (if isLeafD s = true then (isArityD m && PyData.eqv m (.int 0)) else (isWordD s && isArityD m)) = true := h
    have hm : isArityD m = true := by
      split at h' <;> simp only [Bool.and_eq_true] at h'
      · exact h'.1
      · exact h'.2
    have hs : ∃ x, s = .str x := by
      split at h'
      · rename_i g
        have g' : isLeafD s = true := g
        cases s with
        | str x => exact ⟨x, rfl⟩
        | _ => cases g'
      · simp only [Bool.and_eq_true] at h'
        cases s with
        | str x => exact ⟨x, rfl⟩
        | _ => cases h'.1
    obtain ⟨x, rfl⟩ := hs
    match m, hm with
    | .int k, hm =>
      have hm' : (isIntD (.int k) && (decide (0 ≤ k) && decide (k ≤ 3))) = true := hm
      simp only [Bool.and_eq_true, decide_eq_true_eq] at hm'
      exact ⟨x, k, rfl, hm'.2.1, hm'.2.2⟩
/-- the pairs of the nodes with words -/
def prOf : PyData → List (Str × Int)
  | .tuple [.str x, .int k] => if isLeafD (.str x) = true then [] else [(x, k)]
  | _ => []
def prsOf (ds : List PyData) : List (Str × Int) := ds.flatMap prOf
def keyP (p : Str × Int) : List Key := [.inr p.1, .inl p.2]
theorem keyP_inj {p q : Str × Int} (h : keyP p = keyP q) : p = q := by
  obtain ⟨x, i⟩ := p
  obtain ⟨y, j⟩ := q
  simp only [keyP, List.cons.injEq, Sum.inr.injEq, Sum.inl.injEq, and_true] at h
  rw [h.1, h.2]
/-- what is in the set behind n nodes -/
structure SetIs (H : Hp) (ds : List PyData) (n : Nat) (L : List (Addr × List Key)) : Prop where
  at_ : ∀ p ∈ L, ∃ q ∈ prsOf (ds.take n), p.2 = keyP q ∧ H p.1 = some (.tup [.str q.1, .int q.2])
  all : ∀ q ∈ prsOf (ds.take n), keyP q ∈ L.map Prod.snd
  nod : (L.map Prod.snd).Nodup
  len : L.length ≤ n
theorem SetIs.pairs {H : Hp} {ds : List PyData} {n : Nat} {L : List (Addr × List Key)} (h : SetIs H ds n L) : PairsAt H L := fun p hp => by
  obtain ⟨q, _, e1, e2⟩ := h.at_ p hp
  exact ⟨q.1, q.2, e1, e2⟩
theorem SetIs.members {H : Hp} {ds : List PyData} {n : Nat} {L : List (Addr × List Key)} (h : SetIs H ds n L) : Members H L := fun p hp => by
  obtain ⟨q, _, e1, e2⟩ := h.at_ p hp
  rw [e1]
  exact e2
theorem SetIs.same {H H' : Hp} {ds : List PyData} {n : Nat} {L : List (Addr × List Key)} (h : SetIs H ds n L) (k : ∀ p ∈ L, H' p.1 = H p.1) : SetIs H' ds n L :=
  ⟨fun p hp => by
    obtain ⟨q, m, e1, e2⟩ := h.at_ p hp
    exact ⟨q, m, e1, by rw [k p hp]; exact e2⟩, h.all, h.nod, h.len⟩
theorem prs_take {ds : List PyData} {n : Nat} {d : PyData} (h : ds[n]? = some d) : prsOf (ds.take (n + 1)) = prsOf (ds.take n) ++ prOf d := by
  rw [prsOf, List.take_add_one, h, List.flatMap_append]
  simp [prsOf]
theorem SetIs.none {H : Hp} {ds : List PyData} : SetIs H ds 0 [] := ⟨fun p hp => (by cases hp), fun q hq => (by cases hq), List.nodup_nil, Nat.le_refl _⟩
theorem SetIs.skip {H : Hp} {ds : List PyData} {n : Nat} {L : List (Addr × List Key)} {d : PyData} (h : SetIs H ds n L) (hd : ds[n]? = some d) (e : prOf d = []) : SetIs H ds (n + 1) L := by
  have t : prsOf (ds.take (n + 1)) = prsOf (ds.take n) := by rw [prs_take hd, e, List.append_nil]
  exact ⟨by rw [t]; exact h.at_, by rw [t]; exact h.all, h.nod, Nat.le_succ_of_le h.len⟩
theorem SetIs.add {H : Hp} {ds : List PyData} {n : Nat} {L L' : List (Addr × List Key)} {d : PyData} {q : Str × Int} {c : Addr} (h : SetIs H ds n L) (hd : ds[n]? = some d) (e : prOf d = [q]) (hc : H c = some (.tup [.str q.1, .int q.2]))
    (h1 : keyP q ∈ L.map Prod.snd → L' = L) (h2 : keyP q ∉ L.map Prod.snd → L'.Perm ((c, keyP q) :: L)) : SetIs H ds (n + 1) L' := by
  have t : prsOf (ds.take (n + 1)) = prsOf (ds.take n) ++ [q] := by rw [prs_take hd, e]
  by_cases m : keyP q ∈ L.map Prod.snd
  · rw [h1 m]
    refine ⟨fun p hp => ?_, fun r hr => ?_, h.nod, Nat.le_succ_of_le h.len⟩
    · obtain ⟨r, hr, z⟩ := h.at_ p hp
      exact ⟨r, by rw [t]; exact List.mem_append_left _ hr, z⟩
    · rw [t] at hr
      rcases List.mem_append.mp hr with hr | hr
      · exact h.all r hr
      · rw [List.mem_singleton.mp hr]
        exact m
  · have pm := h2 m
    have pm2 := pm.map Prod.snd
    refine ⟨fun p hp => ?_, fun r hr => ?_, pm2.nodup_iff.mpr ?_, by rw [pm.length_eq, List.length_cons]; exact Nat.succ_le_succ h.len⟩
    · rcases List.mem_cons.mp (pm.mem_iff.mp hp) with rfl | hp
      · exact ⟨q, by rw [t]; exact List.mem_append_right _ (List.mem_singleton.mpr rfl), rfl, hc⟩
      · obtain ⟨r, hr, z⟩ := h.at_ p hp
        exact ⟨r, by rw [t]; exact List.mem_append_left _ hr, z⟩
    · rw [t] at hr
      refine pm2.mem_iff.mpr ?_
      rcases List.mem_append.mp hr with hr | hr
      · exact List.mem_cons_of_mem _ (h.all r hr)
      · rw [List.mem_singleton.mp hr]
        exact List.mem_cons_self
    · exact List.nodup_cons.mpr ⟨m, h.nod⟩
theorem paired_map {α β γ : Type} {R : β → γ → Prop} {f : α → β} {g : α → γ} : ∀ {l : List α}, (∀ x ∈ l, R (f x) (g x)) → Paired R (l.map f) (l.map g)
  | [], _ => .nil
  | x :: l, h => .cons (h x List.mem_cons_self) (paired_map fun y hy => h y (List.mem_cons_of_mem _ hy))
theorem paired_r {α β γ : Type} {R : α → β → Prop} {S : α → γ → Prop} {f : β → γ} (h : ∀ a b, R a b → S a (f b)) : ∀ {l : List α} {m : List β}, Paired R l m → Paired S l (m.map f)
  | _, _, .nil => .nil
  | _, _, .cons a t => .cons (h _ _ a) (paired_r h t)
theorem DxAll.app {H : Hp} : ∀ {xs ys : List V} {ds es : List PyData}, DxAll H xs ds → DxAll H ys es → DxAll H (xs ++ ys) (ds ++ es)
  | _, _, _, _, .nil, h => h
  | _, _, _, _, .cons a t, h => .cons a (DxAll.app t h)
theorem DxAll.take {H : Hp} : ∀ {xs : List V} {ds : List PyData} (n : Nat), DxAll H xs ds → DxAll H (xs.take n) (ds.take n)
  | _, _, 0, _ => by
    rw [List.take_zero, List.take_zero]
    exact .nil
  | _, _, n + 1, .nil => .nil
  | _, _, n + 1, .cons a t => .cons a (DxAll.take n t)
theorem SetIs.told {H : Hp} {ds : List PyData} {L : List (Addr × List Key)} {as : List Addr} (h : SetIs H ds ds.length L) (pa : as.Perm (L.map Prod.fst)) :
    ∃ ps : List (Str × Int), Paired (fun b q => H b = some (.tup [.str q.1, .int q.2])) as ps ∧ ps.Nodup ∧ ∀ q, q ∈ ps ↔ q ∈ prsOf ds := by
  obtain ⟨L', pL, rfl⟩ := perm_map_inv pa L rfl
  have get : ∀ p ∈ L', p.2 = keyP (pairAt H p.1) ∧ H p.1 = some (.tup [.str (pairAt H p.1).1, .int (pairAt H p.1).2]) ∧ pairAt H p.1 ∈ prsOf ds := fun p hp => by
    obtain ⟨q, hq, e1, e2⟩ := h.at_ p (pL.mem_iff.mp hp)
    rw [List.take_length] at hq
    have e : pairAt H p.1 = q := by
      unfold pairAt
      rw [e2]
    rw [e]
    exact ⟨e1, e2, hq⟩
  refine ⟨L'.map fun p => pairAt H p.1, paired_map fun p hp => (get p hp).2.1, ?_, fun q => ⟨fun hq => ?_, fun hq => ?_⟩⟩
  · have nd : (L'.map Prod.snd).Nodup := (pL.map Prod.snd).nodup_iff.mpr h.nod
    rw [List.Nodup, List.pairwise_map] at nd ⊢
    refine List.Pairwise.imp_of_mem (fun {a b} ha hb ne e => ne ?_) nd
    rw [(get a ha).1, (get b hb).1, e]
  · obtain ⟨p, hp, rfl⟩ := List.mem_map.mp hq
    exact (get p hp).2.2
  · have z := h.all q (by rw [List.take_length]; exact hq)
    obtain ⟨p, hp, e⟩ := List.mem_map.mp z
    have hp' := pL.mem_iff.mpr hp
    refine List.mem_map.mpr ⟨p, hp', keyP_inj ?_⟩
    rw [← (get p hp').1, e]
theorem prOf_leaf {x : Str} {k : Int} (h : isLeafD (.str x) = true) : prOf (.tuple [.str x, .int k]) = [] := if_pos h
theorem prOf_word {x : Str} {k : Int} (h : isLeafD (.str x) = false) : prOf (.tuple [.str x, .int k]) = [(x, k)] := if_neg (by rw [h]; decide)
/-- what stood ahead of the making of an instance stands behind it -/
theorem mk_same {H H' : Hp} {x dx C : Addr} {o : HO} (nx : H x = none) (ndx : H dx = none) (s' : Same (upd (upd H dx (.own x)) x (.ins C dx [])) H') : Same H (upd H' x o) := fun b u e => by
  have n1 := ne_of_none e nx
  rw [upd_ne n1]
  exact s' _ _ (by rw [upd_ne n1, upd_ne (ne_of_none e ndx)]; exact e)
theorem mk_new {H : Hp} {x dx C : Addr} (nx : H x = none) (ndx : H dx = none) : Same H (upd (upd H dx (.own x)) x (.ins C dx [])) := fun b u e => by
  rw [upd_ne (ne_of_none e nx), upd_ne (ne_of_none e ndx)]
  exact e
/-- the promises of a def that calls itself, at all depths -/
theorem fn_depth {P : Program} {w : World} {K : PySem.W.Frag} {mg : Str → Option Value} {base : Heap} {off : Nat} {f : Addr} {fd : FuncData} {ps : List Str} {sp : Nat → Sp} (G : ∀ n, FnOk P w K mg base CX0 (n + off) f fd ps (sp n)) :
    FnOk P w K mg base CX0 (4 + off) f fd ps (fun vs H Q E => ∃ n, n ≤ 4 ∧ sp n vs H Q E) :=
  ⟨fun vs H Q E ⟨n, _, h⟩ => (G n).len vs H Q E h, fun A outer s H args us vs Q E hr e0 b r ⟨n, hn, h⟩ => (G n).run A outer s H args us vs Q E (hr.mono (by omega)) e0 b r h⟩
/-! ### data without lists stands where its tuples stand -/
mutual
theorem dx_tk {H H' : Hp} (t : ∀ (b : Addr) (xs : List V), H b = some (.tup xs) → H' b = some (.tup xs)) : ∀ {d : PyData} {v : V}, Dx H v d → listfree d = true → dictfree d = true → Dx H' v d
  | .none, _, h, _, _ => by cases h; exact .non
  | .bool b, _, h, _, _ => by cases h; exact .bl b
  | .int i, _, h, _, _ => by cases h; exact .int i
  | .str x, _, h, _, _ => by cases h; exact .str x
  | .list ds, _, h, f, _ => by
    simp only [listfree] at f
    cases f
  | .tuple ds, _, h, f, g => by
    cases h with
    | tup h1 h2 => exact .tup (t _ _ h1) (dxAll_tk t h2 (by simpa only [listfree] using f) (by simpa only [dictfree] using g))
  | .dict kvs, _, h, _, g => by
    simp only [dictfree] at g
    cases g
theorem dxAll_tk {H H' : Hp} (t : ∀ (b : Addr) (xs : List V), H b = some (.tup xs) → H' b = some (.tup xs)) : ∀ {ds : List PyData} {vs : List V}, DxAll H vs ds → listfreeAll ds = true → dictfreeAll ds = true → DxAll H' vs ds
  | [], _, h, _, _ => by cases h; exact .nil
  | d :: ds, _, h, f, g => by
    simp only [listfreeAll, Bool.and_eq_true] at f
    simp only [dictfreeAll, Bool.and_eq_true] at g
    cases h with
    | cons h1 h2 => exact .cons (dx_tk t h1 f.1 g.1) (dxAll_tk t h2 f.2 g.2)
end
theorem paired_app {α β : Type} {R : α → β → Prop} : ∀ {a c : List α} {b d : List β}, Paired R a b → Paired R c d → Paired R (a ++ c) (b ++ d)
  | _, _, _, _, .nil, h => h
  | _, _, _, _, .cons x t, h => .cons x (paired_app t h)
theorem paired_memr {α β : Type} {R S : α → β → Prop} : ∀ {a : List α} {b : List β}, Paired R a b → (∀ x y, y ∈ b → R x y → S x y) → Paired S a b
  | _, _, .nil, _ => .nil
  | _, _, .cons x t, h => .cons (h _ _ List.mem_cons_self x) (paired_memr t fun x y hy => h x y (List.mem_cons_of_mem _ hy))
theorem paired_take {α β : Type} {R : α → β → Prop} : ∀ {a : List α} {b : List β} (n : Nat), Paired R a b → Paired R (a.take n) (b.take n)
  | _, _, 0, _ => by
    rw [List.take_zero, List.take_zero]
    exact .nil
  | _, _, _ + 1, .nil => .nil
  | _, _, n + 1, .cons x t => .cons x (paired_take n t)
end Fn

set_option Elab.async false
set_option maxRecDepth 100000
set_option maxHeartbeats 2000000
/-! Texts of rows of nodes, read from the right. -/
namespace Fn
open PySem PySem.Spec PyProof.Rows L2
/-- the texts that stand ahead when the nodes are read from the right -/
def textsF : List (Str × Int) → List Str
  | [] => []
  | (x, k) :: r => (if decide (k > 0) = true then x ++ "(" ++ Txt.join ", " ((textsF r).take k.toNat) ++ ")" else x) :: (textsF r).drop k.toNat
def sumL (l : List Str) : Nat := (l.map (·.length)).sum
theorem sumL_cut (n : Nat) (l : List Str) : sumL (l.take n) + sumL (l.drop n) = sumL l := by
  unfold sumL
  rw [← List.sum_append, ← List.map_append, List.take_append_drop]
def wOf (p : Str × Int) : Nat := p.1.length + 2 + 2 * p.2.toNat
theorem texts_sum : ∀ ps : List (Str × Int), sumL (textsF ps) ≤ (ps.map wOf).sum
  | [] => Nat.le_refl _
  | (x, k) :: r => by
    have ih := texts_sum r
    have cut := sumL_cut k.toNat (textsF r)
    have j := StrLaws.join_length_le (", " : Str) ((textsF r).take k.toNat)
    have tl : ((textsF r).take k.toNat).length ≤ k.toNat := by
      rw [List.length_take]
      omega
    have l2 : ((", " : Str)).length = 2 := by decide +kernel
    have l1 : (("(" : Str)).length = 1 := by decide +kernel
    have l1' : ((")" : Str)).length = 1 := by decide +kernel
    rw [l2] at j
    have first : (if decide (k > 0) = true then x ++ "(" ++ Txt.join ", " ((textsF r).take k.toNat) ++ ")" else x).length ≤ x.length + 2 + sumL ((textsF r).take k.toNat) + 2 * k.toNat := by
      split
      · rw [strLen_append, strLen_append, strLen_append, l1, l1']
        have j' : (Txt.join ", " ((textsF r).take k.toNat)).length ≤ sumL ((textsF r).take k.toNat) + ((textsF r).take k.toNat).length * 2 := by
          rw [show Txt.join (", " : Str) ((textsF r).take k.toNat) = Str.join (", " : Str) ((textsF r).take k.toNat) from TL.join_eq _ _]
          exact j
        omega
      · omega
    show sumL (_ :: (textsF r).drop k.toNat) ≤ wOf (x, k) + (r.map wOf).sum
    have e : sumL ((if decide (k > 0) = true then x ++ "(" ++ Txt.join ", " ((textsF r).take k.toNat) ++ ")" else x) :: (textsF r).drop k.toNat) = (if decide (k > 0) = true then x ++ "(" ++ Txt.join ", " ((textsF r).take k.toNat) ++ ")" else x).length + sumL ((textsF r).drop k.toNat) := by
      unfold sumL
      rw [List.map_cons, List.sum_cons]
    rw [e]
    show _ ≤ x.length + 2 + 2 * k.toNat + (r.map wOf).sum
    omega
theorem cut_head {xs : List V} {k : Int} (h : 0 ≤ k) : cutV xs none (some k) = xs.take k.toNat := by
  obtain ⟨n, rfl⟩ := Int.eq_ofNat_of_zero_le h
  have a : HT.sIx xs.length xs.length (some (n : Int)) = min n xs.length := HT.sIx_nat _ _ _
  have b : HT.sIx xs.length 0 (none : Option Int) = 0 := rfl
  unfold cutV
  rw [a, b, List.drop_zero, Nat.sub_zero, Int.toNat_natCast]
  rcases Nat.le_total n xs.length with h | h
  · rw [Nat.min_eq_left h]
  · rw [Nat.min_eq_right h, List.take_of_length_le (Nat.le_refl _), List.take_of_length_le h]
theorem cut_tail {xs : List V} {k : Int} (h : 0 ≤ k) : cutV xs (some k) none = xs.drop k.toNat := by
  obtain ⟨n, rfl⟩ := Int.eq_ofNat_of_zero_le h
  have a : HT.sIx xs.length 0 (some (n : Int)) = min n xs.length := HT.sIx_nat _ _ _
  have b : HT.sIx xs.length xs.length (none : Option Int) = xs.length := rfl
  unfold cutV
  rw [a, b, Int.toNat_natCast]
  rcases Nat.le_total n xs.length with h | h
  · rw [Nat.min_eq_left h, List.take_of_length_le (by rw [List.length_drop]; exact Nat.le_refl _)]
  · rw [Nat.min_eq_right h, List.drop_length, List.take_nil, List.drop_eq_nil_of_le h]
theorem texts_len : ∀ ps : List (Str × Int), (textsF ps).length ≤ ps.length
  | [] => Nat.le_refl _
  | (x, k) :: r => by
    have ih := texts_len r
    show (_ :: (textsF r).drop k.toNat).length ≤ r.length + 1
    rw [List.length_cons, List.length_drop]
    omega
theorem node_len {x : Str} {k : Int} (h : isNodeD (.tuple [.str x, .int k]) = true) : x.length ≤ 8 := by
  have h' : (if isLeafD (.str x) = true then (isArityD (.int k) && PyData.eqv (.int k) (.int 0)) else (isWordS x && isArityD (.int k))) = true := h
  split at h'
  · rename_i g
    have g' : ([.str "_", .str "#"] : List PyData).any (fun z => PyData.eqv z (.str x)) = true := g
    simp only [List.any_cons, List.any_nil, Bool.or_false, Bool.or_eq_true] at g'
    rcases g' with z | z
    · have e : ("_" : Str) = x := by simpa [PyData.eqv] using z
      rw [← e]
      decide +kernel
    · have e : ("#" : Str) = x := by simpa [PyData.eqv] using z
      rw [← e]
      decide +kernel
  · rw [Bool.and_eq_true] at h'
    have w := h'.1
    simp only [isWordS, Bool.and_eq_true, decide_eq_true_eq] at w
    exact w.1.2
end Fn

set_option Elab.async false
set_option maxRecDepth 100000
set_option maxHeartbeats 4000000
/-! Own exceptions as values: classes over any built-in base, with an __init__ that stores, or without one. -/
namespace Fn
open PySem
/-! ### making one: the new object, then the own __init__ -/
/-- what a class must have whose mro goes on with bm behind itself -/
structure NewF (B newId initId : String) (bmB bm : List Value) : Prop where
  F : ExcBaseFacts B newId initId bmB
  cB : bm.contains (.type B) = true
  cA : bm.contains (.type "AttributeError") = false
  cN : bm.contains (.type "NameError") = false
section
variable {M : Model} {A : Around} {E : Value → Shared → Prop} {h : Heap} {g : Array GenState} {d : Drawn} {t : Nat} {os : OsState}
variable {nm q : Str} {C N : Addr} {bs bm bmB : List Value} {hdct : Bool} {sn : List Str} {sub : List Value} {ab : Bool} {col : Option Bool} {dd : Option Addr} {k0 k1 k2 k3 k5 : Option Value} {B newId initId : String}
open Builtin Builtin.ObjectAttr
theorem newF_check (Z : NewF B newId initId bmB bm) {rest : List Value} {Q : Unit → Shared → Prop} (hCls : h.get? C = some (excClassObj nm q C N bs bm hdct sn sub ab col dd k0 k1 k2 k3 k5 newId))
    (hq : Q () ⟨h, g, d, t, os⟩) : wpAny M A (checkBuiltinCall newId ⟨.ref C :: rest, []⟩) Q E ⟨h, g, d, t, os⟩ := by
  have hAll : (Value.ref C :: bm).contains (.type B) = true := by (rw [List.contains_cons, Z.cB]; exact Bool.or_true _)
  have hStar := Z.F.noStar
  simp only [checkBuiltinCall, Z.F.newKind, Z.F.newSplit, Z.F.newRow]
  repeat (first
    | refine wpAny_loadPart_at hCls ?_
    | (refine wpAny_isSubtype_exc hCls ?_; rw [hAll])
    | refine wpAny_staticBase_exc hCls ?_
    | refine wpAny_madeBy_exc hCls ?_
    | simp only [bne_self_eq_false, Bool.false_eq_true, ↓reduceIte]
    | wp_step)
  exact hq
end
section
variable {prog : Program} {w : World} {A : Around} {E : Value → Shared → Prop} {R : Result → Shared → Prop} {h : Heap} {g : Array GenState} {d : Drawn} {t : Nat} {os : OsState}
variable {nm q : Str} {C N : Addr} {bs bm bmB : List Value} {hdct : Bool} {sn : List Str} {sub : List Value} {ab : Bool} {col : Option Bool} {dd : Option Addr} {k0 k1 k2 k3 k5 : Option Value} {B newId initId : String}
open PySem.HandSPX
theorem newF_new (Z : NewF B newId initId bmB bm) {rest : List Value} (hCls : h.get? C = some (excClassObj nm q C N bs bm hdct sn sub ab col dd k0 k1 k2 k3 k5 newId))
    (hq : R (.ok (.ret (.ref (h.objs.size + 1)))) ⟨(h.push { cls := .type "tuple", data := .seq rest.toArray }).push (excO C h.objs.size), g, d, t, os⟩) (hlen : rest.length ≤ sizeLine) :
    codeAny (model prog w) A (.builtin newId ⟨.ref C :: rest, []⟩) R ⟨h, g, d, t, os⟩ := by
  have hEnds := Z.F.ends
  have hB : (Value.ref C :: bm).contains (.type B) = true := by (rw [List.contains_cons, Z.cB]; exact Bool.or_true _)
  have hA : (Value.ref C :: bm).contains (.type "AttributeError") = false := by (rw [List.contains_cons, Z.cA]; rfl)
  have hN : (Value.ref C :: bm).contains (.type "NameError") = false := by (rw [List.contains_cons, Z.cN]; rfl)
  refine codeAny_builtinAt Z.F.entry ?_
  unfold Builtin.«BaseException.__new__»
  refine wpAt_bind ?_
  show wpAt _ _ _ (stack >>= _) _ _ _
  refine wpAt_bind (wpAt_stack fun _ _ => wpAt_of_wpAny ?_)
  wp_walk
  refine wpAt_of_wpAny ?_
  rw [Z.F.owner]
  repeat (first
    | with_reducible refine wpAny_madeHere_exc Z.F.canon hCls ?_
    | with_reducible refine wpAny_loadPart_at hCls ?_
    | (with_reducible refine wpAny_isSubtype_exc hCls ?_; first | rw [hB] | rw [hA] | rw [hN])
    | wp_step)
  show R _ _
  rw [Heap.size_push]
  exact hq
theorem newF_type (Z : NewF B newId initId bmB bm) {rest : List Value} {fI : Addr} {Q : Fin → Shared → Prop} (hCls : h.get? C = some (excClassObj nm q C N bs bm hdct sn sub ab col dd k0 k1 k2 k3 k5 newId))
    (hi : W.Looks (model prog w) h (typeLookup (.ref C) "__init__") (some (.ref fI))) (hb : ∀ me, W.Looks (model prog w) h (bindSpecial (.ref fI) me) (.ref fI, [me])) (hlen : rest.length ≤ sizeLine)
    (hq : codeAny (model prog w) A (.call (.ref fI) ⟨.ref (h.objs.size + 1) :: rest, []⟩)
      (fun r s' => match r with | .ok (.ret v) => v = .none ∧ Q (.done (.ret (.ref (h.objs.size + 1)))) s' | .ok _ => False | .error e => E e s') ⟨(h.push (W.kdv_tup rest)).push (excO C h.objs.size), g, d, t, os⟩) :
    wpAny (model prog w) A (Builtin.«type.__call__» ⟨.ref C :: rest, []⟩) Q E ⟨h, g, d, t, os⟩ := by
  repeat (first
    | with_reducible refine wpAny_loadPart_at hCls ?_
    | with_reducible refine wpAny_madeBy_exc hCls ?_
    | wp_step)
  refine codeAny_call_builtin_code (Code.quiet_builtin _ Z.F.quiet) (newF_check Z hCls ?_)
  refine newF_new Z hCls ?_ hlen
  show wpAny _ _ _ _ _ _
  have kp : ∀ b o, h.get? b = some o → ((h.push (W.kdv_tup rest)).push (excO C h.objs.size)).get? b = some o := fun b o z => Heap.get?_push_of_some _ (Heap.get?_push_of_some _ z)
  have hCls2 := kp _ _ hCls
  have hObj : ((h.push (W.kdv_tup rest)).push (excO C h.objs.size)).get? (h.objs.size + 1) = some (excO C h.objs.size) := by heap_get
  have hIs : (Value.ref C :: bm).contains (.ref C) = true := by simp
  have li := hi.keeps kp
  have lb := (hb (.ref (h.objs.size + 1))).keeps kp
  unfold isInstance
  repeat (first
    | with_reducible refine wpAny_loadPart_at hObj ?_
    | (with_reducible refine wpAny_isSubtype_exc hCls2 ?_; rw [hIs])
    | wp_step)
  show wpAny _ _ (typeLookup (.ref C) _) _ _ _
  refine li.at ?_
  refine wpAny_holding (wpAny_bind (lb.at ?_))
  refine wpAny_bind (wpAny_call (codeAny_mono hq fun r s' z => ?_))
  rcases r with e | (v | _ | _ | _) <;> first | exact z | exact z.elim | skip
  obtain ⟨rfl, z⟩ := z
  first
    | exact wpAny_pure (wpAny_pure z)
    | (wp_walk <;> exact z)
theorem newF_call (Z : NewF B newId initId bmB bm) {rest : List Value} {fI : Addr} (hCls : h.get? C = some (excClassObj nm q C N bs bm hdct sn sub ab col dd k0 k1 k2 k3 k5 newId))
    (hi : W.Looks (model prog w) h (typeLookup (.ref C) "__init__") (some (.ref fI))) (hb : ∀ me, W.Looks (model prog w) h (bindSpecial (.ref fI) me) (.ref fI, [me])) (hlen : rest.length ≤ sizeLine)
    (hq : codeAny (model prog w) (A.under (.builtin "type.__call__" ⟨.ref C :: rest, []⟩)) (.call (.ref fI) ⟨.ref (h.objs.size + 1) :: rest, []⟩) (W.InitBack (h.objs.size + 1) R) ⟨(h.push (W.kdv_tup rest)).push (excO C h.objs.size), g, d, t, os⟩) :
    codeAny (model prog w) A (.call (.ref C) ⟨rest, []⟩) R ⟨h, g, d, t, os⟩ := by
  have fa := tc_lookup
  have fb := tc_bind (.ref C)
  have ty : (⟨h, g, d, t, os⟩ : Shared).TypeIs (.ref C) "type" := ⟨_, hCls, rfl⟩
  refine codeAny_of_tree ?_
  show wpAny _ _ (callAny (.ref C) _) _ _ _
  repeat (any_goals (first
    | assumption
    | with_reducible refine wpAny_loadPart_at hCls ?_
    | wp_step))
  refine ⟨rfl, ?_⟩
  refine codeAny_call_builtin_at (Code.quiet_builtin _ (by decide +kernel)) entry_typeCall (wpAny_check_type_call_sub hCls (newF_type Z hCls hi hb hlen ?_))
  refine codeAny_mono hq fun r s' z => ?_
  rcases r with e | (v | _ | _ | _) <;> exact z
end
end Fn
namespace Fn
open PySem PySem.Spec PyProof.Rows L2
/-! ### the classes -/
/-- own classes, then this tail -/
theorem ownT_cases (T : List Value) : ∀ l : List Value, ownT T l = true → (∃ c r, l = .ref c :: r ∧ ownT T r = true) ∨ l = T
  | .ref c :: r, e => .inl ⟨c, r, rfl, e⟩
  | [], e => .inr (beq_iff_eq.mp e)
  | .none :: _, e => .inr (beq_iff_eq.mp e)
  | .ellipsis :: _, e => .inr (beq_iff_eq.mp e)
  | .notImplemented :: _, e => .inr (beq_iff_eq.mp e)
  | .bool _ :: _, e => .inr (beq_iff_eq.mp e)
  | .int _ _ :: _, e => .inr (beq_iff_eq.mp e)
  | .float _ _ :: _, e => .inr (beq_iff_eq.mp e)
  | .str _ _ :: _, e => .inr (beq_iff_eq.mp e)
  | .bytes _ _ :: _, e => .inr (beq_iff_eq.mp e)
  | .type _ :: _, e => .inr (beq_iff_eq.mp e)
  | .builtin _ :: _, e => .inr (beq_iff_eq.mp e)
theorem ownT_pass {T : List Value} (p : ∀ me, refuseLoop me "__setattr__" T = pure ()) (me : Value) : ∀ l : List Value, ownT T l = true → refuseLoop me "__setattr__" l = pure ()
  | l, e => by
    induction l with
    | nil =>
      rcases ownT_cases T [] e with ⟨c, r, q, _⟩ | q
      · cases q
      · rw [q]
        exact p me
    | cons a r ih =>
      rcases ownT_cases T (a :: r) e with ⟨c, r', q, h⟩ | q
      · obtain ⟨rfl, rfl⟩ := List.cons.inj q
        rw [refuseLoop_ref]
        exact ih h
      · rw [q]
        exact p me
theorem ownT_has {T : List Value} (x : String) : ∀ l : List Value, ownT T l = true → l.contains (.type x) = T.contains (.type x)
  | l, e => by
    induction l with
    | nil =>
      rcases ownT_cases T [] e with ⟨c, r, q, _⟩ | q
      · cases q
      · rw [q]
    | cons a r ih =>
      rcases ownT_cases T (a :: r) e with ⟨c, r', q, h⟩ | q
      · obtain ⟨rfl, rfl⟩ := List.cons.inj q
        rw [List.contains_cons, ih h]
        rfl
      · rw [q]
/-- a built-in base: its facts, its mro T -/
structure BaseX (B newId initId : String) (bmB T : List Value) : Prop where
  F : ExcBaseFacts B newId initId bmB
  cB : T.contains (.type B) = true
  cA : T.contains (.type "AttributeError") = false
  cN : T.contains (.type "NameError") = false
  cO : T.contains (.type "object") = true
  pass : ∀ me, refuseLoop me "__setattr__" T = pure ()
theorem BaseX.new {B newId initId : String} {bmB T bm : List Value} (Z : BaseX B newId initId bmB T) (h : ownT T bm = true) : NewF B newId initId bmB bm :=
  ⟨Z.F, by rw [ownT_has _ _ h]; exact Z.cB, by rw [ownT_has _ _ h]; exact Z.cA, by rw [ownT_has _ _ h]; exact Z.cN⟩
theorem bVal : BaseX "ValueError" "ValueError.__new__" "ValueError.__init__" tVal tVal := ⟨PySem.F.excBase_ValueError, by decide +kernel, by decide +kernel, by decide +kernel, by decide +kernel, fun me => by kernel_rfl⟩
theorem bKey : BaseX "LookupError" "LookupError.__new__" "LookupError.__init__" tLok tKey := ⟨PySem.F.excBase_LookupError, by decide +kernel, by decide +kernel, by decide +kernel, by decide +kernel, fun me => by kernel_rfl⟩
theorem bLok : BaseX "LookupError" "LookupError.__new__" "LookupError.__init__" tLok tLok := ⟨PySem.F.excBase_LookupError, by decide +kernel, by decide +kernel, by decide +kernel, by decide +kernel, fun me => by kernel_rfl⟩
theorem bIdx : BaseX "IndexError" "IndexError.__new__" "IndexError.__init__" tIdx tIdx := ⟨PySem.F.excBase_IndexError, by decide +kernel, by decide +kernel, by decide +kernel, by decide +kernel, fun me => by kernel_rfl⟩
theorem bOvf : BaseX "OverflowError" "OverflowError.__new__" "OverflowError.__init__" tOvf tOvf := ⟨PySem.F.excBase_OverflowError, by decide +kernel, by decide +kernel, by decide +kernel, by decide +kernel, fun me => by kernel_rfl⟩
theorem bAri : BaseX "ArithmeticError" "ArithmeticError.__new__" "ArithmeticError.__init__" tAri tAri := ⟨PySem.F.excBase_ArithmeticError, by decide +kernel, by decide +kernel, by decide +kernel, by decide +kernel, fun me => by kernel_rfl⟩
theorem bRun : BaseX "RuntimeError" "RuntimeError.__new__" "RuntimeError.__init__" tRun tRun := ⟨PySem.F.excBase_RuntimeError, by decide +kernel, by decide +kernel, by decide +kernel, by decide +kernel, fun me => by kernel_rfl⟩
/-- the class at C in the written part: its tail T, what makes it -/
theorem clsX_obj {K : PySem.W.Frag} {C : Addr} {T : List Value} {newId : String} (h : clsX K C T newId = true) :
    ∃ nm q N bs bm sn sub ab col dd k0 k1 k2 k3 k5, K.lookup C = some (excClassObj nm q C N bs bm true sn sub ab col dd k0 k1 k2 k3 k5 newId) ∧ ownT T bm = true := by
  unfold clsX at h
  split at h
  · rename_i dd cd sl e
    split at h
    · rename_i C' bm k0 k1 k2 k3 n k5 e1 e2
      simp only [Bool.and_eq_true, beq_iff_eq] at h
      obtain ⟨⟨⟨⟨h1, h2⟩, h3⟩, h4⟩, h5⟩ := h
      subst h1 h2
      obtain ⟨nm, bs, mro, ns, qn, hd, sn, sb, ab, col, del⟩ := cd
      simp only at e1 h3 h4
      subst e1
      have h3' : del = false := by simpa using h3
      subst h3' h4
      refine ⟨nm, qn, ns, bs, bm, sn, sb, ab, col, dd, k0, k1, k2, k3, k5, ?_, h5⟩
      rw [e]
      have : sl = #[k0, k1, k2, k3, some (.builtin n), k5] := by
        rw [← Array.toArray_toList (xs := sl), e2]
      rw [this]
    · cases h
  · cases h
end Fn
namespace PySem.W
open PySem PySem.Spec PySem.Calls PyProof.Rows
section
variable {prog : Program} {w : World} {A : Around} {E : Value → Shared → Prop} {s : Shared} {K : Frag} {x D : Addr} {ox : Obj} {od : Option Obj}
theorem fn_findObj {K : Frag} {C : Addr} {od : Option Obj} {name : Str} {a g : Value} (hc : (clsIn K C).isSome = true) (ha : findIn K (.ref C) name = some (some a)) (hg : specialIn K a "__get__" = some (some g)) (ht : takesIn K a = some true) : findObj K C od name = some (.bind g a) := by
  cases od with
  | none => exact findObj_dataN hc ha hg ht
  | some o => exact findObj_data hc ha hg ht
theorem fn_class {Q : Option Value → Shared → Prop} (T : L2.ExcC K D) (X : K.In s.heap) (I : InstAt s.heap x ox D od) (h : Q (some (.ref D)) { s with toks := s.toks + 1 }) : wpAny (model prog w) A (getAttr? (.ref x) "__class__") Q E s := by
  have fo : findObj K D od "__class__" = some (.bind (.builtin "getset_descriptor.__get__") (.builtin "object.__class__")) := fn_findObj (by obtain ⟨cd, hcd, _⟩ := any_some T.hd; rw [hcd]; rfl) T.ha T.hn T.ht
  obtain ⟨hh, gs, dr, tk, ost⟩ := s
  have l0 := I.type (M := model prog w)
  have l1 := looks_findIn (M := model prog w) X T.hg
  have l2 := looks_findIn (M := model prog w) X T.hk
  have l3 := looks_find (M := model prog w) X I fo
  have ls : Looks (model prog w) hh (isInstance (.ref x) (.type "BaseException")) true := l0.andThen (looks_subIn X T.hs)
  have z0 : (false && onTheHeap (Value.builtin "BaseException.__getattribute__")) = false := rfl
  have z2 : (Value.builtin "BaseException.__getattribute__" == Value.builtin "object.__getattribute__") = false := by decide +kernel
  have z1 : (onTheHeap (Value.ref D) && Value.builtin "BaseException.__getattribute__" == Value.builtin "object.__getattribute__") = false := by (rw [z2]; rfl)
  unfold getAttr? getAttrBy? getAttrBy
  refine wpAny_bind (wpAny_mkText (wpAny_bind (wpAny_attempt (wpAny_holding (wpAny_bind (l0.at (wpAny_bind (l1.at ?_))))))))
  show wpAny _ _ (if (onTheHeap (Value.ref D) && Value.builtin "BaseException.__getattribute__" == Value.builtin "object.__getattribute__") = true then _ else _) _ _ _
  rw [z1, if_neg Bool.false_ne_true]
  unfold getAttrByItsOwn hookBefore
  refine wpAny_bind ?_
  rw [if_pos (show (onTheHeap (Value.ref D)) = true from rfl)]
  refine l2.at ?_
  refine (wpAny_bind (wpAny_attempt (wpAny_holding ?_)))
  unfold callGetattribute
  rw [z0, if_neg Bool.false_ne_true]
  unfold boundAndCalled
  rw [PySem.F.excAttr_ValueError.ga.bind (Value.ref x)]
  refine (wpAny_bind (wpAny_pure ?_))
  show wpAny _ _ (call (.builtin "BaseException.__getattribute__") [.ref x, .str "__class__" tk]) _ _ _
  refine (wpAny_call (codeAny_call_builtin PySem.F.excAttr_ValueError.ga.plain PySem.F.entry_bexc_ga ?_))
  refine @check_slot (model prog w) _ _ ⟨hh, gs, dr, tk + 1, ost⟩ "BaseException.__getattribute__" "BaseException" "__getattribute__" (.ref x) [.str "__class__" tk] [] _ (by decide +kernel) (by decide +kernel) ls (PySem.F.args_bexc_ga (.ref x) (.str "__class__" tk)) ?_
  unfold Builtin.«object.__getattribute__»
  refine (wpAny_bind (wpAny_of_eq (a := ((Value.ref x : Value), [Value.str "__class__" tk])) (by first | exact rfl | (simp only [slotArgs]; rfl)) ?_))
  refine (wpAny_bind (wpAny_pure (wpAny_bind (l0.at (wpAny_bind (l3.at ?_))))))
  show wpAny _ _ ((holding [Value.builtin "object.__class__"] (call (.builtin "getset_descriptor.__get__") [.builtin "object.__class__", .ref x, .ref D])) >>= ret) _ _ _
  refine wpAny_bind (wpAny_holding (wpAny_call (class_get (s := ⟨hh, gs, dr, tk + 1, ost⟩) (ox := ox) (od := od) X I T.hm ?_)))
  refine wpAny_pure ?_
  show wpAny _ _ (handedOut (Value.ref D)) _ _ _
  rw [handedOut_of (v := Value.ref D) rfl]
  first
    | exact (wpAny_pure (wpAny_pure h))
    | exact wpAny_pure h
    | exact (wpAny_pure (wpAny_bind (wpAny_pure (wpAny_pure h))))
theorem fn_kitx (T : L2.ExcC K D) : KitX K (.ref x) (.ref D) (fun h => ∃ ox od, InstAt h x ox D od) where
  ty := fun _ _ _ ⟨_, _, I⟩ => I.type
  it := fun _ _ X _ => by
    obtain ⟨cd, hcd, _⟩ := any_some T.hd
    unfold clsIn at hcd
    split at hcd
    · rename_i c' d' cd' sl' ho
      intro A' Q' E' s' k q
      unfold isType loadHead
      exact wpAny_bind (wpAny_loadPart (k _ _ (X _ _ ho)) (wpAny_pure q))
    · cases hcd
  ne := fun h tp dd its n sl X htp => by
    obtain ⟨cd, hcd, _⟩ := any_some T.hd
    refine Bool.eq_false_iff.mpr fun q => ?_
    have e := Value.ref.inj (beq_iff_eq.mp q)
    subst e
    unfold clsIn at hcd
    split at hcd
    · rename_i c' d' cd' sl' ho
      cases (X _ _ ho).symm.trans htp
    · cases hcd
  ca := fun X ⟨_, _, I⟩ k => fn_class T X I k
end
end PySem.W
namespace Fn
open PySem PySem.Spec PyProof.Rows L2
/-- an exception that was made: of the class at C; its one text, if it was made with one -/
def exT (a C t : Addr) : HO := .ext fun h => h.get? a = some ({ cls := .ref C, dict := none, data := .fields #[.ref t, .none, .none, .none, .bool false, .none] } : Obj)
theorem exT_ok {P : Program} {w : World} {H : Hp} {h : Heap} {a C t : Addr} (e : h.get? a = some ({ cls := .ref C, dict := none, data := .fields #[.ref t, .none, .none, .none, .bool false, .none] } : Obj)) : ObjOk P w H h a (exT a C t) :=
  ⟨e, ⟨_, e⟩, fun _ _ z k => k _ z⟩
/-- an instance of the error class at C -/
def IsErr (H : Hp) (a C : Addr) : Prop := (∃ d, H a = some (exo a C d) ∧ ∀ dx, d = some dx → ∃ fs, H dx = some (exd dx fs)) ∨ ∃ t, H a = some (exT a C t)
theorem isErr_at {P : Program} {w : World} {H : Hp} {h : Heap} {a C : Addr} (hok : HOk P w H h) (e : IsErr H a C) : ∃ ox od, PySem.W.InstAt h a ox C od := by
  rcases e with ⟨d, e, hd⟩ | ⟨t, e⟩
  · obtain ⟨t1, ho⟩ := exo_at hok e
    cases d with
    | none => exact ⟨_, none, ho, rfl, rfl, trivial⟩
    | some dx =>
      obtain ⟨fs, ed⟩ := hd dx rfl
      obtain ⟨mA, ⟨o, es, ep, hdo, _⟩, _⟩ := exd_at hok ed
      exact ⟨_, some o, ho, rfl, rfl, hdo⟩
  · have x : ObjOk P w H h a (exT a C t) := hok a _ e
    exact ⟨_, none, x.1, rfl, rfl, trivial⟩
/-- isinstance(e, c), e such an error -/
def rIsErr (K : PySem.W.Frag) : List V → Hp → VK → Prop := fun xs H Q => ∃ (a D : Addr) (c : V) (cv : Value) (b : Bool), xs = [.ref a, c] ∧ IsErr H a D ∧ ExcC K D ∧ ClsV c cv ∧ PySem.W.kitOne K (.ref D) cv = some b ∧ Q (.bl b) H
theorem call_isErr {X : Cx} {K : PySem.W.Frag} (hK : X.K = K := by rfl) : CallR X (.builtin "isinstance") (rIsErr K) := by
  subst hK
  intro pins s σ H xs us Q I r h
  obtain ⟨a, D, c, cv, b, rfl, he, T, hc, e, q⟩ := h
  obtain ⟨u1, u2, rfl, r1, r2⟩ := vals2 r
  cases (show u1 = Value.ref a from r1)
  have e2 := hc.eq r2
  subst e2
  exact PySem.W.kia_one (PySem.W.fn_kitx T) I.kIn (isErr_at I.hok he) e (fun z => nomatch z) fun tk => ⟨.bl b, H, I.kept (t' := tk) fun _ _ z => z, rfl, q⟩

end Fn
namespace Fn
open PySem PySem.Spec PyProof.Rows L2
/-! ### an own class, as it is used -/
/-- an own class over a built-in base, whose instances may bear fields -/
structure OwnX (K : PySem.W.Frag) (C : Addr) : Prop where
  cls : ∃ B newId initId bmB T, BaseX B newId initId bmB T ∧ clsX K C T newId = true
  sa : PySem.W.findIn K (.ref C) "__setattr__" = some (some (.builtin "object.__setattr__"))
  kp : PySem.W.keepIn K (.ref C) = true
section
open Builtin Builtin.ObjectAttr PySem.HandSPX
variable {prog : Program} {w : World} {A : Around} {E : Value → Shared → Prop} {R : Result → Shared → Prop} {h : Heap} {g : Array GenState} {d : Drawn} {t : Nat} {os : OsState}
/-- the first field of a new exception: its dict is made -/
theorem firstField {K : PySem.W.Frag} {f : Str} {tk : Tok} {u : Value} {x C : Addr} {sl : Array Value} {cd : ClassData} (X : K.In h) (hx : h.get? x = some { cls := .ref C, data := .fields sl }) (hc : PySem.W.clsIn K C = some cd)
    (pass : ∀ me, refuseLoop me "__setattr__" cd.mro = pure ()) (ne : cd.mro.isEmpty = false) (ob : cd.mro.contains (.type "object") = true) (hd : cd.hasDict = true) (no : PySem.W.findIn K (.ref C) f = some none)
    (hq : ∀ h' tk' dx, (∀ b o, b ≠ x → h.get? b = some o → h'.get? b = some o) → h.objs.size ≤ dx → dx ≠ x → h'.get? x = some { cls := .ref C, dict := some dx, data := .fields sl } →
      h'.Ns1 dx (fun y => if y = f then some u else none) → R (.ok (.ret .none)) ⟨h', g, d, tk', os⟩) :
    codeAny (model prog w) A (.call (.builtin "object.__setattr__") ⟨[.ref x, .str f tk, u], []⟩) R ⟨h, g, d, t, os⟩ := by
  have J : PySem.W.InstAt h x { cls := .ref C, data := .fields sl } C none := ⟨hx, rfl, rfl, trivial⟩
  have fo := PySem.F.store_object
  have ty := J.type (M := model prog w)
  have lc : PySem.W.Looks (model prog w) h (classData C) cd := PySem.W.looks_clsIn X hc
  have lm : PySem.W.Looks (model prog w) h (mroOf (.ref C)) cd.mro := lc.andThen .now
  have ln : PySem.W.Looks (model prog w) h (storeTaker? none) none := .now
  have nx : x ≠ h.objs.size := Nat.ne_of_lt (Heap.lt_size hx)
  have is : PySem.W.Looks (model prog w) h (isInstance (.ref x) (.type "object")) true := ty.andThen (PySem.W.looks_mroIn X (by
    unfold PySem.W.mroIn
    rw [hc, Option.bind_some, ne, ob]
    rfl))
  refine codeAny_call_builtin fo.slot.plain fo.entry (@PySem.W.check_slot (model prog w) _ _ ⟨h, g, d, t, os⟩ "object.__setattr__" "object" "__setattr__" (.ref x) [.str f tk, u] [] _ fo.kind fo.split is (fo.args (.ref x) (.str f tk) u) ?_)
  rw [PySem.W.osa_eq, refuse_eq]
  refine wpAny_bind (wpAny_bind (ty.at (wpAny_bind (lm.at ?_))))
  rw [pass]
  refine wpAny_pure (wpAny_bind (ty.at (wpAny_bind ((PySem.W.looks_findIn X no).at (wpAny_bind (ln.at ?_))))))
  show wpAny _ _ (storeInOwnDict (.ref x) (.ref C) (.str f tk) f u false) _ _ _
  cases cd with
  | mk c1 c2 c3 c4 c5 c6 c7 c8 c9 c10 c11 =>
    have hd' : c6 = true := hd
    subst hd'
    unfold storeInOwnDict ownDictForStores
    repeat (first | with_reducible refine store_in_new ?_ ?_ | with_reducible refine wpAny_loadPart_at hx ?_ | with_reducible refine lc.at ?_ | wp_step)
    · exact ⟨_, #[], _, (Heap.get?_update_ne _ _ _ _ nx.symm).trans (Heap.get?_push_at rfl rfl), rfl, fun e he => absurd he (by simp), fun _ => rfl⟩
    · intro h' tk' ns sb
      refine hq h' tk' h.objs.size (fun b o nb e => ?_) (Nat.le_refl _) nx.symm ((sb.2 x nx).trans (Heap.get?_update_self _ (Heap.get?_push_of_some _ hx) rfl)) ns
      rw [sb.2 b (Nat.ne_of_lt (Heap.lt_size e)), Heap.get?_update_ne _ _ _ _ nb]
      exact Heap.get?_push_of_some _ e
end
section
variable {X : Cx} {pins : List (Addr × Obj)} {σ : L2.St} {H : Hp} {s : Shared} {a C : Addr} {f : Str} {y : V} {u : Value} {Q : Unit → Shared → Prop} {E : Value → Shared → Prop} {A : Around}
theorem OwnX.mro {K : PySem.W.Frag} (T : OwnX K C) : ∃ cd, PySem.W.clsIn K C = some cd ∧ (∀ me, refuseLoop me "__setattr__" cd.mro = pure ()) ∧ cd.mro.isEmpty = false ∧ cd.mro.contains (.type "object") = true ∧ cd.hasDict = true := by
  obtain ⟨B, n, i, bmB, T0, Z, hc⟩ := T.cls
  obtain ⟨nm, q, N, bs, bm, sn, sub, ab, col, dd, k0, k1, k2, k3, k5, e, ow⟩ := clsX_obj hc
  refine ⟨_, by unfold PySem.W.clsIn; rw [e] <;> rfl, fun me => ownT_pass Z.pass me (.ref C :: bm) ow, rfl, ?_, rfl⟩
  show (Value.ref C :: bm).contains (.type "object") = true
  rw [List.contains_cons, ownT_has _ _ ow, Z.cO, Bool.or_true]
theorem putX_new (T : OwnX X.K C) (I : Inv X pins σ H s) (e : H a = some (exo a C none)) (no : PySem.W.findIn X.K (.ref C) f = some none) (ry : RelV y u)
    (k : ∀ dx s', H dx = none → dx ≠ a → Inv X pins σ (upd (upd H dx (exd dx [(f, y)])) a (exo a C (some dx))) s' → Q () s') : wpAny (model X.prog X.w) A (setAttr (.ref a) f u) Q E s := by
  obtain ⟨cd, c1, c2, c3, c4, c5⟩ := T.mro
  obtain ⟨t1, ho⟩ := exo_at I.hok e
  obtain ⟨h, g, d, t, os⟩ := s
  refine PySem.W.set_plain I.kIn (ox := { cls := .ref C, dict := none, data := .fields #[.ref t1, .none, .none, .none, .bool false, .none] }) (od := none) ⟨ho, rfl, rfl, trivial⟩ T.sa (firstField I.kIn ho c1 c2 c3 c4 c5 no fun h' tk' dx kp ge ne hx ns => ?_)
  have nH : H dx = none := I.hok.fresh ge
  have old : ∀ {b : Addr} {o : Obj}, h.get? b = some o → b ≠ dx := fun q z => absurd (Heap.lt_size q) (by rw [z]; exact Nat.not_lt.mpr ge)
  have off : ∀ {b : Addr}, H b = none → b ≠ a := fun n z => by
    subst z
    rw [e] at n
    cases n
  have both : ∀ {b : Addr} {o : HO}, H b = some o → o ≠ exo a C none → upd (upd H dx (exd dx [(f, y)])) a (exo a C (some dx)) b = some o := fun {b o} q n => by
    have ba : b ≠ a := fun z => by
      subst z
      rw [e] at q
      exact n (Option.some.inj q).symm
    rw [upd_ne ba, upd_ne (ne_of_none q nH)]
    exact q
  have U : Un X.fs [] H (upd (upd H dx (exd dx [(f, y)])) a (exo a C (some dx))) h h' := {
    keep := fun b o q n _ _ => kp b o (off n) q
    slot := fun b o q n _ _ => ⟨_, kp b o (off n) q⟩
    free := fun b o q n _ => (upd_ne (off n)).trans ((upd_ne (old q)).trans n)
    there := fun b o q _ => (Decidable.em (b = a)).elim (fun z => ⟨_, z ▸ hx⟩) fun z => ⟨o, kp b o z q⟩
    tups := fun b xs q => both q fun z => exo_tup z.symm
    frzs := fun b o v q => both q fun z => exo_frz z.symm
    tbls := fun b ps q => ⟨#[], by rw [both q fun z => exo_tbl z.symm]; simp⟩ }
  refine k dx _ nH ne (I.un (t' := tk') U fun b o q => ?_)
  by_cases ba : b = a
  · subst ba
    cases upd_same.symm.trans q
    exact exo_ok hx
  rw [upd_ne ba] at q
  by_cases bd : b = dx
  · subst bd
    cases upd_same.symm.trans q
    exact exd_ok ns (relO_put (fs := []) ry fun _ => True.intro)
  rw [upd_ne bd] at q
  refine (I.hok b o q).stay (fun c v hc z => kp c v ?_ z) (fun c hc => both hc fun z => exo_own z.symm) fun c xs hc => both hc fun z => exo_tup z.symm
  rcases hc with rfl | hc
  · exact ba
  · exact at_ne e hc exo_own
end
/-! ### readings and rules -/
/-- self.f = e, in an own __init__, the first field -/
def tPut (K : PySem.W.Frag) (f : Str) (to te : TE) : TS := fun D σ H => te σ H fun y H1 => to σ H1 fun x H2 => ∃ a C : Addr, x = .ref a ∧ OwnX K C ∧ PySem.W.findIn K (.ref C) f = some none ∧ H2 a = some (exo a C none) ∧
  ∀ dx, H2 dx = none → dx ≠ a → D.nx σ (upd (upd H2 dx (exd dx [(f, y)])) a (exo a C (some dx)))
section
variable {X : Cx} {o e : Expr} {es : List Expr} {to te : TE} {ta : TA} {f x : Str} {p p' pos : Pos}
theorem ps_put (ho : PE X o to) (he : PE X e te) (sw : swapsWith e (some (.Attribute o f p')) pos.line X.env = pure false := by rfl) : PS X (.Assign [.Attribute o f p'] e pos) (tPut X.K f to te) := by
  refine ⟨fun pins s σ H D I h => plainObj_wpAny_Assign_Attribute (thn (he.run pins s σ H _ I h) fun v s1 ⟨y, H1, J, r, q⟩ => thn (ho.run pins s1 σ H1 _ J q) fun u s2 ⟨z, H2, J2, r2, a, C, ez, T, no, ea, q2⟩ => ?_) sw⟩
  subst ez
  cases r2
  exact putX_new T J2 ea no r fun dx s' n ne G => ⟨σ, _, G, q2 dx n ne⟩
/-- C(e): C with an own __init__, whose promise is sp -/
structure MkIni (C : Addr) (sp : Sp) (vs : List V) (H : Hp) (Q : VK) : Prop where
  z : vs.length ≤ 1000
  k : ∀ a, H a = none → sp (.ref a :: vs) (upd H a (exo a C none)) (fun v H2 => v = .non ∧ Q (.ref a) H2) fun _ _ _ => False
def tMkI (C : Addr) (sp : Sp) (ta : TA) : TE := fun σ H Q => ta σ H fun vs H1 => MkIni C sp vs H1 Q
/-- C(e): C without one -/
structure MkOne (C : Addr) (y : V) (H : Hp) (Q : VK) : Prop where
  k : ∀ t a, H t = none → H a = none → t ≠ a → Q (.ref a) (upd (upd H t (.tup [y])) a (exT a C t))
def tMk1 (C : Addr) (te : TE) : TE := fun σ H Q => te σ H fun y H1 => MkOne C y H1 Q
theorem pe_mkI {W : CXT} {C fI : Addr} {k : Nat} {fd : FuncData} {ps : List Str} {sp : Sp} (T : OwnX X.K C) (iC : PySem.W.findIn X.K (.ref C) "__init__" = some (some (.ref fI))) (tI : PySem.W.typeIn X.K (.ref fI) = some (.type "function"))
    (F : FnOk X.prog X.w X.K X.mg X.base W k fI fd ps sp) (hr : Room (k + 1) X.A) (hb : Binds X.K fd ps []) (hx : Passes W X (fun _ _ _ => False)) (hg : Gl X x) (hm : X.mg x = some (.ref C)) (ha : PA X (e :: es) ta)
    (ndb : (x == ("__debug__" : Str)) = false := by decide) (st : starEach (e :: es) X.env = (false, eval e X.env) :: starEach es X.env := by rfl) (pl : (backTo pos (starEach es X.env)).any (·.1) = false := by rfl) :
    PE X (.Call (.Name x p) (e :: es) [] pos) (tMkI C sp ta) := by
  refine ⟨fun pins s σ H Q I h => wpAny_Call_Name_kw (ld_glob I hg hm ?_ ndb)⟩
  refine PySem.W.callWith_K (h₀ := X.base) I.ok.mod.kin T.kp (thn (ha.run pos pins s σ H _ I h) fun us s1 ⟨vs, H1, J, r, sz, q⟩ => ⟨J.kIn, ?_⟩) st pl
  show wpAny _ _ (call (.ref C) us) _ _ _
  obtain ⟨B, n, i, bmB, T0, Z, hc⟩ := T.cls
  obtain ⟨nm, qn, N, bs, bm, sn, sub, ab, col, dd, k0, k1, k2, k3, k5, eC, ow⟩ := clsX_obj hc
  obtain ⟨hp, g, dr, tk, os⟩ := s1
  have ge : hp.objs.size ≤ hp.objs.size + 1 := Nat.le_succ _
  have new : ((hp.push (PySem.W.kdv_tup us)).push (PySem.HandSPX.excO C hp.objs.size)).get? (hp.objs.size + 1) = some (PySem.HandSPX.excO C hp.objs.size) := by heap_get
  have G : Inv X pins σ (upd H1 (hp.objs.size + 1) (exo (hp.objs.size + 1) C none)) ⟨(hp.push (PySem.W.kdv_tup us)).push (PySem.HandSPX.excO C hp.objs.size), g, dr, tk, os⟩ :=
    J.laid (t' := tk) (fun _ _ z => Heap.get?_push_of_some _ (Heap.get?_push_of_some _ z)) ge (exo_ok new)
  have sq := q _ (J.hok.fresh ge)
  have r2 : Vals (V.ref (hp.objs.size + 1) :: vs) (Value.ref (hp.objs.size + 1) :: us) := .cons rfl r
  have ln : (Value.ref (hp.objs.size + 1) :: us ++ []).length = ps.length := by
    rw [List.append_nil]
    exact r2.length.symm.trans (F.len _ _ _ _ sq)
  have bd := hb ⟨(hp.push (PySem.W.kdv_tup us)).push (PySem.HandSPX.excO C hp.objs.size), g, dr, tk, os⟩ (Value.ref (hp.objs.size + 1) :: us) G.kIn ln
  rw [List.append_nil] at bd
  refine wpAny_call (newF_call (Z.new ow) (J.kIn _ _ eC) (PySem.W.looks_findIn J.kIn iC) (fun me => PySem.W.bind_fn J.kIn me tI) (by rw [← r.length, sizeLine_eq]; omega)
    (codeAny_mono (F.run _ X.stack _ _ ⟨Value.ref (hp.objs.size + 1) :: us, []⟩ _ _ _ (fun _ _ _ => False) (hr.make C us []) (G.env0.make C us []) bd r2 sq) fun r s' z => ?_))
  rcases r with er | (_ | _ | _ | u)
  all_goals first
    | exact hx pins σ _ _ er s' G z
    | exact False.elim z
    | skip
  obtain ⟨v, H2, o2, b2, un2, ok2, rv, ev, q2⟩ := z
  subst ev
  obtain ⟨h2, g2, d2, t2, os2⟩ := s'
  cases (show os2 = os from o2)
  exact ⟨rv, .ref (hp.objs.size + 1), H2, G.call (h' := h2) (g' := g2) (d' := d2) (t' := t2) (ch := []) un2 ok2 b2 (fun _ z => absurd z (by simp)), rfl, q2⟩
/-- C(e): C without an own __init__ -/
theorem pe_mk1 {C : Addr} {bmB : List Value} {B newId initId : String} (F : ExcBaseFacts B newId initId bmB) (q : PySem.W.excIn X.K C bmB newId = true) (hm : X.mg x = some (.ref C)) (kC : PySem.W.keepIn X.K (.ref C) = true) (hg : Gl X x)
    (he : PE X e te) (st : starEach [e] X.env = (false, eval e X.env) :: starEach [] X.env := by rfl) (ndb : (x == ("__debug__" : Str)) = false := by decide) :
    PE X (.Call (.Name x p) [e] [] pos) (tMk1 C te) := by
  refine ⟨fun pins s σ H Q I h => wpAny_Call_Name_kw (ld_glob I hg hm ?_ ndb)⟩
  refine PySem.W.callWith_K (h₀ := X.base) I.ok.mod.kin kC ?_ st (by rfl)
  rw [st]
  show wpAny _ _ (spliced ((false, eval e X.env) :: backTo pos (starEach [] X.env))) _ _ s
  refine Calls.spliced_cons (thn (he.run pins s σ H _ I h) fun u s1 ⟨v, H1, J, r, q1⟩ => Calls.spliced_nil ⟨J.kIn, ?_⟩)
  show wpAny _ _ (call (.ref C) [u]) _ _ _
  obtain ⟨bm, N, nm, qn, bs, hd, sn, sub, ab, col, dd, k0, k1, k2, k3, k5, mN, eC, hN, hni, T⟩ := exc_obj J.kIn q
  refine wpAny_call_exc_subT F T eC hN hni (fun h' a hmk => ?_) (by show 1 ≤ sizeLine; rw [sizeLine_eq]; omega)
  obtain ⟨t, ea, tn, et⟩ := hmk.there
  obtain ⟨hp, g, dr, tk, os⟩ := s1
  have na : H1 a = none := J.hok.gone hmk.new
  have nt : H1 t = none := J.hok.gone tn
  have ta : t ≠ a := fun z => by
    subst z
    rw [ea] at et
    cases et
  obtain ⟨G, g1, g2⟩ := restrict h' fun b => decide (b ≠ a)
  have gk : ∀ b, b ≠ a → G.get? b = h'.get? b := fun b hb => g1 b (decide_eq_true hb)
  have ga : G.get? a = none := g2 a (by simp)
  have J1 : Inv X pins σ (upd H1 t (.tup [v])) ⟨G, g, dr, tk, os⟩ := J.laidN (t' := tk) (h' := G) (a := t) (fun b o z => by
      rw [gk b fun y => by
        rw [y, hmk.new] at z
        cases z]
      exact hmk.keeps b o z) tn nt (show ObjOk X.prog X.w _ G t (.tup [v]) from ⟨by show 1 ≤ sizeLine; rw [sizeLine_eq]; omega, [u], .cons r .nil, _, (gk t ta).trans et, rfl, _, rfl⟩)
  have J2 : Inv X pins σ (upd (upd H1 t (.tup [v])) a (exT a C t)) ⟨h', g, dr, tk, os⟩ := J1.laidN (t' := tk) (h' := h') (a := a) (fun b o z => by
      by_cases y : b = a
      · rw [y, ga] at z
        cases z
      · exact (gk b y).symm.trans z) ga ((upd_ne ta.symm).trans na) (exT_ok ea)
  exact ⟨.ref a, _, J2, rfl, q1.k t a nt na ta⟩
/-- what str(e) asks of the class of e -/
structure StrC (K : PySem.W.Frag) (C : Addr) : Prop where
  s : PySem.W.findIn K (.ref C) "__str__" = some (some (.builtin "BaseException.__str__"))
  b : PySem.W.subIn K (.ref C) (.type "BaseException") = some true
/-- str(e), e made with one text -/
def rStrE (K : PySem.W.Frag) : List V → Hp → VK → Prop := fun xs H Q => ∃ a C t x, xs = [.ref a] ∧ H a = some (exT a C t) ∧ H t = some (.tup [.str x]) ∧ StrC K C ∧ Q (.str x) H
theorem call_strE {K : PySem.W.Frag} (hu : X.A.units + 64 < cLine) (hK : X.K = K := by rfl) : CallR X (.type "str") (rStrE K) := by
  subst hK
  intro pins s σ H xs us Q I r h
  obtain ⟨a, C, t, z, rfl, ea, et, T, q⟩ := h
  obtain ⟨u, rfl, r1⟩ := vals1 r
  cases r1
  have oa : ObjOk X.prog X.w H s.heap a (exT a C t) := I.hok a _ ea
  obtain ⟨its, rt, ⟨o, ho, hc, n, hd⟩, _⟩ := I.tuple (SqT.of et)
  obtain ⟨w1, rfl, tk, rfl⟩ := vals1 rt
  exact PySem.P.str_of_C_one (by omega) ⟨I.kIn, _, _, oa.1, rfl, rfl, rfl⟩ ⟨o, n, ho, hc, hd⟩ T.s T.b ⟨.str z, H, I, ⟨_, rfl⟩, q⟩
/-- e.f, e an exception that was made: its own field -/
def tXg (K : PySem.W.Frag) (f : Str) (te : TE) : TE := fun σ H Q => te σ H fun x H1 => ∃ (a C dx : Addr) (fs : List (Str × V)) (v : V), x = .ref a ∧ H1 a = some (exo a C (some dx)) ∧ H1 dx = some (exd dx fs) ∧ XfC K C ∧ PySem.W.findIn K (.ref C) f = some none ∧ fs.lookup f = some v ∧ Q v H1
theorem pe_xg {K : PySem.W.Frag} (he : PE X e te) (hb : attributeBase e f X.env (eval e X.env) = eval e X.env := by rfl) (hK : X.K = K := by rfl) : PE X (.Attribute e f pos) (tXg K f te) := by
  subst hK
  refine ⟨fun pins s σ H Q I h => attr_of hb (thn (he.run pins s σ H _ I h) fun u s1 ⟨x, H1, J, rx, a, C, dx, fs, v, ex, ea, ed, T, no, l, q⟩ => ?_)⟩
  subst ex
  cases rx
  obtain ⟨t1, ho⟩ := exo_at J.hok ea
  obtain ⟨mA, ns, rel⟩ := exd_at J.hok ed
  obtain ⟨od, hd, hl⟩ := lookIn_ns ns
  obtain ⟨u, hu, ru⟩ := RelO.some_of (v := v) (o := mA f) (by rw [← l]; exact rel f)
  have at1 : PySem.W.InstAt s1.heap a { cls := .ref C, dict := some dx, data := .fields #[.ref t1, .none, .none, .none, .bool false, .none] } C (some od) := ⟨ho, rfl, rfl, hd⟩
  exact PySem.HandSPX.exc_get J.kIn at1 T.ga T.gg T.exC (PySem.W.findObj_own T.hdC no rfl (by rw [hl, hu])) (handed_of ru) ⟨v, H1, J.tok _, ru, q⟩
end
end Fn

set_option Elab.async false
set_option maxRecDepth 100000
set_option maxHeartbeats 4000000
/-! Defs that call repr: a promise that is kept where no repr runs as yet. repr of data; text * int. -/
namespace Fn
open PySem PySem.Spec PyProof.Rows L2
/-- a def's promise, where no repr runs -/
structure FnG (P : Program) (w : World) (K : PySem.W.Frag) (mg : Str → Option Value) (base : Heap) (V : CXT) (k : Nat) (f : Addr) (fd : FuncData) (ps : List Str) (sp : Sp) : Prop where
  len : ∀ xs H Q E, sp xs H Q E → xs.length = ps.length
  go : ∀ (B : Around) (fr : List Env) (s : Shared) (H : Hp) (c : Args) (us : List Value) (xs : List L2.V) (Q : VK) (E : XK), B.guards = some [] → Room k B → Env0 P w K mg base B fr s H → BindsTo s fd c (ps.zip us) → Vals xs us → sp xs H Q E →
    codeAny (model P w) B (.call (.ref f) c) (CR V fr P w H s Q E) s
section
variable {P : Program} {w : World} {K : PySem.W.Frag} {mg : Str → Option Value} {base : Heap}
/-- a def by its body -/
theorem okG {x qual : Str} {st : Stmt} {f : Addr} {fd : FuncData} {N ps : List Str} {k : Nat} {sp : Sp} (F : Fun K x qual st f fd) (S : FnScope N ps (defScope st)) (len : ∀ xs H Q E, sp xs H Q E → xs.length = ps.length)
    (hb : ∀ (cdv : Value) (B : Around) (fr : List Env) (s : Shared) (H : Hp) (xs : List V) (Q : VK) (E : XK), B.guards = some [] → Room k (B.deeper (envOfC qual (defScope st) s.heap.objs.size f cdv)) → sp xs H Q E →
      ∃ t, PSs (cxOf CX0 P w K mg base N qual (defScope st) f cdv B fr s H E).nox (defBody st) t ∧ t { nx := fun _ H' => Q .non H', rt := Q } (start N xs) H) : FnG P w K mg base CX0 (k + 1) f fd ps sp := by
  obtain ⟨oc, od, kV, doc, pm, an, cdv, ct, osl, rfl, lk, hcd⟩ := F.ex
  refine ⟨len, fun B fr s H c us xs Q E hg hr e0 hbd rel hsp => ?_⟩
  have ll := len _ _ _ _ hsp
  have kin : K.In s.heap := e0.mod.kin.keeps fun b o e => (e0.bs b o e).1
  have nol : s.heap.NoLimit := e0.mod.nolimit.keeps fun b o e => (e0.bs b o e).1
  have kd : ∀ y ∈ ps.zip us, (defScope st).names.lookup y.1 = some .local ∨ ((defScope st).names.lookup y.1 = some .cell ∧ ((cellsFrom (s.heap.objs.size + 1) (defScope st).names []).lookup y.1).isSome = true) := by
    intro y hy
    refine (S.par y.1 (List.of_mem_zip hy).1).imp id fun q => ⟨q, PySem.W.cellsFrom_some _ _ _ (.inl q)⟩
  refine codeAny_call_function hr.depth (kin _ _ lk) rfl S.co S.gen rfl (PySem.W.codeRec_of kin hcd) (hbd _ _ _ _ (wpAny_newFunctionEnv_cells S.kind kd fun env he s1 y => ?_))
  subst he
  refine ⟨nol.keeps y.toInCall.keep, codeAny_func ?_⟩
  obtain ⟨t, ht, q⟩ := hb cdv B fr s H xs Q E hg (hr.deeper _) hsp
  have J : Inv (cxOf CX0 P w K mg base N qual (defScope st) f cdv B fr s H E) [] (start N xs) H s1 := inv_start S hr.hd e0 ll rel y
  have close : ∀ {σ' : L2.St} {H' : Hp} {v : V} {u : Value} {s' : Shared}, Inv (cxOf CX0 P w K mg base N qual (defScope st) f cdv B fr s H E) [] σ' H' s' → RelV v u → Q v H' → CE fr P w H s Q u s' :=
    fun j rv z => ⟨_, _, j.os, j.bare, j.base, j.hok, rv, z⟩
  refine wpAny_mono (ht.nox.run [] s1 (start N xs) H _ J q) (fun fl s' z => ?_) fun _ _ z => z
  rcases fl with _ | _ | _ | u
  all_goals first
    | (obtain ⟨v, σ', H', j, rv, z⟩ := z
       exact close j rv z)
    | (obtain ⟨_, _, _, z⟩ := z
       exact z.elim)
    | (obtain ⟨σ', H', j, z⟩ := z
       exact close (v := V.non) (u := Value.none) j rfl z)
end
section
variable {X : Cx} {V : CXT} {k : Nat} {f : Addr} {fd : FuncData} {ps : List Str} {sp : Sp} {dvs : List L2.V} {ds : List Value} {E : XK} {x : Str} {p pos : Pos} {e : Expr} {es : List Expr} {t : TA}
theorem pe_callG (F : FnG X.prog X.w X.K X.mg X.base V k f fd ps sp) (gr : X.A.guards = some []) (hr : Room k X.A) (hg : Gl X x) (hm : X.mg x = some (.ref f)) (hk : PySem.W.keepIn X.K (.ref f) = true) (hb : Binds X.K fd ps ds) (hd : Vals dvs ds) (hx : Passes V X E)
    (ha : PA X (e :: es) t) (ndb : (x == ("__debug__" : Str)) = false := by decide) (st : starEach (e :: es) X.env = (false, eval e X.env) :: starEach es X.env := by rfl) (pl : (backTo pos (starEach es X.env)).any (·.1) = false := by rfl) :
    PE X (.Call (.Name x p) (e :: es) [] pos) (tCall sp dvs E t) := by
  refine ⟨fun pins s σ H Q I h => wpAny_Call_Name_kw (ld_glob I hg hm ?_ ndb)⟩
  refine PySem.W.callWith_K (h₀ := X.base) I.ok.mod.kin hk (thn (ha.run pos pins s σ H _ I h) fun us s1 ⟨vs, H1, J, r, q⟩ => ⟨J.kIn, ?_⟩) st pl
  have r2 := r.append hd
  have ln : (us ++ ds).length = ps.length := r2.length.symm.trans (F.len _ _ _ _ q)
  refine wpAny_call (codeAny_mono (F.go X.A X.stack s1 H1 ⟨us, []⟩ (us ++ ds) (vs ++ dvs) Q E gr hr J.env0 (hb s1 us J.kIn ln) r2 q) fun r s' z => ?_)
  rcases r with er | (_ | _ | _ | u)
  all_goals first
    | exact hx pins σ H1 s1 er s' J z
    | exact J.after z
    | exact False.elim z
end
/-- at the outermost call no repr runs -/
theorem law_callG {P : Program} {w : World} {K : PySem.W.Frag} {mg mb : Str → Option Value} {k : Nat} {fa a : Addr} {fd : FuncData} {x : Str} {sp : Sp} {s : Shared} {vs : List Value} {ns : List Int}
    (KX : K.In s.heap) (gl : s.heap.Ns mainGlobals mg) (bl : s.heap.Ns builtinsNs mb) (bb : ∀ x : Str, x ≠ "__name__" → mb x = bootBuiltins x) (lim : s.heap.NoLimit) (gn : s.gens = #[])
    (ha : s.heap.get? a = some { cls := .type "list", data := .seq vs.toArray }) (hi : IntsAre vs ns) (hl : ns.length ≤ sizeLine) (hr : Room k callerA)
    (F : ∀ base : Heap, K.In base → base.Ns mainGlobals mg → FnG P w K mg base CX0 k fa fd [x] sp) (hbind : ∀ (s : Shared) (u : Value), BindsTo s fd ⟨[u], []⟩ [(x, u)])
    (hsp : ∀ H : Hp, Only H → SqL K H a (ns.map V.int) → sp [.ref a] H (fun v _ => v = .bl true) fun _ _ _ => False) :
    codeAny (model P w) callerA (.call (.ref fa) ⟨[.ref a], []⟩) (fun r s' => r = .ok (.ret (.bool true)) ∧ OldK s.heap s'.heap ∧ s'.os = s.os ∧ AllBare s'.gens) s := by
  have rel := vals_ints hi
  have step : ∀ H : Hp, Only H → SqL K H a (ns.map V.int) → HOk P w H s.heap → (∀ b, H b ≠ none → b = a ∧ K.lookup a = none) →
      codeAny (model P w) callerA (.call (.ref fa) ⟨[.ref a], []⟩) (fun r s' => r = .ok (.ret (.bool true)) ∧ OldK s.heap s'.heap ∧ s'.os = s.os ∧ AllBare s'.gens) s := by
    intro H hO hS ok only
    have none_of : ∀ {b : Addr}, (b = a → K.lookup a = none → False) → H b = none := fun {b} n => by
      cases z : H b with
      | none => rfl
      | some u => exact (n (only b (by rw [z]; exact Option.some_ne_none _)).1 (only b (by rw [z]; exact Option.some_ne_none _)).2).elim
    have dict : ∀ {b : Addr} {m : Str → Option Value}, s.heap.Ns b m → (hidT s.heap H).Ns b m := fun {b m} ⟨o, es, ep, e, d, r⟩ => ⟨o, es, ep, hidT_get e (none_of fun z _ => by
      subst z
      rw [ha] at e
      cases e
      cases d), d, r⟩
    have kb : K.In (hidT s.heap H) := fun b o e => hidT_get (KX b o e) (none_of fun z n => by
      subst z
      rw [n] at e
      cases e)
    have md : Mod K mg (hidT s.heap H) := ⟨kb, dict gl, ⟨mb, dict bl, bb⟩, let ⟨mc, h1, h2⟩ := lim; ⟨mc, dict h1, h2⟩⟩
    have e0 : Env0 P w K mg (hidT s.heap H) callerA [] s H := ⟨rfl, md, fun _ _ => of_hidT, Nat.le_of_eq (hidT_size _ _), trivial, fun b hb => absurd (show b ∈ ([] : List Addr) from hb) (by simp), ok, .of_eq gn⟩
    refine codeAny_mono ((F _ kb (dict gl)).go callerA [] s H ⟨[.ref a], []⟩ [.ref a] [.ref a] _ _ rfl hr e0 (hbind s (.ref a)) (.cons rfl .nil) (hsp H hO hS)) fun r s' z => ?_
    rcases r with er | (_ | _ | _ | u)
    all_goals first
      | exact False.elim z
      | skip
    obtain ⟨v, H', os, bare, un, ok', rv, rfl⟩ := z
    cases (show u = Value.bool true from rv)
    refine ⟨rfl, OldK.of_keep fun b o e => ?_, os, bare⟩
    rcases hO b with n | ⟨ob, xs, n⟩
    · exact un.keep b o e n (fun z => absurd (show b ∈ ([] : List Addr) from z) (by simp)) (by simp)
    · have z1 : s.heap.get? b = some ob := (ok b _ n).1
      have z2 : s'.heap.get? b = some ob := (ok' b _ (un.frzs b ob _ n)).1
      rw [z2, ← z1, e]
  cases hk : K.lookup a with
  | some o =>
    have e := KX a o hk
    rw [ha] at e
    cases e
    exact step (fun _ => none) (fun _ => .inl rfl) (.inr ⟨_, vs.toArray, _, hk, rfl, rfl, rfl, by rw [List.size_toArray, hi.length]; exact hl, by simpa using rel⟩) (fun _ _ z => nomatch z) fun _ z => absurd rfl z
  | none =>
    have same : ∀ b, (if b = a then some (HO.frz { cls := .type "list", data := .seq vs.toArray } (.lst (ns.map V.int))) else none) ≠ none → b = a := fun b n => by
      by_cases z : b = a
      · exact z
      · exact absurd (if_neg z) n
    refine step (fun b => if b = a then some (.frz { cls := .type "list", data := .seq vs.toArray } (.lst (ns.map V.int))) else none) (fun b => ?_) (.inl (.inr ⟨_, if_pos rfl⟩)) (fun b u z => ?_) fun b n => ⟨same b n, hk⟩
    · by_cases z : b = a
      · exact .inr ⟨_, _, if_pos z⟩
      · exact .inl (if_neg z)
    · have e := same b fun y => nomatch y.symm.trans z
      subst e
      cases (if_pos rfl).symm.trans z
      exact ⟨ha, by rw [List.length_map]; exact hl, vs, _, rel, ha⟩
theorem walkG {l : PySem.W.OpenLaw} {n k : Nat} {q : Program} {loose : List Str} {XP : (Str → Option Value) → Heap → Prop} {YP : World → Heap → Prop} {d : DefRec} {K : Params → PySem.W.Frag} {sp : World → Sp} {x : Str}
    (hn : l.most = some n) (hn2 : n ≤ sizeLine) (hdf : d.params.defaults = []) (hr : Room k callerA) (hY : ∀ (w : World) (h : Heap), YP w h → (K w.params).In h)
    (F : ∀ (w : World) (mg : Str → Option Value) (fa : Addr) (h : Heap), (K w.params).In h → h.Ns mainGlobals mg → mg d.name = some (.ref fa) →
      ∃ fd : FuncData, (∀ (s : Shared) (u : Value), BindsTo s fd ⟨[u], []⟩ [(x, u)]) ∧ ∀ base : Heap, (K w.params).In base → base.Ns mainGlobals mg → FnG l.prog w (K w.params) mg base CX0 k fa fd [x] (sp w))
    (hsp : ∀ (w : World) (H : Hp) (a : Addr) (ns : List Int), ns.length ≤ n → Only H → SqL (K w.params) H a (ns.map V.int) → sp w [.ref a] H (fun v _ => v = .bl true) fun _ _ _ => False) :
    PySem.W.WalkO q loose XP YP l.row.toRowW d [] (fun f vs => PySem.call f vs) := by
  refine Att.attach_call hn hdf fun w _ s mg mb fa o pm cd doc a vs ns G Y _ _ _ hm ho hi ll gn => ?_
  have kx := hY w _ Y
  obtain ⟨fd, b, f⟩ := F w mg fa _ kx G.T.g hm
  exact law_callG kx G.T.g G.T.b G.T.builtins G.T.nolimit gn ho hi (Nat.le_trans ll hn2) hr f b fun H h1 h2 => hsp w H a ns ll h1 h2

/-! ### repr of data; one datum many times in a list -/
/-- data that repr may be asked of -/
def Rr (K : PySem.W.Frag) (H : Hp) (v : V) (d : PyData) : Prop := (Dp K H v d ∧ d.hasDict = false) ∨ ∃ (a : Addr) (x : Str) (y : V), v = .ref a ∧ d = .dict [(.str x, .tuple [])] ∧ H a = some (.dK [(.inr x, y)]) ∧ Dp K H y (.tuple [])
section
variable {X : Cx} {pins : List (Addr × Obj)} {σ : L2.St} {H : Hp} {s : Shared} {v : V} {u : Value} {d : PyData}
theorem Rr.reads (I : Inv X pins σ H s) (h : Rr X.K H v d) (r : RelV v u) : ∃ as, Reads s.heap u d as ∧ (d.hasDict = true → sysModules ∉ as) := by
  rcases h with ⟨h, n⟩ | ⟨a, x, y, rfl, rfl, e, hy⟩
  · obtain ⟨as, q⟩ := Dp.reads I d v u h r
    exact ⟨as, q, PyData.noDict_hsm n⟩
  · cases r
    obtain ⟨_, ns, vs, kv, o, es, ep, ho, hx, hd, ks, pr, _⟩ := dk_of I.hok e
    cases kv with
    | @cons _ q _ _ k0 kr =>
      cases kr
      obtain ⟨qk, qv⟩ := q
      cases (show Sum.inr x = qk from k0.1)
      obtain ⟨el⟩ := es
      have pr' : Pairs (mixKind X.prog X.w) el [(Sum.inr x, qv)] := pr
      clear pr
      cases pr' with
      | @cons en _ rest _ p1 p2 p3 =>
        cases p3
        obtain ⟨bs, rb⟩ := Dp.reads I _ y qv hy k0.2
        have eb : bs = [] := by
          cases rb with
          | @tuple _ _ ws _ _ _ _ _ _ h4 =>
            generalize ws.toList = l4 at h4
            cases h4
            rfl
        subst eb
        have ek : ∃ t, en.key = Value.str x t := by
          rcases keyIs_shape (k := Sum.inr x) p1 with ⟨_, _, z, _⟩ | ⟨x', t, z, e'⟩
          · cases z
          · cases z
            exact ⟨t, e'⟩
        obtain ⟨t, ek⟩ := ek
        refine ⟨_, Reads.dict ho hx.1 hd (as := []) (bs := []) (ReadsAll.cons (as := []) (bs := []) (by show Reads s.heap en.key (.str x) []; rw [ek]; exact Reads.str x t) .nil) (ReadsAll.cons (as := []) (bs := []) (by show Reads s.heap en.val (.tuple []) []; rw [p2]; exact rb) .nil), fun _ m => ?_⟩
        simp only [List.append_nil, List.mem_singleton] at m
        subst m
        simp at ns
theorem readsAll_rep {h : Heap} {d : PyData} {S : Addr → Prop} : ∀ {n : Nat} {us : List Value}, (∀ z ∈ us, ∃ as, Reads h z d as ∧ ∀ b ∈ as, S b) → us.length = n → ∃ bs, ReadsAll h us (List.replicate n d) bs ∧ ∀ b ∈ bs, S b
  | 0, [], _, _ => ⟨[], .nil, fun _ z => nomatch z⟩
  | n + 1, z :: zs, k, l => by
    obtain ⟨bs, r, m⟩ := readsAll_rep (n := n) (us := zs) (fun y hy => k y (List.mem_cons_of_mem _ hy)) (by simpa using l)
    obtain ⟨as, r1, m1⟩ := k z List.mem_cons_self
    exact ⟨as ++ bs, .cons r1 r, fun b hb => (List.mem_append.mp hb).elim (m1 b) (m b)⟩
theorem rel_rep {v : V} : ∀ {n : Nat} {us : List Value}, Vals (List.replicate n v) us → ∀ z ∈ us, RelV v z
  | 0, _, r, z, h => by
    cases r
    cases h
  | n + 1, _, r, z, h => by
    cases r with
    | cons r1 r2 =>
      cases h with
      | head => exact r1
      | tail _ h => exact rel_rep r2 z h
end
section
variable {X : Cx}
/-- repr of one -/
def rRepr (K : PySem.W.Frag) : List V → Hp → VK → Prop := fun xs H Q => ∃ v d, xs = [v] ∧ Rr K H v d ∧ d.showable = true ∧ d.depth ≤ 40 ∧ d.shown.length ≤ sizeLine ∧ Q (.str d.shown) H
theorem call_reprD {K : PySem.W.Frag} (hg : X.A.guards = some []) (hu : X.A.units + 64 < cLine) (hK : X.K = K := by rfl) : CallR X (.builtin "repr") (rRepr K) := by
  subst hK
  intro pins s σ H xs us Q I r h
  obtain ⟨v, d, rfl, hr, sh, dp, sz, q⟩ := h
  obtain ⟨u, rfl, rv⟩ := vals1 r
  obtain ⟨as, rd, ns⟩ := hr.reads I rv
  have big : ∀ {a : Addr}, Reads s.heap (.ref a) d as → wpAny (model X.prog X.w) X.A (call (.builtin "repr") [.ref a]) (EP X pins σ Q) X.xe s := fun rd =>
    repr_of_reads' rd sh ns hg (by omega) (fun _ _ e => e) (fun h' u tk hk => ⟨.str _, H, I.kept (t' := tk) hk, ⟨_, rfl⟩, q⟩) sz
  cases rd with
  | none => exact PySem.P.repr_of_none ⟨.str _, H, I.tok _, ⟨_, rfl⟩, by simpa only [PyData.shown] using q⟩
  | bool b => exact PySem.P.repr_of_bool ⟨.str _, H, I.tok _, ⟨_, rfl⟩, by simpa only [PyData.shown] using q⟩
  | int i t => exact PySem.P.repr_of_int (by simpa only [PyData.showable, decide_eq_true_eq] using sh) ⟨.str _, H, I.tok _, ⟨_, rfl⟩, by simpa only [PyData.shown] using q⟩
  | str x t => exact PySem.P.repr_of_str ⟨.str _, H, I.tok _, ⟨_, rfl⟩, by simpa only [PyData.shown] using q⟩ (by simpa only [PyData.shown] using sz)
  | list h1 h2 h3 h4 => exact big (.list h1 h2 h3 h4)
  | tuple h1 h2 h3 h4 => exact big (.tuple h1 h2 h3 h4)
  | dict h1 h2 h3 h4 h5 => exact big (.dict h1 h2 h3 h4 h5)
/-- repr of a list that has one datum many times -/
def rReprN (K : PySem.W.Frag) : List V → Hp → VK → Prop := fun xs H Q => ∃ l n v d, xs = [.ref l] ∧ H l = some (.lst (List.replicate (n + 1) v)) ∧ Rr K H v d ∧ d.showable = true ∧ d.depth ≤ 40 ∧ (listText (PyData.shownAll (List.replicate (n + 1) d))).length ≤ sizeLine ∧
  Q (.str (listText (PyData.shownAll (List.replicate (n + 1) d)))) H
theorem all_rep {f : PyData → Bool} {fa : List PyData → Bool} (h0 : fa [] = true) (h1 : ∀ x xs, fa (x :: xs) = (f x && fa xs)) {d : PyData} (h : f d = true) : ∀ n, fa (List.replicate n d) = true
  | 0 => h0
  | n + 1 => by rw [List.replicate_succ, h1, h, all_rep h0 h1 h n]; rfl
theorem any_rep {d : PyData} : ∀ n, PyData.hasDictAll (List.replicate n d) = true → d.hasDict = true
  | 0, h => by simp [PyData.hasDictAll] at h
  | n + 1, h => by
    rw [List.replicate_succ] at h
    simp only [PyData.hasDictAll, Bool.or_eq_true] at h
    exact h.elim id (any_rep n)
theorem depth_rep {d : PyData} {m : Nat} (h : d.depth ≤ m) : ∀ n, PyData.depthAll (List.replicate n d) ≤ m
  | 0 => by simp [PyData.depthAll]
  | n + 1 => by
    rw [List.replicate_succ]
    have := depth_rep h n
    simp only [PyData.depthAll]
    omega
theorem call_reprN {K : PySem.W.Frag} (hg : X.A.guards = some []) (hu : X.A.units + 64 < cLine) (hK : X.K = K := by rfl) : CallR X (.builtin "repr") (rReprN K) := by
  subst hK
  intro pins s σ H xs us Q I r h
  obtain ⟨l, n, v, d, rfl, hl, hr, sh, dp, sz, q⟩ := h
  obtain ⟨u, rfl, rv⟩ := vals1 r
  cases rv
  obtain ⟨its, rl, ⟨o, m, ho, hc, _, hd⟩, hz⟩ := I.list (SqL.of hl)
  have ln : its.length = n + 1 := by rw [← rl.length, List.length_replicate]
  have item : ∀ z ∈ its, ∃ as, Reads s.heap z d as ∧ ∀ b ∈ as, d.hasDict = true → b ≠ sysModules := fun z hz => by
    obtain ⟨as, r1, m⟩ := hr.reads I (rel_rep rl z hz)
    exact ⟨as, r1, fun b hb k e => m k (e ▸ hb)⟩
  obtain ⟨as, h4, m⟩ := readsAll_rep item ln
  have hsh := all_rep (f := PyData.showable) (fa := PyData.showableAll) (by simp [PyData.showableAll]) (fun _ _ => by simp [PyData.showableAll]) sh (n + 1)
  have dpa := depth_rep dp (n + 1)
  obtain ⟨bs, hb, hk⟩ := ReprAllK.of_readsAll (prog := X.prog) (w := X.w) h4 hsh (fun k z => m _ z (any_rep _ k) rfl) (fun t ht => Nat.le_trans (listText_mem_le ht) sz)
  have na : l ∉ bs := not_mem_of_deeper (.list ho hc hd h4) (by simp only [PyData.depth]; omega) hb
  cases its with
  | nil => cases ln
  | cons z zs =>
    refine call_repr_slot (by omega) ⟨o, ho, hc⟩ F.slot_list_repr.toG ?_
    exact call_list_reprK ho hc hd na (by simpa using hk.length_eq) (fun i y e => hk.item i y (by simpa using e)) (by exact hg) (fun b _ => Clear.nil b) (by show X.A.units + 1 + _ < cLine; omega) (fun _ _ e => e)
      (fun h' u tk kp => ⟨_, _, rfl, .str _, H, I.kept (t' := tk) kp, ⟨_, rfl⟩, q⟩) sz
/-- text * n, one sign -/
def repS (a : Str) (n : Nat) : Str := ⟨(List.replicate n a.cps).foldl (· ++ ·) #[]⟩
theorem foldl_size (c : Array Nat) : ∀ (n : Nat) (acc : Array Nat), ((List.replicate n c).foldl (· ++ ·) acc).size = acc.size + n * c.size
  | 0, acc => by simp
  | n + 1, acc => by
    rw [List.replicate_succ, List.foldl_cons, foldl_size c n, Array.size_append, Nat.succ_mul]
    omega
theorem op_mulS : OpR X (binaryOp .Mult) (fun x y H Q => ∃ a k, x = .str a ∧ y = .int k ∧ a.length = 1 ∧ 0 ≤ k ∧ k ≤ 1000 ∧ Q (.str (repS a k.toNat)) H) := by
  intro pins s σ H x y v u Q I rx ry h
  obtain ⟨a, k, rfl, rfl, h1, h0, hk, q⟩ := h
  obtain ⟨t, rfl⟩ := rx
  obtain ⟨t', rfl⟩ := ry
  refine PySem.P.mul_str (by simp; omega) (fun n1 _ => ?_) (fun _ _ => ?_) ?_
  · rw [h1]
    have : (1 : Int) ≤ (2 ^ 63 - 1) / k := Int.le_ediv_of_mul_le (by omega) (by omega)
    omega
  · unfold Builtin.Str.tooLong
    rw [h1]
    exact decide_eq_false (by rw [sizeLine_eq]; omega)
  · have hs : (repS a k.toNat).length ≤ sizeLine := by
      have : (repS a k.toNat).length = 0 + k.toNat * a.length := foldl_size a.cps k.toNat #[]
      rw [this, h1, sizeLine_eq]
      omega
    split
    · rename_i n1
      have e : k = 0 := by omega
      subst e
      exact ⟨by decide, .str _, H, I.tok _, ⟨_, rfl⟩, q⟩
    · split
      · rename_i n1 n2
        have e : k = 1 := by
          rw [Bool.or_eq_true, beq_iff_eq, beq_iff_eq] at n2
          omega
        subst e
        have ea : repS a (1 : Int).toNat = a := by
          show (⟨#[] ++ a.cps⟩ : Str) = a
          rw [Array.empty_append]
        rw [ea] at q
        exact ⟨.str _, H, I, ⟨_, rfl⟩, q⟩
      · exact ⟨hs, .str _, H, I.tok _, ⟨_, rfl⟩, q⟩
end
end Fn

set_option Elab.async false
set_option maxRecDepth 100000
set_option maxHeartbeats 4000000
/-! What the written part says of own error classes, as tests that run; making errors; which classes an error is of. -/
namespace Fn
open PySem PySem.Spec PyProof.Rows L2
structure ErrC (K : PySem.W.Frag) (C : Addr) : Prop where
  x : ExcC K C
  f : XfC K C
  k : PySem.W.keepIn K (.ref C) = true
theorem exB_ok {K : PySem.W.Frag} {C : Addr} (h : exB K C = true) : ErrC K C := by
  simp only [exB, Bool.and_eq_true, decide_eq_true_eq] at h
  obtain ⟨h1, h2, h3, h4, h5, h6⟩ := h
  have f := xfB_ok h1
  exact ⟨⟨f.ga, f.gg, f.exC, f.hdC, h3, h4, h5, h6⟩, f, h2⟩
/-- with an own __init__ at I that keeps the field f -/
structure IniC (K : PySem.W.Frag) (C I : Addr) (f : Str) : Prop where
  o : OwnX K C
  n : PySem.W.findIn K (.ref C) f = some none
  i : PySem.W.findIn K (.ref C) "__init__" = some (some (.ref I))
  t : PySem.W.typeIn K (.ref I) = some (.type "function")
theorem iniB_ok {K : PySem.W.Frag} {C I : Addr} {f : Str} {B newId initId : String} {bmB T : List Value} (Z : BaseX B newId initId bmB T) (e : ErrC K C) (h : iniB K C I f T newId = true) : IniC K C I f := by
  simp only [iniB, Bool.and_eq_true, decide_eq_true_eq] at h
  obtain ⟨h1, h2, h3, h4, h5⟩ := h
  exact ⟨⟨⟨_, _, _, _, _, Z, h1⟩, h2, e.k⟩, h3, h4, h5⟩
theorem strB_ok {K : PySem.W.Frag} {C : Addr} (e : ErrC K C) (h : strB K C = true) : StrC K C := ⟨of_decide_eq_true h, e.x.hs⟩
/-- of which of these classes an error of the class at C is -/
theorem row_at {K : PySem.W.Frag} {C : Addr} {cs : List Value} {bs : List Bool} (h : rowB K C cs bs = true) (i : Nat) {c : Value} {b : Bool} (hc : cs[i]? = some c) (hb : bs[i]? = some b) : PySem.W.kitOne K (.ref C) c = some b := by
  have m : (c, b) ∈ cs.zip bs := List.mem_of_getElem? (i := i) (by rw [List.getElem?_zip_eq_some]; exact ⟨hc, hb⟩)
  exact of_decide_eq_true (List.all_eq_true.mp h _ m)
def marks (bs : List Bool) : Str := Txt.join "" (bs.map fun b => if b then "x" else ".")
/-- an error with its one field -/
def IsE (H : Hp) (a C : Addr) (f : Str) (y : V) : Prop := ∃ dx, H a = some (exo a C (some dx)) ∧ H dx = some (exd dx [(f, y)])
/-- an error that was made with one text -/
def IsT (H : Hp) (a C : Addr) (x : Str) : Prop := ∃ t, H a = some (exT a C t) ∧ H t = some (.tup [.str x])
theorem IsE.same {H H' : Hp} {a C : Addr} {f : Str} {y : V} (h : IsE H a C f y) (e : Same H H') : IsE H' a C f y := by
  obtain ⟨dx, h1, h2⟩ := h
  exact ⟨dx, e _ _ h1, e _ _ h2⟩
theorem IsT.same {H H' : Hp} {a C : Addr} {x : Str} (h : IsT H a C x) (e : Same H H') : IsT H' a C x := by
  obtain ⟨t, h1, h2⟩ := h
  exact ⟨t, e _ _ h1, e _ _ h2⟩
theorem IsE.err {H : Hp} {a C : Addr} {f : Str} {y : V} (h : IsE H a C f y) : IsErr H a C := by
  obtain ⟨dx, h1, h2⟩ := h
  exact .inl ⟨some dx, h1, fun d e => ⟨_, by cases e; exact h2⟩⟩
theorem IsT.err {H : Hp} {a C : Addr} {x : Str} (h : IsT H a C x) : IsErr H a C := by
  obtain ⟨t, h1, _⟩ := h
  exact .inr ⟨t, h1⟩
theorem IsErr.same {H H' : Hp} {a C : Addr} (h : IsErr H a C) (e : Same H H') : IsErr H' a C := by
  rcases h with ⟨d, h1, h2⟩ | ⟨t, h1⟩
  · exact .inl ⟨d, e _ _ h1, fun dx z => (h2 dx z).imp fun fs q => e _ _ q⟩
  · exact .inr ⟨t, e _ _ h1⟩
theorem IsE.but {H H' : Hp} {p a C : Addr} {f : Str} {y : V} (d : Dc H p) (h : IsE H a C f y) (e : But p H H') : IsE H' a C f y := by
  obtain ⟨dx, h1, h2⟩ := h
  obtain ⟨x, y, z, hp⟩ := d
  refine ⟨dx, e _ _ (fun q => ?_) h1, e _ _ (fun q => ?_) h2⟩
  · subst q
    cases hp.symm.trans h1
  · subst q
    cases hp.symm.trans h2
theorem IsT.but {H H' : Hp} {p a C : Addr} {x : Str} (d : Dc H p) (h : IsT H a C x) (e : But p H H') : IsT H' a C x := by
  obtain ⟨t, h1, h2⟩ := h
  obtain ⟨x, y, z, hp⟩ := d
  refine ⟨t, e _ _ (fun q => ?_) h1, e _ _ (fun q => ?_) h2⟩
  · subst q
    cases hp.symm.trans h1
  · subst q
    cases hp.symm.trans h2
/-- what an own __init__ that keeps one field does -/
def spIni (K : PySem.W.Frag) (f : Str) : Sp := fun vs H Q _ => ∃ (a C : Addr) (y : V), vs = [.ref a, y] ∧ OwnX K C ∧ PySem.W.findIn K (.ref C) f = some none ∧ H a = some (exo a C none) ∧
  ∀ dx, H dx = none → dx ≠ a → Q .non (upd (upd H dx (exd dx [(f, y)])) a (exo a C (some dx)))
theorem mk_ini {K : PySem.W.Frag} {C I : Addr} {f : Str} {y : V} {H : Hp} {Q : V → Hp → Prop} (T : IniC K C I f) (k : ∀ a H', H a = none → Same H H' → IsE H' a C f y → Q (.ref a) H') :
    MkIni C (spIni K f) [y] H Q := by
  refine ⟨by show 1 ≤ 1000; decide, fun a na => ⟨a, C, y, rfl, T.o, T.n, upd_same, fun dx nd ne => ⟨rfl, k a _ na (fun b o e => ?_) ⟨dx, upd_same, ?_⟩⟩⟩⟩
  · have ba := ne_of_none e na
    rw [upd_ne ba, upd_ne (fun z => by subst z; rw [upd_ne ba] at nd; rw [nd] at e; cases e), upd_ne ba]
    exact e
  · rw [upd_ne ne]
    exact upd_same
theorem mk_one {C : Addr} {x : Str} {H : Hp} {Q : V → Hp → Prop} (k : ∀ a H', H a = none → Same H H' → IsT H' a C x → Q (.ref a) H') :
    MkOne C (.str x) H Q := by
  refine ⟨fun t a nt na ne => k a _ na (fun b o e => ?_) ⟨t, upd_same, ?_⟩⟩
  · rw [upd_ne (ne_of_none e na), upd_ne (ne_of_none e nt)]
    exact e
  · rw [upd_ne ne]
    exact upd_same
/-- data that may be kept in a field, and shown -/
def Rx (H : Hp) (v : V) (d : PyData) : Prop := (Dx H v d ∧ dictfree d = true ∧ nodice d = true ∧ d.hasDict = false) ∨ ∃ (a p : Addr) (x : Str), v = .ref a ∧ d = .dict [(.str x, .tuple [])] ∧ H a = some (.dK [(.inr x, .ref p)]) ∧ H p = some (.tup [])
theorem Rx.same {H H' : Hp} {v : V} {d : PyData} (h : Rx H v d) (e : Same H H') : Rx H' v d := by
  rcases h with ⟨h1, h2⟩ | ⟨a, p, x, h1, h2, h3, h4⟩
  · exact .inl ⟨h1.same e, h2⟩
  · exact .inr ⟨a, p, x, h1, h2, e _ _ h3, e _ _ h4⟩
theorem Rx.but {H H' : Hp} {q : Addr} {v : V} {d : PyData} (hq : Dc H q) (h : Rx H v d) (e : But q H H') : Rx H' v d := by
  rcases h with ⟨h1, h2, h3, h4⟩ | ⟨a, p, x, h1, h2, h3, h4⟩
  · exact .inl ⟨Dx.but hq e h1 h3, h2, h3, h4⟩
  · obtain ⟨i, j, k, hd⟩ := hq
    refine .inr ⟨a, p, x, h1, h2, e _ _ (fun z => ?_) h3, e _ _ (fun z => ?_) h4⟩
    · subst z
      cases hd.symm.trans h3
    · subst z
      cases hd.symm.trans h4
theorem Rx.rr {K : PySem.W.Frag} {H : Hp} {v : V} {d : PyData} (h : Rx H v d) : Rr K H v d := by
  rcases h with ⟨h1, h2, h3, h4⟩ | ⟨a, p, x, h1, h2, h3, h4⟩
  · exact .inl ⟨h1.dp h2, h4⟩
  · exact .inr ⟨a, x, _, h1, h2, h3, .tup (SqT.of h4) .nil⟩
theorem szn {n : Nat} (h : Nat.ble n 100000 = true) : n ≤ sizeLine := Nat.le_trans (Nat.le_of_ble_eq_true h) (by decide)
theorem hu64 {A : Around} {k : Nat} (hr : Room k A) : A.units + 64 < cLine := by
  have := hr.un
  omega
end Fn

set_option Elab.async false
set_option maxRecDepth 100000
set_option maxHeartbeats 2000000
/-! An own class's __getitem__, __contains__, __eq__ (also behind !=) and __str__, where the objects have a dict. -/
namespace Fn
open PySem PySem.Spec PyProof.Rows L2
/-- own subscripts: what the parser's subscript does is known -/
def IxO (b : Expr) : Prop := ∀ v u, subscripted b true v u = runValue (.builtin "lifetime.subscript" ⟨[v, u], []⟩)
def rIxO (C : Addr) (sp : Sp) (E : XK) : R2 := fun x y H Q => ∃ (a dx : Addr) (fs : List (Str × V)), x = .ref a ∧ H a = some (.ins C dx fs) ∧ sp [x, y] H Q E
/-- x in o -/
def rInO (C : Addr) (sp : Sp) (E : XK) (neg : Bool) : R2 := fun x y H Q => ∃ (a dx : Addr) (fs : List (Str × V)), y = .ref a ∧ H a = some (.ins C dx fs) ∧ sp [y, x] H (fun v H' => ∃ b, v = .bl b ∧ Q (.bl (if neg then !b else b)) H') E
/-- o == y -/
def rEqO (K : PySem.W.Frag) (C : Addr) (sp : Sp) (E : XK) (neg : Bool) : R2 := fun x y H Q => ∃ (a dx : Addr) (fs : List (Str × V)) (tb : Value), x = .ref a ∧ H a = some (.ins C dx fs) ∧ TyX K H y tb ∧ PySem.W.notFirst K C tb = true ∧ sp [x, y] H (fun v H' => ∃ b, v = .bl b ∧ Q (.bl (if neg then !b else b)) H') E
section
variable {X : Cx} {CX : CXT} {pins : List (Addr × Obj)} {σ : L2.St} {H : Hp} {s : Shared} {C g : Addr} {k : Nat} {sp : Sp} {E : XK}
theorem pe_ixO {a b : Expr} {ta tb : TE} {pos : Pos} (hs : PySem.W.findIn X.K (.ref C) "__getitem__" = some (some (.ref g))) (hf : PySem.W.fnIn X.K g = true) (hfn : PySem.W.isFn X.K (.ref g) = true) (F : FnR X.prog X.w X.K X.mg X.base CX k g sp) (hr : Room (k + 1) X.A) (hx : Passes CX X E)
    (ha : PE X a ta) (hb : PE X b tb) (hsl : IxO b := by intro _ _; with_unfolding_all rfl) : PE X (.Subscript a b pos) (tOp (rIxO C sp E) ta tb) := by
  refine ⟨fun pins s σ H Q I h => ?_⟩
  refine Subscript_ (binT ha hb I h fun v u s2 x y H2 I2 rx ry q => ?_)
  obtain ⟨o, dx, fs, rfl, ea, q⟩ := q
  cases (show v = Value.ref o from rx)
  obtain ⟨mA, O, _, _, _, _⟩ := ins_get I2.hok ea
  obtain ⟨od, J, _⟩ := O.look
  obtain ⟨m, hF⟩ := I2.fr
  refine PySem.W.sub_K hF I2.ok.mod.kin J hs hf hfn (wpAny_call (SlX.run_at (us := [.ref o, u]) (ws := [.ref o, y]) F hr.in1 I2.env0.in1 hx I2 (.cons rfl (.cons ry .nil)) q)) (hsl _ _)
theorem op_inO (hs : PySem.W.findIn X.K (.ref C) "__contains__" = some (some (.ref g))) (hfn : PySem.W.isFn X.K (.ref g) = true) (F : FnR X.prog X.w X.K X.mg X.base CX k g sp) (hr : Room k X.A) (hx : Passes CX X E) : OpR X (compareOp .In) (rInO C sp E false) := by
  intro pins s σ H x y v u Q I rx ry h
  obtain ⟨o, dx, fs, rfl, ea, q⟩ := h
  cases (show u = Value.ref o from ry)
  obtain ⟨mA, O, _, _, _, _⟩ := ins_get I.hok ea
  obtain ⟨od, J, _⟩ := O.look
  obtain ⟨m, hF⟩ := I.fr
  refine PySem.W.in_K hF I.ok.mod.kin J hs hfn (wpAny_mono (wpAny_call (SlX.run_at (us := [.ref o, v]) (ws := [.ref o, x]) F hr I.env0 hx I (.cons rfl (.cons rx .nil)) q)) (fun r s' z => ?_) fun _ _ z => z)
  obtain ⟨z', H', I', rz, b, rfl, qz⟩ := z
  cases (show r = Value.bool b from rz)
  exact wpAny_truthy_bool ⟨.bl b, H', I', rfl, qz⟩
theorem op_notInO (hs : PySem.W.findIn X.K (.ref C) "__contains__" = some (some (.ref g))) (hfn : PySem.W.isFn X.K (.ref g) = true) (F : FnR X.prog X.w X.K X.mg X.base CX k g sp) (hr : Room k X.A) (hx : Passes CX X E) : OpR X (compareOp .NotIn) (rInO C sp E true) := by
  intro pins s σ H x y v u Q I rx ry h
  obtain ⟨o, dx, fs, rfl, ea, q⟩ := h
  cases (show u = Value.ref o from ry)
  obtain ⟨mA, O, _, _, _, _⟩ := ins_get I.hok ea
  obtain ⟨od, J, _⟩ := O.look
  obtain ⟨m, hF⟩ := I.fr
  refine PySem.W.notIn_K hF I.ok.mod.kin J hs hfn (wpAny_mono (wpAny_call (SlX.run_at (us := [.ref o, v]) (ws := [.ref o, x]) F hr I.env0 hx I (.cons rfl (.cons rx .nil)) q)) (fun r s' z => ?_) fun _ _ z => z)
  obtain ⟨z', H', I', rz, b, rfl, qz⟩ := z
  cases (show r = Value.bool b from rz)
  exact wpAny_truthy_bool ⟨.bl (!b), H', I', rfl, qz⟩
theorem op_eqO (hs : PySem.W.findIn X.K (.ref C) "__eq__" = some (some (.ref g))) (hfn : PySem.W.isFn X.K (.ref g) = true) (F : FnR X.prog X.w X.K X.mg X.base CX k g sp) (hr : Room k X.A) (hx : Passes CX X E) : OpR X (compareOp .Eq) (rEqO X.K C sp E false) := by
  intro pins s σ H x y v u Q I rx ry h
  obtain ⟨o, dx, fs, tb, rfl, ea, ty, hn, q⟩ := h
  cases (show v = Value.ref o from rx)
  obtain ⟨mA, O, _, _, _, _⟩ := ins_get I.hok ea
  obtain ⟨od, J, _⟩ := O.look
  obtain ⟨m, hF⟩ := I.fr
  obtain ⟨P, kx, hP, _⟩ := kit_of I ry ty
  refine PySem.W.cmp_ofEq (PySem.W.cmp_K (op := .Eq) (tb := tb) hr.units0 hF I.ok.mod.kin J (kx.ty _ _ I.kIn hP) hn hs hfn (wpAny_mono (wpAny_call (SlX.run_at (us := [.ref o, u]) (ws := [.ref o, y]) F hr I.env0 hx I (.cons rfl (.cons ry .nil)) q)) (fun r s' z => ?_) fun _ _ z => z))
  obtain ⟨z', H', I', rz, b, rfl, qz⟩ := z
  cases (show r = Value.bool b from rz)
  exact ⟨.bl b, H', I', rfl, qz⟩
theorem ne_bind (self : Value) : bindSpecial (.builtin "object.__ne__") self = pure (.builtin "object.__ne__", [self]) := PySem.F.cmp_object.ne.bind self
theorem neBound {M : Model} {A : Around} {E : Value → Shared → Prop} {s : Shared} {K : PySem.W.Frag} {x C : Addr} {ox : Obj} {od : Option Obj} {args : List Value} {Q : Option Value → Shared → Prop} (X : K.In s.heap) (I : PySem.W.InstAt s.heap x ox C od) (hs : PySem.W.findIn K (.ref C) "__ne__" = some (some (.builtin "object.__ne__")))
    (h : wpAny M A (call (.builtin "object.__ne__") (.ref x :: args)) (fun v => Q (some v)) E s) : wpAny M A (callSpecialIfBound? (.ref x) "__ne__" args) Q E s := by
  simp only [callSpecialIfBound?, bindSpecialIfBound?]
  refine wpAny_holding (wpAny_bind (wpAny_bind (wpAny_bind (I.type.here ((PySem.W.looks_findIn X hs).here ?_)))))
  refine wpAny_bind (wpAny_askSetting (wpAny_ite ?_))
  have fin : wpAny M A (call (.builtin "object.__ne__") ([.ref x] ++ args) >>= fun v => pure (some v)) Q E s := wpAny_bind (wpAny_mono h (fun v s' h' => wpAny_pure h') fun _ _ h' => h')
  split
  · exact wpAny_bind (wpAny_of_eq (ne_bind _) (wpAny_pure (by exact fin)))
  · exact wpAny_tryCatch (wpAny_bind (wpAny_of_eq (ne_bind _) (wpAny_pure (by exact fin))))
/-- o != y, by the class's own __eq__ -/
theorem op_neO (hne : PySem.W.findIn X.K (.ref C) "__ne__" = some (some (.builtin "object.__ne__"))) (hob : PySem.W.subIn X.K (.ref C) (.type "object") = some true) (hs : PySem.W.findIn X.K (.ref C) "__eq__" = some (some (.ref g))) (hfn : PySem.W.isFn X.K (.ref g) = true)
    (F : FnR X.prog X.w X.K X.mg X.base CX k g sp) (hr : Room (k + 1) X.A) (hx : Passes CX X E) : OpR X (compareOp .NotEq) (rEqO X.K C sp E true) := by
  intro pins s σ H x y v u Q I rx ry h
  obtain ⟨o, dx, fs, tb, rfl, ea, ty, hn, q⟩ := h
  cases (show v = Value.ref o from rx)
  obtain ⟨mA, O, _, _, _, _⟩ := ins_get I.hok ea
  obtain ⟨od, J, _⟩ := O.look
  obtain ⟨m, hF⟩ := I.fr
  obtain ⟨P, kx, hP, _⟩ := kit_of I ry ty
  have hb : PySem.W.Looks (model X.prog X.w) s.heap (typeOf u) tb := kx.ty _ _ I.kIn hP
  have X0 := I.kIn
  have fin : wpAny (model X.prog X.w) X.A.in1 (call (.ref g) [.ref o, u]) (fun r s' => ∃ b, r = .bool b ∧ EP X pins σ Q (.bool (!b)) s') X.xe s :=
    wpAny_mono (wpAny_call (SlX.run_at (us := [.ref o, u]) (ws := [.ref o, y]) F hr.in1 I.env0.in1 hx I (.cons rfl (.cons ry .nil)) q)) (fun r s' z => by
      obtain ⟨z', H', I', rz, b, rfl, qz⟩ := z
      cases (show r = Value.bool b from rz)
      exact ⟨b, rfl, .bl (!b), H', I', rfl, qz⟩) fun _ _ z => z
  have one : wpAny (model X.prog X.w) X.A (tryCompare (.ref o) "__ne__" u) (fun r s' => ∃ v, r = some v ∧ EP X pins σ Q v s') X.xe s := by
    unfold tryCompare
    refine wpAny_bind (neBound X0 J hne (wpAny_call ?_))
    refine codeAny_call_builtin PySem.F.cmp_object.ne.plain PySem.F.cmpEntry_ne (PySem.W.check_slot PySem.F.cmpKind_ne PySem.F.cmpSplit_ne (J.type.andThen (PySem.W.looks_subIn X0 hob)) (PySem.F.cmpArgs_ne _ _) ?_)
    unfold Builtin.«object.__ne__»
    refine wpAny_bind (wpAny_of_eq (a := (Value.ref o, [u])) (by first | rfl | kernel_rfl) ?_)
    refine wpAny_bind (m := cRoomFor _ _) (wpAny_cRoomFor hr.in1.units0 ?_)
    refine wpAny_bind (m := callSpecialIfBound? (.ref o) (Str.ofString "__eq__") [u]) (PySem.W.ifBound_K X0 J hs hfn (wpAny_mono fin (fun r s' z => ?_) fun _ _ z => z))
    obtain ⟨b, rfl, qz⟩ := z
    refine wpAny_bind (m := truthy (.bool b)) (wpAny_truthy_bool ?_)
    exact wpAny_pure (wpAny_pure ⟨_, rfl, qz⟩)
  refine PySem.W.cmp_ofNotEq ?_
  unfold richCompare
  simp only [oneThing_ref]
  refine wpAny_holding (wpAny_bind (wpAny_cRoomFor hr.units0 ?_))
  refine wpAny_bind (J.type.here (wpAny_bind (hb.here ?_)))
  split
  · rename_i q
    have e : PySem.W.subIn X.K tb (.ref C) = some false := by
      rcases Bool.or_eq_true_iff.mp hn with e | e
      · rw [beq_iff_eq.mp e] at q; simp at q
      · exact beq_iff_eq.mp e
    refine wpAny_bind ((PySem.W.looks_subIn X0 e).here ?_)
    simp only [Bool.false_eq_true, if_false]
    refine wpAny_bind (wpAny_mono one (fun r s' z => ?_) fun _ _ e => e)
    obtain ⟨v, rfl, hq⟩ := z
    exact wpAny_pure hq
  · refine wpAny_bind (wpAny_pure ?_)
    simp only [Bool.false_eq_true, if_false]
    refine wpAny_bind (wpAny_mono one (fun r s' z => ?_) fun _ _ e => e)
    obtain ⟨v, rfl, hq⟩ := z
    exact wpAny_pure hq
/-- str(o) by the class's own __str__ -/
def rStrO (C : Addr) (sp : Sp) (E : XK) : List V → Hp → VK → Prop := fun xs H Q => ∃ (a dx : Addr) (fs : List (Str × V)), xs = [.ref a] ∧ H a = some (.ins C dx fs) ∧ sp xs H (fun v H' => ∃ t, v = .str t ∧ Q (.str t) H') E
theorem call_strO (hs : PySem.W.findIn X.K (.ref C) "__str__" = some (some (.ref g))) (hfn : PySem.W.isFn X.K (.ref g) = true) (F : FnR X.prog X.w X.K X.mg X.base CX k g sp) (hr : Room (k + 2) X.A) (hx : Passes CX X E) : CallR X (.type "str") (rStrO C sp E) := by
  intro pins s σ H xs us Q I r h
  obtain ⟨a, dx, fs, rfl, ea, q⟩ := h
  obtain ⟨u, rfl, ru⟩ := vals1 r
  obtain rfl : u = Value.ref a := ru
  obtain ⟨mA, O, _, _, _, _⟩ := ins_get I.hok ea
  obtain ⟨od, J, _⟩ := O.look
  have hr2 : Room k X.A.in1.in1 := (show Room (k + 1) X.A.in1 from Room.in1 hr).in1
  refine PySem.W.kso_call hr2.units0 I.kIn J hs hfn (wpAny_mono (wpAny_call (SlX.run_at (us := [.ref a]) (ws := [.ref a]) F hr2 I.env0.in1.in1 hx I (.cons rfl .nil) q)) (fun r s' z => ?_) fun _ _ z => z)
  obtain ⟨z', H', I', rz, t, rfl, qz⟩ := z
  obtain ⟨tk, rfl⟩ : ∃ tk, r = Value.str t tk := rz
  exact ⟨.str t, H', I', ⟨tk, rfl⟩, qz⟩
end
end Fn

set_option Elab.async false
set_option maxRecDepth 100000
set_option maxHeartbeats 2000000
/-! enumerate over a tuple; max of a list of ints with a default. -/
namespace Fn
open PySem PySem.Spec PyProof.Rows L2
theorem meets_enum1 {v : Value} {o : Obj} {H : Heap → Prop} (B : Begins v o H) :
    Meets (Builtin.«enumerate.__new__» ⟨[.type "enumerate", v], []⟩) (fun _ R s => H s.heap ∧
      R (.ok (.ret (.ref (s.heap.push o).objs.size))) { s with heap := (s.heap.push o).push { cls := .type "enumerate", data := .fields #[.none, .bool false, .ref s.heap.objs.size, rawInt 0, .none, .none] } }) :=
  .of_wp fun prog w A R s h => by
    obtain ⟨hp, g, d, tk, os⟩ := s; obtain ⟨h1, h⟩ := h
    have hsub := sub_enumerate
    have q1 : ∀ {A' : Around} {E : Value → Shared → Prop} {Q : Value → Shared → Prop}, Q (.ref hp.objs.size) ⟨hp.push o, g, d, tk, os⟩ → wpAny (model prog w) A' (pyIter v) Q E ⟨hp, g, d, tk, os⟩ :=
      fun q => B.iter prog w _ _ ⟨hp, g, d, tk, os⟩ _ h1 q
    wp_walk using q1
    refine wpAny_stack_any fun st => wpAny_pure ?_
    split
    · rename_i c _ _ _ _ _
      cases (c == Value.type "enumerate")
      · wp_walk using q1
        exact ⟨_, rfl, h⟩
      · wp_walk using q1
        exact ⟨_, rfl, h⟩
    · wp_walk using q1
      exact ⟨_, rfl, h⟩
section
variable {prog : Program} {w : World} {A : Around} {E : Value → Shared → Prop} {s : Shared}
theorem enum_begins1 {v : Value} {o : Obj} {H : Heap → Prop} {Q : Value → Shared → Prop} (B : Begins v o H) (h1 : H s.heap)
    (h : ∀ h', IsEnum h' (s.heap.objs.size + 1) s.heap.objs.size 0 .none → h'.get? s.heap.objs.size = some o → h'.objs.size = s.heap.objs.size + 2 →
      (∀ b o, s.heap.get? b = some o → h'.get? b = some o) → Q (.ref (s.heap.objs.size + 1)) { s with heap := h' }) :
    wpAny (model prog w) A (call (.type "enumerate") [v]) Q E s := by
  refine callType_new F.called_enumerate (by decide) (F.typeCall_enumerate_1 _) (F.newCall_enumerate_1 _) (fun obj => F.args_object_init_2 obj _) F.entry_enumerate_new
    (meets_enum1 B) ⟨h1, ?_⟩
  have hz : (s.heap.push o).objs.size = s.heap.objs.size + 1 := Heap.size_push ..
  show _ ∧ _
  rw [hz]
  have he : IsEnum ((s.heap.push o).push { cls := .type "enumerate", data := .fields #[.none, .bool false, .ref s.heap.objs.size, rawInt 0, .none, .none] }) (s.heap.objs.size + 1) s.heap.objs.size 0 .none := by
    have := Heap.get?_push_size (s.heap.push o) (o := { cls := .type "enumerate", data := .fields #[.none, .bool false, .ref s.heap.objs.size, rawInt 0, .none, .none] }) rfl
    rw [hz] at this; exact this
  refine ⟨⟨_, he, rfl⟩, h _ he (Heap.get?_push_of_some _ (Heap.get?_push_size _ B.free)) (by rw [Heap.size_push, hz]) fun b o x => Heap.get?_push_of_some _ (Heap.get?_push_of_some _ x)⟩
end
/-- the tuple at a as it stands at each turn, each item in a new pair -/
def IteT (K : PySem.W.Frag) (a : Addr) : It :=
  ⟨fun i H => ∃ (xs : List V) (x : V), SqT K H a xs ∧ xs[i]? = some x, fun i H v H' => ∃ T x, v = .ref T ∧ H T = none ∧ H' = upd H T (.tup [.int (i : Nat), x]) ∧ ∀ xs, SqT K H a xs → xs[i]? = some x, fun i H => ∃ xs : List V, SqT K H a xs ∧ xs.length ≤ i⟩
theorem turn_enumT {P : Program} {w : World} {K : PySem.W.Frag} {elts : List Expr} {kk : Nat} {tpos : Pos} (a e it : Addr) :
    Turn P w K (.Tuple elts kk tpos) (IteT K a) [e, it] e (fun i h => (∃ old, IsEnum h e it ((i : Nat) : Int) old) ∧ h.IsTupleIter it a i ∧ e ≠ it) where
  mem := by simp
  obj := fun i h st b hb => by
    obtain ⟨⟨old, he⟩, ⟨o, ho, hc, hd⟩, _⟩ := st
    have e' : b = e ∨ b = it := by simpa using hb
    rcases e' with z | z
    · rw [z]; exact ⟨_, he, fun v q => nomatch q⟩
    · rw [z]; exact ⟨o, ho, fun v q => by rw [hd] at q; cases q⟩
  keep := fun i h h' st k => let ⟨⟨old, he⟩, hi, hne⟩ := st; ⟨⟨old, k e (by simp) _ he⟩, hi.at fun o q => k it (by simp) o q, hne⟩
  item := by
    intro X hP hw hK hc i pins s σ H E I hf st hg
    subst hP hw hK
    obtain ⟨⟨old, he⟩, hit, hne⟩ := st
    obtain ⟨xs, x, hq, hx⟩ := hg
    obtain ⟨its, rv, p, hz⟩ := I.tuple hq
    have pT : s.heap.IsTuple a its.toArray := p
    obtain ⟨u, hu, ru⟩ := rv.get hx
    have hel : e < s.heap.objs.size := Heap.lt_size he
    have hil : it < s.heap.objs.size := by obtain ⟨_, q, _⟩ := hit; exact Heap.lt_size q
    have hae : a ≠ it := fun z => by
      obtain ⟨o1, q1, c1, _⟩ := hit
      obtain ⟨o2, q2, c2, _⟩ := pT
      rw [z, q1] at q2
      cases q2
      rw [c1] at c2
      exact absurd (Value.type.inj c2) (by decide)
    have hea : e ≠ a := fun z => by
      obtain ⟨o2, q2, c2, _⟩ := pT
      rw [← z] at q2
      have h1 := Option.some.inj (he.symm.trans q2)
      rw [← h1] at c2
      exact absurd (Value.type.inj c2) (by decide)
    have hin : i < its.toArray.size := by
      rw [List.size_toArray]
      exact (List.getElem?_eq_some_iff.mp hu).1
    refine wpAny_pyNext_enum_itemD (Draws.tuple (A := X.A.in1) (show X.A.in1.handled = none from I.ok.hd hc) it a hae its.toArray) he ⟨hit, pT⟩ hin hne (by simp; exact ⟨hne, hea⟩) fun x' h' tk hx' ho hst' hT hsz hk => ?_
    obtain ⟨hit', pT'⟩ := hst'
    have ex : x' = u := by
      have z : its.toArray[i]? = some u := by simpa using hu
      exact Option.some.inj (hx'.symm.trans z)
    subst ex
    refine ⟨_, rfl, wpAny_letOwnedTupleGo_enum (s := { s with heap := h', toks := tk + 1 }) ho fun h'' he' sb => ?_⟩
    have hT2 : h''.get? s.heap.objs.size = some { cls := .type "tuple", data := .seq #[.int i tk, x'] } := (sb.2 _ (Nat.ne_of_gt hel)).trans hT
    have new : ObjOk X.prog X.w (upd H s.heap.objs.size (.tup [.int (i : Nat), x])) h'' s.heap.objs.size (.tup [.int (i : Nat), x]) :=
      ⟨by show 2 ≤ sizeLine; decide, [.int i tk, x'], .cons ⟨_, rfl⟩ (.cons ru .nil), ⟨_, hT2, rfl, _, rfl⟩⟩
    have I1 : Inv X pins σ (upd H s.heap.objs.size (.tup [.int (i : Nat), x])) { s with heap := h'', toks := tk + 1 } :=
      I.turnedNew (ch := [e, it]) (fun b ob hb q => (sb.2 b (fun z => hb (by simp [z]))).trans (hk b ob (fun z => hb (by simp [z])) (fun z => hb (by simp [z])) q)) hf (Nat.le_refl _) new
    refine ⟨.ref s.heap.objs.size, _, I1, rfl, ⟨_, x, rfl, I.hok.fresh (Nat.le_refl _), rfl, fun ys hy => by rw [I.tuple_inj hy hq]; exact hx⟩, ⟨⟨x', ?_⟩, hit'.at fun o q => (sb.2 it (Ne.symm hne)).trans q, hne⟩, fun b hb => ?_⟩
    · have e1 : ((i + 1 : Nat) : Int) = (i : Int) + 1 := by omega
      rw [e1]; exact he'
    · have hb' : b < s.heap.objs.size := by
        have e' : b = e ∨ b = it := by simpa using hb
        rcases e' with z | z
        · rw [z]; exact hel
        · rw [z]; exact hil
      rw [upd_ne (Nat.ne_of_lt hb')]
      exact (hf b hb).1
  done := by
    intro X hP hw hK hc i pins s σ H E I hf st hg
    subst hP hw hK
    obtain ⟨⟨old, he⟩, hit, hne⟩ := st
    obtain ⟨xs, hq, hx⟩ := hg
    obtain ⟨its, rv, p, hz⟩ := I.tuple hq
    have pT : s.heap.IsTuple a its.toArray := p
    obtain ⟨f0, f1, f2, f3, f4, f5⟩ := hf it (by simp)
    have hl := rv.length
    have hT : s.TypeIs (.ref e) "enumerate" := ⟨_, he, rfl⟩
    unfold pyNext
    refine wpAny_bind (wpAny_attempt (wpAny_callSpecial?_slot (name := Str.ofString "__next__") hT F.slot_enumerate_next
      (wpAny_call_entry F.slot_enumerate_next hT F.entry_enumerate_next ?_ (F.args_enumerate_next_1 _))))
    show wpAny _ _ (field (.ref e) 2 >>= _) _ _ _
    refine wpAny_bind (wpAny_field he rfl (x := .ref it) rfl ?_)
    refine wpAny_bind (wpAny_nextOf_tuple_end (I.ok.hd hc) hit pT (by simp; omega) fun h' x he' hx' => ?_)
    obtain ⟨o, ho, hc'⟩ := hx'
    refine wpAny_bind (wpAny_isInstance (T := "StopIteration") (b := true) ⟨o, ho, hc'⟩ isSubtype_stop ?_)
    exact wpAny_pure ⟨rfl, I.turned (t' := s.toks) (fun b o hb q => he' b o hb q) f0 f1 f3 f4 f5⟩
  self := fun A i s Q E st h => let ⟨⟨_, he⟩, _⟩ := st; wpAny_pyIter_enum he h
def iEnumT (K : PySem.W.Frag) (ta : TA) : TI := fun σ H R => ta σ H fun vs H1 => ∃ a xs, vs = [.ref a] ∧ SqT K H1 a xs ∧ R (IteT K a) H1
theorem pi_enumT {X : Cx} {e : Expr} {ta : TA} {p pos tpos : Pos} {elts : List Expr} {kk : Nat} (hg : Gl X "enumerate") (hm : X.mg "enumerate" = none) (ha : PA X [e] ta) (hs : starEach [e] X.env = [(false, eval e X.env)] := by rfl) :
    PI X (.Tuple elts kk tpos) (.Call (.Name "enumerate" p) [e] [] pos) (iEnumT X.K ta) := by
  refine ⟨fun pins s σ H R I h => ?_⟩
  refine Call_ (ld_blt I hg hm boot_enumerate (PyProof.Rows.callWith_type1 (thn (ha.run pos pins s σ H _ I h) fun us s1 ⟨vs, H1, I1, r1, q1⟩ => ?_) hs rfl))
  obtain ⟨a, xs, ex, hq, q⟩ := q1
  subst ex
  cases r1 with
  | cons r rr =>
    cases rr
    cases r
    obtain ⟨its, rv, p', hz⟩ := I1.tuple hq
    refine enum_begins1 (begins_tuple a its.toArray) (show s1.heap.IsTuple a its.toArray from p') fun h' he hit hsz hk => wpAny_pyIter_enum he ?_
    have I2 : Inv X pins σ H1 { s1 with heap := h' } := I1.kept (t' := s1.toks) hk
    refine ⟨s1.heap.objs.size + 1, [s1.heap.objs.size + 1, s1.heap.objs.size], _, _, H1, rfl, I2, turn_enumT a (s1.heap.objs.size + 1) s1.heap.objs.size, ⟨⟨.none, he⟩, ⟨_, hit, rfl, rfl⟩, Nat.succ_ne_self _⟩, fun b hb => ?_, q⟩
    have e' : b = s1.heap.objs.size + 1 ∨ b = s1.heap.objs.size := by simpa using hb
    have hle : s1.heap.objs.size ≤ b := by
      rcases e' with z | z
      · rw [z]; exact Nat.le_add_right _ _
      · rw [z]; exact Nat.le_refl _
    exact I1.fpOk hle (I1.hok.fresh hle)
theorem pi_enumT_k {X : Cx} {K : PySem.W.Frag} {e : Expr} {ta : TA} {p pos tpos : Pos} {elts : List Expr} {kk : Nat} (hg : Gl X "enumerate") (hm : X.mg "enumerate" = none) (ha : PA X [e] ta) (hs : starEach [e] X.env = [(false, eval e X.env)] := by rfl) (hK : X.K = K := by rfl) :
    PI X (.Tuple elts kk tpos) (.Call (.Name "enumerate" p) [e] [] pos) (iEnumT K ta) := by subst hK; exact pi_enumT hg hm ha hs
theorem walk_enumT {K : PySem.W.Frag} {a : Addr} {xs : List V} : Walk (IteT K a) xs.length (fun H => SqT K H a xs) (YPair (fun i => some (.int (i : Nat))) (fun i => xs[i]?)) := by
  refine ⟨fun i _ hi q => ⟨xs, xs[i], q, by simp [hi]⟩, fun _ q => ⟨xs, q, Nat.le_refl _⟩, fun i H v H' _ q y => ?_⟩
  obtain ⟨T, x, h1, h2, h3, h4⟩ := y
  exact ⟨T, .int (i : Nat), x, h1, h2, h3, rfl, h4 xs q⟩
/-! ### max(ns, default=d) -/
def maxI (d : Int) : List Int → Int
  | [] => d
  | n :: r => r.foldl max n
theorem reads_ints {h : Heap} : ∀ {us : List Value} {ns : List Int}, Vals (ns.map V.int) us → ReadsAll h us (ns.map PyData.int) []
  | _, [], r => by cases r; exact .nil
  | _, n :: ns, r => by
    cases r with
    | cons a b =>
      obtain ⟨t, rfl⟩ := (show ∃ t, _ = Value.int n t from a)
      exact .cons (.int _ _) (reads_ints b)
theorem ints_alike (ns : List Int) : PySem.W.AlikeAll (ns.map PyData.int) := by
  refine ⟨fun x hx y hy => ?_, fun x hx => ?_⟩
  · obtain ⟨a, _, rfl⟩ := List.mem_map.mp hx
    obtain ⟨b, _, rfl⟩ := List.mem_map.mp hy
    rfl
  · obtain ⟨a, _, rfl⟩ := List.mem_map.mp hx
    intro z
    cases z
theorem ints_depth : ∀ ns : List Int, PyData.depthAll (ns.map PyData.int) ≤ 1
  | [] => by decide
  | n :: ns => Nat.max_le.mpr ⟨Nat.zero_le _, ints_depth ns⟩
def rMaxDef (K : PySem.W.Frag) : List V → List V → Hp → VK → Prop := fun vs zs H Q => ∃ (a : Addr) (ns : List Int) (d : Int), vs = [.ref a] ∧ zs = [.int d] ∧ SqL K H a (ns.map V.int) ∧ Q (.int (maxI d ns)) H
theorem cr_maxDef {X : Cx} (hc : X.calm = true) (hu : X.A.units + 64 < cLine) : CallRK X (.builtin "max") [Str.ofString "default"] (rMaxDef X.K) := by
  intro pins s σ H xs zs us ws Q I r rz h
  obtain ⟨a, ns, d, rfl, rfl, hs, q⟩ := h
  obtain rfl := Vals.ref1 r
  obtain ⟨w1, rfl, e1⟩ := vals1 rz
  obtain ⟨t, rfl⟩ := (show ∃ t, w1 = Value.int d t from e1)
  obtain ⟨its, rv, hl, _⟩ := I.list hs
  have hd := ints_depth ns
  refine PySem.W.max_list_default (I.ok.hd hc) hl.isList (reads_ints rv) (ints_alike ns) (by omega) (fun e h' tk hk => ?_) fun y ys i v h' tk bs e hv hr hk => ?_
  · cases ns with
    | nil => exact ⟨.int d, H, I.kept hk, ⟨_, rfl⟩, q⟩
    | cons n ns => cases e
  · cases ns with
    | nil => cases e
    | cons n ns =>
      cases e
      rw [PySem.W.maxD_ints] at hr
      cases hr
      exact ⟨.int _, H, I.kept hk, ⟨_, rfl⟩, q⟩
end Fn

set_option Elab.async false
set_option maxRecDepth 100000
set_option maxHeartbeats 2000000
/-! sorted of a list of pairs (text, int). -/
namespace Fn
open PySem PySem.Spec PyProof.Rows L2
theorem refs_its {us : List Value} : ∀ {bs : List Addr}, Vals (bs.map V.ref) us → us = bs.map Value.ref := by
  induction us with
  | nil => intro bs r; cases bs with
    | nil => rfl
    | cons b bs => cases r
  | cons u us ih => intro bs r; cases bs with
    | nil => cases r
    | cons b bs =>
      cases r with
      | cons r1 r2 =>
        rw [ih r2]
        cases (show u = Value.ref b from r1)
        rfl
theorem refs_vals (l : List Addr) : Vals (l.map V.ref) (l.map Value.ref) := by
  induction l with
  | nil => exact .nil
  | cons b l ih => exact .cons rfl ih
def rSortPL (K : PySem.W.Frag) : List V → Hp → VK → Prop := fun vs H Q => ∃ (a : Addr) (bs : List Addr), vs = [V.ref a] ∧ SqL K H a (bs.map V.ref) ∧ (∀ b ∈ bs, ∃ x i, H b = some (.tup [.str x, .int i])) ∧
  ∀ (as : List Addr) (p : Addr), as.Perm bs → as.Pairwise (fun b c => lexS (pairAt H c) (pairAt H b) = false) → H p = none → Q (.ref p) (upd H p (.lst (as.map V.ref)))
theorem cr_sortPL {X : Cx} : CallR X (.builtin "sorted") (rSortPL X.K) := by
  intro pins s σ H vs us Q I r h
  obtain ⟨a, bs, rfl, hs, hL, q⟩ := h
  obtain ⟨its, rv, hl, hz⟩ := I.list hs
  obtain rfl := refs_its rv
  rw [Vals.ref1 r]
  rw [List.length_map] at hz
  let k : Value → Str × Int := fun v => match v with | .ref b => pairAt H b | _ => ("", 0)
  have pk : ∀ v ∈ bs.map Value.ref, IsPairS s.heap v (k v) := by
    intro v hv
    obtain ⟨b, hb, rfl⟩ := List.mem_map.mp hv
    obtain ⟨x, i, hx⟩ := hL b hb
    obtain ⟨_, its, rv, ob, h1, h2, n, h3⟩ := I.hok _ _ hx
    obtain ⟨u1, u2, rfl, ⟨t1, rfl⟩, t2, rfl⟩ := vals2 rv
    have ek : k (.ref b) = (x, i) := by
      show pairAt H b = _
      unfold pairAt
      rw [hx]
    rw [ek]
    exact ⟨b, ob, t1, t2, n, rfl, h1, h2, h3⟩
  refine SrtO.sorted_ord (swo_lexS k) hl.isList (by rw [List.length_map]; exact hz) (fun h2 h₁ a ha kk => pairS_sortable (s := { s with heap := h₁ }) (k := k) (by omega) (fun v hm => pairS_keeps (pk v hm) fun b o e _ => (kk b o e).2) fun o2 e2 c2 => ?_) fun out hs hb => ?_
  · have e3 : some o2 = some (seqObj "list" (bs.map Value.ref).toArray 0) := e2.symm.trans ha
    cases e3
    exact absurd (Value.type.inj c2) (by decide)
  · obtain ⟨as, pas, rfl⟩ := perm_map_inv hb.perm bs rfl
    have hn : H (s.heap.objs.size + 1) = none := I.hok.fresh (Nat.le_succ _)
    obtain ⟨n, ha⟩ := sortedAll_at s.heap (bs.map Value.ref) (as.map Value.ref).toArray
    refine ⟨.ref (s.heap.objs.size + 1), upd H (s.heap.objs.size + 1) (.lst (as.map V.ref)), I.laid (t' := s.toks) (fun _ _ => sortedAll_old) (Nat.le_succ _) ⟨by rw [List.length_map, pas.length_eq]; exact hz, as.map Value.ref, n, refs_vals as, ha⟩, rfl, q as _ pas ?_ hn⟩
    exact List.pairwise_map.mp hs
theorem paired_right {α β : Type} {R : α → β → Prop} : ∀ {l : List α} {m : List β} {i : Nat} {y : β}, Paired R l m → m[i]? = some y → ∃ x, l[i]? = some x ∧ R x y
  | _, _, _, _, .nil, h => by simp at h
  | _, _, 0, _, .cons a _, h => by
    cases (show some _ = some _ from h)
    exact ⟨_, rfl, a⟩
  | _, _, i + 1, _, .cons _ t, h => by
    obtain ⟨x, e, r⟩ := paired_right t (show _ = some _ from h)
    exact ⟨x, e, r⟩
/-- t + u of tuples of any length -/
def rCatB : R2 := fun x y H Q => ∃ (a b : Addr) (xs ys : List V), x = .ref a ∧ y = .ref b ∧ H a = some (.tup xs) ∧ H b = some (.tup ys) ∧ xs.length + ys.length ≤ sizeLine ∧ ∀ (p : Addr) (H' : Hp), Same H H' → H' p = some (.tup (xs ++ ys)) → Q (.ref p) H'
theorem op_catB {X : Cx} : OpR X (binaryOp .Add) rCatB := by
  intro pins s σ H x y v u Q I rx ry h
  obtain ⟨a, b, xs, ys, rfl, rfl, ha, hb, hz, q⟩ := h
  exact op_catA pins s σ H _ _ v u Q I rx ry ⟨a, b, xs, ys, rfl, rfl, SqT.of ha, SqT.of hb, hz, fun e => q b H (Same.refl _) (by rw [e, List.nil_append]; exact hb), fun _ e => q a H (Same.refl _) (by rw [e, List.append_nil]; exact ha), fun _ _ p hp => q p _ (fun c o e => by rw [upd_ne (ne_of_none e hp)]; exact e) upd_same⟩
/-- addresses and the pairs that stand there -/
theorem pairs_pw {H : Hp} : ∀ {as : List Addr} {ps : List (Str × Int)}, Paired (fun b q => H b = some (.tup [.str q.1, .int q.2])) as ps → as.Pairwise (fun b c => lexS (pairAt H c) (pairAt H b) = false) → ps.Pairwise (fun p q => lexS q p = false)
  | _, _, .nil, _ => .nil
  | _, _, .cons (a := a) (b := p) h t, w => by
    have at_ : ∀ {b : Addr} {q : Str × Int}, H b = some (.tup [.str q.1, .int q.2]) → pairAt H b = q := fun e => by
      unfold pairAt
      rw [e]
    obtain ⟨w1, w2⟩ := List.pairwise_cons.mp w
    refine List.pairwise_cons.mpr ⟨fun q hq => ?_, pairs_pw t w2⟩
    obtain ⟨i, hi⟩ := List.getElem?_of_mem hq
    obtain ⟨b, hb, e⟩ := paired_right t hi
    have z := w1 b (List.mem_of_getElem? hb)
    rw [at_ h, at_ e] at z
    exact z
/-- sorted rows of the same pairs, each once, are one row -/
theorem lex_uniq : ∀ {ps qs : List (Str × Int)}, ps.Nodup → qs.Nodup → ps.Pairwise (fun p q => lexS q p = false) → qs.Pairwise (fun p q => lexS q p = false) → (∀ p, p ∈ ps ↔ p ∈ qs) → ps = qs
  | [], [], _, _, _, _, _ => rfl
  | [], q :: qs, _, _, _, _, h => absurd ((h q).mpr List.mem_cons_self) (by simp)
  | p :: ps, [], _, _, _, _, h => absurd ((h p).mp List.mem_cons_self) (by simp)
  | p :: ps, q :: qs, n1, n2, w1, w2, h => by
    obtain ⟨a1, b1⟩ := List.pairwise_cons.mp w1
    obtain ⟨a2, b2⟩ := List.pairwise_cons.mp w2
    obtain ⟨c1, d1⟩ := List.nodup_cons.mp n1
    obtain ⟨c2, d2⟩ := List.nodup_cons.mp n2
    have e : p = q := by
      rcases List.mem_cons.mp ((h p).mp List.mem_cons_self) with e | m1
      · exact e
      · rcases List.mem_cons.mp ((h q).mpr List.mem_cons_self) with e | m2
        · exact e.symm
        · have z1 := a2 p m1
          have z2 := a1 q m2
          rcases lexS_tot z1 with z | z
          · rw [z2] at z
            cases z
          · exact z.symm
    subst e
    rw [lex_uniq d1 d2 b1 b2 fun r => ?_]
    constructor
    · intro m
      rcases List.mem_cons.mp ((h r).mp (List.mem_cons_of_mem _ m)) with rfl | z
      · exact absurd m c1
      · exact z
    · intro m
      rcases List.mem_cons.mp ((h r).mpr (List.mem_cons_of_mem _ m)) with rfl | z
      · exact absurd m c2
      · exact z
end Fn

set_option Elab.async false
set_option maxRecDepth 100000
set_option maxHeartbeats 2000000
/-! A dict against the empty one. -/
namespace Fn
open PySem PySem.Spec PyProof.Rows L2
def rEqDE (neg : Bool) : R2 := fun x y H Q => ∃ (a b : Addr) (ks : List (Key × V)), x = .ref a ∧ y = .ref b ∧ H a = some (.dK ks) ∧ H b = some (.dK []) ∧ Q (.bl (if neg then !ks.isEmpty else ks.isEmpty)) H
theorem op_eqDE {X : Cx} (hu : X.A.units < cLine) : OpR X (compareOp .Eq) (rEqDE false) := by
  intro pins s σ H x y v u Q I rx ry h
  obtain ⟨a, b, ks, rfl, rfl, ea, eb, q⟩ := h
  obtain rfl : v = Value.ref a := rx
  obtain rfl : u = Value.ref b := ry
  obtain ⟨_, ya, va, ra, da⟩ := (show ObjOk X.prog X.w H s.heap a (.dK ks) from I.hok a _ ea)
  obtain ⟨_, yb, vb, rb, db⟩ := (show ObjOk X.prog X.w H s.heap b (.dK []) from I.hok b _ eb)
  have lb : vb.length = 0 := by rw [← rb.length]; rfl
  have la : va.length = ks.length := ra.length.symm
  cases ks with
  | nil =>
    have la' : va.length = 0 := la
    exact PySem.W.keq_eq (knd := mixKind X.prog X.w) (r := true) ya yb da db hu (fun _ => hits_all rb ra fun p hp => (by cases hp)) (fin_bl I q (by rw [la', lb]; rfl))
  | cons k ks =>
    have la' : va.length = ks.length + 1 := la
    exact PySem.W.keq_eq (knd := mixKind X.prog X.w) (r := true) ya yb da db hu (fun e => absurd e (by omega)) (fin_bl I q (by rw [la', lb]; rfl))
end Fn

set_option Elab.async false
set_option linter.all false
set_option maxRecDepth 100000
set_option maxHeartbeats 4000000
/-! try with several clauses, some of them with a name: except A as x: .. / except B: .. -/
namespace Fn
open PySem PySem.Spec PyProof.Rows L2
abbrev Cls1 := Value × Option Nat × (Addr → Value → Option Addr → TS)
/-- what a clause with the name of slot i hands on: the name is gone behind it -/
def offAt (i : Nat) (D : Ends) : Ends := { nx := fun σ' H' => D.nx (σ'.set i none) H', rt := D.rt, bk := fun σ' H' => D.bk (σ'.set i none) H', ct := fun σ' H' => D.ct (σ'.set i none) H' }
def wishOf (D : Ends) (o : Option Nat) (ts : TS) (a : Addr) (σ : L2.St) (H : Hp) : Prop := match o with
  | none => ts D σ H
  | some i => ts (offAt i D) (σ.set i (some (.ref a))) H
def wAny (K : PySem.W.Frag) (Wout : WX) (D : Ends) : List Cls1 → WX
  | [] => Wout
  | (c, o, ts) :: r => fun cls d σ H => ∃ b, PySem.W.exmOne K cls c = some b ∧ (b = true → ∀ a, H a = none → wishOf D o (ts a cls d) a σ H) ∧ (b = false → wAny K Wout D r cls d σ H)
/-- the clauses, each with what its suite promises -/
inductive HdsA (X : Cx) : List ExceptHandler → List Cls1 → Prop
  | nil : HdsA X [] []
  | plain {x : Str} {c : Value} {ts : Addr → Value → Option Addr → TS} {b₀ : Stmt} {suite : List Stmt} {np pos' : Pos} {hds : List ExceptHandler} {l : List Cls1} (hc : Names X x c)
      (hsu : ∀ (a : Addr) (oe : Obj) (cls : Value) (d : Option Addr) (pn : List (Addr × Obj)), Zc cls d oe → (∃ vs, oe.data = .fields vs) → PSs (X.suite a ((a, oe) :: pn)) (b₀ :: suite) (ts a cls d)) (r : HdsA X hds l) :
      HdsA X (.ExceptHandler (some (.Name x np)) none (b₀ :: suite) pos' :: hds) ((c, none, ts) :: l)
  | named {x n : Str} {i : Nat} {c : Value} {ts : Addr → Value → Option Addr → TS} {b₀ : Stmt} {suite : List Stmt} {np pos' : Pos} {hds : List ExceptHandler} {l : List Cls1} (hN : X.N.Nodup) (hi : X.N[i]? = some n) (hln : X.env.kindOf n = some .local) (hc : Names X x c)
      (hsu : ∀ (a : Addr) (oe : Obj) (cls : Value) (d : Option Addr) (pn : List (Addr × Obj)), Zc cls d oe → (∃ vs, oe.data = .fields vs) → PSs (X.suite a ((a, oe) :: pn)) (b₀ :: suite) (ts a cls d)) (r : HdsA X hds l) :
      HdsA X (.ExceptHandler (some (.Name x np)) (some n) (b₀ :: suite) pos' :: hds) ((c, some i, ts) :: l)
section
variable {X : Cx} {body : List Stmt} {h₀ : ExceptHandler} {hds : List ExceptHandler} {l : List Cls1} {pos : Pos} {tb : WX → TS} {Wout : WX}
theorem ps_tryA (hs : X.stack = X.env :: X.outer) (hf : X.env.frame = some X.env.locals) (tk : Takes X Wout)
    (hb : ∀ (W : WX) (pn : List (Addr × Obj)) (xe : Value → Shared → Prop), Takes (X.tr pn xe) W → PassesOwn (model X.prog X.w) X.A X.env xe → PSs (X.tr pn xe) body (tb W))
    (hh : HdsA X (h₀ :: hds) l) : PS X (.Try body (h₀ :: hds) [] [] pos) (fun D σ H => tb (wAny X.K Wout D l) D σ H) := by
  refine ⟨fun pins s σ H D I h => ?_⟩
  have ok := I.ok
  have hfr : X.A.frames = some (X.env :: X.outer) := by rw [ok.frames, hs]
  refine wpAny_Try_except ?_
  refine wpAny_mono ((hb (wAny X.K Wout D l) (X.pn ++ pins) (fun e s₁ => wpAny (model X.prog X.w) X.A (noteFrame e X.env) (fun _ s₂ => wpAny (model X.prog X.w) X.A (setFlight e none) (fun _ s₃ =>
    wpAny (model X.prog X.w) X.A (handleBy e X.env (h₀ :: hds)) (SP X pins D) X.xe s₃) X.xe s₂) X.xe s₁) (fun u s' xx => ?_) PassesOwn.looking).run [] s σ H D (I.toTry _) h) (fun f s1 hsp => ?_) (fun e s1 he => he)
  · obtain ⟨a, B, sI, pins', σ', H', cls, d, rfl, J', nb, up, sky, na, os, ag, w⟩ := xx
    have J : Inv X pins σ' H' sI := J'.ofTry ok
    have sky' : Sky B (X.env :: X.outer) a (Zc cls d) X.env.locals s'.heap := by rw [← hs]; exact sky
    show wpAny (model X.prog X.w) X.A (noteFrame (.ref a) X.env) _ _ _
    refine Sky.land Zc.steady hfr hf sky' fun h3 fl3 up3 => ?_
    have J3 : Inv X pins σ' H' { s' with heap := h3 } := J.landed nb fl3.1 (up.trans up3) os ag
    obtain ⟨oe3, vs3, he3, hz3, hd3⟩ := fl3.there
    have nfr : a ∉ frs (X.env :: X.outer) := fun hm => by
      obtain ⟨_, o', e', hnf⟩ := (fl3.2.2.1).mem hm
      rw [he3] at e'; cases e'
      exact hnf _ hd3
    have nL : a ≠ X.env.locals := fun z => nfr (List.mem_filterMap.mpr ⟨X.env, List.mem_cons_self, by rw [hf, z]⟩)
    have nF : a ∉ X.fs := fun hm => by
      obtain ⟨e, he, q⟩ := List.mem_filterMap.mp hm
      exact nfr (List.mem_filterMap.mpr ⟨e, List.mem_cons_of_mem _ he, q⟩)
    have S3 := J3.suite he3 hd3 na nL nF
    have LT : PySem.W.Looks (model X.prog X.w) h3 (typeOf (.ref a)) cls := fun A Q E s k q => wpAny_typeOf_ref (k _ _ he3) (by rw [hz3.1]; exact q)
    have test : ∀ {x : Str} {c : Value} {np : Pos} {Q : Value → Shared → Prop} {E : Value → Shared → Prop}, Names X x c → Q c { s' with heap := h3 } → wpAny (model X.prog X.w) (X.A.mark (some (.ref a))) (eval (.Name x np) X.env) Q E { s' with heap := h3 } := fun {x c np Q E} hc q => by
      obtain ⟨hg, hdbg, hm | ⟨hm, hv, hnn⟩⟩ := hc
      · exact ld_glob (X := X.suite a ((a, oe3) :: (X.pn ++ pins))) S3 hg hm q hdbg
      · exact ld_blt (X := X.suite a ((a, oe3) :: (X.pn ++ pins))) S3 hg hm hv q hnn hdbg
    have go : ∀ {hds' : List ExceptHandler} {l' : List Cls1}, HdsA X hds' l' → wAny X.K Wout D l' cls d σ' H' →
        wpAny (model X.prog X.w) X.A (handleBy (.ref a) X.env hds') (SP X pins D) X.xe { s' with heap := h3 } := by
      intro hds' l' hk
      induction hk with
      | nil =>
        intro w
        refine wpAny_handleBy_nil ?_
        obtain ⟨k1, k2, k3, oe, vs, T, oT, ts', he, hz, hd, h1, hr⟩ := id fl3
        unfold PySem.passOn
        refine wpAny_bind (wpAny_field he hd h1 ?_)
        rw [if_neg (show ¬ ((Value.ref T == Value.none) = true) from by simp)]
        have fin : wpAny (model X.prog X.w) X.A (setFlight (.ref a) X.env.frame) (fun _ s4 => wpAny (model X.prog X.w) X.A (throw (.ref a) : Sem Flow) (SP X pins D) X.xe s4) X.xe { s' with heap := h3 } := by
          rw [hf]
          refine HandSPX.setFlight_upZ fl3 fun h4 hh4 up4 => wpAny_throw (tk _ _ ?_)
          exact ⟨a, B, sI, pins, σ', H', cls, d, rfl, J, nb, (up.trans up3).trans up4, .inr (.inr (by rw [hs]; exact hh4)), na, os, ag, w⟩
        first
          | exact wpAny_bind (wpAny_pure (wpAny_bind fin))
          | exact wpAny_bind fin
      | @plain x c ts b₀ suite np pos' hds2 l2 hc hsu r ih =>
        rintro ⟨b, hb1, hyes, hno⟩
        refine wpAny_handleBy_cons (codeAny_handlers_test ?_) (by intro q; cases q)
        refine test hc ((PySem.W.exm_one (M := model X.prog X.w) (J3.kIn) LT hb1).here ?_)
        cases b with
        | true =>
          refine codeAny_handlers_suite ?_
          refine HandSPX.lands_againZ fl3 fun h4 fl4 up4 => ?_
          have J4 : Inv X pins σ' H' { s' with heap := h4 } := J.landed nb fl4.1 ((up.trans up3).trans up4) os ag
          obtain ⟨oe4, vs4, he4, hz4, hd4⟩ := fl4.there
          refine wpAny_mono ((hsu a oe4 cls d (X.pn ++ pins) hz4 ⟨_, hd4⟩).run [] _ _ H' _ (J4.suite he4 hd4 na nL nF) (hyes rfl a na)) (fun f s6 hsp => ?_) (fun _ _ z => False.elim z)
          match f, hsp with
          | .next, ⟨σ6, H6, S6, q6⟩ => exact ⟨_, _, S6.unsuite ok, q6⟩
          | .brk, ⟨σ6, H6, S6, q6⟩ => exact ⟨_, _, S6.unsuite ok, q6⟩
          | .cont, ⟨σ6, H6, S6, q6⟩ => exact ⟨_, _, S6.unsuite ok, q6⟩
          | .ret u, ⟨v6, σ6, H6, S6, r6, q6⟩ => exact ⟨_, _, _, S6.unsuite ok, r6, q6⟩
        | false => exact ih (hno rfl)
      | @named x n i c ts b₀ suite np pos' hds2 l2 hN hi hln hc hsu r ih =>
        rintro ⟨b, hb1, hyes, hno⟩
        refine wpAny_handleBy_cons (codeAny_handlers_test ?_) (by intro q; cases q)
        refine test hc ((PySem.W.exm_one (M := model X.prog X.w) (J3.kIn) LT hb1).here ?_)
        cases b with
        | true =>
          refine codeAny_handlers_suite_as ?_
          refine HandSPX.lands_againZ fl3 fun h4 fl4 up4 => ?_
          have J4 : Inv X pins σ' H' { s' with heap := h4 } := J.landed nb fl4.1 ((up.trans up3).trans up4) os ag
          obtain ⟨oe4, vs4, he4, hz4, hd4⟩ := fl4.there
          refine store_ok (X := X.suite a ((a, oe4) :: (X.pn ++ pins))) (v := .ref a) (J4.suite he4 hd4 na nL nF) hN hi (.inl hln) rfl (fun s5 S5 => ?_) (.inr hln)
          refine wpAny_mono ((hsu a oe4 cls d (X.pn ++ pins) hz4 ⟨_, hd4⟩).run [] s5 _ H' _ S5 (hyes rfl a na)) (fun f s6 hsp => ?_) (fun _ _ z => False.elim z)
          have end_ : ∀ {σ6 : L2.St} {H6 : Hp} {Q : Shared → Prop}, Inv (X.suite a ((a, oe4) :: (X.pn ++ pins))) [] σ6 H6 s6 → (∀ s7, Inv X pins (σ6.set i none) H6 s7 → Q s7) →
              wpAny (model X.prog X.w) X.A (do bindName X.env n .none; unbindBehindTheSuite X.env n pos') (fun _ s7 => Q s7) X.xe s6 := fun {σ6 H6 Q} S6 hq => gone_ok (S6.unsuite ok) hN hi hln hq
          match f, hsp with
          | .next, ⟨σ6, H6, S6, q6⟩ => exact end_ S6 fun s7 J7 => ⟨_, _, J7, q6⟩
          | .brk, ⟨σ6, H6, S6, q6⟩ => exact end_ S6 fun s7 J7 => ⟨_, _, J7, q6⟩
          | .cont, ⟨σ6, H6, S6, q6⟩ => exact end_ S6 fun s7 J7 => ⟨_, _, J7, q6⟩
          | .ret u, ⟨v6, σ6, H6, S6, r6, q6⟩ => exact end_ S6 fun s7 J7 => ⟨_, _, _, J7, r6, q6⟩
        | false => exact ih (hno rfl)
    exact go hh w
  · match f, hsp with
    | .next, ⟨σ', H', J', q⟩ => exact wpAny_execs_nil ⟨σ', H', J'.ofTry ok, q⟩
    | .brk, ⟨σ', H', J', q⟩ => exact ⟨σ', H', J'.ofTry ok, q⟩
    | .cont, ⟨σ', H', J', q⟩ => exact ⟨σ', H', J'.ofTry ok, q⟩
    | .ret u, ⟨v, σ', H', J', r, q⟩ => exact ⟨v, σ', H', J'.ofTry ok, r, q⟩
end
end Fn

set_option Elab.async false
set_option maxRecDepth 100000
set_option maxHeartbeats 4000000
/-! What the written part says of the own class ParseError (over ValueError, with a field), as one test that runs. -/
namespace Fn
open PySem PySem.Spec PyProof.Rows L2
structure PrsZ (K : PySem.W.Frag) (mg : Str → Option Value) (c : Ta) (p : Pa) : Prop where
  g : mg "ParseError" = some (.ref p.C)
  o : OexC K p.C
  ini : IniC K p.C p.I "line"
  xf : XfC K p.C
  self : PySem.W.exmOne K (.ref p.C) (.ref p.C) = some true
  notX : PySem.W.exmOne K (.ref c.X) (.ref p.C) = some false
theorem refs_of : ∀ {l : List Value}, ownT tVal l = true → PySem.HandSPX.refsVE l = true
  | l, h => by
    induction l with
    | nil =>
      rcases ownT_cases tVal [] h with ⟨_, _, e, _⟩ | e
      · cases e
      · exact absurd e (by decide)
    | cons a l ih =>
      rcases ownT_cases tVal (a :: l) h with ⟨c, r, e, h2⟩ | e
      · cases e
        exact ih h2
      · rw [e]
        decide +kernel
theorem prsZ {K : PySem.W.Frag} {mg : Str → Option Value} {c : Ta} {p : Pa} (g : mg "ParseError" = some (.ref p.C)) (h : prsB K c.X p.C p.I = true) : PrsZ K mg c p := by
  simp only [prsB, Bool.and_eq_true, decide_eq_true_eq] at h
  obtain ⟨h1, h2, h3, h4, h5⟩ := h
  have e := exB_ok h1
  have i := iniB_ok bVal e h2
  have h2' := h2
  simp only [iniB, Bool.and_eq_true, decide_eq_true_eq] at h2'
  obtain ⟨nm, q, N, bs, bm, sn, sub, ab, col, dd, k0, k1, k2, k3, k5, hl, ho⟩ := clsX_obj h2'.1
  exact ⟨g, ⟨⟨nm, q, N, bs, bm, sn, sub, ab, col, dd, k0, k1, k2, k3, k5, hl, refs_of ho⟩, i.o.sa, e.f.exC, h3, e.k⟩, i, e.f, h4, h5⟩
end Fn

set_option Elab.async false
set_option maxRecDepth 100000
set_option maxHeartbeats 2000000
/-! Texts of terms, and how they are read: by a reader that goes down (of a law), and by one that cuts the text into pieces (of a program). -/
namespace Fn
open PySem PySem.Spec PyProof.Rows L2
open TL (tl joinL spl)
open SX (S)
/-! ### words -/
theorem leaf_codes {x : Str} (h : isLeafD (.str x) = true) : tl x = [95] ∨ tl x = [35] := by
  have g' : ([.str "_", .str "#"] : List PyData).any (fun z => PyData.eqv z (.str x)) = true := h
  simp only [List.any_cons, List.any_nil, Bool.or_false, Bool.or_eq_true] at g'
  rcases g' with z | z
  · have e : ("_" : Str) = x := by simpa [PyData.eqv] using z
    rw [← e]
    exact .inl (by decide +kernel)
  · have e : ("#" : Str) = x := by simpa [PyData.eqv] using z
    rw [← e]
    exact .inr (by decide +kernel)
theorem leaf_of {x : Str} (h : tl x = [95] ∨ tl x = [35]) : isLeafD (.str x) = true := by
  rcases h with h | h
  · have e : x = ("_" : Str) := TL.ext_tl (h.trans (by decide +kernel))
    rw [e]
    decide +kernel
  · have e : x = ("#" : Str) := TL.ext_tl (h.trans (by decide +kernel))
    rw [e]
    decide +kernel
theorem lowZ_iff {c : Nat} : lowZ c = true ↔ 97 ≤ c ∧ c ≤ 122 := by
  have a : ∀ x y : Nat, ([x] < [y]) ↔ x < y := fun x y => by
    constructor
    · intro h
      cases h with
      | rel h => exact h
      | cons h => cases h
    · exact fun h => .rel h
  unfold lowZ
  rw [Bool.and_eq_true, Bool.not_eq_true', Bool.not_eq_true', decide_eq_false_iff_not, decide_eq_false_iff_not, a, a]
  omega
/-- a node's word: a leaf with no argument, or one to eight letters -/
theorem node_word {x : Str} {k : Int} (h : isNodeD (.tuple [.str x, .int k]) = true) : ((tl x = [95] ∨ tl x = [35]) ∧ k = 0) ∨ (1 ≤ (tl x).length ∧ (tl x).length ≤ 8 ∧ (∀ c ∈ tl x, lowZ c = true) ∧ 0 ≤ k ∧ k ≤ 3) := by
  have h' : (if isLeafD (.str x) = true then (isArityD (.int k) && PyData.eqv (.int k) (.int 0)) else (isWordS x && isArityD (.int k))) = true := h
  split at h'
  · rename_i g
    rw [Bool.and_eq_true] at h'
    exact .inl ⟨leaf_codes g, by simpa [PyData.eqv] using h'.2⟩
  · rw [Bool.and_eq_true] at h'
    have w := h'.1
    have a : (isIntD (.int k) && (decide (0 ≤ k) && decide (k ≤ 3))) = true := h'.2
    simp only [Bool.and_eq_true, decide_eq_true_eq] at a
    simp only [isWordS, Bool.and_eq_true, decide_eq_true_eq, List.all_eq_true] at w
    rw [TL.len_tl] at w
    exact .inr ⟨w.1.1, w.1.2, w.2, a.2.1, a.2.2⟩
theorem node_of {x : Str} {k : Nat} (h1 : 1 ≤ (tl x).length) (h2 : (tl x).length ≤ 8) (h3 : ∀ c ∈ tl x, lowZ c = true) (h4 : k ≤ 3) : isNodeD (.tuple [.str x, .int (k : Nat)]) = true := by
  show (if isLeafD (.str x) = true then (isArityD (.int (k : Nat)) && PyData.eqv (.int (k : Nat)) (.int 0)) else (isWordS x && isArityD (.int (k : Nat)))) = true
  rw [if_neg (fun z => ?_)]
  · have a : isArityD (.int (k : Nat)) = true := by
      have t : ∀ k : Nat, k ≤ 3 → isArityD (.int (k : Nat)) = true := by
        intro k hk
        match k, hk with
        | 0, _ => decide +kernel
        | 1, _ => decide +kernel
        | 2, _ => decide +kernel
        | 3, _ => decide +kernel
        | k + 4, h => exact absurd h (by omega)
      exact t k h4
    rw [a, Bool.and_true]
    simp only [isWordS, Bool.and_eq_true, decide_eq_true_eq, List.all_eq_true, TL.len_tl]
    exact ⟨⟨h1, h2⟩, h3⟩
  · rcases leaf_codes z with e | e
    · have := lowZ_iff.mp (h3 95 (by rw [e]; exact List.mem_cons_self))
      omega
    · have := lowZ_iff.mp (h3 35 (by rw [e]; exact List.mem_cons_self))
      omega
theorem leaf_node {x : Str} (h : tl x = [95] ∨ tl x = [35]) : isNodeD (.tuple [.str x, .int ((0 : Nat) : Int)]) = true := by
  show (if isLeafD (.str x) = true then _ else _) = true
  rw [if_pos (leaf_of h)]
  decide +kernel
/-! ### plain terms with any words -/
def IsW : Nat → PyData → Prop
  | 0, _ => False
  | n + 1, d => ∃ (w : Str) (ds : List PyData), d = .tuple [.str w, .tuple ds] ∧ isNodeD (.tuple [.str w, .int (ds.length : Nat)]) = true ∧ ∀ e ∈ ds, IsW n e
def nodesW : Nat → PyData → List PyData
  | n + 1, .tuple [w, .tuple ds] => .tuple [w, .int ds.length] :: ds.flatMap (nodesW n)
  | _, _ => []
def codesW : Nat → PyData → List Nat
  | n + 1, .tuple [.str w, .tuple ds] => if ds.isEmpty then tl w else tl w ++ (40 :: (joinL [44, 32] (ds.map (codesW n)) ++ [41]))
  | _, _ => []
theorem congrM {α β : Type} {f g : α → β} : ∀ {ds : List α}, (∀ e ∈ ds, f e = g e) → ds.map f = ds.map g
  | [], _ => rfl
  | d :: ds, h => by rw [List.map_cons, List.map_cons, h d List.mem_cons_self, congrM fun e he => h e (List.mem_cons_of_mem _ he)]
theorem congrF {α β : Type} {f g : α → List β} : ∀ {ds : List α}, (∀ e ∈ ds, f e = g e) → ds.flatMap f = ds.flatMap g
  | [], _ => rfl
  | d :: ds, h => by rw [List.flatMap_cons, List.flatMap_cons, h d List.mem_cons_self, congrF fun e he => h e (List.mem_cons_of_mem _ he)]
theorem isW_up1 : ∀ {n : Nat} {d : PyData}, IsW n d → IsW (n + 1) d ∧ nodesW (n + 1) d = nodesW n d ∧ codesW (n + 1) d = codesW n d
  | 0, _, h => h.elim
  | n + 1, _, ⟨w, ds, rfl, hw, hds⟩ => by
    refine ⟨⟨w, ds, rfl, hw, fun e he => (isW_up1 (hds e he)).1⟩, ?_, ?_⟩
    · show _ :: ds.flatMap (nodesW (n + 1)) = _ :: ds.flatMap (nodesW n)
      rw [congrF fun e he => (isW_up1 (hds e he)).2.1]
    · show (if ds.isEmpty = true then tl w else tl w ++ (40 :: (joinL [44, 32] (ds.map (codesW (n + 1))) ++ [41]))) = (if ds.isEmpty = true then tl w else tl w ++ (40 :: (joinL [44, 32] (ds.map (codesW n)) ++ [41])))
      rw [congrM fun e he => (isW_up1 (hds e he)).2.2]
theorem isW_up {m n : Nat} (h : m ≤ n) {d : PyData} (hd : IsW m d) : IsW n d ∧ nodesW n d = nodesW m d ∧ codesW n d = codesW m d := by
  induction h with
  | refl => exact ⟨hd, rfl, rfl⟩
  | step _ ih =>
    obtain ⟨a, b, c⟩ := ih
    obtain ⟨a', b', c'⟩ := isW_up1 a
    exact ⟨a', b'.trans b, c'.trans c⟩
theorem nodesW_node : ∀ {n : Nat} {d : PyData}, IsW n d → ∀ e ∈ nodesW n d, isNodeD e = true
  | 0, _, h, _, _ => h.elim
  | n + 1, _, ⟨w, ds, rfl, hw, hds⟩, e, he => by
    rcases List.mem_cons.mp (show e ∈ _ :: ds.flatMap (nodesW n) from he) with rfl | he
    · exact hw
    · obtain ⟨c, hc, he⟩ := List.mem_flatMap.mp he
      exact nodesW_node (hds c hc) e he
theorem codesW_ne : ∀ {n : Nat} {d : PyData}, IsW n d → codesW n d ≠ []
  | 0, _, h => h.elim
  | n + 1, _, ⟨w, ds, rfl, hw, hds⟩ => by
    have w0 : tl w ≠ [] := by
      rcases node_word hw with ⟨e | e, _⟩ | ⟨a, _⟩
      · rw [e]; simp
      · rw [e]; simp
      · intro z
        rw [z] at a
        simp at a
    show (if ds.isEmpty = true then tl w else tl w ++ (40 :: (joinL [44, 32] (ds.map (codesW n)) ++ [41]))) ≠ []
    split
    · exact w0
    · exact fun z => w0 (List.append_eq_nil_iff.mp z).1
/-! ### the reader that goes down -/
def wordAt (s : List Nat) (i : Nat) : List Nat := (s.drop i).takeWhile lowZ
def argsW (rd : List Nat → Nat → Option (PyData × Nat)) (s w : List Nat) : Nat → Nat → List PyData → Option (PyData × Nat)
  | 0, _, _ => none
  | k + 1, i, acc => match rd s i with
    | none => none
    | some (t, j) => if (s.drop j).take 1 = [41] then (if (acc ++ [t]).length < 4 then some (.tuple [.str (S w), .tuple (acc ++ [t])], j + 1) else none)
      else if (s.drop j).take 2 ≠ [44, 32] then none else argsW rd s w k (j + 2) (acc ++ [t])
def rdW : Nat → List Nat → Nat → Option (PyData × Nat)
  | 0, _, _ => none
  | n + 1, s, i =>
    if (s.drop i).take 1 = [95] ∨ (s.drop i).take 1 = [35] then some (.tuple [.str (S ((s.drop i).take 1)), .tuple []], i + 1)
    else if ¬ (0 < (wordAt s i).length ∧ (wordAt s i).length < 9) then none
    else if (s.drop (i + (wordAt s i).length)).take 1 ≠ [40] then some (.tuple [.str (S (wordAt s i)), .tuple []], i + (wordAt s i).length)
    else argsW (rdW n) s (wordAt s i) 4 (i + (wordAt s i).length + 1) []
theorem take1 {l r : List Nat} {c : Nat} (h : l = c :: r) : l.take 1 = [c] := by rw [h]; rfl
theorem of_take1 {l : List Nat} {c : Nat} (h : l.take 1 = [c]) : ∃ r, l = c :: r := by
  cases l with
  | nil => cases h
  | cons a r =>
    cases (show [a] = [c] from h)
    exact ⟨r, rfl⟩
theorem of_take2 {l : List Nat} {c d : Nat} (h : l.take 2 = [c, d]) : ∃ r, l = c :: d :: r := by
  cases l with
  | nil => cases h
  | cons a r =>
    cases r with
    | nil => cases h
    | cons b r =>
      cases (show [a, b] = [c, d] from h)
      exact ⟨r, rfl⟩
theorem drop_of {s a r : List Nat} {i : Nat} (h : s.drop i = a ++ r) : s.drop (i + a.length) = r := by
  rw [← List.drop_drop, h, List.drop_left']
  rfl
theorem joinL_cons {α : List Nat} {p : List Nat} : ∀ {q : List (List Nat)}, q ≠ [] → joinL α (p :: q) = p ++ (α ++ joinL α q)
  | [], h => absurd rfl h
  | _ :: _, _ => rfl
theorem takeWhile_of {p : Nat → Bool} : ∀ {w r : List Nat}, (∀ c ∈ w, p c = true) → (∀ c, r.head? = some c → p c = false) → (w ++ r).takeWhile p = w
  | [], r, _, h => by
    rw [List.nil_append]
    cases r with
    | nil => rfl
    | cons c r => rw [List.takeWhile_cons, if_neg (by rw [h c rfl]; decide)]
  | c :: w, r, hw, h => by
    rw [List.cons_append, List.takeWhile_cons, if_pos (hw c List.mem_cons_self), takeWhile_of (fun x hx => hw x (List.mem_cons_of_mem _ hx)) h]
/-- what may stand behind a term that is read -/
def EndOk (r : List Nat) : Prop := ∀ c, r.head? = some c → lowZ c = false ∧ c ≠ 40
theorem args_read {rd : List Nat → Nat → Option (PyData × Nat)} {s w : List Nat} {f : PyData → List Nat} : ∀ {ts : List PyData} {k i : Nat} {acc : List PyData} {r : List Nat}, (∀ t ∈ ts, ∀ i r, s.drop i = f t ++ r → EndOk r → rd s i = some (t, i + (f t).length)) → ts ≠ [] → ts.length ≤ k → acc.length + ts.length < 4 →
    s.drop i = joinL [44, 32] (ts.map f) ++ (41 :: r) → argsW rd s w k i acc = some (.tuple [.str (S w), .tuple (acc ++ ts)], i + (joinL [44, 32] (ts.map f)).length + 1)
  | [], _, _, _, _, _, h, _, _, _ => absurd rfl h
  | [t], k + 1, i, acc, r, hr, _, _, hl, e => by
    have e1 : s.drop i = f t ++ (41 :: r) := e
    have r1 := hr t List.mem_cons_self i _ e1 (fun c hc => by cases hc; exact ⟨by decide, by decide⟩)
    show (match rd s i with | none => none | some (t, j) => _) = _
    rw [r1]
    show (if (s.drop (i + (f t).length)).take 1 = [41] then _ else _) = _
    rw [if_pos (take1 (drop_of e1)), if_pos (by rw [List.length_append]; exact hl)]
    rfl
  | t :: t2 :: ts, k + 1, i, acc, r, hr, _, hk, hl, e => by
    rw [List.map_cons, joinL_cons (by simp)] at e
    have e1 : s.drop i = f t ++ (44 :: 32 :: (joinL [44, 32] ((t2 :: ts).map f) ++ (41 :: r))) := by rw [e]; simp [List.append_assoc]
    have r1 := hr t List.mem_cons_self i _ e1 (fun c hc => by cases hc; exact ⟨by decide, by decide⟩)
    have e2 := drop_of e1
    have e3 : s.drop (i + (f t).length + 2) = joinL [44, 32] ((t2 :: ts).map f) ++ (41 :: r) := by
      rw [← List.drop_drop, e2]
      rfl
    have r2 := args_read (w := w) (ts := t2 :: ts) (k := k) (i := i + (f t).length + 2) (acc := acc ++ [t]) (fun x hx => hr x (List.mem_cons_of_mem _ hx)) (by simp) (by simp at hk ⊢; omega) (by simp at hl ⊢; omega) e3
    show (match rd s i with | none => none | some (t, j) => _) = _
    rw [r1]
    show (if (s.drop (i + (f t).length)).take 1 = [41] then _ else _) = _
    have ej : joinL [44, 32] ((t :: t2 :: ts).map f) = f t ++ ([44, 32] ++ joinL [44, 32] ((t2 :: ts).map f)) := joinL_cons (by simp)
    rw [if_neg (by rw [take1 e2]; simp), if_neg (fun z => z (by rw [e2]; rfl)), r2, ej]
    simp only [List.append_assoc, List.cons_append, List.nil_append, List.length_append, List.length_cons, List.length_nil]
    congr 2
    omega
theorem read_codes : ∀ {n : Nat} {d : PyData}, IsW n d → ∀ {s r : List Nat} {i : Nat}, s.drop i = codesW n d ++ r → EndOk r → rdW n s i = some (d, i + (codesW n d).length)
  | 0, _, h, _, _, _, _, _ => h.elim
  | n + 1, _, ⟨w, ds, rfl, hw, hds⟩, s, r, i, e, he => by
    rcases node_word hw with ⟨hl, k0⟩ | ⟨a1, a2, a3, _, a5⟩
    · have d0 : ds = [] := List.length_eq_zero_iff.mp (by omega)
      subst d0
      have ec : codesW (n + 1) (.tuple [.str w, .tuple []]) = tl w := rfl
      rw [ec] at e ⊢
      show (if _ then _ else _) = _
      have t1 : (s.drop i).take 1 = tl w := by
        rcases hl with z | z <;> rw [e, z] <;> rfl
      rw [t1, if_pos hl]
      have l1 : (tl w).length = 1 := by rcases hl with z | z <;> rw [z] <;> rfl
      rw [l1, SX.S_tl]
    · have hdL : ∀ c, (tl w).head? = some c → lowZ c = true := fun c hc => a3 c (List.mem_of_mem_head? hc)
      obtain ⟨c0, w0, ew⟩ : ∃ c0 w0, tl w = c0 :: w0 := by
        cases z : tl w with
        | nil => rw [z] at a1; simp at a1
        | cons c w0 => exact ⟨c, w0, rfl⟩
      have lc := lowZ_iff.mp (a3 c0 (by rw [ew]; exact List.mem_cons_self))
      have main : ∀ r', s.drop i = tl w ++ r' → (∀ c, r'.head? = some c → lowZ c = false) → wordAt s i = tl w ∧ ¬ ((s.drop i).take 1 = [95] ∨ (s.drop i).take 1 = [35]) := fun r' e hr => by
        refine ⟨?_, ?_⟩
        · unfold wordAt
          rw [e]
          exact takeWhile_of a3 hr
        · rw [e, ew]
          show ¬ ([c0] = [95] ∨ [c0] = [35])
          rintro (z | z) <;> cases z <;> omega
      by_cases d0 : ds = []
      · subst d0
        have ec : codesW (n + 1) (.tuple [.str w, .tuple []]) = tl w := rfl
        rw [ec] at e ⊢
        obtain ⟨m1, m2⟩ := main r e fun c hc => (he c hc).1
        show (if _ then _ else _) = _
        rw [if_neg m2, m1, if_neg (fun z => z ⟨by omega, by omega⟩), if_pos ?_, SX.S_tl]
        rw [drop_of e]
        intro z
        obtain ⟨r2, rfl⟩ := of_take1 z
        exact (he 40 rfl).2 rfl
      · have ec : codesW (n + 1) (.tuple [.str w, .tuple ds]) = tl w ++ (40 :: (joinL [44, 32] (ds.map (codesW n)) ++ [41])) := if_neg (by simpa using d0)
        rw [ec] at e ⊢
        have e1 : s.drop i = tl w ++ (40 :: (joinL [44, 32] (ds.map (codesW n)) ++ (41 :: r))) := by rw [e]; simp [List.append_assoc]
        obtain ⟨m1, m2⟩ := main _ e1 fun c hc => by cases hc; decide
        have e2 := drop_of e1
        have e3 : s.drop (i + (tl w).length + 1) = joinL [44, 32] (ds.map (codesW n)) ++ (41 :: r) := by
          rw [← List.drop_drop, e2]
          rfl
        show (if _ then _ else _) = _
        rw [if_neg m2, m1, if_neg (fun z => z ⟨by omega, by omega⟩), if_neg (fun z => z (take1 e2))]
        have ar := args_read (rd := rdW n) (s := s) (w := tl w) (f := codesW n) (ts := ds) (k := 4) (acc := []) (fun t ht i r e he => read_codes (hds t ht) e he) d0 (by omega) (by simp; omega) e3
        rw [ar, SX.S_tl, List.nil_append]
        simp only [List.length_append, List.length_cons, List.length_nil]
        congr 2
        omega
theorem args_sound {n : Nat} (ih : ∀ {s : List Nat} {i j : Nat} {t : PyData}, rdW n s i = some (t, j) → IsW n t ∧ s.drop i = codesW n t ++ s.drop j) {s w : List Nat} : ∀ {k i j : Nat} {acc : List PyData} {t : PyData}, argsW (rdW n) s w k i acc = some (t, j) →
    ∃ ts : List PyData, ts ≠ [] ∧ t = .tuple [.str (S w), .tuple (acc ++ ts)] ∧ (∀ x ∈ ts, IsW n x) ∧ (acc ++ ts).length < 4 ∧ s.drop i = joinL [44, 32] (ts.map (codesW n)) ++ (41 :: s.drop j)
  | 0, _, _, _, _, h => by cases h
  | k + 1, i, j, acc, t, h => by
    have h' : (match rdW n s i with | none => none | some (t, j) => if (s.drop j).take 1 = [41] then (if (acc ++ [t]).length < 4 then some (PyData.tuple [.str (S w), .tuple (acc ++ [t])], j + 1) else none) else if (s.drop j).take 2 ≠ [44, 32] then none else argsW (rdW n) s w k (j + 2) (acc ++ [t])) = some (t, j) := h
    cases g : rdW n s i with
    | none => rw [g] at h'; cases h'
    | some p =>
      obtain ⟨t1, j1⟩ := p
      rw [g] at h'
      obtain ⟨w1, e1⟩ := ih g
      have h2 : (if (s.drop j1).take 1 = [41] then (if (acc ++ [t1]).length < 4 then some (PyData.tuple [.str (S w), .tuple (acc ++ [t1])], j1 + 1) else none) else if (s.drop j1).take 2 ≠ [44, 32] then none else argsW (rdW n) s w k (j1 + 2) (acc ++ [t1])) = some (t, j) := h'
      split at h2
      · rename_i z
        obtain ⟨r, er⟩ := of_take1 z
        split at h2
        · rename_i z2
          cases h2
          have e3 : s.drop (j1 + 1) = r := by rw [← List.drop_drop, er]; rfl
          exact ⟨[t1], by simp, rfl, fun x hx => by rw [List.mem_singleton.mp hx]; exact w1, z2, by rw [e3, e1, er]; rfl⟩
        · cases h2
      · split at h2
        · cases h2
        · rename_i z2
          have z3 : (s.drop j1).take 2 = [44, 32] := by
            by_cases q : (s.drop j1).take 2 = [44, 32]
            · exact q
            · exact absurd q z2
          obtain ⟨r, er⟩ := of_take2 z3
          obtain ⟨ts, n0, et, hts, hl, e4⟩ := args_sound (fun h => ih h) h2
          have e5 : s.drop (j1 + 2) = r := by rw [← List.drop_drop, er]; rfl
          refine ⟨t1 :: ts, by simp, by rw [et]; simp [List.append_assoc], fun x hx => ?_, by simpa [List.append_assoc] using hl, ?_⟩
          · rcases List.mem_cons.mp hx with rfl | hx
            · exact w1
            · exact hts x hx
          · rw [List.map_cons, joinL_cons (by simpa using n0), e1, er, ← e5, e4]
            simp [List.append_assoc]
theorem read_sound : ∀ {n : Nat} {s : List Nat} {i j : Nat} {t : PyData}, rdW n s i = some (t, j) → IsW n t ∧ s.drop i = codesW n t ++ s.drop j
  | 0, _, _, _, _, h => by cases h
  | n + 1, s, i, j, t, h => by
    have h' : (if (s.drop i).take 1 = [95] ∨ (s.drop i).take 1 = [35] then some (PyData.tuple [.str (S ((s.drop i).take 1)), .tuple []], i + 1)
      else if ¬ (0 < (wordAt s i).length ∧ (wordAt s i).length < 9) then none
      else if (s.drop (i + (wordAt s i).length)).take 1 ≠ [40] then some (.tuple [.str (S (wordAt s i)), .tuple []], i + (wordAt s i).length)
      else argsW (rdW n) s (wordAt s i) 4 (i + (wordAt s i).length + 1) []) = some (t, j) := h
    have tS : ∀ l : List Nat, tl (S l) = l := fun l => rfl
    have wa : s.drop i = wordAt s i ++ s.drop (i + (wordAt s i).length) := by
      have e : s.drop i = wordAt s i ++ (s.drop i).dropWhile lowZ := (List.takeWhile_append_dropWhile ..).symm
      rw [drop_of e]
      exact e
    split at h'
    · rename_i z
      cases h'
      have zz : tl (S ((s.drop i).take 1)) = [95] ∨ tl (S ((s.drop i).take 1)) = [35] := by rw [tS]; exact z
      refine ⟨⟨_, [], rfl, leaf_node zz, fun e he => by cases he⟩, ?_⟩
      show s.drop i = tl (S ((s.drop i).take 1)) ++ s.drop (i + 1)
      rw [tS, ← List.drop_drop, List.take_append_drop]
    · split at h'
      · cases h'
      · rename_i z1 z2
        have z2 : 0 < (wordAt s i).length ∧ (wordAt s i).length < 9 := Classical.not_not.mp z2
        have lw : ∀ c ∈ tl (S (wordAt s i)), lowZ c = true := fun c hc => by
          have : ∀ l : List Nat, c ∈ l.takeWhile lowZ → lowZ c = true := fun l => by
            induction l with
            | nil => intro h; cases h
            | cons a l ih =>
              intro h
              rw [List.takeWhile_cons] at h
              split at h
              · rename_i ha
                rcases List.mem_cons.mp h with rfl | h
                · exact ha
                · exact ih h
              · cases h
          exact this _ hc
        have wl1 : 1 ≤ (tl (S (wordAt s i))).length := z2.1
        have wl2 : (tl (S (wordAt s i))).length ≤ 8 := Nat.le_of_lt_succ z2.2
        split at h'
        · cases h'
          refine ⟨⟨_, [], rfl, node_of wl1 wl2 lw (k := 0) (by decide), fun e he => by cases he⟩, ?_⟩
          show s.drop i = tl (S (wordAt s i)) ++ s.drop (i + (wordAt s i).length)
          rw [tS]
          exact wa
        · rename_i z3
          have z3 : (s.drop (i + (wordAt s i).length)).take 1 = [40] := Classical.not_not.mp z3
          obtain ⟨r, er⟩ := of_take1 z3
          obtain ⟨ts, n0, et, hts, hl, e4⟩ := args_sound (fun h => read_sound h) h'
          have e5 : s.drop (i + (wordAt s i).length + 1) = r := by rw [← List.drop_drop, er]; rfl
          rw [List.nil_append] at et hl
          refine ⟨⟨_, ts, et, node_of wl1 wl2 lw (by omega), hts⟩, ?_⟩
          have ec : codesW (n + 1) t = wordAt s i ++ (40 :: (joinL [44, 32] (ts.map (codesW n)) ++ [41])) := by
            rw [et]
            exact if_neg (by simpa using n0)
          rw [ec, wa, er, ← e5, e4]
          simp [List.append_assoc]
theorem lt_of_take {s : List Nat} {i c n : Nat} {r : List Nat} (h : (s.drop i).take (n + 1) = c :: r) : i < s.length := by
  rcases Nat.lt_or_ge i s.length with h1 | h1
  · exact h1
  · rw [List.drop_eq_nil_of_le h1, List.take_nil] at h
    cases h
theorem lt2_of_take {s : List Nat} {i : Nat} (h : (s.drop i).take 2 = [44, 32]) : i + 2 ≤ s.length := by
  obtain ⟨r, e⟩ := of_take2 h
  have := congrArg List.length e
  rw [List.length_drop, List.length_cons, List.length_cons] at this
  omega
theorem args_end {rd : List Nat → Nat → Option (PyData × Nat)} (ih : ∀ {s : List Nat} {i j : Nat} {t : PyData}, rd s i = some (t, j) → i ≤ j ∧ j ≤ s.length) {s w : List Nat} : ∀ {k i j : Nat} {acc : List PyData} {t : PyData}, argsW rd s w k i acc = some (t, j) → i ≤ j ∧ j ≤ s.length
  | 0, _, _, _, _, h => by cases h
  | k + 1, i, j, acc, t, h => by
    have h' : (match rd s i with | none => none | some (t, j) => if (s.drop j).take 1 = [41] then (if (acc ++ [t]).length < 4 then some (PyData.tuple [.str (S w), .tuple (acc ++ [t])], j + 1) else none) else if (s.drop j).take 2 ≠ [44, 32] then none else argsW rd s w k (j + 2) (acc ++ [t])) = some (t, j) := h
    cases g : rd s i with
    | none => rw [g] at h'; cases h'
    | some p =>
      obtain ⟨t1, j1⟩ := p
      rw [g] at h'
      obtain ⟨a1, a2⟩ := ih g
      have h2 : (if (s.drop j1).take 1 = [41] then (if (acc ++ [t1]).length < 4 then some (PyData.tuple [.str (S w), .tuple (acc ++ [t1])], j1 + 1) else none) else if (s.drop j1).take 2 ≠ [44, 32] then none else argsW rd s w k (j1 + 2) (acc ++ [t1])) = some (t, j) := h'
      split at h2
      · rename_i z
        have := lt_of_take (n := 0) z
        split at h2
        · cases h2
          omega
        · cases h2
      · split at h2
        · cases h2
        · have := args_end (fun h => ih h) h2
          omega
theorem read_end : ∀ {n : Nat} {s : List Nat} {i j : Nat} {t : PyData}, rdW n s i = some (t, j) → i ≤ j ∧ j ≤ s.length
  | 0, _, _, _, _, h => by cases h
  | n + 1, s, i, j, t, h => by
    have h' : (if (s.drop i).take 1 = [95] ∨ (s.drop i).take 1 = [35] then some (PyData.tuple [.str (S ((s.drop i).take 1)), .tuple []], i + 1)
      else if ¬ (0 < (wordAt s i).length ∧ (wordAt s i).length < 9) then none
      else if (s.drop (i + (wordAt s i).length)).take 1 ≠ [40] then some (.tuple [.str (S (wordAt s i)), .tuple []], i + (wordAt s i).length)
      else argsW (rdW n) s (wordAt s i) 4 (i + (wordAt s i).length + 1) []) = some (t, j) := h
    split at h'
    · rename_i z
      have : i < s.length := by rcases z with z | z <;> exact lt_of_take (n := 0) z
      cases h'
      omega
    · split at h'
      · cases h'
      · rename_i z1 z2
        have a : (wordAt s i).length ≤ (s.drop i).length := (List.takeWhile_prefix _).length_le
        rw [List.length_drop] at a
        have z2 : 0 < (wordAt s i).length ∧ (wordAt s i).length < 9 := Classical.not_not.mp z2
        split at h'
        · cases h'
          omega
        · have := args_end (fun h => read_end h) h'
          omega
end Fn

set_option Elab.async false
set_option maxRecDepth 100000
set_option maxHeartbeats 2000000
/-! The nodes that are told of a text that is cut into pieces. -/
namespace Fn
open PySem PySem.Spec PyProof.Rows L2
open TL (tl joinL spl)
open SX (S)
structure TSt where
  (sg : List (List Nat)) (ar pd : List Nat)
def upTop (P A : List Nat) : List Nat := match P.getLast? with
  | some p => A.modify p (· + 1)
  | none => A
def push1 (st : TSt) (w : List Nat) : TSt := ⟨st.sg ++ [w], upTop st.pd st.ar ++ [0], st.pd ++ [st.sg.length]⟩
def popN (n : Nat) (st : TSt) : TSt := ⟨st.sg, st.ar, st.pd.take (st.pd.length - n)⟩
def rstr (p : List Nat) : List Nat := (p.reverse.dropWhile (· == 41)).reverse
def stepP (st : TSt) (p : List Nat) : TSt := popN (1 + p.length - (rstr p).length) ((spl [40] 0 [] (rstr p)).foldl push1 st)
def toldF (s : List Nat) : TSt := (spl [44, 32] 0 [] s).foldl stepP ⟨[], [], []⟩
/-! ### sizes -/
theorem upTop_len (P A : List Nat) : (upTop P A).length = A.length := by
  unfold upTop
  split
  · rw [List.length_modify]
  · rfl
def TOk (st : TSt) : Prop := st.sg.length = st.ar.length ∧ (∀ p ∈ st.pd, p < st.sg.length) ∧ st.pd.length ≤ st.sg.length
theorem TOk.push {st : TSt} (h : TOk st) (w : List Nat) : TOk (push1 st w) := by
  refine ⟨?_, fun p hp => ?_, by show (st.pd ++ [st.sg.length]).length ≤ (st.sg ++ [w]).length; rw [List.length_append, List.length_append]; exact Nat.add_le_add_right h.2.2 1⟩
  · show (st.sg ++ [w]).length = (upTop st.pd st.ar ++ [0]).length
    rw [List.length_append, List.length_append, upTop_len, h.1]
    rfl
  · show p < (st.sg ++ [w]).length
    rw [List.length_append, List.length_singleton]
    rcases List.mem_append.mp (show p ∈ st.pd ++ [st.sg.length] from hp) with hp | hp
    · have := h.2.1 p hp
      omega
    · rw [List.mem_singleton.mp hp]
      omega
theorem TOk.pop {st : TSt} (h : TOk st) (n : Nat) : TOk (popN n st) := ⟨h.1, fun p hp => h.2.1 p (List.mem_of_mem_take hp), Nat.le_trans (List.length_take_le _ _) (Nat.le_trans (Nat.sub_le _ _) h.2.2) |> fun z => z⟩
theorem TOk.fold {ws : List (List Nat)} : ∀ {st : TSt}, TOk st → TOk (ws.foldl push1 st) := by
  induction ws with
  | nil => exact fun h => h
  | cons w ws ih => exact fun h => ih (h.push w)
/-! ### the pieces of a term's text -/
def pcsL (f : PyData → List (List Nat) → Nat → List (List Nat)) : List PyData → List (List Nat) → Nat → List (List Nat)
  | [], _, _ => []
  | [a], p, c => f a p c
  | a :: b :: r, p, c => f a p 0 ++ pcsL f (b :: r) [] c
def pcs : Nat → PyData → List (List Nat) → Nat → List (List Nat)
  | n + 1, .tuple [.str w, .tuple ds], p, c => if ds.isEmpty then [joinL [40] (p ++ [tl w]) ++ List.replicate c 41] else pcsL (pcs n) ds (p ++ [tl w]) (c + 1)
  | _, _, _, _ => []
def preT (p : List (List Nat)) : List Nat := p.flatMap (· ++ [40])
theorem preT_join : ∀ (p : List (List Nat)) (w : List Nat), joinL [40] (p ++ [w]) = preT p ++ w
  | [], w => rfl
  | a :: p, w => by
    show joinL [40] (a :: (p ++ [w])) = preT (a :: p) ++ w
    rw [joinL_cons (by simp), preT_join p w]
    unfold preT
    rw [List.flatMap_cons]
    simp [List.append_assoc]
theorem joinL_app {α : List Nat} : ∀ {xs ys : List (List Nat)}, xs ≠ [] → ys ≠ [] → joinL α (xs ++ ys) = joinL α xs ++ (α ++ joinL α ys)
  | [], _, h, _ => absurd rfl h
  | [a], ys, _, h => by
    show joinL α (a :: ys) = a ++ (α ++ joinL α ys)
    exact joinL_cons h
  | a :: b :: xs, ys, _, h => by
    have e1 : joinL α ((a :: b :: xs) ++ ys) = a ++ (α ++ joinL α ((b :: xs) ++ ys)) := joinL_cons (by simp)
    have e2 : joinL α (a :: b :: xs) = a ++ (α ++ joinL α (b :: xs)) := joinL_cons (by simp)
    rw [e1, e2, joinL_app (by simp) h]
    simp [List.append_assoc]
theorem pcsL_join {f : PyData → List (List Nat) → Nat → List (List Nat)} {g : PyData → List Nat} : ∀ {ds : List PyData}, (∀ e ∈ ds, ∀ p c, f e p c ≠ [] ∧ joinL [44, 32] (f e p c) = preT p ++ (g e ++ List.replicate c 41)) → ds ≠ [] →
    ∀ p c, pcsL f ds p c ≠ [] ∧ joinL [44, 32] (pcsL f ds p c) = preT p ++ (joinL [44, 32] (ds.map g) ++ List.replicate c 41)
  | [], _, h, _, _ => absurd rfl h
  | [a], h, _, p, c => h a List.mem_cons_self p c
  | a :: b :: ds, h, _, p, c => by
    obtain ⟨n1, e1⟩ := h a List.mem_cons_self p 0
    obtain ⟨n2, e2⟩ := pcsL_join (fun e he => h e (List.mem_cons_of_mem _ he)) (show b :: ds ≠ [] by simp) [] c
    refine ⟨fun z => n1 (List.append_eq_nil_iff.mp z).1, ?_⟩
    show joinL [44, 32] (f a p 0 ++ pcsL f (b :: ds) [] c) = _
    rw [joinL_app n1 n2, e1, e2]
    have ej : joinL [44, 32] ((a :: b :: ds).map g) = g a ++ ([44, 32] ++ joinL [44, 32] ((b :: ds).map g)) := joinL_cons (by simp)
    rw [ej]
    simp [List.append_assoc, preT]
theorem pcs_join : ∀ {n : Nat} {d : PyData}, IsW n d → ∀ p c, pcs n d p c ≠ [] ∧ joinL [44, 32] (pcs n d p c) = preT p ++ (codesW n d ++ List.replicate c 41)
  | 0, _, h, _, _ => h.elim
  | n + 1, _, ⟨w, ds, rfl, hw, hds⟩, p, c => by
    by_cases d0 : ds = []
    · subst d0
      refine ⟨List.cons_ne_nil _ _, ?_⟩
      show joinL [40] (p ++ [tl w]) ++ List.replicate c 41 = preT p ++ (tl w ++ List.replicate c 41)
      rw [preT_join, List.append_assoc]
    · have e1 : pcs (n + 1) (.tuple [.str w, .tuple ds]) p c = pcsL (pcs n) ds (p ++ [tl w]) (c + 1) := if_neg (by simpa using d0)
      have e2 : codesW (n + 1) (.tuple [.str w, .tuple ds]) = tl w ++ (40 :: (joinL [44, 32] (ds.map (codesW n)) ++ [41])) := if_neg (by simpa using d0)
      obtain ⟨a, b⟩ := pcsL_join (f := pcs n) (g := codesW n) (fun e he p c => pcs_join (hds e he) p c) d0 (p ++ [tl w]) (c + 1)
      rw [e1, e2]
      refine ⟨a, ?_⟩
      rw [b]
      unfold preT
      rw [List.flatMap_append, List.replicate_succ]
      simp [List.append_assoc]
/-! ### what the pieces do -/
/-- words without brackets and commas -/
def Bare (w : List Nat) : Prop := 40 ∉ w ∧ 41 ∉ w ∧ 44 ∉ w ∧ w ≠ []
theorem node_bare {x : Str} {k : Int} (h : isNodeD (.tuple [.str x, .int k]) = true) : Bare (tl x) := by
  rcases node_word h with ⟨e | e, _⟩ | ⟨a, _, l, _⟩
  · rw [e]; exact ⟨by decide, by decide, by decide, by decide⟩
  · rw [e]; exact ⟨by decide, by decide, by decide, by decide⟩
  · refine ⟨fun z => ?_, fun z => ?_, fun z => ?_, fun z => by rw [z] at a; simp at a⟩ <;> have := lowZ_iff.mp (l _ z) <;> omega
theorem preT_mem {p : List (List Nat)} (hp : ∀ w ∈ p, Bare w) : 41 ∉ preT p ∧ 44 ∉ preT p := by
  refine ⟨fun z => ?_, fun z => ?_⟩
  all_goals
    obtain ⟨w, hw, hz⟩ := List.mem_flatMap.mp z
    rcases List.mem_append.mp hz with hz | hz
    · first | exact (hp w hw).2.1 hz | exact (hp w hw).2.2.1 hz
    · simp at hz
theorem rstr_rep {x : List Nat} (h : 41 ∉ x) (c : Nat) : rstr (x ++ List.replicate c 41) = x := by
  unfold rstr
  rw [List.reverse_append, List.reverse_replicate]
  have d : ∀ (c : Nat) (y : List Nat), 41 ∉ y → ((List.replicate c 41 ++ y).dropWhile (· == 41)) = y := fun c y hy => by
    induction c with
    | zero =>
      rw [List.replicate_zero, List.nil_append]
      cases y with
      | nil => rfl
      | cons a y =>
        have : a ≠ 41 := fun z => hy (by rw [z]; exact List.mem_cons_self)
        rw [List.dropWhile_cons, if_neg (by simpa using this)]
    | succ c ih =>
      rw [List.replicate_succ, List.cons_append, List.dropWhile_cons, if_pos (by simp)]
      exact ih
  rw [d c x.reverse (by simpa using h), List.reverse_reverse]
theorem pcsL_free {f : PyData → List (List Nat) → Nat → List (List Nat)} : ∀ {ds : List PyData}, (∀ e ∈ ds, ∀ p c, (∀ w ∈ p, Bare w) → ∀ q ∈ f e p c, 44 ∉ q) → ∀ p c, (∀ w ∈ p, Bare w) → ∀ q ∈ pcsL f ds p c, 44 ∉ q
  | [], _, _, _, _, _, h => by cases h
  | [a], h, p, c, hp, q, hq => h a List.mem_cons_self p c hp q hq
  | a :: b :: ds, h, p, c, hp, q, hq => by
    rcases List.mem_append.mp (show q ∈ f a p 0 ++ pcsL f (b :: ds) [] c from hq) with hq | hq
    · exact h a List.mem_cons_self p 0 hp q hq
    · exact pcsL_free (fun e he => h e (List.mem_cons_of_mem _ he)) [] c (fun w hw => by cases hw) q hq
theorem pcs_free : ∀ {n : Nat} {d : PyData}, IsW n d → ∀ p c, (∀ w ∈ p, Bare w) → ∀ q ∈ pcs n d p c, 44 ∉ q
  | 0, _, h, _, _, _, _, _ => h.elim
  | n + 1, _, ⟨w, ds, rfl, hw, hds⟩, p, c, hp, q, hq => by
    have bw := node_bare hw
    have hp2 : ∀ x ∈ p ++ [tl w], Bare x := fun x hx => by
      rcases List.mem_append.mp hx with hx | hx
      · exact hp x hx
      · rw [List.mem_singleton.mp hx]
        exact bw
    by_cases d0 : ds = []
    · subst d0
      have e := List.mem_singleton.mp (show q ∈ [joinL [40] (p ++ [tl w]) ++ List.replicate c 41] from hq)
      rw [e, preT_join]
      intro z
      rcases List.mem_append.mp z with z | z
      · rcases List.mem_append.mp z with z | z
        · exact (preT_mem hp).2 z
        · exact bw.2.2.1 z
      · have := List.eq_of_mem_replicate z
        omega
    · have e1 : pcs (n + 1) (.tuple [.str w, .tuple ds]) p c = pcsL (pcs n) ds (p ++ [tl w]) (c + 1) := if_neg (by simpa using d0)
      rw [e1] at hq
      exact pcsL_free (fun e he p c => pcs_free (hds e he) p c) _ _ hp2 q hq
/-- a node's word and number, as codes -/
def ndC : PyData → List Nat × Nat
  | .tuple [.str w, .int k] => (tl w, k.toNat)
  | _ => ([], 0)
def addT (st : TSt) (N : List (List Nat × Nat)) : TSt := ⟨st.sg ++ N.map Prod.fst, upTop st.pd st.ar ++ N.map Prod.snd, st.pd⟩
theorem pop_pop (st : TSt) (m n : Nat) : popN m (popN n st) = popN (n + m) st := by
  show TSt.mk st.sg st.ar ((st.pd.take (st.pd.length - n)).take ((st.pd.take (st.pd.length - n)).length - m)) = TSt.mk st.sg st.ar (st.pd.take (st.pd.length - (n + m)))
  rw [List.take_take, List.length_take]
  congr 2
  omega
theorem pop_zero (st : TSt) : popN 0 st = st := by
  show TSt.mk st.sg st.ar (st.pd.take (st.pd.length - 0)) = st
  rw [Nat.sub_zero, List.take_length]
theorem pop_push (st : TSt) (w : List Nat) (c : Nat) : popN (1 + c) (push1 st w) = popN c (addT st [(w, 0)]) := by
  show TSt.mk (st.sg ++ [w]) (upTop st.pd st.ar ++ [0]) ((st.pd ++ [st.sg.length]).take ((st.pd ++ [st.sg.length]).length - (1 + c))) = TSt.mk (st.sg ++ [w]) (upTop st.pd st.ar ++ [0]) (st.pd.take (st.pd.length - c))
  congr 1
  rw [List.length_append, List.length_singleton, show st.pd.length + 1 - (1 + c) = st.pd.length - c by omega, List.take_append_of_le_length (by omega)]
theorem TOk.add {st : TSt} (h : TOk st) (N : List (List Nat × Nat)) : TOk (addT st N) := by
  refine ⟨?_, fun p hp => ?_, by show st.pd.length ≤ (st.sg ++ N.map Prod.fst).length; rw [List.length_append]; exact Nat.le_trans h.2.2 (Nat.le_add_right _ _)⟩
  · show (st.sg ++ N.map Prod.fst).length = (upTop st.pd st.ar ++ N.map Prod.snd).length
    rw [List.length_append, List.length_append, upTop_len, List.length_map, List.length_map, h.1]
  · show p < (st.sg ++ N.map Prod.fst).length
    have := h.2.1 p hp
    rw [List.length_append]
    omega
theorem modify_mid : ∀ (A : List Nat) (k : Nat) (B : List Nat), (A ++ k :: B).modify A.length (· + 1) = A ++ (k + 1) :: B
  | [], k, B => rfl
  | a :: A, k, B => by
    show a :: (A ++ k :: B).modify A.length (· + 1) = _
    rw [modify_mid A k B]
    rfl
/-- the trees of a list, added below a word that was pushed -/
theorem add_all {g : PyData → List (List Nat × Nat)} {A : List Nat} {P : List Nat} : ∀ (ds : List PyData) (sg : List (List Nat)) (k : Nat) (B : List Nat), A.length < sg.length →
    ds.foldl (fun st d => addT st (g d)) ⟨sg, A ++ k :: B, P ++ [A.length]⟩ = ⟨sg ++ (ds.flatMap g).map Prod.fst, A ++ (k + ds.length) :: (B ++ (ds.flatMap g).map Prod.snd), P ++ [A.length]⟩
  | [], sg, k, B, _ => by simp
  | d :: ds, sg, k, B, h => by
    have e : addT ⟨sg, A ++ k :: B, P ++ [A.length]⟩ (g d) = ⟨sg ++ (g d).map Prod.fst, A ++ (k + 1) :: (B ++ (g d).map Prod.snd), P ++ [A.length]⟩ := by
      show TSt.mk _ (upTop (P ++ [A.length]) (A ++ k :: B) ++ (g d).map Prod.snd) _ = _
      have u : upTop (P ++ [A.length]) (A ++ k :: B) = A ++ (k + 1) :: B := by
        unfold upTop
        rw [List.getLast?_append, List.getLast?_singleton]
        show (A ++ k :: B).modify A.length (· + 1) = _
        exact modify_mid A k B
      rw [u]
      simp [List.append_assoc]
    rw [List.foldl_cons, e, add_all ds _ _ _ (by rw [List.length_append]; omega)]
    simp only [List.flatMap_cons, List.map_append, List.append_assoc, List.length_cons]
    congr 3
    omega
theorem pcsL_fold {f : PyData → List (List Nat) → Nat → List (List Nat)} {g : PyData → List (List Nat × Nat)} : ∀ {ds : List PyData}, (∀ e ∈ ds, ∀ p c st, (∀ w ∈ p, Bare w) → TOk st → (f e p c).foldl stepP st = popN c (addT (p.foldl push1 st) (g e))) → ds ≠ [] →
    ∀ p c st, (∀ w ∈ p, Bare w) → TOk st → (pcsL f ds p c).foldl stepP st = popN c (ds.foldl (fun st d => addT st (g d)) (p.foldl push1 st))
  | [], _, h, _, _, _, _, _ => absurd rfl h
  | [a], h, _, p, c, st, hp, hs => h a List.mem_cons_self p c st hp hs
  | a :: b :: ds, h, _, p, c, st, hp, hs => by
    show (f a p 0 ++ pcsL f (b :: ds) [] c).foldl stepP st = _
    rw [List.foldl_append, h a List.mem_cons_self p 0 st hp hs, pop_zero]
    rw [pcsL_fold (fun e he => h e (List.mem_cons_of_mem _ he)) (show b :: ds ≠ [] by simp) [] c _ (fun w hw => by cases hw) (hs.fold.add _)]
    rfl
theorem pcs_fold : ∀ {n : Nat} {d : PyData}, IsW n d → ∀ p c st, (∀ w ∈ p, Bare w) → TOk st → (pcs n d p c).foldl stepP st = popN c (addT (p.foldl push1 st) ((nodesW n d).map ndC))
  | 0, _, h, _, _, _, _, _ => h.elim
  | n + 1, _, ⟨w, ds, rfl, hw, hds⟩, p, c, st, hp, hs => by
    have bw := node_bare hw
    have hp2 : ∀ x ∈ p ++ [tl w], Bare x := fun x hx => by
      rcases List.mem_append.mp hx with hx | hx
      · exact hp x hx
      · rw [List.mem_singleton.mp hx]
        exact bw
    by_cases d0 : ds = []
    · subst d0
      show stepP st (joinL [40] (p ++ [tl w]) ++ List.replicate c 41) = popN c (addT (p.foldl push1 st) [(tl w, 0)])
      unfold stepP
      have nf : 41 ∉ joinL [40] (p ++ [tl w]) := by
        rw [preT_join]
        intro z
        rcases List.mem_append.mp z with z | z
        · exact (preT_mem hp).1 z
        · exact bw.2.1 z
      rw [rstr_rep nf, TL.spl_join (by simp) (fun q hq => (hp2 q hq).1), List.foldl_append, List.length_append, List.length_replicate]
      rw [show 1 + ((joinL [40] (p ++ [tl w])).length + c) - (joinL [40] (p ++ [tl w])).length = 1 + c by omega]
      exact pop_push _ _ _
    · have e1 : pcs (n + 1) (.tuple [.str w, .tuple ds]) p c = pcsL (pcs n) ds (p ++ [tl w]) (c + 1) := if_neg (by simpa using d0)
      rw [e1, pcsL_fold (g := fun d => (nodesW n d).map ndC) (fun e he p c st hp hs => pcs_fold (hds e he) p c st hp hs) d0 _ _ _ hp2 hs, List.foldl_append]
      have hst : TOk (p.foldl push1 st) := hs.fold
      generalize p.foldl push1 st = q at hst
      have eP : [tl w].foldl push1 q = ⟨q.sg ++ [tl w], upTop q.pd q.ar ++ 0 :: [], q.pd ++ [(upTop q.pd q.ar).length]⟩ := by
        show push1 q (tl w) = _
        unfold push1
        rw [upTop_len, hst.1]
      rw [eP, add_all ds _ _ _ (by rw [upTop_len, List.length_append, List.length_singleton, hst.1]; omega)]
      have eN : (nodesW (n + 1) (.tuple [.str w, .tuple ds])).map ndC = (tl w, ds.length) :: ds.flatMap fun d => (nodesW n d).map ndC := by
        show (_ :: (ds.flatMap (nodesW n)).map ndC) = _
        rw [List.map_flatMap]
        rfl
      rw [eN]
      show TSt.mk _ _ ((q.pd ++ [(upTop q.pd q.ar).length]).take ((q.pd ++ [(upTop q.pd q.ar).length]).length - (c + 1))) = TSt.mk _ _ (q.pd.take (q.pd.length - c))
      rw [List.length_append, List.length_singleton, show q.pd.length + 1 - (c + 1) = q.pd.length - c by omega, List.take_append_of_le_length (by omega)]
      simp only [List.append_assoc, List.cons_append, List.nil_append, Nat.zero_add]
      rfl
theorem told_codes {n : Nat} {d : PyData} (h : IsW n d) : toldF (codesW n d) = ⟨((nodesW n d).map ndC).map Prod.fst, ((nodesW n d).map ndC).map Prod.snd, []⟩ := by
  obtain ⟨n0, ej⟩ := pcs_join h [] 0
  have e : codesW n d = joinL [44, 32] (pcs n d [] 0) := by
    rw [ej]
    simp [preT]
  unfold toldF
  rw [e, TL.spl_join n0 (pcs_free h [] 0 fun w hw => by cases hw), pcs_fold h [] 0 _ (fun w hw => by cases hw) ⟨rfl, (fun p hp => by cases hp), Nat.le_refl _⟩, pop_zero]
  show TSt.mk ([] ++ _) (upTop [] [] ++ _) [] = _
  rfl
/-! ### any row of nodes that makes one tree is that of a term -/
def oneN : Nat → List Nat → Bool
  | m, [] => m == 0
  | 0, _ :: _ => false
  | m + 1, k :: r => oneN (m + k) r
theorem forest : ∀ (ps : List PyData) (m : Nat), (∀ e ∈ ps, isNodeD e = true) → oneN m (ps.map fun e => (ndC e).2) = true → ∃ ts : List PyData, ts.length = m ∧ (∀ t ∈ ts, IsW ps.length t) ∧ ts.flatMap (nodesW ps.length) = ps
  | [], m, _, h => by
    have : m = 0 := by simpa [oneN] using h
    subst this
    exact ⟨[], rfl, (fun t ht => by cases ht), rfl⟩
  | e :: ps, 0, _, h => by cases h
  | e :: ps, m + 1, hn, h => by
    have ne := hn e List.mem_cons_self
    obtain ⟨x, k, rfl, k0, k3⟩ := node_shape ne
    obtain ⟨ts, hl, hw, hf⟩ := forest ps (m + k.toNat) (fun e he => hn e (List.mem_cons_of_mem _ he)) h
    have lk : (ts.take k.toNat).length = k.toNat := by rw [List.length_take]; omega
    have ek : ((ts.take k.toNat).length : Int) = k := by rw [lk]; omega
    have up : ∀ {l : List PyData}, (∀ t ∈ l, IsW ps.length t) → l.flatMap (nodesW (ps.length + 1)) = l.flatMap (nodesW ps.length) := fun hl => congrF fun t ht => (isW_up1 (hl t ht)).2.1
    have hd : ∀ t ∈ ts.drop k.toNat, IsW ps.length t := fun t ht => hw t (List.mem_of_mem_drop ht)
    refine ⟨.tuple [.str x, .tuple (ts.take k.toNat)] :: ts.drop k.toNat, by rw [List.length_cons, List.length_drop]; omega, fun t ht => ?_, ?_⟩
    · rcases List.mem_cons.mp ht with rfl | ht
      · exact ⟨x, _, rfl, by rw [ek]; exact ne, fun t ht => hw t (List.mem_of_mem_take ht)⟩
      · exact (isW_up1 (hd t ht)).1
    · rw [List.flatMap_cons]
      show (PyData.tuple [.str x, .int (ts.take k.toNat).length] :: (ts.take k.toNat).flatMap (nodesW ps.length)) ++ (ts.drop k.toNat).flatMap (nodesW (ps.length + 1)) = _
      rw [up hd, ek, List.cons_append, ← List.flatMap_append, List.take_append_drop, hf]
/-! ### the text of a row of nodes -/
theorem textsW_row {n : Nat} {pd : PyData → Str × Int} (hpd : ∀ x k, pd (.tuple [.str x, .int k]) = (x, k)) (ih : ∀ {d : PyData}, IsW n d → ∀ (l : List (Str × Int)), textsF ((nodesW n d).map pd ++ l) = S (codesW n d) :: textsF l) :
    ∀ {ds : List PyData}, (∀ e ∈ ds, IsW n e) → ∀ (l : List (Str × Int)), textsF ((ds.flatMap (nodesW n)).map pd ++ l) = ds.map (fun d => S (codesW n d)) ++ textsF l
  | [], _, l => rfl
  | d :: ds, h, l => by
    rw [List.flatMap_cons, List.map_append, List.append_assoc, ih (h d List.mem_cons_self), textsW_row hpd ih (fun e he => h e (List.mem_cons_of_mem _ he))]
    rfl
theorem textsW_app {pd : PyData → Str × Int} (hpd : ∀ x k, pd (.tuple [.str x, .int k]) = (x, k)) : ∀ {n : Nat} {d : PyData}, IsW n d → ∀ (l : List (Str × Int)), textsF ((nodesW n d).map pd ++ l) = S (codesW n d) :: textsF l
  | 0, _, h, _ => h.elim
  | n + 1, _, ⟨w, ds, rfl, hw, hds⟩, l => by
    have r := textsW_row hpd (fun h => textsW_app hpd h) hds l
    show textsF (pd (.tuple [.str w, .int (ds.length : Nat)]) :: ((ds.flatMap (nodesW n)).map pd ++ l)) = _
    rw [hpd]
    show (if decide (((ds.length : Nat) : Int) > 0) = true then w ++ "(" ++ Txt.join ", " ((textsF ((ds.flatMap (nodesW n)).map pd ++ l)).take (Int.toNat (ds.length : Nat))) ++ ")" else w) :: (textsF ((ds.flatMap (nodesW n)).map pd ++ l)).drop (Int.toNat (ds.length : Nat)) = _
    rw [r, Int.toNat_natCast, List.take_left' (by rw [List.length_map]), List.drop_left' (by rw [List.length_map])]
    congr 1
    by_cases d0 : ds = []
    · subst d0
      rw [if_neg (by decide)]
      exact (SX.S_tl w).symm
    · have l1 : 0 < ds.length := List.length_pos_iff.mpr d0
      rw [if_pos (decide_eq_true (by omega))]
      have e2 : codesW (n + 1) (.tuple [.str w, .tuple ds]) = tl w ++ (40 :: (joinL [44, 32] (ds.map (codesW n)) ++ [41])) := if_neg (by simpa using d0)
      refine TL.ext_tl ?_
      rw [e2, TL.join_eq]
      show tl (w ++ "(" ++ Str.join ", " _ ++ ")") = _
      rw [TL.tl_append, TL.tl_append, TL.tl_append, TL.tl_join, List.map_map, show tl ("(" : Str) = [40] by decide +kernel, show tl (")" : Str) = [41] by decide +kernel, show tl (", " : Str) = [44, 32] by decide +kernel]
      show tl w ++ [40] ++ joinL [44, 32] (ds.map (codesW n)) ++ [41] = _
      simp [List.append_assoc]
theorem flat_join {S0 : List Nat} {f : PyData → List PyData} {g : PyData → List Nat} : ∀ {ds : List PyData}, (∀ e ∈ ds, (f e).length ≤ (g e).length) → (ds.flatMap f).length ≤ (joinL S0 (ds.map g)).length
  | [], _ => Nat.zero_le _
  | [a], h => by
    have := h a List.mem_cons_self
    rw [List.flatMap_cons, List.flatMap_nil, List.append_nil]
    exact this
  | a :: b :: ds, h => by
    have ej : joinL S0 ((a :: b :: ds).map g) = g a ++ (S0 ++ joinL S0 ((b :: ds).map g)) := joinL_cons (by simp)
    have r := flat_join (S0 := S0) (f := f) (g := g) (ds := b :: ds) fun e he => h e (List.mem_cons_of_mem _ he)
    have h1 := h a List.mem_cons_self
    rw [ej, List.flatMap_cons, List.length_append, List.length_append, List.length_append]
    omega
theorem nodes_le : ∀ {n : Nat} {d : PyData}, IsW n d → (nodesW n d).length ≤ (codesW n d).length
  | 0, _, h => h.elim
  | n + 1, _, ⟨w, ds, rfl, hw, hds⟩ => by
    have w1 : 1 ≤ (tl w).length := by
      rcases node_word hw with ⟨e | e, _⟩ | ⟨a, _⟩
      · rw [e]; exact Nat.le_refl _
      · rw [e]; exact Nat.le_refl _
      · exact a
    by_cases d0 : ds = []
    · subst d0
      exact w1
    · have e2 : codesW (n + 1) (.tuple [.str w, .tuple ds]) = tl w ++ (40 :: (joinL [44, 32] (ds.map (codesW n)) ++ [41])) := if_neg (by simpa using d0)
      have r := flat_join (S0 := [44, 32]) (f := nodesW n) (g := codesW n) (ds := ds) fun e he => nodes_le (hds e he)
      rw [e2]
      show (ds.flatMap (nodesW n)).length + 1 ≤ _
      rw [List.length_append, List.length_cons, List.length_append]
      omega
/-! ### the last number of a word -/
def lastV : List (Str × Int) → Str → Option Int
  | [], _ => none
  | q :: qs, w => match lastV qs w with
    | some k => some k
    | none => if q.1 = w then some q.2 else none
theorem last_mem : ∀ {qs : List (Str × Int)} {w : Str} {k : Int}, lastV qs w = some k → (w, k) ∈ qs
  | [], _, _, h => by cases h
  | q :: qs, w, k, h => by
    have h' : (match lastV qs w with | some k => some k | none => if q.1 = w then some q.2 else none) = some k := h
    cases g : lastV qs w with
    | some k' =>
      rw [g] at h'
      cases h'
      exact List.mem_cons_of_mem _ (last_mem g)
    | none =>
      rw [g] at h'
      have h2 : (if q.1 = w then some q.2 else none) = some k := h'
      split at h2
      · rename_i e
        cases h2
        rw [← e]
        exact List.mem_cons_self
      · cases h2
theorem last_some : ∀ {qs : List (Str × Int)} {q : Str × Int}, q ∈ qs → ∃ k, lastV qs q.1 = some k
  | a :: qs, q, h => by
    show ∃ k, (match lastV qs q.1 with | some k => some k | none => if a.1 = q.1 then some a.2 else none) = some k
    cases g : lastV qs q.1 with
    | some k => exact ⟨k, rfl⟩
    | none =>
      rcases List.mem_cons.mp h with rfl | h
      · exact ⟨q.2, if_pos rfl⟩
      · obtain ⟨k, e⟩ := last_some h
        rw [e] at g
        cases g
theorem one_last {ps : List (Str × Int)} : (∀ p ∈ ps, lastV ps p.1 = some p.2) ↔ OneEach ps := by
  constructor
  · intro h p hp q hq e
    have a := h p hp
    rw [e, h q hq] at a
    exact (Option.some.inj a).symm
  · intro h p hp
    obtain ⟨k, e⟩ := last_some hp
    have z : k = p.2 := h _ (last_mem e) p hp rfl
    rw [e, z]
theorem merge_val : ∀ (qs : List (Str × Int)) (acc : List (Key × V)) (w : Str), valV (mergeK acc (qs.map kvOf)) (.inr w) = match lastV qs w with
    | some k => some (.int k)
    | none => valV acc (.inr w)
  | [], acc, w => rfl
  | q :: qs, acc, w => by
    show valV (mergeK (putK acc (kvOf q).1 (kvOf q).2) (qs.map kvOf)) (.inr w) = _
    rw [merge_val qs]
    show (match lastV qs w with | some k => some (V.int k) | none => valV (putK acc (kvOf q).1 (kvOf q).2) (.inr w)) = (match (match lastV qs w with | some k => some k | none => if q.1 = w then some q.2 else none) with | some k => some (V.int k) | none => valV acc (.inr w))
    cases g : lastV qs w with
    | some k => rfl
    | none =>
      rw [valV_put]
      show (if (Sum.inr w : Key) = Sum.inr q.1 then some (V.int q.2) else valV acc (.inr w)) = (match (if q.1 = w then some q.2 else none) with | some k => some (V.int k) | none => valV acc (.inr w))
      by_cases e : q.1 = w
      · rw [if_pos e, if_pos (by rw [e])]
      · rw [if_neg e, if_neg (fun z => e (Sum.inr.inj z).symm)]
end Fn

set_option Elab.async false
set_option linter.all false
set_option maxRecDepth 100000
set_option maxHeartbeats 4000000
/-! tuple(zip(a, b)) of two lists of the same length: a new tuple of new pairs. -/
namespace Fn
open PySem PySem.Spec PyProof.Rows L2
theorem zip_nolen : typeLookup (.type "zip") "__len__" = pure none := by rw [typeLookup_type, builtinLookup_eq_fast]; kernel_rfl
theorem zip_nohint : typeLookup (.type "zip") "__length_hint__" = pure none := by rw [typeLookup_type, builtinLookup_eq_fast]; kernel_rfl
section
variable {prog : Program} {w : World} {A : Around} {E : Value → Shared → Prop} {s : Shared}
/-- the zip z over two lists, i items drawn, which stand at as; S the list that holds them -/
structure ZSt (z TI TO i1 i2 l1 l2 S : Addr) (xs ys : Array Value) (i : Nat) (h : Heap) (as : List Addr) : Prop where
  now : (as = [] ∧ IsZip h z TI TO .none) ∨ ∃ T f oT, IsZipHeld h z TI TO T f ∧ h.get? T = some oT ∧ T ≠ z ∧ T ≠ i1 ∧ T ≠ i2 ∧ T ≠ S
  hTI : IsPair h TI (.ref i1) (.ref i2)
  hTO : ∃ a b, IsPair h TO a b
  h1 : h.IsListIter i1 l1 i
  h2 : h.IsListIter i2 l2 i
  hl1 : h.IsList l1 xs
  hl2 : h.IsList l2 ys
  len : as.length = i
  nd : as.Nodup
  pairs : ∀ (j : Nat) (a : Addr), as[j]? = some a → a ≠ z ∧ a ≠ TO ∧ a ≠ i1 ∧ a ≠ i2 ∧ a ≠ S ∧ ∃ x y, xs[j]? = some x ∧ ys[j]? = some y ∧ IsPair h a x y
variable {z TI TO i1 i2 l1 l2 S : Addr} {xs ys : Array Value}
/-- how S stands apart -/
structure SApart (z TI TO i1 i2 l1 l2 S : Addr) : Prop where
  z : S ≠ z
  TI : S ≠ TI
  TO : S ≠ TO
  i1 : S ≠ i1
  i2 : S ≠ i2
  l1 : S ≠ l1
  l2 : S ≠ l2
theorem ZSt.keep {i : Nat} {h h' : Heap} {as : List Addr} (B : SApart z TI TO i1 i2 l1 l2 S) (Z : ZSt z TI TO i1 i2 l1 l2 S xs ys i h as) (k : ∀ b o, b ≠ S → h.get? b = some o → h'.get? b = some o) : ZSt z TI TO i1 i2 l1 l2 S xs ys i h' as where
  now := by
    rcases Z.now with ⟨e, q⟩ | ⟨T, f, oT, q, t, a, b, c, d⟩
    · exact .inl ⟨e, k _ _ B.z.symm q⟩
    · exact .inr ⟨T, f, oT, k _ _ B.z.symm q, k _ _ d t, a, b, c, d⟩
  hTI := k _ _ B.TI.symm Z.hTI
  hTO := Z.hTO.elim fun a ⟨b, q⟩ => ⟨a, b, k _ _ B.TO.symm q⟩
  h1 := Z.h1.at fun o q => k _ _ B.i1.symm q
  h2 := Z.h2.at fun o q => k _ _ B.i2.symm q
  hl1 := Z.hl1.at fun o q => k _ _ B.l1.symm q
  hl2 := Z.hl2.at fun o q => k _ _ B.l2.symm q
  len := Z.len
  nd := Z.nd
  pairs := fun j a hj => by
    obtain ⟨n1, n2, n3, n4, n5, x, y, e1, e2, p⟩ := Z.pairs j a hj
    exact ⟨n1, n2, n3, n4, n5, x, y, e1, e2, k _ _ n5 p⟩
theorem zip_step (D : ZipApart z TI TO i1 i2 l1 l2) (B : SApart z TI TO i1 i2 l1 l2 S) {i : Nat} {as : List Addr} {x y : Value} {Q : Option Value → Shared → Prop} (Z : ZSt z TI TO i1 i2 l1 l2 S xs ys i s.heap as) (hx : xs[i]? = some x) (hy : ys[i]? = some y) (hS : S < s.heap.objs.size)
    (hQ : ∀ h', ZSt z TI TO i1 i2 l1 l2 S xs ys (i + 1) h' (as ++ [s.heap.objs.size]) → (∀ b o, b ≠ z → b ≠ TO → b ≠ i1 → b ≠ i2 → s.heap.get? b = some o → h'.get? b = some o) → Q (some (.ref s.heap.objs.size)) { s with heap := h' }) :
    wpAny (model prog w) A (pyNext (.ref z)) Q E s := by
  have old : ∀ (j : Nat) (a : Addr), as[j]? = some a → a < s.heap.objs.size := fun j a hj => by
    obtain ⟨_, _, _, _, _, _, _, _, _, p⟩ := Z.pairs j a hj
    exact Heap.lt_size p
  have fin : ∀ h' : Heap, ((∃ T f oT, IsZipHeld h' z TI TO T f ∧ h'.get? T = some oT ∧ T ≠ z ∧ T ≠ i1 ∧ T ≠ i2 ∧ T ≠ S)) → (∃ a b, IsPair h' TO a b) → h'.IsListIter i1 l1 (i + 1) → h'.IsListIter i2 l2 (i + 1) → IsPair h' s.heap.objs.size x y →
      (∀ b o, b ≠ z → b ≠ TO → b ≠ i1 → b ≠ i2 → s.heap.get? b = some o → h'.get? b = some o) → ZSt z TI TO i1 i2 l1 l2 S xs ys (i + 1) h' (as ++ [s.heap.objs.size]) := fun h' hz ht a1 a2 p k => by
    have hzl : z < s.heap.objs.size := by
      rcases Z.now with ⟨_, q⟩ | ⟨T, f, oT, q, _⟩ <;> exact Heap.lt_size q
    obtain ⟨o1, q1, _⟩ := Z.h1
    obtain ⟨o2, q2, _⟩ := Z.h2
    obtain ⟨o3, q3, _⟩ := Z.hl1
    obtain ⟨o4, q4, _⟩ := Z.hl2
    refine ⟨.inr hz, k _ _ D.TIz D.TITO D.TIi1 D.TIi2 Z.hTI, ht, a1, a2, Z.hl1.at fun o q => k _ _ D.l1z D.l1TO D.l1i1 D.l1i2 q, Z.hl2.at fun o q => k _ _ D.l2z D.l2TO D.l2i1 D.l2i2 q, by rw [List.length_append, Z.len]; rfl, ?_, fun j a hj => ?_⟩
    · refine List.nodup_append.mpr ⟨Z.nd, List.nodup_cons.mpr ⟨List.not_mem_nil, .nil⟩, fun a ha b hb e => ?_⟩
      obtain ⟨j, hj⟩ := List.mem_iff_getElem?.mp ha
      rw [List.mem_singleton.mp hb] at e
      exact absurd (old j a hj) (by rw [e]; exact Nat.lt_irrefl _)
    · rcases Nat.lt_trichotomy j as.length with hl | hl | hl
      · rw [List.getElem?_append_left hl] at hj
        obtain ⟨n1, n2, n3, n4, n5, u, v, e1, e2, pp⟩ := Z.pairs j a hj
        exact ⟨n1, n2, n3, n4, n5, u, v, e1, e2, k _ _ n1 n2 n3 n4 pp⟩
      · subst hl
        have ea : s.heap.objs.size = a := by simpa using hj
        subst ea
        have nTO : s.heap.objs.size ≠ TO := by
          obtain ⟨_, _, q⟩ := Z.hTO
          exact Nat.ne_of_gt (Heap.lt_size q)
        refine ⟨Nat.ne_of_gt hzl, nTO, Nat.ne_of_gt (Heap.lt_size q1), Nat.ne_of_gt (Heap.lt_size q2), Nat.ne_of_gt hS, x, y, by rw [Z.len]; exact hx, by rw [Z.len]; exact hy, p⟩
      · rw [List.getElem?_eq_none (by rw [List.length_append, List.length_singleton]; omega)] at hj
        cases hj
  have hl1 := Z.hl1
  have hl2 := Z.hl2
  obtain ⟨a, b, hTO⟩ := Z.hTO
  have hzl : z < s.heap.objs.size ∧ i1 < s.heap.objs.size ∧ i2 < s.heap.objs.size := by
    obtain ⟨o1, q1, _⟩ := Z.h1
    obtain ⟨o2, q2, _⟩ := Z.h2
    refine ⟨?_, Heap.lt_size q1, Heap.lt_size q2⟩
    rcases Z.now with ⟨_, q⟩ | ⟨T, f, oT, q, _⟩ <;> exact Heap.lt_size q
  rcases Z.now with ⟨e, q⟩ | ⟨T, f, oT, q, hT, t1, t2, t3, t4⟩
  · refine wpAny_pyNext_zip_item D q Z.hTI hTO Z.h1 Z.h2 hl1 hl2 hx hy fun h' b1 b2 b3 b4 b5 b6 b7 => hQ h' (fin h' ⟨s.heap.objs.size, false, _, b1, b5, Nat.ne_of_gt hzl.1, Nat.ne_of_gt hzl.2.1, Nat.ne_of_gt hzl.2.2, Nat.ne_of_gt hS⟩ ⟨_, _, b2⟩ b3 b4 b5 b7) b7
  · refine wpAny_pyNext_zip_item_held D q hT Z.hTI Z.h1 Z.h2 hl1 hl2 hx hy fun h' b1 b3 b4 b5 b6 b7 => hQ h' (fin h' ⟨T, true, oT, b1, b7 _ _ t1 t2 t3 hT, t1, t2, t3, t4⟩ ⟨a, b, b7 _ _ D.TOz D.TOi1 D.TOi2 hTO⟩ b3 b4 b5 fun c o c1 c2 c3 c4 e => b7 c o c1 c3 c4 e) fun c o c1 c2 c3 c4 e => b7 c o c1 c3 c4 e
theorem zip_stop (hh : A.handled = none) (D : ZipApart z TI TO i1 i2 l1 l2) {i : Nat} {as : List Addr} {Q : Option Value → Shared → Prop} (Z : ZSt z TI TO i1 i2 l1 l2 S xs ys i s.heap as) (hend : xs[i]? = none ∨ ys[i]? = none)
    (hQ : ∀ h', (∀ b o, b ≠ z → b ≠ TO → b ≠ i1 → b ≠ i2 → s.heap.get? b = some o → h'.get? b = some o) → Q none { s with heap := h' }) :
    wpAny (model prog w) A (pyNext (.ref z)) Q E s := by
  obtain ⟨a, b, hTO⟩ := Z.hTO
  rcases Z.now with ⟨e, q⟩ | ⟨T, f, oT, q, hT, t1, t2, t3, t4⟩
  · exact wpAny_pyNext_zip_end hh D q Z.hTI hTO Z.h1 Z.h2 Z.hl1 Z.hl2 hend hQ
  · exact wpAny_pyNext_zip_end_held hh D q hT Z.hTI Z.h1 Z.h2 Z.hl1 Z.hl2 hend fun h' k => hQ h' fun c o c1 c2 c3 c4 e => k c o c1 c3 c4 e
/-- the list S is filled -/
theorem zip_fill {R : Result → Shared → Prop} (hh : A.handled = none) (D : ZipApart z TI TO i1 i2 l1 l2) (B : SApart z TI TO i1 i2 l1 l2 S) (he : xs.size = ys.size) (hn : xs.size ≤ sizeLine) (res : Value) {h₁ : Heap}
    (hR : ∀ (h' : Heap) (acc : Array Value) (c : Nat) (as : List Addr), (∀ b o, b ≠ S → b ≠ z → b ≠ TO → b ≠ i1 → b ≠ i2 → h₁.get? b = some o → h'.get? b = some o) → h'.get? S = some { cls := .type "list", dict := none, data := .seq acc c, slots := #[] } → acc.toList = as.map Value.ref → as.length = xs.size → as.Nodup →
      (∀ (j : Nat) (a : Addr), as[j]? = some a → h₁.objs.size ≤ a ∧ ∃ x y, xs[j]? = some x ∧ ys[j]? = some y ∧ IsPair h' a x y) → R (.ok (.ret res)) { s with heap := h' }) :
    ∀ (k i : Nat) (h : Heap) (c : Nat) (acc : Array Value) (as : List Addr), xs.size - i = k → i ≤ xs.size → ZSt z TI TO i1 i2 l1 l2 S xs ys i h as → (∀ b o, b ≠ S → b ≠ z → b ≠ TO → b ≠ i1 → b ≠ i2 → h₁.get? b = some o → h.get? b = some o) →
      h.get? S = some { cls := .type "list", dict := none, data := .seq acc c, slots := #[] } → acc.toList = as.map Value.ref → h₁.objs.size ≤ h.objs.size → (∀ a ∈ as, h₁.objs.size ≤ a) →
      codeAny (model prog w) A (.builtin "list.extend.loop" ⟨[.ref S, .ref z, res], []⟩) R { s with heap := h } := by
  intro k
  induction k with
  | zero =>
    intro i h c acc as hk hi Z kp hS hacc hz1 low
    refine codeAny_builtin PySem.F.entry_extend_loop ?_
    rw [Around.under_plainId PySem.F.plain_extend_loop _]
    show wpAny _ A.in1 (pyNext (.ref z) >>= _) _ _ _
    refine wpAny_bind (zip_stop (s := { s with heap := h }) (A := A.in1) hh D Z (.inl (Array.getElem?_eq_none (by omega))) fun h' k => ?_)
    refine wpAny_pure (hR h' acc c as (fun b o n0 n1 n2 n3 n4 e => k b o n1 n2 n3 n4 (kp b o n0 n1 n2 n3 n4 e)) (k S _ B.z B.TO B.i1 B.i2 hS) hacc (by rw [Z.len]; omega) Z.nd fun j a hj => ?_)
    obtain ⟨n1, n2, n3, n4, n5, x, y, e1, e2, p⟩ := Z.pairs j a hj
    exact ⟨low a (List.mem_of_getElem? hj), x, y, e1, e2, k a _ n1 n2 n3 n4 p⟩
  | succ k ih =>
    intro i h c acc as hk hi Z kp hS hacc hz1 low
    have hlt : i < xs.size := by omega
    have hsz : acc.size = i := by rw [← Array.length_toList, hacc, List.length_map, Z.len]
    refine codeAny_builtin PySem.F.entry_extend_loop ?_
    rw [Around.under_plainId PySem.F.plain_extend_loop _]
    show wpAny _ A.in1 (pyNext (.ref z) >>= _) _ _ _
    refine wpAny_bind (zip_step (s := { s with heap := h }) (A := A.in1) D B Z (Array.getElem?_eq_getElem hlt) (Array.getElem?_eq_getElem (by omega)) (Heap.lt_size hS) fun h' Z' k' => ?_)
    have hS' := k' S _ B.z B.TO B.i1 B.i2 hS
    show wpAny _ A.in1 (updateSeq S (·.push (.ref h.objs.size)) >>= _) _ _ _
    refine wpAny_bind ?_
    have up : ∀ b o, b ≠ S → h'.get? b = some o → (h'.update S (Obj.mapSeq (·.push (Value.ref h.objs.size)))).get? b = some o := fun b o hb e => (Heap.get?_update_other _ _ (Ne.symm hb)).trans e
    have hnew : h.objs.size < h'.objs.size := by
      obtain ⟨_, _, _, _, _, _, _, _, _, p⟩ := Z'.pairs as.length h.objs.size (by simp)
      exact Heap.lt_size p
    refine wpAny_updateSeq (s := { s with heap := h' }) hS' rfl (wpAny_pure ⟨plainId_quiet PySem.F.plain_extend_loop _, ih (i + 1) _ _ (acc.push (.ref h.objs.size)) (as ++ [h.objs.size]) (by omega) hlt (Z'.keep B up)
      (fun b o n0 n1 n2 n3 n4 e => up b o n0 (k' b o n1 n2 n3 n4 (kp b o n0 n1 n2 n3 n4 e))) (Heap.get?_update_self _ hS' rfl) ?_ ?_ ?_⟩) (by rw [hsz]; omega) (by show (acc.push _).size ≤ sizeLine + 1; rw [Array.size_push, hsz]; omega)
    · rw [Array.toList_push, hacc, List.map_append]
      rfl
    · show h₁.objs.size ≤ (h'.update S _).objs.size
      rw [(Heap.SameBut.update ..).1]
      omega
    · intro a ha
      rcases List.mem_append.mp ha with ha | ha
      · exact low a ha
      · rw [List.mem_singleton.mp ha]
        exact hz1
theorem zip_collect {R : List Value → Shared → Prop} (hh : A.handled = none) (D : ZipApart z TI TO i1 i2 l1 l2) (he : xs.size = ys.size) (hn : xs.size ≤ sizeLine)
    (hz : IsZip s.heap z TI TO .none) (hTI : IsPair s.heap TI (.ref i1) (.ref i2)) {a b : Value} (hTO : IsPair s.heap TO a b) (h1 : s.heap.IsListIter i1 l1 0) (h2 : s.heap.IsListIter i2 l2 0) (hl1 : s.heap.IsList l1 xs) (hl2 : s.heap.IsList l2 ys)
    (h : ∀ (h' : Heap) (as : List Addr), (∀ b o, b ≠ z → b ≠ TO → b ≠ i1 → b ≠ i2 → s.heap.get? b = some o → h'.get? b = some o) → as.length = xs.size → as.Nodup →
      (∀ (j : Nat) (a : Addr), as[j]? = some a → s.heap.objs.size ≤ a ∧ ∃ x y, xs[j]? = some x ∧ ys[j]? = some y ∧ IsPair h' a x y) → R (as.map Value.ref) { s with heap := h' }) :
    wpAny (model prog w) A (collect (.ref z)) R E s := by
  obtain ⟨o1, q1, _⟩ := id h1
  obtain ⟨o2, q2, _⟩ := id h2
  obtain ⟨o3, q3, _⟩ := id hl1
  obtain ⟨o4, q4, _⟩ := id hl2
  have B : SApart z TI TO i1 i2 l1 l2 s.heap.objs.size := ⟨Nat.ne_of_gt (Heap.lt_size hz), Nat.ne_of_gt (Heap.lt_size hTI), Nat.ne_of_gt (Heap.lt_size hTO), Nat.ne_of_gt (Heap.lt_size q1), Nat.ne_of_gt (Heap.lt_size q2), Nat.ne_of_gt (Heap.lt_size q3), Nat.ne_of_gt (Heap.lt_size q4)⟩
  unfold collect
  refine wpAny_bind (wpAny_runValue (codeAny_builtin PySem.F.entry_proto_collect ?_))
  rw [Around.under_plainId PySem.F.plain_proto_collect _]
  show wpAny _ A.in1 (newList [] >>= fun l => again (.builtin "list.__iadd__" ⟨[l, .ref z], []⟩)) _ _ s
  refine wpAny_bind (wpAny_newObj_type ?_)
  refine wpAny_pure ⟨plainId_quiet PySem.F.plain_list_iadd _, codeAny_builtin PySem.F.entry_list_iadd ?_⟩
  rw [Around.under_plainId PySem.F.plain_list_iadd _]
  have pu : ∀ b o, s.heap.get? b = some o → (s.heap.push { cls := .type "list", data := .seq ([] : List Value).toArray }).get? b = some o := fun b o e => Heap.get?_push_of_some _ e
  have hzP : IsZip (s.heap.push { cls := .type "list", data := .seq ([] : List Value).toArray }) z TI TO .none := pu _ _ hz
  have hT : ({ s with heap := s.heap.push { cls := .type "list", data := .seq ([] : List Value).toArray } } : Shared).TypeIs (.ref z) "zip" := ⟨_, hzP, rfl⟩
  show wpAny _ A.in1 (Builtin.List.listExtendWith (.ref s.heap.objs.size) (.ref z) (.ref s.heap.objs.size)) _ _ _
  unfold Builtin.List.listExtendWith
  refine wpAny_bind (wpAny_typeOf hT ?_)
  have e1 : Builtin.List.listSameRef (.ref s.heap.objs.size) (.ref z) = false := by simp [Builtin.List.listSameRef, B.z]
  have e2 : (Value.type "zip" == Value.type "list") = false := by decide
  have e3 : (Value.type "zip" == Value.type "tuple") = false := by decide
  simp only [e1, e2, e3, Bool.or_false, Bool.false_eq_true, if_false]
  refine wpAny_bind (wpAny_pyIter_zip (s := { s with heap := s.heap.push { cls := .type "list", data := .seq ([] : List Value).toArray } }) hzP ?_)
  refine wpAny_bind (wpAny_holding ?_)
  unfold Builtin.List.listLengthHint
  refine wpAny_bind (wpAny_specialOf hT zip_nolen ?_)
  show wpAny _ A.in1 (specialOf (Value.ref z) (Str.ofString "__length_hint__") >>= _) _ _ _
  refine wpAny_bind (wpAny_specialOf hT zip_nohint ?_)
  refine wpAny_pure ?_
  show wpAny _ A.in1 (rule "list.extend.makes-room" >>= fun _ => Builtin.List.listTouch (.ref s.heap.objs.size) >>= fun _ =>
    again (.builtin "list.extend.loop" ⟨[.ref s.heap.objs.size, .ref z, .ref s.heap.objs.size], []⟩)) _ _ _
  refine wpAny_bind (wpAny_rule ?_)
  have hS₁ : (s.heap.push { cls := .type "list", data := .seq ([] : List Value).toArray }).get? s.heap.objs.size = some { cls := .type "list", data := .seq ([] : List Value).toArray } := Heap.get?_push_size _ rfl
  refine wpAny_bind ?_
  show wpAny _ A.in1 (updateSeq s.heap.objs.size (·.push .none) >>= fun _ => updateSeq s.heap.objs.size (·.pop)) _ _ _
  refine wpAny_bind (wpAny_updateSeq hS₁ rfl ?_)
  have hS₂ := Heap.get?_update_self (Obj.mapSeq (·.push Value.none)) hS₁ rfl
  refine wpAny_updateSeq hS₂ rfl ?_
  have hS₃ := Heap.get?_update_self (Obj.mapSeq (·.pop)) hS₂ rfl
  have oth : ∀ b o, b ≠ s.heap.objs.size → s.heap.get? b = some o →
      (((s.heap.push { cls := .type "list", data := .seq ([] : List Value).toArray }).update s.heap.objs.size (Obj.mapSeq (·.push Value.none))).update s.heap.objs.size (Obj.mapSeq (·.pop))).get? b = some o :=
    fun b o hb e => (Heap.get?_update_other _ _ (Ne.symm hb)).trans ((Heap.get?_update_other _ _ (Ne.symm hb)).trans (pu b o e))
  have old : ∀ b o, s.heap.get? b = some o → b ≠ s.heap.objs.size := fun b o e => Nat.ne_of_lt (Heap.lt_size e)
  refine wpAny_pure ⟨plainId_quiet PySem.F.plain_extend_loop _, zip_fill (s := s) (A := A) (h₁ := s.heap) hh D B he hn _ (fun h' acc c as k hS' hacc hl nd pr => ?_) xs.size 0 _ _ #[] [] (Nat.sub_zero _) (Nat.zero_le _)
    ⟨.inl ⟨rfl, oth _ _ B.z.symm hz⟩, oth _ _ B.TI.symm hTI, ⟨_, _, oth _ _ B.TO.symm hTO⟩, h1.at fun o e => oth _ _ B.i1.symm e, h2.at fun o e => oth _ _ B.i2.symm e, hl1.at fun o e => oth _ _ B.l1.symm e, hl2.at fun o e => oth _ _ B.l2.symm e, rfl, .nil, fun j a e => by simp at e⟩
    (fun b o n0 _ _ _ _ e => oth b o n0 e) hS₃ rfl ?_ (fun a ha => by cases ha)⟩
  · show wpAny _ A (load s.heap.objs.size >>= _) _ _ _
    refine wpAny_bind (wpAny_load (s := { s with heap := h' }) hS' ?_)
    refine wpAny_pure ?_
    show R acc.toList _
    rw [hacc]
    exact h h' as (fun b o n1 n2 n3 n4 e => k b o (old b o e) n1 n2 n3 n4 e) hl nd pr
  · rw [(Heap.SameBut.update ..).1, (Heap.SameBut.update ..).1, Heap.size_push]
    exact Nat.le_succ _
theorem zip_code {Q₁ : Value → Shared → Prop} (hh : A.handled = none) (D : ZipApart z TI TO i1 i2 l1 l2) (he : xs.size = ys.size) (hn : xs.size ≤ sizeLine)
    (hz : IsZip s.heap z TI TO .none) (hTI : IsPair s.heap TI (.ref i1) (.ref i2)) {a b : Value} (hTO : IsPair s.heap TO a b) (h1 : s.heap.IsListIter i1 l1 0) (h2 : s.heap.IsListIter i2 l2 0) (hl1 : s.heap.IsList l1 xs) (hl2 : s.heap.IsList l2 ys)
    (h : ∀ (h' : Heap) (as : List Addr), (∀ b o, b ≠ z → b ≠ TO → b ≠ i1 → b ≠ i2 → s.heap.get? b = some o → h'.get? b = some o) → as.length = xs.size → as.Nodup →
      (∀ (j : Nat) (a : Addr), as[j]? = some a → s.heap.objs.size ≤ a ∧ ∃ x y, xs[j]? = some x ∧ ys[j]? = some y ∧ IsPair h' a x y) → Q₁ (.ref h'.objs.size) { s with heap := h'.push { cls := .type "tuple", data := .seq (as.map Value.ref).toArray } }) :
    codeAny (model prog w) A (.call (.builtin "tuple.__new__") ⟨[.type "tuple", .ref z], []⟩) (wants Q₁ E) s := by
  refine codeAny_of_tree ?_
  show wpAny _ A.in1 (do checkBuiltinCall "tuple.__new__" ⟨[.type "tuple", .ref z], []⟩; again (.builtin "tuple.__new__" ⟨[.type "tuple", .ref z], []⟩)) _ _ s
  refine wpAny_bind (wpAny_of_eq (F.newCall_tuple_1 _) (wpAny_pure ⟨plainId_quiet F.plain_tuple_new _, codeAny_builtin F.entry_tuple_new ?_⟩))
  rw [Around.under_plainId F.plain_tuple_new _]
  have hsub := sub_tuple_self
  have hinit := init_tuple_lookup
  have hmh := madeHere_tuple
  have hTy : s.TypeIs (.ref z) "zip" := ⟨_, hz, rfl⟩
  have hh1 : A.in1.handled = none := hh
  wp_walk using wpAny_typeOf hTy, zip_collect (A := A.in1) hh1 D he hn hz hTI hTO h1 h2 hl1 hl2
  intro h' as k hl nd pr
  show wpAny _ _ (Builtin.Tuple.tupleExact (as.map Value.ref).toArray >>= fun v => ret v) _ _ _
  unfold Builtin.Tuple.tupleExact
  refine wpAny_bind (wpAny_newObj_type ?_ (by show (as.map Value.ref).toArray.size ≤ sizeLine; rw [List.size_toArray, List.length_map, hl]; exact hn))
  exact wpAny_pure (h h' as k hl nd pr)
theorem call_tupZip {Q : Value → Shared → Prop} (hh : A.handled = none) (D : ZipApart z TI TO i1 i2 l1 l2) (he : xs.size = ys.size) (hn : xs.size ≤ sizeLine)
    (hz : IsZip s.heap z TI TO .none) (hTI : IsPair s.heap TI (.ref i1) (.ref i2)) {a b : Value} (hTO : IsPair s.heap TO a b) (h1 : s.heap.IsListIter i1 l1 0) (h2 : s.heap.IsListIter i2 l2 0) (hl1 : s.heap.IsList l1 xs) (hl2 : s.heap.IsList l2 ys)
    (h : ∀ (h' : Heap) (as : List Addr), (∀ b o, b ≠ z → b ≠ TO → b ≠ i1 → b ≠ i2 → s.heap.get? b = some o → h'.get? b = some o) → as.length = xs.size → as.Nodup →
      (∀ (j : Nat) (a : Addr), as[j]? = some a → s.heap.objs.size ≤ a ∧ ∃ x y, xs[j]? = some x ∧ ys[j]? = some y ∧ IsPair h' a x y) → Q (.ref h'.objs.size) { s with heap := h'.push { cls := .type "tuple", data := .seq (as.map Value.ref).toArray } }) :
    wpAny (model prog w) A (call (.type "tuple") [.ref z]) Q E s := by
  refine callType_codes (Q₁ := fun obj s₁ => s₁.TypeIs obj "tuple" ∧ Q obj s₁) F.called_tuple (F.typeCall_tuple_1 _) F.entry_object_init
    (zip_code (A := A.in1) hh D he hn hz hTI hTO h1 h2 hl1 hl2 fun h' as k hl nd pr => ⟨⟨_, Heap.get?_push_size _ rfl, rfl⟩, h h' as k hl nd pr⟩) fun obj s₁ h₁ => ?_
  exact ⟨h₁.1, F.args_object_init_2 obj _, object_init_meets F.called_tuple.init.lookup F.called_tuple.made (by decide) prog w A.in1 _ s₁ ⟨h₁.1, rfl, h₁.2⟩⟩
end
/-! ### several new objects at once -/
def putN (H : Hp) (ns : List (Addr × HO)) : Hp := fun b => match ns.lookup b with
  | some o => some o
  | none => H b
theorem lookup_mem {ns : List (Addr × HO)} {b : Addr} {o : HO} (h : ns.lookup b = some o) : (b, o) ∈ ns := by
  induction ns with
  | nil => cases h
  | cons q ns ih =>
    obtain ⟨c, u⟩ := q
    rw [List.lookup_cons] at h
    by_cases e : b = c
    · rw [show (b == c) = true from beq_iff_eq.mpr e] at h
      cases h
      rw [e]
      exact List.mem_cons_self
    · rw [show (b == c) = false from beq_eq_false_iff_ne.mpr e] at h
      exact List.mem_cons_of_mem _ (ih h)
theorem lookup_nodup {ns : List (Addr × HO)} (nd : (ns.map Prod.fst).Nodup) {b : Addr} {o : HO} (h : (b, o) ∈ ns) : ns.lookup b = some o := by
  induction ns with
  | nil => cases h
  | cons q ns ih =>
    obtain ⟨c, u⟩ := q
    have nd' := List.nodup_cons.mp nd
    rw [List.lookup_cons]
    rcases List.mem_cons.mp h with e | h
    · cases e
      rw [show (b == b) = true from beq_iff_eq.mpr rfl]
    · have e : b ≠ c := fun z => nd'.1 (by rw [← z]; exact List.mem_map.mpr ⟨_, h, rfl⟩)
      rw [show (b == c) = false from beq_eq_false_iff_ne.mpr e]
      exact ih nd'.2 h
theorem putN_at {H : Hp} {ns : List (Addr × HO)} (nd : (ns.map Prod.fst).Nodup) {b : Addr} {o : HO} (h : (b, o) ∈ ns) : putN H ns b = some o := by
  unfold putN
  rw [lookup_nodup nd h]
theorem putN_same {H : Hp} {ns : List (Addr × HO)} (fr : ∀ q ∈ ns, H q.1 = none) : Same H (putN H ns) := fun b o e => by
  unfold putN
  cases g : ns.lookup b with
  | none => exact e
  | some u =>
    rw [fr _ (lookup_mem g)] at e
    cases e
section
variable {X : Cx} {pins : List (Addr × Obj)} {σ : L2.St} {H : Hp} {s : Shared} {h' : Heap} {tk : Nat} {ns : List (Addr × HO)}
theorem laid_many (I : Inv X pins σ H s) (hk : ∀ b o, s.heap.get? b = some o → h'.get? b = some o) (low : ∀ q ∈ ns, s.heap.objs.size ≤ q.1) (new : ∀ q ∈ ns, ObjOk X.prog X.w (putN H ns) h' q.1 q.2) : Inv X pins σ (putN H ns) { s with heap := h', toks := tk } := by
  have fr : ∀ q ∈ ns, H q.1 = none := fun q hq => I.hok.fresh (low q hq)
  have kp := putN_same fr
  refine I.call' (ch := []) rfl ⟨fun b o q _ _ _ => hk b o q, fun b o q _ _ _ => ⟨o.slots, hk b o q⟩, fun b o q n _ => ?_, fun b o q _ => ⟨o, hk b o q⟩, fun b xs q => kp b _ q, fun b o u q => kp b _ q, fun b ps q => ⟨#[], by rw [kp b _ q]; simp⟩⟩ (fun b u q => ?_) I.bare fun b z => by simp at z
  · have nm : ns.lookup b = none := by
      cases g : ns.lookup b with
      | none => rfl
      | some u => exact absurd (Heap.lt_size q) (Nat.not_lt.mpr (low _ (lookup_mem g)))
    unfold putN
    rw [nm]
    exact n
  · cases g : ns.lookup b with
    | some v =>
      have e : putN H ns b = some v := by unfold putN; rw [g]
      rw [e] at q
      cases q
      exact new _ (lookup_mem g)
    | none =>
      have e : putN H ns b = H b := by unfold putN; rw [g]
      rw [e] at q
      exact (I.hok b u q).stay (fun d v _ y => hk d v y) (fun d y => kp d _ y) fun d xs y => kp d _ y
end
theorem zipNs {α : Type} (f : α → HO) : ∀ (as : List Addr) (qs : List α), as.length = qs.length → (List.zipWith (fun a q => (a, f q)) as qs).map Prod.fst = as
  | [], [], _ => rfl
  | a :: as, q :: qs, h => by
    show a :: _ = _
    rw [zipNs f as qs (Nat.succ.inj h)]
theorem zipNs_at {α : Type} {f : α → HO} {H' : Hp} : ∀ {as : List Addr} {qs : List α}, as.length = qs.length → (∀ a o, (a, o) ∈ List.zipWith (fun a q => (a, f q)) as qs → H' a = some o) → Paired (fun a q => H' a = some (f q)) as qs
  | [], [], _, _ => .nil
  | a :: as, q :: qs, h, k => .cons (k a _ List.mem_cons_self) (zipNs_at (Nat.succ.inj h) fun b o m => k b o (List.mem_cons_of_mem _ m))
/-- what tuple(zip(a, b)) wishes -/
def tTupZip (K : PySem.W.Frag) (ta : TA) : TE := fun σ H Q => ta σ H fun vs H1 => ∃ (a b : Addr) (xs ys : List V), vs = [.ref a, .ref b] ∧ SqL K H1 a xs ∧ SqL K H1 b ys ∧ xs.length = ys.length ∧
  ∀ (as : List Addr) (p : Addr) (H' : Hp), Same H1 H' → H1 p = none → H' p = some (.tup (as.map V.ref)) → Paired (fun t q => H' t = some (.tup [q.1, q.2])) as (xs.zip ys) → Q (.ref p) H'
theorem pe_tupZip {X : Cx} {e e2 : Expr} {ta : TA} {p p2 pos pos2 : Pos} (hc : X.calm = true) (hg : Gl X "tuple") (hm : X.mg "tuple" = none) (hg2 : Gl X "zip") (hm2 : X.mg "zip" = none) (ha : PA X [e, e2] ta)
    (hs : starEach [e, e2] X.env = (false, eval e X.env) :: starEach [e2] X.env := by rfl) (hpl : (backTo pos2 (starEach [e2] X.env)).any (·.1) = false := by rfl)
    (hs2 : starEach [.Call (.Name "zip" p2) [e, e2] [] pos2] X.env = (false, eval (.Call (.Name "zip" p2) [e, e2] [] pos2) X.env) :: starEach [] X.env := by rfl) :
    PE X (.Call (.Name "tuple" p) [.Call (.Name "zip" p2) [e, e2] [] pos2] [] pos) (tTupZip X.K ta) := by
  refine ⟨fun pins s σ H Q I h => ?_⟩
  refine Call_ (ld_blt I hg hm boot_tuple (PyProof.Rows.callWith_type1 (args_cons (Call_ (ld_blt I hg2 hm2 PyProof.Rows.boot_zip (PyProof.Rows.callWith_type1 (thn (ha.run pos2 pins s σ H _ I h) fun us s1 ⟨vs, H1, I1, r1, q1⟩ => ?_) hs hpl))) hs2) hs2 rfl))
  obtain ⟨a, b, xs, ys, ex, hqx, hqy, hl, q⟩ := q1
  subst ex
  cases r1 with
  | cons r rr =>
    cases rr with
    | cons r' rr =>
      cases rr
      cases r
      cases r'
      obtain ⟨its, rv, p1, hz1⟩ := I1.list hqx
      obtain ⟨its2, rv2, p2, hz2⟩ := I1.list hqy
      have la : a < s1.heap.objs.size := p1.lt
      have lb : b < s1.heap.objs.size := p2.lt
      have e1 := rv.length
      have e2 := rv2.length
      refine call_zip_2 p1.isList p2.isList fun h' hz hTI hTO h1 h2 hsz hk => args_nil ?_
      have D := PySem.W.ktu_apart s1.heap.objs.size a b la lb
      refine call_tupZip (s := { s1 with heap := h' }) (I1.ok.hd hc) D (by simp; omega) (by rw [List.size_toArray]; omega) hz hTI hTO h1 h2 (p1.isList.at fun o e => hk _ o e) (p2.isList.at fun o e => hk _ o e) fun h'' as k hla nd pr => ?_
      have lz : as.length = (xs.zip ys).length := by rw [hla, List.length_zip, List.size_toArray]; omega
      have low : ∀ a ∈ as, s1.heap.objs.size ≤ a := fun x hx => by
        obtain ⟨j, hj⟩ := List.mem_iff_getElem?.mp hx
        have := (pr j x hj).1
        have : h'.objs.size ≤ x := this
        omega
      have up : ∀ x ∈ as, x < h''.objs.size := fun x hx => by
        obtain ⟨j, hj⟩ := List.mem_iff_getElem?.mp hx
        obtain ⟨_, _, _, _, _, pp⟩ := pr j x hj
        exact Heap.lt_size pp
      have k1 : ∀ c o, s1.heap.get? c = some o → h''.get? c = some o := fun c o e => by
        have lt := Heap.lt_size e
        exact k c o (Nat.ne_of_lt (Nat.lt_add_right 4 lt)) (Nat.ne_of_lt (Nat.lt_add_right 3 lt)) (Nat.ne_of_lt lt) (Nat.ne_of_lt (Nat.lt_add_right 1 lt)) (hk c o e)
      have hsz2 : s1.heap.objs.size ≤ h''.objs.size := by
        exact Nat.le_of_lt (Nat.lt_of_le_of_lt (Nat.le_add_right _ 2) (Heap.lt_size (k _ _ D.TIz D.TITO D.TIi1 D.TIi2 hTI)))
      have pushK : ∀ c o, h''.get? c = some o → (h''.push { cls := .type "tuple", data := .seq (as.map Value.ref).toArray }).get? c = some o := fun c o e => Heap.get?_push_of_some _ e
      have ndN : (((h''.objs.size, HO.tup (as.map V.ref)) :: List.zipWith (fun a (q : V × V) => (a, HO.tup [q.1, q.2])) as (xs.zip ys)).map Prod.fst).Nodup := by
        rw [List.map_cons, zipNs (fun q : V × V => HO.tup [q.1, q.2]) as _ lz]
        exact List.nodup_cons.mpr ⟨fun hm => Nat.lt_irrefl _ (up _ hm), nd⟩
      have mem : ∀ (c : Addr) (o : HO), (c, o) ∈ List.zipWith (fun a (q : V × V) => (a, HO.tup [q.1, q.2])) as (xs.zip ys) → ∃ (j : Nat) (x y : V), as[j]? = some c ∧ xs[j]? = some x ∧ ys[j]? = some y ∧ o = .tup [x, y] := fun c o m => by
        obtain ⟨j, hj⟩ := List.mem_iff_getElem?.mp m
        rw [List.getElem?_zipWith] at hj
        cases ej : as[j]? with
        | none => rw [ej] at hj; cases hj
        | some c' =>
          cases ez : (xs.zip ys)[j]? with
          | none => rw [ej, ez] at hj; cases hj
          | some q' =>
            rw [ej, ez] at hj
            cases hj
            obtain ⟨z1, z2⟩ := List.getElem?_zip_eq_some.mp ez
            exact ⟨j, _, _, ej, z1, z2, rfl⟩
      have I2 := laid_many (ns := (h''.objs.size, HO.tup (as.map V.ref)) :: List.zipWith (fun a (q : V × V) => (a, HO.tup [q.1, q.2])) as (xs.zip ys)) (tk := s1.toks) I1 (fun c o e => pushK c o (k1 c o e)) (fun q hq => by
        rcases List.mem_cons.mp hq with rfl | hq
        · exact hsz2
        · obtain ⟨j, x, y, ej, _⟩ := mem q.1 q.2 hq
          exact low _ (List.mem_of_getElem? ej)) (fun q hq => by
        rcases List.mem_cons.mp hq with rfl | hq
        · refine ⟨by rw [List.length_map]; rw [lz, List.length_zip]; omega, as.map Value.ref, LiI.vals_refs as, IsTup.new _ _⟩
        · obtain ⟨j, x, y, ej, ex, ey, eo⟩ := mem q.1 q.2 hq
          rw [eo]
          obtain ⟨_, u, v, f1, f2, pp⟩ := pr j q.1 ej
          obtain ⟨u', g1, r1⟩ := rv.get ex
          obtain ⟨v', g2, r2⟩ := rv2.get ey
          have : u = u' := by
            have z : some u' = some u := by rw [← g1]; simpa using f1
            exact (Option.some.inj z).symm
          subst this
          have : v = v' := by
            have z : some v' = some v := by rw [← g2]; simpa using f2
            exact (Option.some.inj z).symm
          subst this
          exact ⟨by show 2 ≤ sizeLine; decide, [u, v], .cons r1 (.cons r2 .nil), ⟨_, pushK _ _ pp, rfl, _, rfl⟩⟩)
      have fr : ∀ q ∈ (h''.objs.size, HO.tup (as.map V.ref)) :: List.zipWith (fun a (q : V × V) => (a, HO.tup [q.1, q.2])) as (xs.zip ys), H1 q.1 = none := fun q hq => by
        rcases List.mem_cons.mp hq with rfl | hq
        · exact I1.hok.fresh hsz2
        · obtain ⟨j, x, y, ej, _⟩ := mem q.1 q.2 hq
          exact I1.hok.fresh (low _ (List.mem_of_getElem? ej))
      refine ⟨.ref h''.objs.size, _, I2, rfl, q as h''.objs.size _ (putN_same fr) (I1.hok.fresh hsz2) (putN_at ndN List.mem_cons_self) (zipNs_at (f := fun q : V × V => HO.tup [q.1, q.2]) lz fun c o m => putN_at ndN (List.mem_cons_of_mem _ m))⟩
end Fn

set_option Elab.async false
set_option maxRecDepth 100000
set_option maxHeartbeats 2000000
/-! An item of a list read within l[i] += x; texts as lists of codes in the readings. -/
namespace Fn
open PySem PySem.Spec PyProof.Rows L2
open TL (tl)
open SX (S)
theorem get_listP {X : Cx} : PGet X (fun x y H Q => ∃ (p : Addr) (xs : List V) (i : Nat) (v : V), x = .ref p ∧ y = .int (i : Nat) ∧ H p = some (.lst xs) ∧ xs[i]? = some v ∧ Q v H) := by
  intro pins s σ H o i ov iv Q I ro ri h
  obtain ⟨p, xs, k, v, rfl, rfl, hp, hv, q⟩ := h
  cases ro
  obtain ⟨t, rfl⟩ := ri
  obtain ⟨its, n, r, ho, hz⟩ := I.lst hp
  obtain ⟨u, hu, ru⟩ := r.get hv
  have hl := r.length
  have hn := line63
  have lt : k < its.length := (List.getElem?_eq_some_iff.mp hu).1
  exact wpAny_getItem_list (items := its.toArray) ⟨_, ho, rfl, _, rfl⟩ (by omega) (by omega) (by simpa using hu) ⟨v, H, I, ru, q⟩
theorem split_tl {x y : Str} {b : List Nat} (e : tl y = b) (hb : b ≠ []) (hk : b.all (· < 256) = true) : Txt.split x y = (TL.spl b 0 [] (tl x)).map S := by
  have ey : y = S b := by rw [← e]
  have z := SX.split_S (a := tl x) hb hk
  rw [SX.S_tl] at z
  rw [ey]
  exact z
theorem dropWhile_take {α : Type} (p : α → Bool) : ∀ l : List α, (l.dropWhile p) = l.drop (l.takeWhile p).length
  | [] => rfl
  | a :: l => by
    rw [List.dropWhile_cons, List.takeWhile_cons]
    split
    · exact dropWhile_take p l
    · rfl
theorem rstr_tl (x : Str) : tl (Txt.rstripChars x ")") = rstr (tl x) := by
  have e0 : ∀ c, (")" : Str).cps.contains c = (c == 41) := fun c => by
    have : (")" : Str).cps = #[41] := by decide +kernel
    rw [this]
    simp [Array.contains]
  have e1 : (fun c => (")" : Str).cps.contains c) = (fun c => c == 41) := funext e0
  have e2 : rstr (tl x) = (tl x).take ((tl x).length - ((tl x).reverse.takeWhile (· == 41)).length) := by
    unfold rstr
    rw [dropWhile_take, List.reverse_drop, List.reverse_reverse, List.length_reverse]
  have e3 : stripLo (fun c => (")" : Str).cps.contains c) false x = 0 := rfl
  have e4 : stripHi (fun c => (")" : Str).cps.contains c) true x 0 = (tl x).length - ((tl x).reverse.takeWhile (· == 41)).length := by
    unfold stripHi
    rw [if_pos rfl, List.drop_zero, e1, TL.len_tl]
  have e5 : tl (Builtin.Str.strSub x 0 ((tl x).length - ((tl x).reverse.takeWhile (· == 41)).length)) = rstr (tl x) := by
    rw [TL.tl_strSub, e2, List.drop_zero, Nat.sub_zero]
  unfold Txt.rstripChars Txt.stripBy
  split
  · rename_i h
    have h2 : stripHi (fun c => (")" : Str).cps.contains c) true x 0 = x.length := by
      have h' : (stripLo (fun c => (")" : Str).cps.contains c) false x == 0 && stripHi (fun c => (")" : Str).cps.contains c) true x (stripLo (fun c => (")" : Str).cps.contains c) false x) == x.length) = true := h
      rw [e3, Bool.and_eq_true, beq_iff_eq, beq_iff_eq] at h'
      exact h'.2
    rw [e4, TL.len_tl] at h2
    rw [e2, h2, List.take_length]
  · show tl (Builtin.Str.strSub x (stripLo (fun c => (")" : Str).cps.contains c) false x) (stripHi (fun c => (")" : Str).cps.contains c) true x (stripLo (fun c => (")" : Str).cps.contains c) false x))) = _
    rw [e3, e4]
    exact e5
theorem tl_S (l : List Nat) : tl (S l) = l := rfl
theorem spl_len (b : List Nat) : ∀ (l : List Nat) (k : Nat) (acc : List Nat), (TL.spl b k acc l).length ≤ l.length + 1
  | [], k, acc => by rw [TL.spl_nil]; exact Nat.le_refl _
  | c :: r, 0, acc => by
    show (if TL.pre b (c :: r) = true then acc :: TL.spl b (b.length - 1) [] r else TL.spl b 0 (acc ++ [c]) r).length ≤ r.length + 1 + 1
    split
    · exact Nat.succ_le_succ (spl_len b r _ _)
    · exact Nat.le_succ_of_le (spl_len b r _ _)
  | c :: r, k + 1, acc => Nat.le_succ_of_le (spl_len b r k acc)
theorem spl_mem (b : List Nat) : ∀ (l : List Nat) (k : Nat) (acc : List Nat), ∀ p ∈ TL.spl b k acc l, p.length ≤ acc.length + l.length
  | [], k, acc, p, h => by
    rw [TL.spl_nil] at h
    rw [List.mem_singleton.mp h]
    exact Nat.le_refl _
  | c :: r, 0, acc, p, h => by
    have h' : p ∈ (if TL.pre b (c :: r) = true then acc :: TL.spl b (b.length - 1) [] r else TL.spl b 0 (acc ++ [c]) r) := h
    split at h'
    · rcases List.mem_cons.mp h' with rfl | h'
      · exact Nat.le_add_right _ _
      · have := spl_mem b r _ _ p h'
        rw [List.length_cons]
        have e : ([] : List Nat).length = 0 := rfl
        omega
    · have := spl_mem b r _ _ p h'
      rw [List.length_append, List.length_singleton] at this
      rw [List.length_cons]
      omega
  | c :: r, k + 1, acc, p, h => by
    have := spl_mem b r k acc p h
    rw [List.length_cons]
    omega
theorem rstr_le (p : List Nat) : (rstr p).length ≤ p.length := by
  unfold rstr
  rw [dropWhile_take, List.length_reverse, List.length_drop, List.length_reverse]
  omega
/-- the three lists of told_nodes -/
structure TAt (H H' : Hp) (p1 p2 pd : Addr) (st : TSt) : Prop where
  same : Same H H'
  l1 : H' p1 = some (.lst (st.sg.map fun w => V.str (S w)))
  l2 : H' p2 = some (.lst (st.ar.map fun n => V.int (n : Nat)))
  l3 : H' pd = some (.lst (st.pd.map fun n => V.int (n : Nat)))
  n12 : p1 ≠ p2
  n1d : p1 ≠ pd
  n2d : p2 ≠ pd
  f1 : H p1 = none
  f2 : H p2 = none
  fd : H pd = none
  ok : TOk st
theorem TAt.step {H H' H2 : Hp} {p1 p2 pd : Addr} {st : TSt} (h : TAt H H' p1 p2 pd st) (s : Same H' H2) : TAt H H2 p1 p2 pd st := ⟨h.same.trans s, s _ _ h.l1, s _ _ h.l2, s _ _ h.l3, h.n12, h.n1d, h.n2d, h.f1, h.f2, h.fd, h.ok⟩
theorem set_modify : ∀ (ar : List Nat) (b k : Nat), ar[b]? = some k → (ar.map fun n => V.int (n : Nat)).set b (V.int ((k : Int) + 1)) = (ar.modify b (· + 1)).map fun n => V.int (n : Nat)
  | [], _, _, h => by cases h
  | a :: ar, 0, k, h => by
    cases h
    rfl
  | a :: ar, b + 1, k, h => by
    have ih := set_modify ar b k h
    show V.int (a : Nat) :: (ar.map fun n => V.int (n : Nat)).set b (V.int ((k : Int) + 1)) = V.int (a : Nat) :: (ar.modify b (· + 1)).map fun n => V.int (n : Nat)
    rw [ih]
theorem ixN_nat {n b : Nat} (h : b < n) : ixN n (b : Int) = some b := by
  unfold ixN
  rw [if_pos (by omega), if_pos (by omega), Int.toNat_natCast]
/-- the arities, with one more below the last that is pending -/
theorem TAt.up {H H' : Hp} {p1 p2 pd : Addr} {st : TSt} (h : TAt H H' p1 p2 pd st) : TAt H (upd H' p2 (.lst ((upTop st.pd st.ar).map fun n => V.int (n : Nat)))) p1 p2 pd ⟨st.sg, upTop st.pd st.ar, st.pd⟩ :=
  ⟨fun b o e => by rw [upd_ne (fun z => by rw [z, h.f2] at e; cases e)]; exact h.same _ _ e, by rw [upd_ne h.n12]; exact h.l1, upd_same, by rw [upd_ne h.n2d.symm]; exact h.l3, h.n12, h.n1d, h.n2d, h.f1, h.f2, h.fd, ⟨by rw [upTop_len]; exact h.ok.1, h.ok.2⟩⟩
theorem TAt.push {H H' : Hp} {p1 p2 pd : Addr} {st : TSt} {w : List Nat} (h : TAt H H' p1 p2 pd ⟨st.sg, upTop st.pd st.ar, st.pd⟩) : TAt H (upd (upd (upd H' pd (.lst ((st.pd.map fun n => V.int (n : Nat)) ++ [V.int (st.sg.length : Nat)]))) p1 (.lst ((st.sg.map fun w => V.str (S w)) ++ [V.str (S w)]))) p2 (.lst (((upTop st.pd st.ar).map fun n => V.int (n : Nat)) ++ [V.int 0]))) p1 p2 pd (push1 st w) := by
  refine ⟨fun b o e => ?_, ?_, ?_, ?_, h.n12, h.n1d, h.n2d, h.f1, h.f2, h.fd, TOk.push (st := st) ⟨h.ok.1.trans (upTop_len _ _), h.ok.2⟩ w⟩
  · rw [upd_ne (fun z => by rw [z, h.f2] at e; cases e), upd_ne (fun z => by rw [z, h.f1] at e; cases e), upd_ne (fun z => by rw [z, h.fd] at e; cases e)]
    exact h.same _ _ e
  · rw [upd_ne h.n12, upd_same]
    show _ = some (HO.lst ((st.sg ++ [w]).map fun w => V.str (S w)))
    rw [List.map_append]
    rfl
  · rw [upd_same]
    show _ = some (HO.lst ((upTop st.pd st.ar ++ [0]).map fun n => V.int (n : Nat)))
    rw [List.map_append]
    rfl
  · rw [upd_ne h.n2d.symm, upd_ne h.n1d.symm, upd_same]
    show _ = some (HO.lst ((st.pd ++ [st.sg.length]).map fun n => V.int (n : Nat)))
    rw [List.map_append]
    rfl
theorem spl_sub (b : List Nat) : ∀ (l : List Nat) (k : Nat) (acc : List Nat), ∀ p ∈ TL.spl b k acc l, ∀ c ∈ p, c ∈ acc ∨ c ∈ l
  | [], k, acc, p, h, c, hc => by
    rw [TL.spl_nil] at h
    rw [List.mem_singleton.mp h] at hc
    exact .inl hc
  | a :: r, 0, acc, p, h, c, hc => by
    have h' : p ∈ (if TL.pre b (a :: r) = true then acc :: TL.spl b (b.length - 1) [] r else TL.spl b 0 (acc ++ [a]) r) := h
    split at h'
    · rcases List.mem_cons.mp h' with rfl | h'
      · exact .inl hc
      · rcases spl_sub b r _ _ p h' c hc with h | h
        · cases h
        · exact .inr (List.mem_cons_of_mem _ h)
    · rcases spl_sub b r _ _ p h' c hc with h | h
      · rcases List.mem_append.mp h with h | h
        · exact .inl h
        · exact .inr (by rw [List.mem_singleton.mp h]; exact List.mem_cons_self)
      · exact .inr (List.mem_cons_of_mem _ h)
  | a :: r, k + 1, acc, p, h, c, hc => by
    rcases spl_sub b r k acc p h c hc with h | h
    · exact .inl h
    · exact .inr (List.mem_cons_of_mem _ h)
theorem rstr_sub {p : List Nat} {c : Nat} (h : c ∈ rstr p) : c ∈ p := by
  unfold rstr at h
  rw [dropWhile_take] at h
  exact List.mem_reverse.mp (List.mem_of_mem_drop (List.mem_reverse.mp h))
theorem push_all {W : List Nat → Prop} : ∀ (ws : List (List Nat)) (st : TSt), (∀ w ∈ st.sg, W w) → (∀ w ∈ ws, W w) → ∀ w ∈ (ws.foldl push1 st).sg, W w
  | [], st, h, _ => h
  | a :: ws, st, h, h2 => push_all ws (push1 st a) (fun w hw => by
      rcases List.mem_append.mp (show w ∈ st.sg ++ [a] from hw) with hw | hw
      · exact h w hw
      · rw [List.mem_singleton.mp hw]
        exact h2 a List.mem_cons_self) fun w hw => h2 w (List.mem_cons_of_mem _ hw)
theorem step_all {W : List Nat → Prop} : ∀ (ps : List (List Nat)) (st : TSt), (∀ w ∈ st.sg, W w) → (∀ p ∈ ps, ∀ w ∈ TL.spl [40] 0 [] (rstr p), W w) → ∀ w ∈ (ps.foldl stepP st).sg, W w
  | [], st, h, _ => h
  | a :: ps, st, h, h2 => step_all ps (stepP st a) (push_all _ st h (h2 a List.mem_cons_self)) fun p hp => h2 p (List.mem_cons_of_mem _ hp)
/-- the signs that are told of a text are made of its codes -/
theorem told_sub (s : List Nat) : ∀ w ∈ (toldF s).sg, w.length ≤ s.length ∧ ∀ c ∈ w, c ∈ s := by
  refine step_all (W := fun w => w.length ≤ s.length ∧ ∀ c ∈ w, c ∈ s) _ _ (fun w h => by cases h) fun p hp w hw => ⟨?_, fun c hc => ?_⟩
  · have a := spl_mem [40] (rstr p) 0 [] w hw
    have b := rstr_le p
    have d := spl_mem [44, 32] s 0 [] p hp
    have e : ([] : List Nat).length = 0 := rfl
    omega
  · rcases spl_sub [40] (rstr p) 0 [] w hw c hc with h | h
    · cases h
    · rcases spl_sub [44, 32] s 0 [] p hp c (rstr_sub h) with h | h
      · cases h
      · exact h
theorem tw_get {p : Nat → Bool} : ∀ {l : List Nat} {j : Nat}, j < (l.takeWhile p).length → ∃ c, l[j]? = some c ∧ p c = true
  | [], j, h => by simp at h
  | a :: l, j, h => by
    rw [List.takeWhile_cons] at h
    split at h
    · rename_i ha
      cases j with
      | zero => exact ⟨a, rfl, ha⟩
      | succ j =>
        obtain ⟨c, h1, h2⟩ := tw_get (l := l) (j := j) (by simpa using h)
        exact ⟨c, h1, h2⟩
    · simp at h
theorem tw_end {p : Nat → Bool} : ∀ {l : List Nat} {c : Nat}, l[(l.takeWhile p).length]? = some c → p c = false
  | [], c, h => by simp at h
  | a :: l, c, h => by
    rw [List.takeWhile_cons] at h
    split at h
    · exact tw_end (l := l) (by simpa using h)
    · rename_i ha
      cases (show some a = some c from h)
      simpa using ha
theorem word_low {s : List Nat} {i j : Nat} (h : j < (wordAt s i).length) : ∃ c, s[i + j]? = some c ∧ lowZ c = true := by
  obtain ⟨c, h1, h2⟩ := tw_get h
  rw [List.getElem?_drop] at h1
  exact ⟨c, h1, h2⟩
theorem word_end {s : List Nat} {i c : Nat} (h : s[i + (wordAt s i).length]? = some c) : lowZ c = false := by
  refine tw_end (l := s.drop i) ?_
  rw [List.getElem?_drop]
  exact h
theorem word_len {s : List Nat} {i : Nat} (h : i ≤ s.length) : i + (wordAt s i).length ≤ s.length := by
  have a : (wordAt s i).length ≤ (s.drop i).length := (List.takeWhile_prefix _).length_le
  rw [List.length_drop] at a
  omega
theorem cut_tl (z : Str) (a b : Nat) : tl (cutS z (some (a : Int)) (some (b : Int))) = ((tl z).drop a).take (b - a) := by
  show (tl z |>.drop (HT.sIx z.length 0 (some (a : Int)))).take (HT.sIx z.length z.length (some (b : Int)) - HT.sIx z.length 0 (some (a : Int))) = _
  rw [HT.sIx_nat, HT.sIx_nat, TL.len_tl]
  rcases Nat.le_total a (tl z).length with ha | ha
  · rw [Nat.min_eq_left ha]
    rcases Nat.le_total b (tl z).length with hb | hb
    · rw [Nat.min_eq_left hb]
    · rw [Nat.min_eq_right hb, List.take_of_length_le (by rw [List.length_drop]; omega), List.take_of_length_le (by rw [List.length_drop]; omega)]
  · rw [Nat.min_eq_right ha, List.drop_length, List.take_nil, List.drop_eq_nil_of_le ha, List.take_nil]
end Fn

set_option Elab.async false
set_option linter.all false
set_option maxRecDepth 100000
set_option maxHeartbeats 4000000
/-! Lambdas: heaps in which code objects and their tables come; a law whose defs make lambdas. -/
namespace Fn
open PySem PySem.Spec PyProof.Rows L2 LamX
/-! ### what stays: all but the contents of lists and the tables -/
def EvN (H H' : Hp) : Prop := ∀ (a : Addr) (o : HO), H a = some o → (∀ ps, o ≠ .tbl ps) → (∃ xs ys, o = .lst xs ∧ H' a = some (.lst ys)) ∨ H' a = some o
theorem EvN.refl (H : Hp) : EvN H H := fun _ _ h _ => .inr h
theorem EvN.trans {H H1 H2 : Hp} (x : EvN H H1) (y : EvN H1 H2) : EvN H H2 := fun a o h n => by
  rcases x a o h n with ⟨xs, ys, rfl, h1⟩ | h1
  · rcases y a _ h1 (fun _ z => nomatch z) with ⟨_, zs, _, h2⟩ | h2
    · exact .inl ⟨_, zs, rfl, h2⟩
    · exact .inl ⟨_, ys, rfl, h2⟩
  · exact y a o h1 n
theorem EvN.ofEv {H H' : Hp} (x : Ev2 H H') : EvN H H' := fun a o h _ => x a o h
theorem EvN.ofExt {H H' : Hp} (x : ExtN H H') : EvN H H' := fun a o h n => .inr (x a o h n)
theorem xOf {H H' : Hp} (x : Same H H') : ExtN H H' := fun a o h _ => x a o h
theorem xl {H H' : Hp} {a : Addr} {xs : List V} (x : ExtN H H') (h : H a = some (.lst xs)) : H' a = some (.lst xs) := x a _ h fun _ z => nomatch z
theorem xt {H H' : Hp} {a : Addr} {xs : List V} (x : ExtN H H') (h : H a = some (.tup xs)) : H' a = some (.tup xs) := x a _ h fun _ z => nomatch z
theorem xd {H H' : Hp} {a : Addr} {xs : List (Key × V)} (x : ExtN H H') (h : H a = some (.dK xs)) : H' a = some (.dK xs) := x a _ h fun _ z => nomatch z
theorem xdc {H H' : Hp} {p : Addr} (x : ExtN H H') (h : Dc H p) : Dc H' p := by
  obtain ⟨i, j, k, e⟩ := h
  exact ⟨i, j, k, xl x e⟩
mutual
theorem Dx.ext {H H' : Hp} (e : ExtN H H') : ∀ {d : PyData} {v : V}, Dx H v d → Dx H' v d
  | .none, _, h => by cases h; exact .non
  | .bool b, _, h => by cases h; exact .bl b
  | .int i, _, h => by cases h; exact .int i
  | .str x, _, h => by cases h; exact .str x
  | .list ds, _, h => by
    cases h with
    | lst h1 h2 => exact .lst (xl e h1) (DxAll.ext e h2)
  | .tuple ds, _, h => by
    cases h with
    | tup h1 h2 => exact .tup (xt e h1) (DxAll.ext e h2)
  | .dict kvs, _, h => by
    cases h with
    | dct h1 => exact .dct (xd e h1)
theorem DxAll.ext {H H' : Hp} (e : ExtN H H') : ∀ {ds : List PyData} {vs : List V}, DxAll H vs ds → DxAll H' vs ds
  | [], _, h => by cases h; exact .nil
  | d :: ds, _, h => by
    cases h with
    | cons h1 h2 => exact .cons (Dx.ext e h1) (DxAll.ext e h2)
end
/-- the tables stay where only lists change -/
theorem Tabs.ev {T : List (Addr × Str)} {H H' : Hp} (t : Tabs T H) (e : Ev2 H H') : Tabs T H' := fun p hp => by
  obtain ⟨ps, h1, h2, h3⟩ := t p hp
  have st : ∀ {a : Addr} {o : HO}, H a = some o → (∀ xs, o ≠ .lst xs) → H' a = some o := fun {a o} q n => by
    rcases e a o q with ⟨xs, _, z, _⟩ | z
    · exact absurd z (n xs)
    · exact z
  refine ⟨ps, st h1 (fun _ z => nomatch z), h2, fun pos cv hc => ?_⟩
  obtain ⟨c, e1, e2⟩ := h3 pos cv hc
  exact ⟨c, e1, st e2 fun xs z => by
    unfold CodeO at z
    cases z⟩
theorem Tabs.same {T : List (Addr × Str)} {H H' : Hp} (t : Tabs T H) (e : Same H H') : Tabs T H' := t.ext e
/-- the script, in a heap that knows of nothing else but tables -/
def Only2 (H : Hp) : Prop := ∀ b, H b = none ∨ (∃ ps, H b = some (.tbl ps)) ∨ ∃ o xs, H b = some (.frz o (.lst xs))
def ScrN (K : PySem.W.Frag) (H : Hp) (a : Addr) (xs : List V) : Prop := ∀ H', EvN H H' → SqL K H' a xs
theorem scrN_of {K : PySem.W.Frag} {H : Hp} {a : Addr} {xs : List V} (hO : Only2 H) (h : SqL K H a xs) : ScrN K H a xs := fun H' e => by
  rcases h with (h | ⟨o, h⟩) | h
  · rcases hO a with q | ⟨_, q⟩ | ⟨_, _, q⟩ <;> rw [q] at h <;> cases h
  · rcases e a _ h (fun _ z => nomatch z) with ⟨_, _, z, _⟩ | z
    · cases z
    · exact .inl (.inr ⟨o, z⟩)
  · exact .inr h
theorem ScrN.mono {K : PySem.W.Frag} {H H' : Hp} {a : Addr} {xs : List V} (h : ScrN K H a xs) (e : EvN H H') : ScrN K H' a xs := fun _ e2 => h _ (e.trans e2)
theorem ScrN.now {K : PySem.W.Frag} {H : Hp} {a : Addr} {xs : List V} (h : ScrN K H a xs) : SqL K H a xs := h _ (.refl _)
/-! ### a law whose defs make lambdas, where no repr runs -/
theorem law_callTG {P : Program} {w : World} {K : PySem.W.Frag} {mg mb : Str → Option Value} {k : Nat} {fa a : Addr} {cs : List (Addr × Addr)} {fd : FuncData} {x : Str} {sp : Sp} {s : Shared} {vs : List Value} {ns : List Int}
    (KX : K.In s.heap) (gl : s.heap.Ns mainGlobals mg) (bl : s.heap.Ns builtinsNs mb) (bb : ∀ x : Str, x ≠ "__name__" → mb x = bootBuiltins x) (lim : s.heap.NoLimit) (gn : s.gens = #[])
    (tab : ∀ p ∈ cs, s.heap.get? p.2 = some { cls := .none, data := .fields #[] }) (off : ∀ p ∈ cs, K.lookup p.2 = none) (cod : ∀ p ∈ cs, PySem.W.CodeHd s.heap p.1 p.2)
    (bmain : ∃ (bm : Addr) (ob : Obj), mg "__builtins__" = some (.ref bm) ∧ bm ≠ builtinsNs ∧ s.heap.get? bm = some ob ∧ ob.cls = .type "module" ∧ ob.dict = some builtinsNs ∧ ob.data = .plain)
    (ha : s.heap.get? a = some { cls := .type "list", data := .seq vs.toArray }) (hi : IntsAre vs ns) (hl : ns.length ≤ sizeLine) (hr : Room k callerA)
    (F : ∀ base : Heap, K.In base → base.Ns mainGlobals mg → (∀ p ∈ cs, TabB base mg p.1 p.2) → FnG P w K mg base CX0 k fa fd [x] sp) (hbind : ∀ (s : Shared) (u : Value), BindsTo s fd ⟨[u], []⟩ [(x, u)])
    (hsp : ∀ H : Hp, Only2 H → (∀ p ∈ cs, H p.2 = some (.tbl #[])) → SqL K H a (ns.map V.int) → sp [.ref a] H (fun v _ => v = .bl true) fun _ _ _ => False) :
    codeAny (model P w) callerA (.call (.ref fa) ⟨[.ref a], []⟩) (fun r s' => r = .ok (.ret (.bool true)) ∧ OldK s.heap s'.heap ∧ s'.os = s.os ∧ AllBare s'.gens) s := by
  have rel := vals_ints hi
  obtain ⟨tl, etl⟩ : ∃ tl : List Addr, tl = cs.map (·.2) := ⟨_, rfl⟩
  have inT : ∀ p ∈ cs, p.2 ∈ tl := fun p hp => by
    rw [etl]
    exact List.mem_map.mpr ⟨p, hp, rfl⟩
  have ofT : ∀ b ∈ tl, ∃ p ∈ cs, p.2 = b := fun b hb => by
    rw [etl] at hb
    exact List.mem_map.mp hb
  have emp : ∀ b ∈ tl, s.heap.get? b = some { cls := .none, data := .fields #[] } := fun b hb => by
    obtain ⟨p, hp, rfl⟩ := ofT b hb
    exact tab p hp
  have aT : a ∉ tl := fun z => by
    have q := emp a z
    rw [ha] at q
    cases congrArg Obj.data (Option.some.inj q)
  have step : ∀ H : Hp, Only2 H → (∀ b ∈ tl, H b = some (.tbl #[])) → SqL K H a (ns.map V.int) → HOk P w H s.heap → (∀ b, H b ≠ none → (b = a ∧ K.lookup a = none) ∨ b ∈ tl) →
      codeAny (model P w) callerA (.call (.ref fa) ⟨[.ref a], []⟩) (fun r s' => r = .ok (.ret (.bool true)) ∧ OldK s.heap s'.heap ∧ s'.os = s.os ∧ AllBare s'.gens) s := by
    intro H hO hT hS ok only
    have gone : ∀ {b : Addr} {o : Obj}, s.heap.get? b = some o → (∀ vs n, o.data ≠ .seq vs n) → o.data ≠ .fields #[] → H b = none := fun {b o} e n1 n2 => by
      cases z : H b with
      | none => rfl
      | some u =>
        rcases only b (by rw [z]; exact Option.some_ne_none _) with ⟨y, _⟩ | y
        · subst y
          rw [ha] at e
          cases e
          exact absurd rfl (n1 _ _)
        · rw [emp b y] at e
          cases e
          exact absurd rfl n2
    have seen : ∀ {b : Addr} {o : Obj}, s.heap.get? b = some o → (∀ vs n, o.data ≠ .seq vs n) → o.data ≠ .fields #[] → (hidT s.heap H).get? b = some o := fun e n1 n2 => hidT_get e (gone e n1 n2)
    have dict : ∀ {b : Addr} {m : Str → Option Value}, s.heap.Ns b m → (hidT s.heap H).Ns b m := fun {b m} ⟨o, es, ep, e, d, r⟩ => ⟨o, es, ep, seen e (fun _ _ z => by rw [d] at z; cases z) (fun z => by rw [d] at z; cases z), d, r⟩
    have kb : K.In (hidT s.heap H) := fun b o e => hidT_get (KX b o e) (by
      cases z : H b with
      | none => rfl
      | some u =>
        rcases only b (by rw [z]; exact Option.some_ne_none _) with ⟨y, n⟩ | y
        · subst y
          rw [n] at e
          cases e
        · obtain ⟨p, hp, rfl⟩ := ofT b y
          rw [off p hp] at e
          cases e)
    have md : Mod K mg (hidT s.heap H) := ⟨kb, dict gl, ⟨mb, dict bl, bb⟩, let ⟨mc, h1, h2⟩ := lim; ⟨mc, dict h1, h2⟩⟩
    have gP : ∀ {b : Addr} {m : Str → Option Value}, s.heap.Ns b m → b ∉ tl := fun {b m} ⟨o, es, ep, e, d, _⟩ z => by
      rw [emp b z] at e
      cases e
      cases d
    have tb : ∀ p ∈ cs, TabB (hidT s.heap H) mg p.1 p.2 := fun p hp => by
      refine ⟨?_, ?_, fun z => gP gl (by rw [z]; exact inT p hp)⟩
      · obtain ⟨o, us, file, tf, flags, tg, inF, text, tt, e1, r1, r2, r3, r⟩ := cod p hp
        exact ⟨o, us, file, tf, flags, tg, inF, text, tt, seen e1 (fun _ _ z => by rw [r2] at z; cases z) (fun z => by
          rw [r2] at z
          cases z
          simp at r3), r1, r2, r3, r⟩
      · obtain ⟨bm, ob, b1, b2, b3, b4, b5, b6⟩ := bmain
        refine ⟨bm, ob, b1, b2, fun q => ?_, fun q => ?_, seen b3 (fun _ _ z => by rw [b6] at z; cases z) (fun z => by rw [b6] at z; cases z), b4, b5, b6⟩
        · obtain ⟨o, es, ep, e, d, _⟩ := gl
          rw [q, e] at b3
          cases b3
          rw [d] at b6
          cases b6
        · rw [q, tab p hp] at b3
          cases b3
          cases b6
    have e0 : Env0 P w K mg (hidT s.heap H) callerA [] s H := ⟨rfl, md, fun _ _ => of_hidT, Nat.le_of_eq (hidT_size _ _), trivial, fun b hb => absurd (show b ∈ ([] : List Addr) from hb) (by simp), ok, .of_eq gn⟩
    refine codeAny_mono ((F _ kb (dict gl) tb).go callerA [] s H ⟨[.ref a], []⟩ [.ref a] [.ref a] _ _ rfl hr e0 (hbind s (.ref a)) (.cons rfl .nil) (hsp H hO (fun p hp => hT _ (inT p hp)) hS)) fun r s' z => ?_
    rcases r with er | (_ | _ | _ | u)
    all_goals first
      | exact False.elim z
      | skip
    obtain ⟨v, H', os, bare, un, ok', rv, rfl⟩ := z
    cases (show u = Value.bool true from rv)
    have keep : ∀ b o, b ∉ tl → s.heap.get? b = some o → s'.heap.get? b = some o := fun b o nb e => by
      rcases hO b with n | ⟨ps, n⟩ | ⟨ob, xs, n⟩
      · exact un.keep b o e n (fun z => absurd (show b ∈ ([] : List Addr) from z) (by simp)) (by simp)
      · rcases only b (by rw [n]; exact Option.some_ne_none _) with ⟨y, _⟩ | y
        · subst y
          have q : s.heap.get? b = some { cls := .none, data := .fields ps } := ok b _ n
          rw [ha] at q
          cases congrArg Obj.data (Option.some.inj q)
        · exact absurd y nb
      · have z1 : s.heap.get? b = some ob := (ok b _ n).1
        have z2 : s'.heap.get? b = some ob := (ok' b _ (un.frzs b ob _ n)).1
        rw [z2, ← z1, e]
    have more : ∀ b ∈ tl, ∃ m : Array Value, s'.heap.get? b = some { cls := .none, data := .fields m } := fun b hb => by
      obtain ⟨m, z⟩ := un.tbls b #[] (hT b hb)
      exact ⟨_, ok' b _ z⟩
    refine ⟨rfl, ⟨fun b o e => ?_, fun b o e => ?_⟩, os, bare⟩
    · by_cases hb : b ∈ tl
      · obtain ⟨m, hm⟩ := more b hb
        obtain ⟨p, hp, rfl⟩ := ofT b hb
        rw [tab p hp] at e
        cases e
        exact .inr (.inl ⟨((cod p hp).tab (tab p hp)).isCodeTable, rfl, #[], m, rfl, by rw [Array.empty_append]; exact hm⟩)
      · exact .inl (keep b o hb e)
    · by_cases hb : b ∈ tl
      · obtain ⟨m, hm⟩ := more b hb
        exact ⟨_, hm⟩
      · exact ⟨o, keep b o hb e⟩
  cases hk : K.lookup a with
  | some o =>
    have e := KX a o hk
    rw [ha] at e
    cases e
    refine step (fun b => if b ∈ tl then some (.tbl #[]) else none) (fun b => ?_) (fun b hb => if_pos hb) (.inr ⟨_, vs.toArray, _, hk, rfl, rfl, rfl, by rw [List.size_toArray, hi.length]; exact hl, by simpa using rel⟩) (fun b u z => ?_) fun b z => ?_
    · by_cases hb : b ∈ tl
      · exact .inr (.inl ⟨_, if_pos hb⟩)
      · exact .inl (if_neg hb)
    · by_cases hb : b ∈ tl
      · cases (if_pos hb).symm.trans z
        exact emp b hb
      · cases (if_neg hb).symm.trans z
    · by_cases hb : b ∈ tl
      · exact .inr hb
      · exact absurd (if_neg hb) z
  | none =>
    refine step (fun b => if b = a then some (HO.frz { cls := .type "list", data := .seq vs.toArray } (.lst (ns.map V.int))) else if b ∈ tl then some (.tbl #[]) else none) (fun b => ?_) (fun b hb => ?_) (.inl (.inr ⟨_, if_pos rfl⟩)) (fun b u z => ?_) fun b n => ?_
    · by_cases h1 : b = a
      · exact .inr (.inr ⟨_, _, if_pos h1⟩)
      · by_cases h2 : b ∈ tl
        · exact .inr (.inl ⟨_, (if_neg h1).trans (if_pos h2)⟩)
        · exact .inl ((if_neg h1).trans (if_neg h2))
    · exact (if_neg fun z => aT (by rw [← z]; exact hb)).trans (if_pos hb)
    · by_cases h1 : b = a
      · cases (if_pos h1).symm.trans z
        subst h1
        exact ⟨ha, by rw [List.length_map]; exact hl, vs, _, rel, ha⟩
      · by_cases h2 : b ∈ tl
        · cases (if_pos h2).symm.trans ((if_neg h1).symm.trans z)
          exact emp b h2
        · cases (if_neg h2).symm.trans ((if_neg h1).symm.trans z)
    · by_cases h1 : b = a
      · exact .inl ⟨h1, hk⟩
      · by_cases h2 : b ∈ tl
        · exact .inr h2
        · exact absurd ((if_neg h1).trans (if_neg h2)) n
theorem tab_code {K : PySem.W.Frag} {x : Str} {f c P : Addr} {oc : Value} {od : Option Addr} {fd : FuncData} {sl : Array (Option Value)} (g : PySem.W.nsIn K mainGlobals x = some (some (.ref f))) (l : K.lookup f = some ⟨oc, od, .func fd, sl⟩) (t : PySem.W.tabIn K x = some (c, P)) : fd.code = .ref c := by
  unfold PySem.W.tabIn at t
  rw [g] at t
  simp only [l] at t
  split at t
  · rename_i c2 hc
    split at t
    · split at t
      · cases t
        exact hc
      · cases t
    · cases t
  · cases t
/-- a def that makes lambdas: its code object is known -/
theorem okGC {P : Program} {w : World} {K : PySem.W.Frag} {mg : Str → Option Value} {base : Heap} {x qual : Str} {st : Stmt} {f c : Addr} {fd : FuncData} {N ps : List Str} {k : Nat} {sp : Sp} (F : Fun K x qual st f fd) (hc : fd.code = .ref c) (S : FnScope N ps (defScope st)) (len : ∀ xs H Q E, sp xs H Q E → xs.length = ps.length)
    (hb : ∀ (B : Around) (fr : List Env) (s : Shared) (H : Hp) (xs : List V) (Q : VK) (E : XK), B.guards = some [] → Room k (B.deeper (envOfC qual (defScope st) s.heap.objs.size f (.ref c))) → sp xs H Q E →
      ∃ t, PSs (cxOf CX0 P w K mg base N qual (defScope st) f (.ref c) B fr s H E).nox (defBody st) t ∧ t { nx := fun _ H' => Q .non H', rt := Q } (start N xs) H) : FnG P w K mg base CX0 (k + 1) f fd ps sp := by
  obtain ⟨oc, od, kV, doc, pm, an, cdv, ct, osl, rfl, lk, hcd⟩ := F.ex
  obtain rfl : cdv = .ref c := hc
  refine ⟨len, fun B fr s H a us xs Q E hg hr e0 hbd rel hsp => ?_⟩
  have ll := len _ _ _ _ hsp
  have kin : K.In s.heap := e0.mod.kin.keeps fun b o e => (e0.bs b o e).1
  have nol : s.heap.NoLimit := e0.mod.nolimit.keeps fun b o e => (e0.bs b o e).1
  have kd : ∀ y ∈ ps.zip us, (defScope st).names.lookup y.1 = some .local ∨ ((defScope st).names.lookup y.1 = some .cell ∧ ((cellsFrom (s.heap.objs.size + 1) (defScope st).names []).lookup y.1).isSome = true) := by
    intro y hy
    refine (S.par y.1 (List.of_mem_zip hy).1).imp id fun q => ⟨q, PySem.W.cellsFrom_some _ _ _ (.inl q)⟩
  refine codeAny_call_function hr.depth (kin _ _ lk) rfl S.co S.gen rfl (PySem.W.codeRec_of kin hcd) (hbd _ _ _ _ (wpAny_newFunctionEnv_cells S.kind kd fun env he s1 y => ?_))
  subst he
  refine ⟨nol.keeps y.toInCall.keep, codeAny_func ?_⟩
  obtain ⟨t, ht, q⟩ := hb B fr s H xs Q E hg (hr.deeper _) hsp
  have J : Inv (cxOf CX0 P w K mg base N qual (defScope st) f (.ref c) B fr s H E) [] (start N xs) H s1 := inv_start S hr.hd e0 ll rel y
  have close : ∀ {σ' : L2.St} {H' : Hp} {v : V} {u : Value} {s' : Shared}, Inv (cxOf CX0 P w K mg base N qual (defScope st) f (.ref c) B fr s H E) [] σ' H' s' → RelV v u → Q v H' → CE fr P w H s Q u s' :=
    fun j rv z => ⟨_, _, j.os, j.bare, j.base, j.hok, rv, z⟩
  refine wpAny_mono (ht.nox.run [] s1 (start N xs) H _ J q) (fun fl s' z => ?_) fun _ _ z => z
  rcases fl with _ | _ | _ | u
  all_goals first
    | (obtain ⟨v, σ', H', j, rv, z⟩ := z
       exact close j rv z)
    | (obtain ⟨_, _, _, z⟩ := z
       exact z.elim)
    | (obtain ⟨σ', H', j, z⟩ := z
       exact close (v := V.non) (u := Value.none) j rfl z)
/-- the law's facts at the head's heap: cs, code objects and their tables -/
structure LawT (P : Program) (w : World) (K : PySem.W.Frag) (mg : Str → Option Value) (h : Heap) (k : Nat) (fa : Addr) (x : Str) (cs : List (Addr × Addr)) (sp : Sp) : Prop where
  tab : ∀ p ∈ cs, h.get? p.2 = some { cls := .none, data := .fields #[] }
  off : ∀ p ∈ cs, K.lookup p.2 = none
  cod : ∀ p ∈ cs, PySem.W.CodeHd h p.1 p.2
  run : ∃ fd : FuncData, (∀ (s : Shared) (u : Value), BindsTo s fd ⟨[u], []⟩ [(x, u)]) ∧ ∀ base : Heap, K.In base → base.Ns mainGlobals mg → (∀ p ∈ cs, TabB base mg p.1 p.2) → FnG P w K mg base CX0 k fa fd [x] sp
theorem walkTG {l : PySem.W.OpenLaw} {n k : Nat} {q : Program} {loose : List Str} {XP : (Str → Option Value) → Heap → Prop} {YP : World → Heap → Prop} {d : DefRec} {K : Params → PySem.W.Frag} {x : Str}
    (hn : l.most = some n) (hn2 : n ≤ sizeLine) (hdf : d.params.defaults = []) (hr : Room k callerA) (hY : ∀ (w : World) (h : Heap), YP w h → (K w.params).In h)
    (F : ∀ (w : World) (mean : ExcName → Option Value) (mg mb : Str → Option Value) (fa : Addr) (h : Heap), Top q (PySem.W.looseW q loose) mean mg mb h → (K w.params).In h → h.Ns mainGlobals mg → mg d.name = some (.ref fa) →
      ∃ (cs : List (Addr × Addr)) (sp : Sp), LawT l.prog w (K w.params) mg h k fa x cs sp ∧
        ∀ (H : Hp) (a : Addr) (ns : List Int), ns.length ≤ n → Only2 H → (∀ p ∈ cs, H p.2 = some (.tbl #[])) → SqL (K w.params) H a (ns.map V.int) → sp [.ref a] H (fun v _ => v = .bl true) fun _ _ _ => False) :
    PySem.W.WalkO q loose XP YP l.row.toRowW d [] (fun f vs => PySem.call f vs) := by
  refine Att.attach_call hn hdf fun w _ s mg mb fa o pm cd doc a vs ns G Y _ _ _ hm ho hi ll gn => ?_
  have kx := hY w _ Y
  obtain ⟨cs, sp, L, hs⟩ := F w _ mg mb fa _ G.T kx G.T.g hm
  obtain ⟨fd, b, f⟩ := L.run
  exact law_callTG kx G.T.g G.T.b G.T.builtins G.T.nolimit gn L.tab L.off L.cod G.T.bmain ho hi (Nat.le_trans ll hn2) hr f b fun H h1 h2 h3 => hs H a ns ll h1 h2 h3
end Fn

set_option Elab.async false
set_option linter.all false
set_option maxRecDepth 100000
set_option maxHeartbeats 4000000
/-! raise C(e), C an own class over any built-in base, with an own __init__. -/
namespace Fn
open PySem PySem.Spec PyProof.Rows L2
section
variable {X : Cx} {o e : Expr} {es : List Expr} {to te : TE} {ta : TA} {f x : Str} {p p' pos : Pos}
theorem pmk_any {W : CXT} {C fI : Addr} {k : Nat} {fd : FuncData} {ps : List Str} {sp : Sp} (T : OwnX X.K C) (rs : Raises X (.ref C)) (iC : PySem.W.findIn X.K (.ref C) "__init__" = some (some (.ref fI))) (tI : PySem.W.typeIn X.K (.ref fI) = some (.type "function"))
    (F : FnOk X.prog X.w X.K X.mg X.base W k fI fd ps sp) (hr : Room (k + 1) X.A) (hb : Binds X.K fd ps []) (hx : Passes W X (fun _ _ _ => False)) (hg : Gl X x) (hm : X.mg x = some (.ref C)) (ha : PA X (e :: es) ta)
    (ndb : (x == ("__debug__" : Str)) = false := by decide) (st : starEach (e :: es) X.env = (false, eval e X.env) :: starEach es X.env := by rfl) (pl : (backTo pos (starEach es X.env)).any (·.1) = false := by rfl) :
    PMk X (.Call (.Name x p) (e :: es) [] pos) (tMkO C sp [] ta) := by
  intro pins s σ H Q I h
  refine wpAny_Call_Name_kw (ld_glob I hg hm ?_ ndb)
  refine PySem.W.callWith_K (h₀ := X.base) I.ok.mod.kin T.kp (thn (ha.run pos pins s σ H _ I h) fun us s1 ⟨vs, H1, J, r, sz, q⟩ => ⟨J.kIn, ?_⟩) st pl
  show wpAny _ _ (call (.ref C) us) _ _ _
  obtain ⟨B, n, i, bmB, T0, Z, hc⟩ := T.cls
  obtain ⟨nm, qn, N, bs, bm, sn, sub, ab, col, dd, k0, k1, k2, k3, k5, eC, ow⟩ := clsX_obj hc
  obtain ⟨hp, g, dr, tk, os⟩ := s1
  have ge : hp.objs.size ≤ hp.objs.size + 1 := Nat.le_succ _
  have up : ∀ b o, hp.get? b = some o → ((hp.push (PySem.W.kdv_tup us)).push (PySem.HandSPX.excO C hp.objs.size)).get? b = some o := fun _ _ z => Heap.get?_push_of_some _ (Heap.get?_push_of_some _ z)
  have new : ((hp.push (PySem.W.kdv_tup us)).push (PySem.HandSPX.excO C hp.objs.size)).get? (hp.objs.size + 1) = some (PySem.HandSPX.excO C hp.objs.size) := by heap_get
  have G : Inv X pins σ (upd H1 (hp.objs.size + 1) (exo (hp.objs.size + 1) C none)) ⟨(hp.push (PySem.W.kdv_tup us)).push (PySem.HandSPX.excO C hp.objs.size), g, dr, tk, os⟩ :=
    J.laid (t' := tk) up ge (exo_ok new)
  have sq := q _ (J.hok.fresh ge)
  rw [List.append_nil] at sq
  have r2 : Vals (V.ref (hp.objs.size + 1) :: vs) (Value.ref (hp.objs.size + 1) :: us) := .cons rfl r
  have ln : (Value.ref (hp.objs.size + 1) :: us ++ []).length = ps.length := by
    rw [List.append_nil]
    exact r2.length.symm.trans (F.len _ _ _ _ sq)
  have bd := hb ⟨(hp.push (PySem.W.kdv_tup us)).push (PySem.HandSPX.excO C hp.objs.size), g, dr, tk, os⟩ (Value.ref (hp.objs.size + 1) :: us) G.kIn ln
  rw [List.append_nil] at bd
  refine wpAny_call (newF_call (Z.new ow) (J.kIn _ _ eC) (PySem.W.looks_findIn J.kIn iC) (fun me => PySem.W.bind_fn J.kIn me tI) (by rw [← r.length, sizeLine_eq]; omega)
    (codeAny_mono (F.run _ X.stack _ _ ⟨Value.ref (hp.objs.size + 1) :: us, []⟩ _ _ _ (fun _ _ _ => False) (hr.make C us []) (G.env0.make C us []) bd r2 sq) fun r s' z => ?_))
  rcases r with er | (_ | _ | _ | u)
  all_goals first
    | exact hx pins σ _ _ er s' G z
    | exact False.elim z
    | skip
  obtain ⟨v, H2, o2, b2, un2, ok2, rv, ev, d, fs, ea, ed, hd1, q2⟩ := z
  subst ev
  obtain ⟨h2, g2, d2, t2, os2⟩ := s'
  exact ⟨rv, mk_end rs J ge up un2 ok2 o2 b2 ea ed hd1 q2⟩
end
end Fn

set_option Elab.async false
set_option linter.all false
set_option maxRecDepth 100000
set_option maxHeartbeats 4000000
/-! A def that calls what it got within a try, and tells by a text what came of it; such a def called with a lambda. -/
namespace Fn
open PySem PySem.Spec PyProof.Rows L2 LamX
theorem takes_len {X : Cx} {W : WX} (tk : Takes X W) : Takes X (fun c d σ H => σ.length = X.N.length → W c d σ H) := fun u s' ⟨a, B, sI, pins, σ, H, cls, d, e, I, nb, up, sky, na, os, ag, w⟩ =>
  tk u s' ⟨a, B, sI, pins, σ, H, cls, d, e, I, nb, up, sky, na, os, ag, w I.len⟩
/-- what comes of an exception: the clauses, from any values of the def's n names -/
def eMet (K : PySem.W.Frag) (n : Nat) (fine : Str) (l : List Cls1) (Q : VK) : XK := fun cls d H => ∀ σ : L2.St, σ.length = n → wAny K (fun _ _ _ _ => False) { nx := fun _ H' => Q (.str fine) H', rt := Q } l cls d σ H
def TMet (K : PySem.W.Frag) (n : Nat) (fine : Str) (l : List Cls1) : (XK → Hp → VK → Prop) → Hp → VK → Prop := fun tl H Q => tl (eMet K n fine l Q) H fun _ H' => Q (.str fine) H'
theorem gives_met {X : Cx} {Ng : List Str} {x a q fine : Str} {sg : Scope} {g : Addr} {cdg : Value} {j : Nat} {p1 p2 p3 p5 p6 p8 : Pos} {h₀ : ExceptHandler} {hds : List ExceptHandler} {l : List Cls1} (h0 : ∀ f : Addr, (L2.start Ng [V.ref f])[0]? = some (some (V.ref f)))
    (hh : ∀ (s : Shared) (H : Hp), HdsA (cxOf CX0 X.prog X.w X.K X.mg X.base Ng x sg g cdg X.A X.stack s H C8.E0).nox (h₀ :: hds) l) :
    GivesTo X Ng x sg g cdg [.Try [.Expr (.Call (.Name a p1) [] [] p2) p3] (h₀ :: hds) [] [] p8, .Return (some (.Constant (.str fine) j p5)) p6] a q (TMet X.K Ng.length fine l) := by
  intro f c' s H Q tl act hc h
  refine ⟨_, pss_cons (ps_tryA (X := (cxOf CX0 X.prog X.w X.K X.mg X.base Ng x sg g cdg X.A X.stack s H C8.E0).nox)
      (tb := fun W D σ H => ∃ Ech : XK, (∀ cls d σ' H', Ech cls d H' → σ'.length = Ng.length → W cls d σ' H') ∧ σ[0]? = some (some (.ref f)) ∧ H c' = some (CodeO c' q) ∧ tl Ech H fun _ H' => D.nx σ H')
      rfl rfl L2.takes0 (fun W pn xe tk _ => ?_) (hh s H)) (pss_one (ps_ret pe_str)), ?_⟩
  · refine ⟨fun pins s' σ H' D I h' => ?_⟩
    obtain ⟨Ech, hW, h1, h2, h3⟩ := h'
    have hp := act _ pn xe Ech p1 p2 (takes_len tk) hW
    have hq := pss_one (ps_expr (pos := p3) hp)
    exact hq.run pins s' σ H' D I ⟨h1, h2, h3⟩
  · exact ⟨eMet X.K Ng.length fine l Q, fun cls d σ' H' e hl => e σ' hl, h0 f, hc, h⟩
/-- x(lambda: body), by what is known of the def x -/
theorem pe_lam {X : Cx} {T : List (Addr × Str)} {TT : (XK → Hp → VK → Prop) → Hp → VK → Prop} {x a q : Str} {g c P : Addr} {k : Nat} {st : Stmt} {fd : FuncData} {Ng : List Str} {params : Arguments} {body : Expr} {scope : Scope} {t : XK → TE} {p lpos pos : Pos}
    (hg : Gl X x) (C : Cal X.K X.mg x g fd [a]) (F : Fun X.K x x st g fd) (Sg : FnScope Ng [a] (defScope st)) (hN : Ng[0]? = some a) (hv : Vis (defScope st) a) (hG : ∀ cdv, GivesTo X Ng x (defScope st) g cdv (defBody st) a (X.env.qual ++ "<lambda>") TT)
    (TB : TabB X.base X.mg c P) (hcode : X.env.code = .ref c) (hmT : (P, q) ∈ T) (hu : ∀ p ∈ T, p.1 = P → p.2 = q) (hr : Room (k + 2) X.A)
    (hbody : ∀ (A : Around) (outer : List Env) (s : Shared) (H : Hp) (E : XK) (f c' : Addr), Room k (A.deeper (lamEnv X scope s.heap.objs.size f c')) → PE (lamCx X A outer s H E scope f c') body (t E))
    (hq : X.env.qual ++ "<lambda>" = q := by rfl) (L : lamSB X.env.scope scope = true := by decide +kernel) (hdef : defaultsOf params X.env = ([], []) := by rfl)
    (hbind : ∀ (q : Str) (cl : List (Str × Addr)) (pm cv ctv : Value), bindArgs (PySem.W.kla_fn "<lambda>" q params body scope cl pm cv ctv) ⟨[], []⟩ = pure [] := by intros; rfl)
    (hdb : (x == ("__debug__" : Str)) = false := by decide) (hd : (a == ("__debug__" : Str)) = false := by decide) (hcd : (a == ("__classdict__" : Str)) = false := by decide) :
    PE X (.Call (.Name x p) [.Lambda params body scope lpos] [] pos) (tLam T TT t) := by
  obtain ⟨oc, od, kV, doc, pm, an, cdv, ct, osl, rfl, lk, hcg⟩ := F.ex
  subst hq
  exact pe_lamcall hg C.m C.k lk hcg C.b Sg hN hv (hG cdv) TB hcode hmT hu hr (lamS_by L) hdef hbind hbody hdb hd hcd
/-- a lambda's body may let out what it calls lets out -/
theorem passLam {X : Cx} {A : Around} {outer : List Env} {s : Shared} {H : Hp} {E : XK} {scope : Scope} {f c' : Addr} : Passes (L2.CX X.prog X.w) (lamCx X A outer s H E scope f c') E := fun pins σ H s e s' I h =>
  passes_call (X := lamCx X A outer _ _ E scope f c') (W := fun cls d _ H => E cls d H) (takes_of rfl rfl rfl rfl) (fun _ _ _ _ z => z) pins σ H s e s' I h
theorem passLamAt {X : Cx} {A : Around} {outer : List Env} {s : Shared} {H : Hp} {E : XK} {scope : Scope} {f c' : Addr} (σ : L2.St) : PassesAt (L2.CX X.prog X.w) (lamCx X A outer s H E scope f c') σ E := fun pins H s e s' I h => passLam pins σ H s e s' I h
theorem two_mem0 {a b : Addr} {x y : Str} : (a, x) ∈ [(a, x), (b, y)] := List.mem_cons_self
theorem two_mem1 {a b : Addr} {x y : Str} : (b, y) ∈ [(a, x), (b, y)] := List.mem_cons_of_mem _ List.mem_cons_self
theorem two_one0 {a b : Addr} {x y : Str} (n : a ≠ b) : ∀ p ∈ [(a, x), (b, y)], p.1 = a → p.2 = x := fun p hp e => by
  rcases List.mem_cons.mp hp with rfl | hp
  · rfl
  · rcases List.mem_cons.mp hp with rfl | hp
    · exact absurd e.symm n
    · cases hp
theorem two_one1 {a b : Addr} {x y : Str} (n : a ≠ b) : ∀ p ∈ [(a, x), (b, y)], p.1 = b → p.2 = y := fun p hp e => by
  rcases List.mem_cons.mp hp with rfl | hp
  · exact absurd e n
  · rcases List.mem_cons.mp hp with rfl | hp
    · rfl
    · cases hp
end Fn

set_option Elab.async false
set_option linter.all false
set_option maxRecDepth 100000
set_option maxHeartbeats 4000000
/-! A piece of a tuple: one end, whether it is the tuple itself or a new one. -/
namespace Fn
open PySem PySem.Spec PyProof.Rows L2
def rSlB : V → Option Int → Option Int → Hp → VK → Prop := fun x lo hi H Q => ∃ (a : Addr) (xs : List V) (i j : Nat), x = .ref a ∧ H a = some (.tup xs) ∧ HT.sIx xs.length 0 lo = i ∧ HT.sIx xs.length xs.length hi = j ∧
  ∀ (b : Addr) (H' : Hp), Same H H' → H' b = some (.tup ((xs.drop i).take (j - i))) → Q (.ref b) H'
theorem sl_tupB {X : Cx} : SlR X rSlB := by
  intro pins s σ H x v vl vu lo hi sl Q I rx hs pl pu h
  obtain ⟨a, xs, i, j, rfl, hT, e1, e2, q⟩ := h
  refine sl_tupA pins s σ H _ v vl vu lo hi sl Q I rx hs pl pu ⟨a, xs, rfl, SqT.of hT, fun z => ?_, fun z b hb => ?_⟩
  · rw [e1, e2] at z
    obtain ⟨rfl, rfl⟩ := z
    refine q a H (Same.refl H) ?_
    rw [List.drop_zero, Nat.sub_zero, List.take_length]
    exact hT
  · refine q b _ (fun c o e => by rw [upd_ne (ne_of_none e hb)]; exact e) ?_
    rw [upd_same]
    unfold cutV
    rw [e1, e2]
end Fn

set_option Elab.async false
set_option linter.all false
set_option maxRecDepth 100000
set_option maxHeartbeats 4000000
/-! l.extend(t), t a tuple. -/
namespace Fn
open PySem PySem.Spec PySem.AutoSeq1
/-- the list grows by what the tuple holds, whatever else its object has -/
theorem grow_by (a c : Addr) (xs ys : Array Value) (k j : Nat) (dd : Option Addr) (slo : Array (Option Value)) (short : ¬(!xs.isEmpty && Builtin.List.listTooLong (xs.size + ys.size)) = true) (fit : xs.size ≤ sizeLine) (fits : xs.size + ys.size ≤ sizeLine + 1) :
    Meets (Builtin.«list.extend» ⟨[.ref a, .ref c], []⟩) (fun _ R st => st.heap.get? a = some { cls := .type "list", data := .seq xs k } ∧ st.heap.get? c = some { cls := .type "tuple", dict := dd, data := .seq ys j, slots := slo } ∧ R (.ok (.ret Value.none)) { st with heap := st.heap.update a (Obj.mapSeq fun z => z ++ ys), toks := st.toks }) :=
  .of_wp fun prog w A R st h => by
    obtain ⟨heap, gens, dr, tks, os⟩ := st
    obtain ⟨atA, atC, done⟩ := h
    have i0 := idx_int
    have i1 := sub_tuple_tuple
    have i2 := sub_list_list
    have i3 := sub_tuple_list
    have i4 := sub_list_tuple
    have room : (xs ++ ys).size ≤ sizeLine + 1 := by
      rw [Array.size_append]
      exact fits
    wp_walk using (wpAny_updateSeq atA rfl (hz := fit) (_hz' := room)), wpAny_loadPart' atA, wpAny_loadPart' atC
    exact ⟨_, rfl, done⟩
end Fn
namespace Fn
open PySem PySem.Spec PyProof.Rows L2
def rExtendT : V → List V → Hp → VK → Prop := fun x vs H Q => ∃ l b xs zs, x = .ref l ∧ vs = [.ref b] ∧ H l = some (.lst xs) ∧ H b = some (.tup zs) ∧ xs.length + zs.length ≤ 100000 ∧ Q .non (upd H l (.lst (xs ++ zs)))
theorem mt_extendT {X : Cx} : MtM X "list.extend" rExtendT := by
  intro pins s σ H x vs v us Q I rx rv h
  obtain ⟨l, b, xs, zs, rfl, rfl, hH, hB, hz, q⟩ := h
  cases rx
  obtain ⟨u, rfl, ru⟩ := rv.one
  cases ru
  obtain ⟨z, its, n, r, hl, e⟩ := I.lstM hH
  obtain ⟨its2, r2, ⟨⟨c2, d2, da2, sl2⟩, ho2, hc2, n2, hd2⟩, _⟩ := I.tuple (SqT.of hB)
  cases hc2
  cases hd2
  have l1 := r.length
  have l2 := r2.length
  have hsz : its.toArray.size + its2.toArray.size ≤ sizeLine := by rw [List.size_toArray, List.size_toArray, sizeLine_eq]; omega
  have hlong : ¬ (!its.toArray.isEmpty && Builtin.List.listTooLong (its.toArray.size + its2.toArray.size)) = true := by
    rw [notLongL hsz, Bool.and_false]
    exact Bool.false_ne_true
  refine call_meets F.slot_list_extend ⟨_, e, rfl⟩ F.entry_list_extend (F.args_list_extend_2 _ _)
    (grow_by l b its.toArray its2.toArray n n2 d2 sl2 hlong (by rw [List.size_toArray, sizeLine_eq]; omega) (by omega)) ⟨e, ho2, ?_⟩
  refine ⟨.non, _, I.lset (its' := its ++ its2) hH e (by simp) (r.append r2) ?_, rfl, q⟩
  rw [List.length_append, sizeLine_eq]
  omega
end Fn

set_option Elab.async false
set_option linter.all false
set_option maxRecDepth 100000
set_option maxHeartbeats 4000000
/-! a & b and a | b by an own def of a's class, b of another kind or of the same class. -/
namespace PySem.W
open PySem PySem.Calls PyProof.Rows Builtin
section
variable {prog : Program} {w : World} {A : Around} {E : Value → Shared → Prop} {s : Shared} {K : Frag} {x C L f : Addr} {h₀ : Heap} {m : Str → Option Value} {ox : Obj} {od : Option Obj}
theorem inPython_own {M : Model} {h : Heap} {nm : String} (X : K.In h) (hs : findIn K (.ref C) (PySem.dunder nm) = some (some (.ref f))) (hr : findIn K (.ref C) (dunderR nm) = some none) : Looks M h (numberSlotInPython (.ref C) nm) true := by
  intro A Q E s k q
  unfold numberSlotInPython
  refine wpAny_bind (looks_findIn X hs A _ E s k ?_)
  refine wpAny_bind (wpAny_pure ?_)
  refine wpAny_bind (looks_findIn X hr A _ E s k ?_)
  refine wpAny_bind (wpAny_pure ?_)
  exact wpAny_pure q
theorem binop1_other {nm : String} {b : Value} {n : String} {rt : Bool} {o : Option Value} {Q : Value → Shared → Prop} (F : Fr h₀ L s.heap m) (X₀ : K.In h₀) (I : InstAt s.heap x ox C od) (hb : Looks (model prog w) s.heap (typeOf b) (.type n)) (hc : selfFirst K C = true)
    (hs : findIn K (.ref C) (PySem.dunder nm) = some (some (.ref f))) (hr : findIn K (.ref C) (dunderR nm) = some none) (hf : isFn K (.ref f) = true) (sub : subIn K (.type n) (.ref C) = some false)
    (fills : fillsNumberSlot (.type n) nm = pure rt) (look : typeLookup (.type n) (dunderR nm) = pure o)
    (h : wpAny (model prog w) A (call (.ref f) [.ref x, b]) (CmpBack Q) E s) : wpAny (model prog w) A (binaryOp1 nm (.ref x) b) (fun v s' => ∃ u, v = some u ∧ Q u s') E s := by
  have X := X₀.keeps F.keep
  obtain ⟨cd, hcd, hm⟩ := any_some hc
  obtain ⟨rest, hm⟩ : ∃ rest, cd.mro = .ref C :: rest := by
    cases q : cd.mro with
    | nil => rw [q] at hm; cases hm
    | cons a r => rw [q] at hm; exact ⟨r, by rw [List.head?_cons] at hm; cases (beq_iff_eq.mp hm); rfl⟩
  have ne : (Value.ref C == Value.type n) = false := by rfl
  have fin : wpAny (model prog w) A (tryMethod (.ref x) (PySem.dunder nm) b) (fun v s' => ∃ u, v = some u ∧ Q u s') E s := by
    unfold tryMethod
    refine wpAny_bind (special_fn X I hs (beq_iff_eq.mp hf) (wpAny_mono h (fun v s' hv => ?_) fun _ _ e => e))
    cases v <;> first | exact hv.elim | exact wpAny_pure ⟨_, rfl, hv⟩
  have e2 : numberSlotInPython (.type n) nm = (pure false : Sem Bool) := by
    unfold numberSlotInPython
    rfl
  unfold binaryOp1
  refine wpAny_bind (I.type.here (wpAny_bind (hb.here (wpAny_bind ((fills_K X hcd hm hs).here ?_)))))
  rw [ne]
  simp only [Bool.false_eq_true, if_false, fills, pure_bind, Bool.true_and]
  cases rt with
  | false =>
    simp only [Bool.false_eq_true, if_false, pure_bind, Bool.false_and, if_true]
    refine wpAny_bind (wpAny_mono fin (fun v s' z => ?_) fun _ _ e => e)
    obtain ⟨u, rfl, q⟩ := z
    exact wpAny_pure ⟨u, rfl, q⟩
  | true =>
    simp only [Bool.false_eq_true, if_false, pure_bind, Bool.true_and, if_true]
    refine wpAny_bind ((looks_subIn X sub).here ?_)
    simp only [Bool.false_eq_true, if_false, Bool.not_false, if_true]
    refine wpAny_bind ((inPython_own X hs hr).here ?_)
    simp only [Bool.false_eq_true, if_false, Bool.not_false, if_true, e2, pure_bind, look]
    refine wpAny_bind (wpAny_mono fin (fun v s' z => ?_) fun _ _ e => e)
    obtain ⟨u, rfl, q⟩ := z
    exact wpAny_pure ⟨u, rfl, q⟩
theorem binop_other {op : Operator} {b : Value} {n : String} {rt : Bool} {o : Option Value} {Q : Value → Shared → Prop} (F : Fr h₀ L s.heap m) (X₀ : K.In h₀) (I : InstAt s.heap x ox C od) (hb : Looks (model prog w) s.heap (typeOf b) (.type n)) (hc : selfFirst K C = true)
    (hs : findIn K (.ref C) (PySem.dunder op.info.2) = some (some (.ref f))) (hr : findIn K (.ref C) (dunderR op.info.2) = some none) (hf : isFn K (.ref f) = true) (sub : subIn K (.type n) (.ref C) = some false)
    (fills : fillsNumberSlot (.type n) op.info.2 = pure rt) (look : typeLookup (.type n) (dunderR op.info.2) = pure o)
    (h : wpAny (model prog w) A (call (.ref f) [.ref x, b]) (CmpBack Q) E s) : wpAny (model prog w) A (binaryOp op (.ref x) b) Q E s := by
  have k := binop1_other F X₀ I hb hc hs hr hf sub fills look h
  unfold binaryOp
  refine wpAny_holding (wpAny_bind ?_)
  refine wpAny_mono k (fun v s' z => ?_) fun _ _ e => e
  obtain ⟨u, rfl, q⟩ := z
  exact wpAny_pure q
end
end PySem.W
namespace Fn
open PySem PySem.Spec PyProof.Rows L2
/-- what the built-in kinds have of & and | -/
def Bits (nm : String) (n : String) : Prop := ∃ (rt : Bool) (o : Option Value), fillsNumberSlot (.type n) nm = pure rt ∧ typeLookup (.type n) (dunderR nm) = pure o
theorem bits_and : ∀ n ∈ tyNs, Bits "and" n := by
  intro n hn
  simp only [tyNs, List.mem_cons, List.not_mem_nil, or_false] at hn
  rcases hn with rfl | rfl | rfl | rfl | rfl | rfl | rfl
  · exact ⟨false, none, by kernel_rfl, by kernel_rfl⟩
  · exact ⟨true, some (.builtin "bool.__rand__"), by kernel_rfl, by kernel_rfl⟩
  · exact ⟨true, some (.builtin "int.__rand__"), by kernel_rfl, by kernel_rfl⟩
  · exact ⟨false, none, by kernel_rfl, by kernel_rfl⟩
  · exact ⟨false, none, by kernel_rfl, by kernel_rfl⟩
  · exact ⟨false, none, by kernel_rfl, by kernel_rfl⟩
  · exact ⟨false, none, by kernel_rfl, by kernel_rfl⟩
theorem bits_or : ∀ n ∈ tyNs, Bits "or" n := by
  intro n hn
  simp only [tyNs, List.mem_cons, List.not_mem_nil, or_false] at hn
  rcases hn with rfl | rfl | rfl | rfl | rfl | rfl | rfl
  · exact ⟨false, none, by kernel_rfl, by kernel_rfl⟩
  · exact ⟨true, some (.builtin "bool.__ror__"), by kernel_rfl, by kernel_rfl⟩
  · exact ⟨true, some (.builtin "int.__ror__"), by kernel_rfl, by kernel_rfl⟩
  · exact ⟨false, none, by kernel_rfl, by kernel_rfl⟩
  · exact ⟨false, none, by kernel_rfl, by kernel_rfl⟩
  · exact ⟨false, none, by kernel_rfl, by kernel_rfl⟩
  · exact ⟨true, some (.builtin "dict.__ror__"), by kernel_rfl, by kernel_rfl⟩
/-- what the written part says of the class, for & and | -/
structure BitC (K : PySem.W.Frag) (C : Addr) : Prop where
  self : PySem.W.selfFirst K C = true
  sub : ∀ n ∈ tyNs, PySem.W.subIn K (.type n) (.ref C) = some false
theorem bitC {K : PySem.W.Frag} {C : Addr} (h : bitB K C = true) : BitC K C := by
  obtain ⟨h1, h2⟩ := Bool.and_eq_true_iff.mp h
  exact ⟨h1, fun n hn => of_decide_eq_true (List.all_eq_true.mp h2 n hn)⟩
def rBitO (K : PySem.W.Frag) (C : Addr) (sp : Sp) (E : XK) : R2 := fun x y H Q => ∃ (a dx : Addr) (fs : List (Str × V)) (tb : Value), x = .ref a ∧ H a = some (.ins C dx fs) ∧ TyX K H y tb ∧ (tb = .ref C ∨ ∃ n ∈ tyNs, tb = .type n) ∧ sp [x, y] H Q E
theorem back_of {v : V} {u : Value} {Q : Value → Shared → Prop} {s : Shared} (r : RelV v u) (q : Q u s) : PySem.W.CmpBack Q u s := by
  cases v with
  | non => cases r; exact q
  | bl b => cases r; exact q
  | int i =>
    obtain ⟨t, rfl⟩ := r
    exact q
  | str x =>
    obtain ⟨t, rfl⟩ := r
    exact q
  | ref a => cases r; exact q
  | byt b =>
    first
      | (obtain ⟨t, rfl⟩ := r; exact q)
      | (cases r; exact q)
  | flt b =>
    first
      | (obtain ⟨t, rfl⟩ := r; exact q)
      | (cases r; exact q)
  | ty b =>
    first
      | (cases r; exact q)
      | (obtain ⟨t, rfl⟩ := r; exact q)
section
variable {X : Cx} {CX : CXT} {C g : Addr} {k : Nat} {sp : Sp} {E : XK} {op : Operator}
theorem op_bitO (bits : ∀ n ∈ tyNs, Bits op.info.2 n) (Z : BitC X.K C) (hs : PySem.W.findIn X.K (.ref C) (PySem.dunder op.info.2) = some (some (.ref g))) (hr' : PySem.W.findIn X.K (.ref C) (dunderR op.info.2) = some none) (hfn : PySem.W.isFn X.K (.ref g) = true)
    (F : FnR X.prog X.w X.K X.mg X.base CX k g sp) (hr : Room k X.A) (hx : Passes CX X E) : OpR X (binaryOp op) (rBitO X.K C sp E) := by
  intro pins s σ H x y v u Q I rx ry h
  obtain ⟨o, dx, fs, tb, rfl, ea, ty, hb, q⟩ := h
  cases (show v = Value.ref o from rx)
  obtain ⟨mA, O, _, _, _, _⟩ := ins_get I.hok ea
  obtain ⟨od, J, _⟩ := O.look
  obtain ⟨m, hF⟩ := I.fr
  obtain ⟨P, kx, hP, _⟩ := kit_of I ry ty
  have lb := kx.ty (model X.prog X.w) _ I.kIn hP
  have run : wpAny (model X.prog X.w) X.A (call (.ref g) [.ref o, u]) (PySem.W.CmpBack (fun u s' => EP X pins σ Q u s')) X.xe s :=
    wpAny_mono (wpAny_call (SlX.run_at (us := [.ref o, u]) (ws := [.ref o, y]) F hr I.env0 hx I (.cons rfl (.cons ry .nil)) q)) (fun r s' z => by
      obtain ⟨z', H', I', rz, qz⟩ := z
      exact back_of rz ⟨z', H', I', rz, qz⟩) fun _ _ z => z
  rcases hb with rfl | ⟨n, hn, rfl⟩
  · exact PySem.W.binop_K hF I.ok.mod.kin J lb Z.self hs hfn run
  · obtain ⟨rt, ot, f1, f2⟩ := bits n hn
    exact PySem.W.binop_other hF I.ok.mod.kin J lb Z.self hs hr' hfn (Z.sub n hn) f1 f2 run
end
end Fn

set_option Elab.async false
set_option linter.all false
set_option maxRecDepth 100000
set_option maxHeartbeats 4000000
/-! The facts of the own classes InvalidOperation and UnknownPlace, beside those of InvalidTerm and ParseError; which clause takes which of them. -/
namespace Fn
open PySem PySem.Spec PyProof.Rows L2
structure ErrZ (K : PySem.W.Frag) (mg : Str → Option Value) (c : Ta) (p : Pa) (e : Ea) : Prop where
  gO : mg "InvalidOperation" = some (.ref e.O)
  gU : mg "UnknownPlace" = some (.ref e.U)
  exc : PySem.W.excIn K e.O tVal "ValueError.__new__" = true
  kO : PySem.W.keepIn K (.ref e.O) = true
  rO : PySem.W.subIn K (.ref e.O) (.type "BaseException") = some true
  tO : PySem.W.typeIn K (.ref e.O) = some (.type "type")
  ini : IniC K e.U e.I "spot"
  xf : XfC K e.U
  rU : PySem.W.subIn K (.ref e.U) (.type "BaseException") = some true
  tU : PySem.W.typeIn K (.ref e.U) = some (.type "type")
  bit : BitC K c.T
  rand : PySem.W.findIn K (.ref c.T) (dunderR "and") = some none
  ror : PySem.W.findIn K (.ref c.T) (dunderR "or") = some none
  exm : ∀ i j : Nat, i < 4 → j < 4 → PySem.W.exmOne K (.ref (four c p e i)) (.ref (four c p e j)) = some (i == j)
theorem errZ {K : PySem.W.Frag} {mg : Str → Option Value} {c : Ta} {p : Pa} {e : Ea} (gO : mg "InvalidOperation" = some (.ref e.O)) (gU : mg "UnknownPlace" = some (.ref e.U)) (x : PySem.W.excIn K e.O tVal "ValueError.__new__" = true) (h : errB K c p e = true) : ErrZ K mg c p e := by
  simp only [errB, Bool.and_eq_true, decide_eq_true_eq] at h
  obtain ⟨h1, h2, h3, h4, h5, h6, h8, h9, h10, h7⟩ := h
  have y := exB_ok h4
  exact ⟨gO, gU, x, h1, h2, h3, iniB_ok bLok y h5, y.f, y.f.exC, h6, bitC h8, h9, h10, fun i j hi hj => of_decide_eq_true (List.all_eq_true.mp (List.all_eq_true.mp h7 i (List.mem_range.mpr hi)) j (List.mem_range.mpr hj))⟩
/-- the making of an exception that keeps y in the field f -/
theorem mkO_any {K : PySem.W.Frag} {C I : Addr} {f : Str} {H : Hp} {y : V} {E : XK} (R : IniC K C I f) (k : ∀ (dx : Addr) (H' : Hp), Same H H' → H' dx = some (.xd [(f, y)]) → E (.ref C) (some dx) H') :
    ([y].length ≤ 1000 ∧ ∀ a, H a = none → spIni K f (.ref a :: ([y] ++ [])) (upd H a (exo a C none)) (fun v H3 => v = .non ∧ ∃ (d : Addr) (fs : List (Str × V)), H3 a = some (exo a C (some d)) ∧ H3 d = some (exd d fs) ∧ H d = none ∧ E (.ref C) (some d) (upd (del H3 a) d (.xd fs))) fun _ _ _ => False) := by
  refine ⟨by show 1 ≤ 1000; decide, fun a na => ⟨a, C, y, rfl, R.o, R.n, upd_same, fun dx nd ne => ?_⟩⟩
  have nd' : H dx = none := by rw [upd_ne ne] at nd; exact nd
  refine ⟨rfl, dx, _, upd_same, by rw [upd_ne ne]; exact upd_same, nd', k dx _ (fun b o e => ?_) upd_same⟩
  have ba : b ≠ a := ne_of_none e na
  have bd : b ≠ dx := ne_of_none e nd'
  rw [upd_ne bd, del_ne ba, upd_ne ba, upd_ne bd, upd_ne ba]
  exact e
/-! ### the clauses of a def that tells which of the four came -/
section
variable {K : PySem.W.Frag} {c : Ta} {p : Pa} {e : Ea} {mg : Str → Option Value} {W : WX} {D : Ends} {t0 t1 t2 t3 : Addr → Value → Option Addr → TS} {i2 i3 : Nat} {d : Option Addr} {σ : L2.St} {H : Hp}
abbrev cl4 (c : Ta) (p : Pa) (e : Ea) (i2 i3 : Nat) (t0 t1 t2 t3 : Addr → Value → Option Addr → TS) : List Cls1 := [(.ref c.X, none, t0), (.ref e.O, none, t1), (.ref e.U, some i2, t2), (.ref p.C, some i3, t3)]
theorem met0 (Z : ErrZ K mg c p e) (h : ∀ a, H a = none → t0 a (.ref c.X) d D σ H) : wAny K W D (cl4 c p e i2 i3 t0 t1 t2 t3) (.ref c.X) d σ H :=
  ⟨true, Z.exm 0 0 (by decide) (by decide), fun _ a n => h a n, fun z => nomatch z⟩
theorem met1 (Z : ErrZ K mg c p e) (h : ∀ a, H a = none → t1 a (.ref e.O) d D σ H) : wAny K W D (cl4 c p e i2 i3 t0 t1 t2 t3) (.ref e.O) d σ H :=
  ⟨false, Z.exm 1 0 (by decide) (by decide), (fun z => nomatch z), fun _ => ⟨true, Z.exm 1 1 (by decide) (by decide), fun _ a n => h a n, fun z => nomatch z⟩⟩
theorem met2 (Z : ErrZ K mg c p e) (h : ∀ a, H a = none → t2 a (.ref e.U) d (offAt i2 D) (σ.set i2 (some (.ref a))) H) : wAny K W D (cl4 c p e i2 i3 t0 t1 t2 t3) (.ref e.U) d σ H :=
  ⟨false, Z.exm 2 0 (by decide) (by decide), (fun z => nomatch z), fun _ => ⟨false, Z.exm 2 1 (by decide) (by decide), (fun z => nomatch z), fun _ => ⟨true, Z.exm 2 2 (by decide) (by decide), fun _ a n => h a n, fun z => nomatch z⟩⟩⟩
theorem met3 (Z : ErrZ K mg c p e) (h : ∀ a, H a = none → t3 a (.ref p.C) d (offAt i3 D) (σ.set i3 (some (.ref a))) H) : wAny K W D (cl4 c p e i2 i3 t0 t1 t2 t3) (.ref p.C) d σ H :=
  ⟨false, Z.exm 3 0 (by decide) (by decide), (fun z => nomatch z), fun _ => ⟨false, Z.exm 3 1 (by decide) (by decide), (fun z => nomatch z), fun _ => ⟨false, Z.exm 3 2 (by decide) (by decide), (fun z => nomatch z), fun _ => ⟨true, Z.exm 3 3 (by decide) (by decide), fun _ a n => h a n, fun z => nomatch z⟩⟩⟩⟩
end
end Fn

set_option Elab.async false
set_option linter.all false
set_option maxRecDepth 100000
set_option maxHeartbeats 4000000
/-! repr of data, the empty dict among them. -/
namespace Fn
open PySem PySem.Spec PyProof.Rows L2
def Rq (K : PySem.W.Frag) (H : Hp) (v : V) (d : PyData) : Prop := Rr K H v d ∨ ∃ a : Addr, v = .ref a ∧ d = .dict [] ∧ H a = some (.dK [])
section
variable {X : Cx}
def rReprE (K : PySem.W.Frag) : List V → Hp → VK → Prop := fun xs H Q => ∃ v d, xs = [v] ∧ Rq K H v d ∧ d.showable = true ∧ d.depth ≤ 40 ∧ d.shown.length ≤ sizeLine ∧ Q (.str d.shown) H
theorem call_reprE {K : PySem.W.Frag} (hg : X.A.guards = some []) (hu : X.A.units + 64 < cLine) (hK : X.K = K := by rfl) : CallR X (.builtin "repr") (rReprE K) := by
  intro pins s σ H xs us Q I r h
  obtain ⟨v, d, e, hr, sh, dp, sz, q⟩ := h
  rcases hr with hr | ⟨a, rfl, rfl, ha⟩
  · exact call_reprD hg hu hK pins s σ H xs us Q I r ⟨v, d, e, hr, sh, dp, sz, q⟩
  · subst hK e
    obtain ⟨u, rfl, rv⟩ := vals1 r
    cases rv
    obtain ⟨_, ns, vs, kv, o, es, ep, ho, hx, hd, ks, pr, _⟩ := dk_of I.hok ha
    cases kv
    obtain ⟨el⟩ := es
    have pr' : Pairs (mixKind X.prog X.w) el [] := pr
    cases pr'
    have rd : Reads s.heap (.ref a) (.dict []) ([] ++ [] ++ [a]) := Reads.dict ho hx.1 hd (as := []) (bs := []) .nil .nil
    refine repr_of_reads' rd sh (fun _ m => ?_) hg (by omega) (fun _ _ e => e) (fun h' u tk hk => ⟨.str _, H, I.kept (t' := tk) hk, ⟨_, rfl⟩, q⟩) sz
    simp only [List.append_nil, List.nil_append, List.mem_singleton] at m
    subst m
    simp at ns
end
end Fn

set_option Elab.async false
set_option linter.all false
set_option maxRecDepth 100000
set_option maxHeartbeats 4000000
/-! o.m() by a positional promise; a walk over the keys of a dict that was made there. -/
namespace Fn
open PySem PySem.Spec PyProof.Rows L2
theorem pe_methR0 {X : Cx} {CX : CXT} {k : Nat} {C f : Addr} {m : Str} {sp : Sp} {E : XK} {o : Expr} {ta : TE} {apos pos : Pos} {pl : Sem Bool} (ho : PE X o ta) (c : Cls X.K C) (hm : Meth X.K C m f)
    (F : FnR X.prog X.w X.K X.mg X.base CX k f sp) (hr : Room k X.A) (hx : Passes CX X E)
    (ht : eval (.Call (.Attribute o m apos) [] [] pos) X.env = (do let ov ← eval o X.env; standAt apos.atName; let (f, first) ← holding [ov] (getMethod ov m pl); callWith pos f first (backTo pos (starEach [] X.env)) (backToKw pos (keywordEach [] X.env))) := by rfl) :
    PE X (.Call (.Attribute o m apos) [] [] pos) (tMethR C m sp E ta tNil) := ⟨fun pins s σ H Q I h => by
  refine PySem.W.methodCall_KW (pl := pl) (thn (ho.run pins s σ H _ I h) fun u s1 z => ?_) ht
  obtain ⟨x, H1, I1, rx, a, dx, fs, ex, ea, l, q⟩ := z
  subst ex
  obtain rfl : u = Value.ref a := rx
  refine getmeth_ok I1 ea c hm l (PySem.W.callWith_K0 (first := [.ref a]) I1.kIn hm.kp ?_)
  exact wpAny_call (run_fnR (us := [.ref a]) (vs := [.ref a]) F hr hx I1 (.cons rfl .nil) q)⟩
def iKeysN (td : TE) : TI := fun σ H R => td σ H fun x H1 => ∃ d u kvs, x = .ref d ∧ H1 d = some u ∧ DM d u kvs ∧ ∀ o, R (Mtk d o u kvs) (upd H1 d (.frz o u))
theorem pi_keysN {X : Cx} {tg e : Expr} {td : TE} (he : PE X e td) : PI X tg e (iKeysN td) := by
  refine ⟨fun pins s σ H R I h => ?_⟩
  refine thn (he.run pins s σ H _ I h) fun v s1 ⟨x, H1, I1, rx, d, u, kvs, ex, hd, D, q⟩ => ?_
  subst ex
  obtain rfl : v = Value.ref d := rx
  obtain ⟨o, I2⟩ := I1.lock hd D.mut
  obtain ⟨hs, hz, es, ep, hdt, hr, ent⟩ := frzM I2 (o := o) upd_same D
  exact wpAny_pyIter_dict_raw hs hr (pi_one (tk := s1.toks) I2 _ (turn_keysM D _ hdt) ⟨_, Heap.get?_push_size _ rfl, rfl, rfl⟩ (q o))
theorem op_bitOk {X : Cx} {K : PySem.W.Frag} {CX : CXT} {C g : Addr} {k : Nat} {sp : Sp} {E : XK} {op : Operator} (hK : X.K = K) (bits : ∀ n ∈ tyNs, Bits op.info.2 n) (Z : BitC K C) (hs : PySem.W.findIn K (.ref C) (PySem.dunder op.info.2) = some (some (.ref g)))
    (hr' : PySem.W.findIn K (.ref C) (dunderR op.info.2) = some none) (hfn : PySem.W.isFn K (.ref g) = true) (F : FnR X.prog X.w K X.mg X.base CX k g sp) (hr : Room k X.A) (hx : Passes CX X E) : OpR X (binaryOp op) (rBitO K C sp E) := by
  subst hK
  exact op_bitO bits Z hs hr' hfn F hr hx
end Fn

set_option Elab.async false
set_option linter.all false
set_option maxRecDepth 100000
set_option maxHeartbeats 4000000
/-! x != {}: x a dict with keys of texts and ints, or None, a list, an int, a text. -/
namespace Fn
open PySem PySem.Spec PyProof.Rows L2 PySem.SeqAt PySem.AutoSeq1
theorem sub_dict (T : String) (h : (isSubtype (.type T) (.type "dict") = pure false) := by rw [isSubtype_type]; kernel_rfl) : isSubtype (.type T) (.type "dict") = pure false := h
theorem sub_of_dict (T : String) (h : (isSubtype (.type "dict") (.type T) = pure false) := by rw [isSubtype_type]; kernel_rfl) : isSubtype (.type "dict") (.type T) = pure false := h
section
variable {prog : Program} {w : World} {A : Around} {E : Value → Shared → Prop} {s : Shared} {d : Addr} {Q : Value → Shared → Prop}
/-- the dict's own answer to what is no dict -/
theorem dict_declines {x : Value} {T : String} (hd : s.TypeIs (.ref d) "dict") (hx : s.TypeIs x T) (sub : isSubtype (.type T) (.type "dict") = pure false) (q : Q .notImplemented s) : wpAny (model prog w) A (call (.builtin "dict.__ne__") [.ref d, x]) Q E s := by
  refine wpAny_call_entry PySem.F.slot_dict_ne hd PySem.F.entry_dict_ne ?_ (PySem.F.args_dict_ne_2 _ _)
  show wpAny _ _ (Builtin.Dict.dictSlotArgs "__ne__" ⟨[.ref d, x], []⟩ >>= fun _ => _) _ _ s
  unfold Builtin.Dict.dictSlotArgs
  refine wpAny_bind (wpAny_bind (wpAny_notOrdered_dict hd (wpAny_pure (wpAny_bind (wpAny_isInstance (T := T) hx sub ?_)))))
  simp only [Bool.not_false, if_true]
  wp_walk
  exact ⟨_, rfl, q⟩
/-- x against a dict, where both leave it to the other -/
theorem ne_dict {x : Value} {T id : String} (hd : s.TypeIs (.ref d) "dict") (hx : s.TypeIs x T) (ne : (Value.type T != Value.type "dict") = true) (s1 : isSubtype (.type T) (.type "dict") = pure false) (s2 : isSubtype (.type "dict") (.type T) = pure false) (sl : Slot T (cmpInfo .NotEq).2.1 id)
    (left : ∀ Q' : Value → Shared → Prop, Q' .notImplemented s → wpAny (model prog w) A (call (.builtin id) [x, .ref d]) Q' E s) (same : ∀ Q' : Bool → Shared → Prop, Q' false s → wpAny (model prog w) A (isSame x (.ref d)) Q' E s) (hu : A.units < cLine) (q : Q (.bool true) s) :
    wpAny (model prog w) A (compareOp .NotEq x (.ref d)) Q E s :=
  rc_ne_decline_or (k := false) hx hd ne s2 sl PySem.F.slot_dict_ne_refl left (fun Q' z => dict_declines hd hx s1 z) same (.inr hu) q
end
theorem int_declines (b : Int) (u : Tok) (l : Addr) (es : Array DictEntry) (ep : Nat) (dd : Option Addr) (sl : Array (Option Value)) :
    Meets (Builtin.«int.__ne__» ⟨[.int b u, .ref l], []⟩) (fun _ R s => s.heap.get? l = some { cls := .type "dict", dict := dd, data := .dict es ep, slots := sl } ∧ R (.ok (.ret .notImplemented)) s) :=
  .of_wp fun prog w A R s h => by
    obtain ⟨hp, g, dr, tk, os⟩ := s; obtain ⟨hl, h⟩ := h
    wp_walk using wpAny_load hl
    exact ⟨_, rfl, h⟩
theorem str_declines (b : Str) (u : Tok) (l : Addr) (es : Array DictEntry) (ep : Nat) (dd : Option Addr) (sl : Array (Option Value)) :
    Meets (Builtin.«str.__ne__» ⟨[.str b u, .ref l], []⟩) (fun _ R s => s.heap.get? l = some { cls := .type "dict", dict := dd, data := .dict es ep, slots := sl } ∧ R (.ok (.ret .notImplemented)) s) :=
  .of_wp fun prog w A R s h => by
    obtain ⟨hp, g, dr, tk, os⟩ := s; obtain ⟨hl, h⟩ := h
    wp_walk using wpAny_load hl
    exact ⟨_, rfl, h⟩
theorem list_declines (l c : Addr) (xs : Array Value) (n : Nat) (d1 : Option Addr) (sl1 : Array (Option Value)) (es : Array DictEntry) (ep : Nat) (dd : Option Addr) (sl : Array (Option Value)) :
    Meets (Builtin.«list.__ne__» ⟨[.ref c, .ref l], []⟩) (fun _ R s => s.heap.get? c = some { cls := .type "list", dict := d1, data := .seq xs n, slots := sl1 } ∧ s.heap.get? l = some { cls := .type "dict", dict := dd, data := .dict es ep, slots := sl } ∧ R (.ok (.ret .notImplemented)) s) :=
  .of_wp fun prog w A R s h => by
    obtain ⟨hp, g, dr, tk, os⟩ := s; obtain ⟨hc, hl, h⟩ := h
    have f1 : isSubtype (.type "dict") (.type "list") = pure false := sub_of_dict "list"
    wp_walk using wpAny_loadPart' hc, wpAny_load hl
    exact ⟨_, rfl, h⟩
def rNeE (K : PySem.W.Frag) : R2 := fun x y H Q => ∃ b : Addr, y = .ref b ∧ H b = some (.dK []) ∧
  ((∃ (a : Addr) (ks : List (Key × V)), x = .ref a ∧ H a = some (.dK ks) ∧ Q (.bl (!ks.isEmpty)) H) ∨
    (Q (.bl true) H ∧ (x = .non ∨ (∃ i, x = .int i) ∨ (∃ z, x = .str z) ∨ ∃ a xs, x = .ref a ∧ H a = some (.lst xs))))
theorem op_neE {X : Cx} {K : PySem.W.Frag} (hu : X.A.units < cLine) (hK : X.K = K := by rfl) : OpR X (compareOp .NotEq) (rNeE K) := by
  intro pins s σ H x y v u Q I rx ry h
  obtain ⟨b, rfl, eb, h⟩ := h
  obtain rfl : u = Value.ref b := ry
  obtain ⟨_, yb, vb, rb, db⟩ := (show ObjOk X.prog X.w H s.heap b (.dK []) from I.hok b _ eb)
  have tb := db.typeIs
  rcases h with ⟨a, ks, rfl, ea, q⟩ | ⟨q, h⟩
  · obtain rfl : v = Value.ref a := rx
    obtain ⟨_, ya, va, ra, da⟩ := (show ObjOk X.prog X.w H s.heap a (.dK ks) from I.hok a _ ea)
    have lb : vb.length = 0 := by rw [← rb.length]; rfl
    have la : va.length = ks.length := ra.length.symm
    cases ks with
    | nil =>
      have la' : va.length = 0 := la
      exact PySem.W.keq_ne (knd := mixKind X.prog X.w) (r := true) ya yb da db hu (fun _ => hits_all rb ra fun p hp => (by cases hp)) (fin_bl I q (by rw [la', lb]; rfl))
    | cons k ks =>
      have la' : va.length = ks.length + 1 := la
      exact PySem.W.keq_ne (knd := mixKind X.prog X.w) (r := true) ya yb da db hu (fun e => absurd e (by omega)) (fin_bl I q (by rw [la', lb]; rfl))
  · have fin : EP X pins σ Q (.bool true) s := ⟨.bl true, H, I, rfl, q⟩
    obtain ⟨⟨oc, od, oa, os⟩, es, ep, ho, hx, hd⟩ : ∃ (o : Obj) (es : Array DictEntry) (ep : Nat), s.heap.get? b = some o ∧ o.cls = .type "dict" ∧ o.data = .dict es ep := by
      obtain ⟨o, es, ep, ho, hx, hd, _⟩ := db
      exact ⟨o, es, ep, ho, hx.1, hd⟩
    have hx : oc = .type "dict" := hx
    have hd : oa = .dict es ep := hd
    subst hx hd
    rcases h with rfl | ⟨i, rfl⟩ | ⟨z, rfl⟩ | ⟨a, xs, rfl, ha⟩
    · cases (show v = Value.none from rx)
      exact ne_dict tb (T := "NoneType") rfl (by decide) (sub_dict "NoneType") (sub_of_dict "NoneType") PySem.F.slot_NoneType_ne (fun _ hq => call_gives PySem.F.slot_NoneType_ne rfl PySem.F.entry_NoneType_ne (PySem.F.args_NoneType_ne_2 _ _) (NoneType___ne___none_ref_0 b) hq)
        (fun _ hq => wpAny_of_eq (rfl : isSame .none (.ref b) = pure false) hq) hu fin
    · obtain ⟨t, rfl⟩ := (show ∃ t, v = Value.int i t from rx)
      exact ne_dict tb (T := "int") (typeIs_int s i t) (by decide) (sub_dict "int") (sub_of_dict "int") PySem.F.slot_int_ne (fun _ hq => call_meets PySem.F.slot_int_ne (typeIs_int s i t) PySem.F.entry_int_ne (PySem.F.args_int_ne_2 _ _) (int_declines i t b es ep _ _) ⟨ho, hq⟩)
        (fun _ hq => wpAny_of_eq (rfl : isSame (.int i t) (.ref b) = pure false) hq) hu fin
    · obtain ⟨t, rfl⟩ := (show ∃ t, v = Value.str z t from rx)
      exact ne_dict tb (T := "str") (typeIs_str s z t) (by decide) (sub_dict "str") (sub_of_dict "str") PySem.F.slot_str_ne (fun _ hq => call_meets PySem.F.slot_str_ne (typeIs_str s z t) PySem.F.entry_str_ne (PySem.F.args_str_ne_2 _ _) (str_declines z t b es ep _ _) ⟨ho, hq⟩)
        (fun _ hq => wpAny_of_eq (rfl : isSame (.str z t) (.ref b) = pure false) hq) hu fin
    · cases (show v = Value.ref a from rx)
      obtain ⟨its, r, ⟨⟨cc, cd, ca, cs⟩, n, hc, ec, _, ed⟩, hz⟩ := I.list (SqL.of ha)
      have ec : cc = .type "list" := ec
      have ed : ca = .seq its.toArray n := ed
      subst ec ed
      have ta : s.TypeIs (.ref a) "list" := ⟨_, hc, rfl⟩
      have nab : ¬ a = b := fun z => by
        subst z
        rw [ha] at eb
        cases eb
      exact ne_dict tb (T := "list") ta (by decide) (sub_dict "list") (sub_of_dict "list") PySem.F.slot_list_ne (fun _ hq => call_meets PySem.F.slot_list_ne ta PySem.F.entry_list_ne (PySem.F.args_list_ne_2 _ _) (list_declines b a its.toArray n _ _ es ep _ _) ⟨hc, ho, hq⟩)
        (fun _ hq => wpAny_isSame_ref_other nab hc ho (fun z => absurd (show Value.type "list" = Value.type "tuple" from z) (by decide)) hq) hu fin
end Fn

set_option Elab.async false
set_option linter.all false
set_option maxRecDepth 100000
set_option maxHeartbeats 4000000
/-! What the clauses of such a def tell: a text; a text and the repr of a field. -/
namespace Fn
open PySem PySem.Spec PyProof.Rows L2
theorem PSs_imp {X : Cx} {b : List Stmt} {t u : TS} (h : PSs X b t) (f : ∀ D σ H, u D σ H → t D σ H) : PSs X b u := ⟨fun pins s σ H D I q => h.run pins s σ H D I (f D σ H q)⟩
def tSay (x : Str) : Addr → Value → Option Addr → TS := fun _ _ _ D _ H => D.rt (.str x) H
theorem say_plain {X : Cx} {a : Addr} {cls : Value} {d : Option Addr} {x : Str} {j : Nat} {p1 p2 : Pos} : PSs X [.Return (some (.Constant (.str x) j p1)) p2] (tSay x a cls d) := PSs_imp (pss_one (ps_ret pe_str)) fun D σ H q => q
/-- a field's repr behind a text -/
structure Said (K : PySem.W.Frag) (pre f : Str) (d : Option Addr) (H : Hp) (Q : VK) : Prop where
  ex : ∃ (dd : Addr) (fs : List (Str × V)) (v : V) (dt : PyData), d = some dd ∧ H dd = some (.xd fs) ∧ fs.lookup f = some v ∧ Rq K H v dt ∧ dt.showable = true ∧ dt.depth ≤ 40 ∧ dt.shown.length ≤ 5000 ∧ Q (.str (pre ++ dt.shown)) H
def tSayF (K : PySem.W.Frag) (C : Addr) (i : Nat) (pre f : Str) : Addr → Value → Option Addr → TS := fun a cls d D σ H => σ[i]? = some (some (.ref a)) ∧ cls = .ref C ∧ Said K pre f d H D.rt
theorem say_named {X : Cx} {a C : Addr} {oe : Obj} {cls : Value} {d : Option Addr} {pn : List (Addr × Obj)} {pre n f : Str} {i j : Nat} {p1 p2 p3 p4 p5 p6 p7 : Pos} (T : XfC X.K C) (hno : PySem.W.findIn X.K (.ref C) f = some none) (hz : Zc cls d oe) (hf : ∃ vs, oe.data = .fields vs)
    (hN : X.N[i]? = some n) (hv : Vis X.env.scope n) (hg : X.A.guards = some []) (hu : X.A.units + 64 < cLine) (gr : Gl X "repr") (mr : X.mg "repr" = none) (hp : pre.length ≤ 1000)
    (hd : (n == ("__debug__" : Str)) = false := by decide) (hcd : (n == ("__classdict__" : Str)) = false := by decide) (hb : attributeBase (.Name n p3) f X.env (eval (.Name n p3) X.env) = eval (.Name n p3) X.env := by rfl) :
    PSs (X.suite a ((a, oe) :: pn)) [.Return (some (.BinOp (.Constant (.str pre) j p1) .Add (.Call (.Name "repr" p2) [.Attribute (.Name n p3) f p4] [] p5) p6)) p7] (tSayF X.K C i pre f a cls d) := by
  refine PSs_imp (pss_one (ps_ret (pe_op op_add_str pe_str (pe_callB (call_reprE (K := X.K) (by exact hg) (by exact hu)) gr mr (by decide +kernel) (pa_cons (pe_xf T hno hz hf (pe_var (i := i) hN hv hd hcd) hb) pa_nil))))) fun D σ H ⟨h1, h2, ⟨dd, fs, v, dt, e1, e2, e3, e4, e5, e6, e7, q⟩⟩ => ?_
  refine ⟨_, h1, rfl, h2, dd, fs, v, e1, e2, e3, v, dt, rfl, e4, e5, e6, Nat.le_trans e7 (by decide), ?_⟩
  exact ⟨_, _, rfl, rfl, by rw [sizeLine_eq]; omega, q⟩
end Fn

set_option Elab.async false
set_option linter.all false
set_option maxRecDepth 100000
set_option maxHeartbeats 4000000
/-! Written dicts whose keys are tuples: of texts and numbers (told as such a dict), of truth values, too (told by pairs of values). -/
namespace Fn
open PySem PySem.Spec PyProof.Rows L2
theorem store_cons {prog : Program} {w : World} {A : Around} {E : Value → Shared → Prop} {s : Shared} {d : Addr} {k v : Value} {r : List (Value × Value)} {Q : PUnit → Shared → Prop}
    (h : wpAny (model prog w) A (dictSet d k v) (fun _ s' => wpAny (model prog w) A (storeAll d r) Q E s') E s) : wpAny (model prog w) A (storeAll d ((k, v) :: r)) Q E s := by
  unfold storeAll at h ⊢
  rw [List.forIn_cons]
  refine wpAny_bind (wpAny_bind (wpAny_mono h (fun u s' q => ?_) fun _ _ e => e))
  exact wpAny_pure q
theorem store_nil {prog : Program} {w : World} {A : Around} {E : Value → Shared → Prop} {s : Shared} {d : Addr} {Q : PUnit → Shared → Prop} (h : Q ⟨⟩ s) : wpAny (model prog w) A (storeAll d []) Q E s := by
  unfold storeAll
  rw [List.forIn_nil]
  exact wpAny_pure h
def KeysT (H : Hp) (ps : List (V × V)) (kvs : List (List Key × V)) : Prop := Paired (fun p kv => ∃ b, p = (V.ref b, kv.2) ∧ H b = some (.tup (kv.1.map kV))) ps kvs
theorem upd_id {H : Hp} {a : Addr} {o : HO} (h : H a = some o) : upd H a o = H := by
  funext b
  by_cases e : b = a
  · rw [e, upd_same, h]
  · rw [upd_ne e]
theorem at_none {κ : Type} [DecidableEq κ] {xs : List (κ × Addr × Value)} {k : κ} (h : k ∉ xs.map Prod.fst) : atKey xs k = none := by
  unfold atKey
  rw [List.find?_eq_none.mpr fun x hx e => h (List.mem_map.mpr ⟨x, hx, of_decide_eq_true e⟩)]
  rfl
theorem pairApp {α β : Type} {F : α → β → Prop} : ∀ {as cs : List α} {bs ds : List β}, Paired F as bs → Paired F cs ds → Paired F (as ++ cs) (bs ++ ds)
  | _, _, _, _, .nil, r => r
  | _, _, _, _, .cons a h, r => .cons a (pairApp h r)
theorem kt_fst {H : Hp} : ∀ {kvs : List (List Key × V)} {xs : List (List Key × Addr × Value)}, KT H kvs xs → xs.map Prod.fst = kvs.map Prod.fst
  | [], [], _ => rfl
  | [], _ :: _, h => by cases h
  | _ :: _, [], h => by cases h
  | k :: kvs, x :: xs, h => by
    cases h with
    | cons a r => rw [List.map_cons, List.map_cons, kt_fst r, a.1]
section
variable {X : Cx} {pins : List (Addr × Obj)} {σ : L2.St} {d : Addr} {Q : PUnit → Shared → Prop} {A : Around} {E : Value → Shared → Prop}
theorem dispT_loop (hu : A.units < cLine) : ∀ {rest : List (V × V)} {vs : List (Value × Value)} {kvs acc : List (List Key × V)} {H : Hp} {s : Shared}, L2.Inv X pins σ H s → H d = some (.dT acc) → VV rest vs → KeysT H rest kvs →
    (acc.map Prod.fst ++ kvs.map Prod.fst).Nodup → acc.length + kvs.length ≤ 15 → (∀ s', L2.Inv X pins σ (upd H d (.dT (acc ++ kvs))) s' → Q ⟨⟩ s') → wpAny (model X.prog X.w) A (storeAll d vs) Q E s
  | [], vs, kvs, acc, H, s, I, hd, hv, hk, nd, hl, q => by
    cases hk
    cases hv
    refine store_nil (q _ ?_)
    rw [List.append_nil, upd_id hd]
    exact I
  | p :: rest, vs, kvs, acc, H, s, I, hd, hv, hk, nd, hl, q => by
    cases hk with
    | @cons _ kv _ kvs h hk =>
    cases hv with
    | @cons _ uv _ vs r hv =>
    obtain ⟨b, rfl, hb⟩ := h
    obtain ⟨u, v⟩ := uv
    obtain ⟨r1, r2⟩ := r
    cases (show u = Value.ref b from r1)
    obtain ⟨z, hs, xs, kt, D⟩ := dt_of I.hok hd
    have bd : b ≠ d := fun e => by rw [e, hd] at hb; cases hb
    have nk : kv.1 ∉ xs.map Prod.fst := by
      rw [kt_fst kt]
      intro m
      rw [List.nodup_append] at nd
      exact nd.2.2 _ m kv.1 (by rw [List.map_cons]; exact List.mem_cons_self) rfl
    have lx : xs.length = acc.length := (Paired.length kt).symm
    rw [List.length_cons] at hl
    have big : 15 ≤ sizeLine := by rw [sizeLine_eq]; decide
    refine store_cons (wpAny_dictSet_heap (knd := tupleKind (mixKind X.prog X.w)) hu (key_of I.hok hb) D (fun h' D' sb => ?_) (by omega))
    rw [show storedH xs kv.1 b v = xs ++ [(kv.1, b, v)] from by
      unfold storedH
      rw [at_none nk]
      rfl] at D'
    obtain ⟨o, es, ep, g, ex, dat, tol, _, ndx⟩ := id D'
    have I' := d_write (ob := .dT (acc ++ [kv])) (t' := s.toks + (tupleKind (mixKind X.prog X.w)).draws kv.1) I (by rw [hd]; exact True.intro) sb ⟨o, g⟩ ⟨by rw [List.length_append]; show acc.length + 1 ≤ sizeLine; omega, hs, xs ++ [(kv.1, b, v)], by
      refine pairApp (L2.Paired.mapP kt fun p q e => ⟨e.1, ?_, e.2.2⟩) (.cons ⟨rfl, by rw [upd_ne bd]; exact hb, r2⟩ .nil)
      rw [upd_ne (fun z => by
        have := e.2.1
        rw [z, hd] at this
        cases this)]
      exact e.2.1, o, es, ep, g, ex, dat, tol, ndx⟩
    refine dispT_loop hu I' upd_same hv (L2.Paired.mapP hk fun p q e => ?_) ?_ (by rw [List.length_append]; show acc.length + 1 + kvs.length ≤ 15; omega) fun s' I2 => q s' ?_
    · obtain ⟨b', e1, e2⟩ := e
      exact ⟨b', e1, by rw [upd_ne (fun z => by rw [z, hd] at e2; cases e2)]; exact e2⟩
    · rw [List.map_append, List.append_assoc]
      exact nd
    · rw [upd_upd, List.append_assoc] at I2
      exact I2
end
/-- {k: v, ..} whose keys are different tuples of texts and numbers -/
def tDispT (trs : List (TE × TE)) : TE := fun σ H Q => ∀ p, H p = none → tPairs trs σ (upd H p (.dT [])) fun ps H2 => H2 p = some (.dT []) ∧ ∃ kvs : List (List Key × V), KeysT H2 ps kvs ∧ (kvs.map Prod.fst).Nodup ∧ kvs.length ≤ 15 ∧ Q (.ref p) (upd H2 p (.dT kvs))
theorem pe_dispT {X : Cx} {pos : Pos} {keys : List (Option Expr)} {values : List Expr} {trs : List (TE × TE)} (hu : X.A.units < cLine) (h : PPs X pos keys values trs) (h1 : (keys.all fun x => x.isSome) = true) (h2 : keys.length = values.length) (h3 : keys ≠ []) (h4 : keys.length ≤ 15) :
    PE X (.Dict keys values pos) (tDispT trs) := by
  refine ⟨fun pins s σ H Q I q => ?_⟩
  refine wpAny_Dict_any h1 h2 h3 h4 ?_
  have I0 : L2.Inv X pins σ (upd H s.heap.objs.size (.dT [])) { s with heap := s.heap.push { cls := .type "dict", data := .dict #[] } } :=
    I.laid (t' := s.toks) (fun b u e => Heap.get?_push_of_some _ e) (Nat.le_refl _) (dt_empty s.heap I.big)
  refine wpAny_mono (h.run pins _ σ _ _ I0 (q _ (I.hok.fresh (Nat.le_refl _)))) (fun vs s' z => ?_) fun _ _ e => e
  obtain ⟨ps, H', I', hv, hd, kvs, hk, nd, hl, q'⟩ := z
  refine dispT_loop hu I' hd hv hk (by rw [List.map_nil, List.nil_append]; exact nd) (by simpa using hl) fun s'' I2 => ?_
  exact ⟨.ref _, _, I2, rfl, q'⟩
/-- a text, a number, a truth value or None -/
def leafK : V → Option NestedKey
  | .non => some .none
  | .bl b => some (.num (if b = true then 1 else 0))
  | .int i => some (.num i)
  | .str x => some (.text x)
  | _ => none
theorem leaf_is {h : Heap} {x : V} {u : Value} {k : NestedKey} (r : RelV x u) (e : leafK x = some k) : NestedIs h k u ∧ k.depth = 0 := by
  cases x with
  | non => cases e; cases (show u = Value.none from r); exact ⟨.none, by simp [NestedKey.depth]⟩
  | bl b => cases e; cases (show u = Value.bool b from r); exact ⟨.bool rfl, by simp [NestedKey.depth]⟩
  | int i => cases e; obtain ⟨t, rfl⟩ := (show ∃ t, u = Value.int i t from r); exact ⟨.int i t, by simp [NestedKey.depth]⟩
  | str y => cases e; obtain ⟨t, rfl⟩ := (show ∃ t, u = Value.str y t from r); exact ⟨.text y t, by simp [NestedKey.depth]⟩
  | _ => cases e
theorem leaf_all {h : Heap} : ∀ {xs : List V} {us : List Value}, Vals xs us → (∀ x ∈ xs, (leafK x).isSome = true) → ∃ ks, NestedAll h ks us ∧ NestedKey.depthAll ks = 0
  | [], [], _, _ => ⟨[], .nil, by simp [NestedKey.depthAll]⟩
  | [], _ :: _, h, _ => by cases h
  | _ :: _, [], h, _ => by cases h
  | x :: xs, u :: us, r, hl => by
    cases r with
    | cons a r =>
      obtain ⟨ks, h1, h2⟩ := leaf_all (h := h) r fun y hy => hl y (List.mem_cons_of_mem _ hy)
      obtain ⟨k, e⟩ := Option.isSome_iff_exists.mp (hl x List.mem_cons_self)
      obtain ⟨h3, h4⟩ := leaf_is (h := h) a e
      exact ⟨k :: ks, .cons h3 h1, by simp only [NestedKey.depthAll, h2, h4]; rfl⟩
/-- {k: v} whose key is a tuple of plain values -/
def tDispN (trs : List (TE × TE)) : TE := fun σ H Q => ∀ p, H p = none → tPairs trs σ (upd H p (.dT [])) fun ps H2 => H2 p = some (.dT []) ∧ ∃ (b : Addr) (v : V) (xs : List V), ps = [(.ref b, v)] ∧ H2 b = some (.tup xs) ∧ (∀ x ∈ xs, (leafK x).isSome = true) ∧
  Q (.ref p) (upd H2 p (MxO p [(.ref b, v)]))
theorem pe_dispN {X : Cx} {pos : Pos} {keys : List (Option Expr)} {values : List Expr} {trs : List (TE × TE)} (hu : X.A.units + 64 < cLine) (h : PPs X pos keys values trs) (h1 : (keys.all fun x => x.isSome) = true) (h2 : keys.length = values.length) (h3 : keys ≠ []) (h4 : keys.length ≤ 15) :
    PE X (.Dict keys values pos) (tDispN trs) := by
  refine ⟨fun pins s σ H Q I q => ?_⟩
  refine wpAny_Dict_any h1 h2 h3 h4 ?_
  have I0 : L2.Inv X pins σ (upd H s.heap.objs.size (.dT [])) { s with heap := s.heap.push { cls := .type "dict", data := .dict #[] } } :=
    I.laid (t' := s.toks) (fun b u e => Heap.get?_push_of_some _ e) (Nat.le_refl _) (dt_empty s.heap I.big)
  refine wpAny_mono (h.run pins _ σ _ _ I0 (q _ (I.hok.fresh (Nat.le_refl _)))) (fun vs s' z => ?_) fun _ _ e => e
  generalize s.heap.objs.size = d at z
  obtain ⟨ps, H', I', hv, hd, b, v, xs, rfl, hb, hx, q'⟩ := z
  cases hv with
  | @cons _ uv _ vs r hv =>
  cases hv
  obtain ⟨u, vv⟩ := uv
  obtain ⟨r1, r2⟩ := r
  cases (show u = Value.ref b from r1)
  obtain ⟨z, hs, ys, kt, o, es, ep, g, ex, dat, tol, _, _⟩ := dt_of I'.hok hd
  cases kt
  obtain ⟨_, its, rt, o', g1, g2, n, g3⟩ := (show ObjOk X.prog X.w H' s'.heap b (.tup xs) from I'.hok b _ hb)
  obtain ⟨ks, ka, kd⟩ := leaf_all (h := s'.heap) rt hx
  have his : (nestedKind X.prog X.w).is s'.heap (.tup ks) b := ⟨.tup g1 g2 g3 (by simpa using ka), by simp only [NestedKey.depth, kd]; decide⟩
  have D : Heap.DictOfH (nestedKind X.prog X.w) s'.heap d [] := ⟨o, es, ep, g, ex, dat, tol, (fun x hx => nomatch hx), List.nodup_nil⟩
  refine store_cons (wpAny_dictSet_heap (knd := nestedKind X.prog X.w) (show X.A.units + 8 < cLine by omega) his D (fun h' D' sb => ?_) (by simp))
  have D' : Heap.DictOfH (nestedKind X.prog X.w) h' d [(.tup ks, b, vv)] := D'
  obtain ⟨es', ep', raw, sz, he⟩ := D'.raw
  have ent : EntV [(V.ref b, v)] es' := by
    refine ⟨sz, fun i k w hk => ?_⟩
    have i0 : i = 0 := by
      have := (List.getElem?_eq_some_iff.mp hk).1
      simp at this
      exact this
    subst i0
    cases hk
    have l0 : 0 < es'.size := by rw [sz]; exact Nat.one_pos
    obtain ⟨y, h1, h2, h3, _⟩ := he 0 l0
    cases h1
    exact ⟨es'[0], Array.getElem?_eq_getElem l0, by rw [h2]; rfl, by rw [h3]; exact r2⟩
  refine store_nil ?_
  refine ⟨.ref d, _, d_write (ob := MxO d [(V.ref b, v)]) (t' := s'.toks + (nestedKind X.prog X.w).draws (.tup ks)) I' (by rw [hd]; exact True.intro) sb (let ⟨q, hq, _⟩ := raw; ⟨q, hq⟩) ?_, rfl, q'⟩
  refine ⟨⟨hs, by rw [sizeLine_eq]; exact Nat.le_of_ble_eq_true rfl, es', ep', raw, ent⟩, (let ⟨q, hq, _⟩ := raw; ⟨q, hq⟩), fun h1 h2 p kk => ?_⟩
  obtain ⟨p1, p2, es1, ep1, r1, e1⟩ := p
  exact ⟨p1, p2, es1, ep1, r1.at kk, e1⟩
/-- a walk over the keys of a dict, whatever they are -/
def iKeysU (td : TE) : TI := fun σ H R => td σ H fun x H1 => ∃ d o, x = .ref d ∧ ((∃ u kvs, H1 d = some (.frz o u) ∧ DM d u kvs ∧ R (Mtk d o u kvs) H1) ∨ ∃ kvs, H1 d = some (.frz o (.dT kvs)) ∧ R (Itkt d o kvs) H1)
theorem pi_keysU {X : Cx} {tg e : Expr} {td : TE} (he : PE X e td) : PI X tg e (iKeysU td) := by
  refine ⟨fun pins s σ H R I h => ?_⟩
  refine thn (he.run pins s σ H _ I h) fun v s1 ⟨x, H1, I1, rx, d, o, ex, z⟩ => ?_
  subst ex
  obtain rfl : v = Value.ref d := rx
  rcases z with ⟨u, kvs, hd, D, q⟩ | ⟨kvs, hd, q⟩
  · obtain ⟨hs, hz, es, ep, hdt, hr, ent⟩ := frzM I1 hd D
    exact wpAny_pyIter_dict_raw hs hr (pi_one (tk := s1.toks) I1 _ (turn_keysM D _ hdt) ⟨_, Heap.get?_push_size _ rfl, rfl, rfl⟩ q)
  · obtain ⟨hs, ho, hx, es, ep, hdt, hz, _⟩ := I1.frzT hd
    refine iter_keys hs ho hx hdt ?_
    rw [hz]
    exact pi_one (tk := s1.toks) I1 _ (turn_keysT _ hdt) ⟨_, Heap.get?_push_size _ rfl, rfl, rfl⟩ q
end Fn

set_option Elab.async false
set_option linter.all false
set_option maxRecDepth 100000
set_option maxHeartbeats 4000000
/-! The facts of the own classes InvalidTable, InvalidRows, InvalidProgram, InvalidOperation and ParseError, and that nothing plain is a Program; which clause takes which. What is never reached; the smaller of two numbers, or of two rows of numbers. -/
namespace Fn
open PySem PySem.Spec PyProof.Rows L2
structure TexZ (K : PySem.W.Frag) (mg : Str → Option Value) (x : Xa) : Prop where
  gB : mg "InvalidTable" = some (.ref x.B)
  gR : mg "InvalidRows" = some (.ref x.R)
  gP : mg "InvalidProgram" = some (.ref x.P)
  gO : mg "InvalidOperation" = some (.ref x.O)
  gC : mg "ParseError" = some (.ref x.C)
  gG : mg "Program" = some (.ref x.G)
  exc : ∀ i < 4, PySem.W.excIn K (five x i) tVal "ValueError.__new__" = true
  keep : ∀ i < 4, PySem.W.keepIn K (.ref (five x i)) = true
  sub : ∀ i < 4, PySem.W.subIn K (.ref (five x i)) (.type "BaseException") = some true
  ty : ∀ i < 4, PySem.W.typeIn K (.ref (five x i)) = some (.type "type")
  o : OexC K x.C
  ini : IniC K x.C x.I "line"
  xf : XfC K x.C
  exm : ∀ i j : Nat, i < 5 → j < 5 → PySem.W.exmOne K (.ref (five x i)) (.ref (five x j)) = some (i == j)
  kit : ∀ n ∈ tyNs, PySem.W.kitOne K (.type n) (.ref x.G) = some false
theorem four_of {p : Nat → Prop} (h0 : p 0) (h1 : p 1) (h2 : p 2) (h3 : p 3) : ∀ i < 4, p i
  | 0, _ => h0
  | 1, _ => h1
  | 2, _ => h2
  | 3, _ => h3
  | n + 4, h => absurd h (by omega)
theorem texZ {K : PySem.W.Frag} {mg : Str → Option Value} {x : Xa} (gB : mg "InvalidTable" = some (.ref x.B)) (gR : mg "InvalidRows" = some (.ref x.R)) (gP : mg "InvalidProgram" = some (.ref x.P)) (gO : mg "InvalidOperation" = some (.ref x.O)) (gC : mg "ParseError" = some (.ref x.C)) (gG : mg "Program" = some (.ref x.G))
    (eB : PySem.W.excIn K x.B tVal "ValueError.__new__" = true) (eR : PySem.W.excIn K x.R tVal "ValueError.__new__" = true) (eP : PySem.W.excIn K x.P tVal "ValueError.__new__" = true) (eO : PySem.W.excIn K x.O tVal "ValueError.__new__" = true) (h : texB K x = true) : TexZ K mg x := by
  simp only [texB, Bool.and_eq_true, decide_eq_true_eq] at h
  obtain ⟨h0, h1, h2, h3, h4, h5⟩ := h
  have e := exB_ok h1
  have i := iniB_ok bVal e h2
  have h2' := h2
  simp only [iniB, Bool.and_eq_true, decide_eq_true_eq] at h2'
  obtain ⟨nm, q, N, bs, bm, sn, sub, ab, col, dd, k0, k1, k2, k3, k5, hl, ho⟩ := clsX_obj h2'.1
  have f4 : ∀ i < 4, PySem.W.keepIn K (.ref (five x i)) = true ∧ PySem.W.subIn K (.ref (five x i)) (.type "BaseException") = some true ∧ PySem.W.typeIn K (.ref (five x i)) = some (.type "type") := fun i hi => by
    have z := List.all_eq_true.mp h0 i (List.mem_range.mpr hi)
    simp only [Bool.and_eq_true, decide_eq_true_eq] at z
    exact z
  exact ⟨gB, gR, gP, gO, gC, gG, four_of eB eR eP eO, fun i hi => (f4 i hi).1, fun i hi => (f4 i hi).2.1, fun i hi => (f4 i hi).2.2,
    ⟨⟨nm, q, N, bs, bm, sn, sub, ab, col, dd, k0, k1, k2, k3, k5, hl, refs_of ho⟩, i.o.sa, e.f.exC, h3, e.k⟩, i, e.f, fun i j hi hj => of_decide_eq_true (List.all_eq_true.mp (List.all_eq_true.mp h5 i (List.mem_range.mpr hi)) j (List.mem_range.mpr hj)),
    fun n hn => of_decide_eq_true (List.all_eq_true.mp h4 n hn)⟩
section
variable {K : PySem.W.Frag} {mg : Str → Option Value} {x : Xa} {W : WX} {D : Ends} {t0 t1 t2 t3 t4 : Addr → Value → Option Addr → TS} {i4 : Nat} {d : Option Addr} {σ : L2.St} {H : Hp}
abbrev cl5 (x : Xa) (i4 : Nat) (t0 t1 t2 t3 t4 : Addr → Value → Option Addr → TS) : List Cls1 := [(.ref x.B, none, t0), (.ref x.R, none, t1), (.ref x.P, none, t2), (.ref x.O, none, t3), (.ref x.C, some i4, t4)]
theorem tex0 (Z : TexZ K mg x) (h : ∀ a, H a = none → t0 a (.ref x.B) d D σ H) : wAny K W D (cl5 x i4 t0 t1 t2 t3 t4) (.ref x.B) d σ H :=
  ⟨true, Z.exm 0 0 (by decide) (by decide), fun _ a n => h a n, fun z => nomatch z⟩
theorem tex1 (Z : TexZ K mg x) (h : ∀ a, H a = none → t1 a (.ref x.R) d D σ H) : wAny K W D (cl5 x i4 t0 t1 t2 t3 t4) (.ref x.R) d σ H :=
  ⟨false, Z.exm 1 0 (by decide) (by decide), (fun z => nomatch z), fun _ => ⟨true, Z.exm 1 1 (by decide) (by decide), fun _ a n => h a n, fun z => nomatch z⟩⟩
theorem tex2 (Z : TexZ K mg x) (h : ∀ a, H a = none → t2 a (.ref x.P) d D σ H) : wAny K W D (cl5 x i4 t0 t1 t2 t3 t4) (.ref x.P) d σ H :=
  ⟨false, Z.exm 2 0 (by decide) (by decide), (fun z => nomatch z), fun _ => ⟨false, Z.exm 2 1 (by decide) (by decide), (fun z => nomatch z), fun _ => ⟨true, Z.exm 2 2 (by decide) (by decide), fun _ a n => h a n, fun z => nomatch z⟩⟩⟩
theorem tex3 (Z : TexZ K mg x) (h : ∀ a, H a = none → t3 a (.ref x.O) d D σ H) : wAny K W D (cl5 x i4 t0 t1 t2 t3 t4) (.ref x.O) d σ H :=
  ⟨false, Z.exm 3 0 (by decide) (by decide), (fun z => nomatch z), fun _ => ⟨false, Z.exm 3 1 (by decide) (by decide), (fun z => nomatch z), fun _ => ⟨false, Z.exm 3 2 (by decide) (by decide), (fun z => nomatch z), fun _ => ⟨true, Z.exm 3 3 (by decide) (by decide), fun _ a n => h a n, fun z => nomatch z⟩⟩⟩⟩
theorem tex4 (Z : TexZ K mg x) (h : ∀ a, H a = none → t4 a (.ref x.C) d (offAt i4 D) (σ.set i4 (some (.ref a))) H) : wAny K W D (cl5 x i4 t0 t1 t2 t3 t4) (.ref x.C) d σ H :=
  ⟨false, Z.exm 4 0 (by decide) (by decide), (fun z => nomatch z), fun _ => ⟨false, Z.exm 4 1 (by decide) (by decide), (fun z => nomatch z), fun _ => ⟨false, Z.exm 4 2 (by decide) (by decide), (fun z => nomatch z), fun _ => ⟨false, Z.exm 4 3 (by decide) (by decide), (fun z => nomatch z), fun _ => ⟨true, Z.exm 4 4 (by decide) (by decide), fun _ a n => h a n, fun z => nomatch z⟩⟩⟩⟩⟩
end
/-! ### what is never reached -/
theorem pe_dead {X : Cx} {e : Expr} : PE X e (fun _ _ _ => False) := ⟨fun _ _ _ _ _ _ h => h.elim⟩
theorem pa_starK {X : Cx} {K : PySem.W.Frag} {e : Expr} {es : List Expr} {te : TE} {t : TA} {p : Pos} (h : PE X e te) (h2 : PA X es t) (hK : X.K = K := by rfl) (hs : starEach (.Starred e p :: es) X.env = (true, eval e X.env) :: starEach es X.env := by rfl) : PA X (.Starred e p :: es) (StX.tStar K te t) := by
  subst hK
  exact StX.pa_star h h2 hs
/-! ### less: two numbers, or two tuples of numbers -/
def rLtU (K : PySem.W.Frag) : R2 := fun x y H Q => (∃ i j : Int, x = .int i ∧ y = .int j ∧ Q (.bl (decide (i < j))) H) ∨ rLtT K x y H Q
theorem op_ltU {X : Cx} {K : PySem.W.Frag} (hu : X.A.units < cLine) (hK : X.K = K := by rfl) : OpR X (compareOp .Lt) (rLtU K) := fun pins s σ H x y u v Q I r1 r2 h => by
  subst hK
  rcases h with ⟨i, j, e1, e2, q⟩ | h
  · exact op_lt pins s σ H x y u v Q I r1 r2 ⟨i, j, e1, e2, q⟩
  · exact op_ltT hu pins s σ H x y u v Q I r1 r2 h
end Fn

set_option Elab.async false
set_option linter.all false
set_option maxRecDepth 100000
set_option maxHeartbeats 4000000
/-! Written values: a text, a number, None, a truth value, an empty dict, and tuples and lists of such, as data that lie in what is new. -/
namespace Fn
open PySem PySem.Spec PyProof.Rows L2
/-- what is new in a heap -/
def newIn (H H' : Hp) : Hp := fun b => if (H b).isSome = true then none else H' b
section
variable {H H1 H2 : Hp}
theorem newIn_at {b : Addr} (n : H b = none) : newIn H H1 b = H1 b := by
  unfold newIn
  rw [n]
  rfl
theorem newIn_some {b : Addr} {o : HO} (h : newIn H H1 b = some o) : H b = none ∧ H1 b = some o := by
  unfold newIn at h
  cases z : H b with
  | none => rw [z] at h; exact ⟨rfl, h⟩
  | some x => rw [z] at h; cases h
theorem newIn_l (s : Same H1 H2) : Same (newIn H H1) (newIn H H2) := fun b o h => by
  obtain ⟨n, e⟩ := newIn_some h
  rw [newIn_at n]
  exact s _ _ e
theorem newIn_r (s : Same H H1) : Same (newIn H1 H2) (newIn H H2) := fun b o h => by
  obtain ⟨n, e⟩ := newIn_some h
  have n0 : H b = none := by
    cases z : H b with
    | none => rfl
    | some x => rw [s _ _ z] at n; cases n
  rw [newIn_at n0]
  exact e
theorem newIn_all : Same (newIn H H1) H1 := fun b o h => (newIn_some h).2
theorem newIn_del {p : Addr} {o : HO} (hp : H p = some o) : Same (newIn H H1) (del H1 p) := fun b q h => by
  obtain ⟨n, e⟩ := newIn_some h
  rw [del_ne (fun z => by rw [z, hp] at n; cases n)]
  exact e
theorem new_none {p : Addr} (s : Same H H1) (n : H1 p = none) : H p = none := by
  cases z : H p with
  | none => rfl
  | some x => rw [s _ _ z] at n; cases n
theorem upd_sm {p : Addr} {o : HO} (n : H p = none) : Same H (upd H p o) := fun b q h => by
  rw [upd_ne (fun z => by rw [z, n] at h; cases h)]
  exact h
end
theorem PE_imp {X : Cx} {e : Expr} {t u : TE} (h : PE X e t) (f : ∀ σ H Q, u σ H Q → t σ H Q) : PE X e u := ⟨fun pins s σ H Q I q => h.run pins s σ H Q I (f σ H Q q)⟩
theorem PA_imp {X : Cx} {es : List Expr} {t u : TA} (h : PA X es t) (f : ∀ σ H Q, u σ H Q → t σ H Q) : PA X es u := ⟨fun pos pins s σ H Q I q => h.run pos pins s σ H Q I (f σ H Q q)⟩
def tLit (d : PyData) : TE := fun _ H Q => ∀ v H', Same H H' → Dx (newIn H H') v d → Q v H'
def tLits (ds : List PyData) : TA := fun _ H Q => ∀ vs H', Same H H' → DxAll (newIn H H') vs ds → Q vs H'
section
variable {X : Cx}
theorem lit_non {j : Nat} {pos : Pos} : PE X (.Constant .none j pos) (tLit .none) := PE_imp pe_non fun σ H Q q => q _ H (Same.refl H) .non
theorem lit_int {i : Int} {j : Nat} {pos : Pos} : PE X (.Constant (.int i) j pos) (tLit (.int i)) := PE_imp pe_int fun σ H Q q => q _ H (Same.refl H) (.int i)
theorem lit_str {x : Str} {j : Nat} {pos : Pos} : PE X (.Constant (.str x) j pos) (tLit (.str x)) := PE_imp pe_str fun σ H Q q => q _ H (Same.refl H) (.str x)
theorem lit_of {e : Expr} {v : V} {d : PyData} (h : PE X e (tC v)) (hd : ∀ H, Dx H v d) : PE X e (tLit d) := PE_imp h fun σ H Q q => q _ H (Same.refl H) (hd _)
theorem lit_bl {b : Bool} {j : Nat} {pos : Pos} : PE X (.Constant (.bool b) j pos) (tLit (.bool b)) := PE_imp pe_bl fun σ H Q q => q _ H (Same.refl H) (.bl b)
theorem lit_neg {i : Int} {j : Nat} {p1 p2 : Pos} : PE X (.UnaryOp .USub (.Constant (.int i) j p1) p2) (tLit (.int (-i))) := PE_imp (pe_un un_neg pe_int) fun σ H Q q => ⟨_, rfl, q _ H (Same.refl H) (.int _)⟩
theorem lit_pow {i j : Int} {k l : Nat} {p1 p2 p3 : Pos} (c : CPowW i j) : PE X (.BinOp (.Constant (.int i) k p1) .Pow (.Constant (.int j) l p2) p3) (tLit (.int (i ^ j.toNat))) := PE_imp (pe_op op_powW pe_int pe_int) fun σ H Q q => ⟨_, _, rfl, rfl, c, q _ H (Same.refl H) (.int _)⟩
theorem lits_nil : PA X [] (tLits []) := PA_imp pa_nil fun σ H Q q => q [] H (Same.refl H) .nil
theorem lits_cons {e : Expr} {es : List Expr} {d : PyData} {ds : List PyData} (h : PE X e (tLit d)) (h2 : PA X es (tLits ds)) (hs : starEach (e :: es) X.env = (false, eval e X.env) :: starEach es X.env := by rfl) : PA X (e :: es) (tLits (d :: ds)) :=
  PA_imp (pa_cons h h2 hs) fun σ H Q q => fun v H1 s1 x1 vs H2 s2 x2 => q (v :: vs) H2 (s1.trans s2) (.cons (x1.same (newIn_l s2)) (x2.same (newIn_r s1)))
theorem lit_tup {es : List Expr} {ds : List PyData} {k : Nat} {pos : Pos} (h : PA X es (tLits ds)) (hl : ds.length ≤ 1000 := by decide) : PE X (.Tuple es k pos) (tLit (.tuple ds)) :=
  PE_imp (pe_tup h) fun σ H Q q => fun vs H1 s1 x1 => ⟨by rw [x1.len, sizeLine_eq]; omega, fun p n => q (.ref p) _ (s1.trans (upd_sm n)) (.tup (by rw [newIn_at (new_none s1 n)]; exact upd_same) (x1.same (newIn_l (upd_sm n))))⟩
theorem lit_lst {es : List Expr} {ds : List PyData} {pos : Pos} (h : PA X es (tLits ds)) (hl : ds.length ≤ 1000 := by decide) : PE X (.List es pos) (tLit (.list ds)) :=
  PE_imp (pe_lst h) fun σ H Q q => fun vs H1 s1 x1 => ⟨by rw [x1.len, sizeLine_eq]; omega, fun p n => q (.ref p) _ (s1.trans (upd_sm n)) (.lst (by rw [newIn_at (new_none s1 n)]; exact upd_same) (x1.same (newIn_l (upd_sm n))))⟩
theorem lit_dict {pos : Pos} : PE X (.Dict [] [] pos) (tLit (.dict [])) := PE_imp pe_dnewK fun σ H Q q => fun p n => q (.ref p) _ (upd_sm n) (.dct (by rw [newIn_at n]; exact upd_same))
end
end Fn

set_option Elab.async false
set_option linter.all false
set_option maxRecDepth 100000
set_option maxHeartbeats 4000000
/-! The entry of a law over a head by facts. -/
namespace Fn
open PySem PySem.Spec PyProof.Rows L2
/-! ### the entry -/
theorem walkTX {l : PySem.W.OpenLaw} {n k : Nat} {q : Program} {loose : List Str} {XP : (Str → Option Value) → Heap → Prop} {YP : World → Heap → Prop} {d : DefRec} {x : Str}
    (hn : l.most = some n) (hn2 : n ≤ sizeLine) (hdf : d.params.defaults = []) (hr : Room k callerA)
    (F : ∀ (w : World) (mean : ExcName → Option Value) (mg mb : Str → Option Value) (fa : Addr) (h : Heap), Top q (PySem.W.looseW q loose) mean mg mb h → YP w h → h.Ns mainGlobals mg → mg d.name = some (.ref fa) →
      ∃ K : PySem.W.Frag, K.In h ∧ ∃ (cs : List (Addr × Addr)) (sp : Sp), LawT l.prog w K mg h k fa x cs sp ∧
        ∀ (H : Hp) (a : Addr) (ns : List Int), ns.length ≤ n → Only2 H → (∀ p ∈ cs, H p.2 = some (.tbl #[])) → SqL K H a (ns.map V.int) → sp [.ref a] H (fun v _ => v = .bl true) fun _ _ _ => False) :
    PySem.W.WalkO q loose XP YP l.row.toRowW d [] (fun f vs => PySem.call f vs) := by
  refine Att.attach_call hn hdf fun w _ s mg mb fa o pm cd doc a vs ns G Y _ _ _ hm ho hi ll gn => ?_
  obtain ⟨K, kx, cs, sp, L, hs⟩ := F w _ mg mb fa _ G.T Y G.T.g hm
  obtain ⟨fd, b, f⟩ := L.run
  exact law_callTG kx G.T.g G.T.b G.T.builtins G.T.nolimit gn L.tab L.off L.cod G.T.bmain ho hi (Nat.le_trans ll hn2) hr f b fun H h1 h2 h3 => hs H a ns ll h1 h2 h3
theorem walkGX {l : PySem.W.OpenLaw} {n k : Nat} {q : Program} {loose : List Str} {XP : (Str → Option Value) → Heap → Prop} {YP : World → Heap → Prop} {d : DefRec} {x : Str}
    (hn : l.most = some n) (hn2 : n ≤ sizeLine) (hdf : d.params.defaults = []) (hr : Room k callerA)
    (F : ∀ (w : World) (mg : Str → Option Value) (fa : Addr) (h : Heap), YP w h → h.Ns mainGlobals mg → mg d.name = some (.ref fa) →
      ∃ K : PySem.W.Frag, K.In h ∧ ∃ sp : Sp, (∃ fd : FuncData, (∀ (s : Shared) (u : Value), BindsTo s fd ⟨[u], []⟩ [(x, u)]) ∧ ∀ base : Heap, K.In base → base.Ns mainGlobals mg → FnG l.prog w K mg base CX0 k fa fd [x] sp) ∧
        ∀ (H : Hp) (a : Addr) (ns : List Int), ns.length ≤ n → Only H → SqL K H a (ns.map V.int) → sp [.ref a] H (fun v _ => v = .bl true) fun _ _ _ => False) :
    PySem.W.WalkO q loose XP YP l.row.toRowW d [] (fun f vs => PySem.call f vs) := by
  refine Att.attach_call hn hdf fun w _ s mg mb fa o pm cd doc a vs ns G Y _ _ _ hm ho hi ll gn => ?_
  obtain ⟨K, kx, sp, ⟨fd, b, f⟩, hs⟩ := F w mg fa _ Y G.T.g hm
  exact law_callG kx G.T.g G.T.b G.T.builtins G.T.nolimit gn ho hi (Nat.le_trans ll hn2) hr f b fun H h1 h2 => hs H a ns ll h1 h2
end Fn

set_option Elab.async false
set_option maxRecDepth 100000
set_option linter.unusedVariables false
set_option maxHeartbeats 4000000
namespace K72
open PySem PySem.Spec PyProof.Rows L2 Fn
local macro_rules | `(tactic| walk_at "ev") => `(tactic| first | exact Ev2.refl _ | assumption | (refine Ev2.trans (by assumption) ?_; walk_at "ev"))
local macro_rules | `(tactic| walk_at "sm") => `(tactic| first | exact Same.refl _ | assumption | (refine Same.trans (by assumption) ?_; walk_at "sm"))
local macro_rules | `(tactic| walk_at "dx") => `(tactic| first
  | exact DxAll.nil | exact Dx.str _ | exact Dx.int _ | exact Dx.bl _ | exact Dx.non
  | assumption
  | (refine DxAll.cons ?_ ?_ <;> walk_at "dx")
  | (refine Dx.same (by walk_at "sm") (by assumption))
  | (refine Dx.tup (Same.at (by assumption) (by walk_at "sm")) ?_; walk_at "dx")
  | (refine Dx.lst (Same.at (by assumption) (by walk_at "sm")) ?_; walk_at "dx")
  | (refine Dx.dct (Same.at (by assumption) (by walk_at "sm"))))

abbrev s_is_integer : Stmt := top 16
abbrev N_is_integer : List Str := ["value"]
abbrev P_is_integer : List Str := ["value"]
theorem sc_is_integer : FnScope N_is_integer P_is_integer (defScope s_is_integer) := ⟨rfl, rfl, rfl, by decide +kernel, rfl, by decide +kernel, by decide +kernel⟩
abbrev s_is_index : Stmt := top 17
abbrev N_is_index : List Str := ["value", "count"]
abbrev P_is_index : List Str := ["value", "count"]
theorem sc_is_index : FnScope N_is_index P_is_index (defScope s_is_index) := ⟨rfl, rfl, rfl, by decide +kernel, rfl, by decide +kernel, by decide +kernel⟩
abbrev s_is_word : Stmt := top 18
abbrev N_is_word : List Str := ["value", "letter"]
abbrev P_is_word : List Str := ["value"]
theorem sc_is_word : FnScope N_is_word P_is_word (defScope s_is_word) := ⟨rfl, rfl, rfl, by decide +kernel, rfl, by decide +kernel, by decide +kernel⟩
abbrev s_is_arity : Stmt := top 19
abbrev N_is_arity : List Str := ["value"]
abbrev P_is_arity : List Str := ["value"]
theorem sc_is_arity : FnScope N_is_arity P_is_arity (defScope s_is_arity) := ⟨rfl, rfl, rfl, by decide +kernel, rfl, by decide +kernel, by decide +kernel⟩
abbrev s_is_leaf : Stmt := top 20
abbrev N_is_leaf : List Str := ["sign"]
abbrev P_is_leaf : List Str := ["sign"]
theorem sc_is_leaf : FnScope N_is_leaf P_is_leaf (defScope s_is_leaf) := ⟨rfl, rfl, rfl, by decide +kernel, rfl, by decide +kernel, by decide +kernel⟩
abbrev s_are_numbers : Stmt := top 85
abbrev N_are_numbers : List Str := ["value", "number"]
abbrev P_are_numbers : List Str := ["value"]
theorem sc_are_numbers : FnScope N_are_numbers P_are_numbers (defScope s_are_numbers) := ⟨rfl, rfl, rfl, by decide +kernel, rfl, by decide +kernel, by decide +kernel⟩
abbrev s_ascends : Stmt := top 86
abbrev N_ascends : List Str := ["rows", "at"]
abbrev P_ascends : List Str := ["rows"]
theorem sc_ascends : FnScope N_ascends P_ascends (defScope s_ascends) := ⟨rfl, rfl, rfl, by decide +kernel, rfl, by decide +kernel, by decide +kernel⟩
abbrev s_is_class_form : Stmt := top 87
abbrev N_is_class_form : List Str := ["value"]
abbrev P_is_class_form : List Str := ["value"]
theorem sc_is_class_form : FnScope N_is_class_form P_is_class_form (defScope s_is_class_form) := ⟨rfl, rfl, rfl, by decide +kernel, rfl, by decide +kernel, by decide +kernel⟩
abbrev s_are_classes_form : Stmt := top 88
abbrev N_are_classes_form : List Str := ["value", "row"]
abbrev P_are_classes_form : List Str := ["value"]
theorem sc_are_classes_form : FnScope N_are_classes_form P_are_classes_form (defScope s_are_classes_form) := ⟨rfl, rfl, rfl, by decide +kernel, rfl, by decide +kernel, by decide +kernel⟩
abbrev s_is_state_form : Stmt := top 89
abbrev N_is_state_form : List Str := ["value"]
abbrev P_is_state_form : List Str := ["value"]
theorem sc_is_state_form : FnScope N_is_state_form P_is_state_form (defScope s_is_state_form) := ⟨rfl, rfl, rfl, by decide +kernel, rfl, by decide +kernel, by decide +kernel⟩
abbrev s_number_told : Stmt := top 95
abbrev N_number_told : List Str := ["text", "letter"]
abbrev P_number_told : List Str := ["text"]
theorem sc_number_told : FnScope N_number_told P_number_told (defScope s_number_told) := ⟨rfl, rfl, rfl, by decide +kernel, rfl, by decide +kernel, by decide +kernel⟩
abbrev s_numbers_told : Stmt := top 96
abbrev N_numbers_told : List Str := ["text", "numbers", "item"]
abbrev P_numbers_told : List Str := ["text"]
theorem sc_numbers_told : FnScope N_numbers_told P_numbers_told (defScope s_numbers_told) := ⟨rfl, rfl, rfl, by decide +kernel, rfl, by decide +kernel, by decide +kernel⟩
abbrev s_is_row_form : Stmt := top 100
abbrev N_is_row_form : List Str := ["value", "index", "sign", "uses", "use"]
abbrev P_is_row_form : List Str := ["value", "index"]
theorem sc_is_row_form : FnScope N_is_row_form P_is_row_form (defScope s_is_row_form) := ⟨rfl, rfl, rfl, by decide +kernel, rfl, by decide +kernel, by decide +kernel⟩
abbrev s_check_program : Stmt := top 82
abbrev N_check_program : List Str := ["program"]
abbrev P_check_program : List Str := ["program"]
theorem sc_check_program : FnScope N_check_program P_check_program (defScope s_check_program) := ⟨rfl, rfl, rfl, by decide +kernel, rfl, by decide +kernel, by decide +kernel⟩
abbrev s_check_text : Stmt := top 103
abbrev N_check_text : List Str := ["text"]
abbrev P_check_text : List Str := ["text"]
theorem sc_check_text : FnScope N_check_text P_check_text (defScope s_check_text) := ⟨rfl, rfl, rfl, by decide +kernel, rfl, by decide +kernel, by decide +kernel⟩
abbrev s_numbers_text : Stmt := top 104
abbrev N_numbers_text : List Str := ["numbers", "number"]
abbrev P_numbers_text : List Str := ["numbers"]
theorem sc_numbers_text : FnScope N_numbers_text P_numbers_text (defScope s_numbers_text) := ⟨rfl, rfl, rfl, by decide +kernel, rfl, by decide +kernel, by decide +kernel⟩
abbrev s_write_numbers : Stmt := top 106
abbrev N_write_numbers : List Str := ["numbers"]
abbrev P_write_numbers : List Str := ["numbers"]
theorem sc_write_numbers : FnScope N_write_numbers P_write_numbers (defScope s_write_numbers) := ⟨rfl, rfl, rfl, by decide +kernel, rfl, by decide +kernel, by decide +kernel⟩
abbrev s_read_numbers : Stmt := top 107
abbrev N_read_numbers : List Str := ["text", "numbers"]
abbrev P_read_numbers : List Str := ["text"]
theorem sc_read_numbers : FnScope N_read_numbers P_read_numbers (defScope s_read_numbers) := ⟨rfl, rfl, rfl, by decide +kernel, rfl, by decide +kernel, by decide +kernel⟩
abbrev s_write_state : Stmt := top 108
abbrev N_write_state : List Str := ["state"]
abbrev P_write_state : List Str := ["state"]
theorem sc_write_state : FnScope N_write_state P_write_state (defScope s_write_state) := ⟨rfl, rfl, rfl, by decide +kernel, rfl, by decide +kernel, by decide +kernel⟩
abbrev s_read_state : Stmt := top 109
abbrev N_read_state : List Str := ["text", "state"]
abbrev P_read_state : List Str := ["text"]
theorem sc_read_state : FnScope N_read_state P_read_state (defScope s_read_state) := ⟨rfl, rfl, rfl, by decide +kernel, rfl, by decide +kernel, by decide +kernel⟩
abbrev s_is_key : Stmt := top 110
abbrev N_is_key : List Str := ["value"]
abbrev P_is_key : List Str := ["value"]
theorem sc_is_key : FnScope N_is_key P_is_key (defScope s_is_key) := ⟨rfl, rfl, rfl, by decide +kernel, rfl, by decide +kernel, by decide +kernel⟩
abbrev s_write_table : Stmt := top 111
abbrev N_write_table : List Str := ["table", "key", "lines"]
abbrev P_write_table : List Str := ["table"]
theorem sc_write_table : FnScope N_write_table P_write_table (defScope s_write_table) := ⟨rfl, rfl, rfl, by decide +kernel, rfl, by decide +kernel, by decide +kernel⟩
abbrev s_read_table : Stmt := top 112
abbrev N_read_table : List Str := ["text", "entries", "lines", "index", "line", "entry"]
abbrev P_read_table : List Str := ["text"]
theorem sc_read_table : FnScope N_read_table P_read_table (defScope s_read_table) := ⟨rfl, rfl, rfl, by decide +kernel, rfl, by decide +kernel, by decide +kernel⟩
abbrev s_write_rows : Stmt := top 113
abbrev N_write_rows : List Str := ["rows", "index", "row", "lines", "use", "sign", "uses"]
abbrev P_write_rows : List Str := ["rows"]
theorem sc_write_rows : FnScope N_write_rows P_write_rows (defScope s_write_rows) := ⟨rfl, rfl, rfl, by decide +kernel, rfl, by decide +kernel, by decide +kernel⟩
abbrev s_read_rows : Stmt := top 114
abbrev N_read_rows : List Str := ["text", "rows", "index", "line", "row"]
abbrev P_read_rows : List Str := ["text"]
theorem sc_read_rows : FnScope N_read_rows P_read_rows (defScope s_read_rows) := ⟨rfl, rfl, rfl, by decide +kernel, rfl, by decide +kernel, by decide +kernel⟩
abbrev s_write_program : Stmt := top 115
abbrev N_write_program : List Str := ["program"]
abbrev P_write_program : List Str := ["program"]
theorem sc_write_program : FnScope N_write_program P_write_program (defScope s_write_program) := ⟨rfl, rfl, rfl, by decide +kernel, rfl, by decide +kernel, by decide +kernel⟩
abbrev s_read_program : Stmt := top 116
abbrev N_read_program : List Str := ["text", "first", "lines", "symbols", "index", "line"]
abbrev P_read_program : List Str := ["text"]
theorem sc_read_program : FnScope N_read_program P_read_program (defScope s_read_program) := ⟨rfl, rfl, rfl, by decide +kernel, rfl, by decide +kernel, by decide +kernel⟩
abbrev s__law_dice : Stmt := top 118
abbrev N__law_dice : List Str := ["_law_script", "_law_spot", "_law_cell", "_law_great", "_law_blend"]
abbrev P__law_dice : List Str := ["_law_script", "_law_spot"]
theorem sc__law_dice : FnScope N__law_dice P__law_dice (defScope s__law_dice) := ⟨rfl, rfl, rfl, by decide +kernel, rfl, by decide +kernel, by decide +kernel⟩
abbrev s__law_roll : Stmt := top 119
abbrev N__law_roll : List Str := ["_law_dice_here", "_law_total", "_law_found", "_law_one", "_law_two"]
abbrev P__law_roll : List Str := ["_law_dice_here", "_law_total"]
theorem sc__law_roll : FnScope N__law_roll P__law_roll (defScope s__law_roll) := ⟨rfl, rfl, rfl, by decide +kernel, rfl, by decide +kernel, by decide +kernel⟩
abbrev s__law_pick : Stmt := top 120
abbrev N__law_pick : List Str := ["_law_dice_here", "_law_items"]
abbrev P__law_pick : List Str := ["_law_dice_here", "_law_items"]
theorem sc__law_pick : FnScope N__law_pick P__law_pick (defScope s__law_pick) := ⟨rfl, rfl, rfl, by decide +kernel, rfl, by decide +kernel, by decide +kernel⟩
abbrev s__law_met : Stmt := top 121
abbrev N__law_met : List Str := ["_law_call", "error"]
abbrev P__law_met : List Str := ["_law_call"]
theorem sc__law_met : FnScope N__law_met P__law_met (defScope s__law_met) := ⟨rfl, rfl, rfl, by decide +kernel, rfl, by decide +kernel, by decide +kernel⟩
abbrev s__law_right : Stmt := top 122
abbrev N__law_right : List Str := ["_law_dice_here", "_law_numbers", "_law_state", "_law_table", "_law_rows", "_law_program", "_law_told", "_law_text"]
abbrev P__law_right : List Str := ["_law_dice_here"]
theorem sc__law_right : FnScope N__law_right P__law_right (defScope s__law_right) := ⟨rfl, rfl, rfl, by decide +kernel, rfl, by decide +kernel, by decide +kernel⟩
abbrev s_law : Stmt := top 123
abbrev N_law : List Str := ["_law_script", "_law_spot", "_law_told"]
abbrev P_law : List Str := ["_law_script"]
theorem sc_law : FnScope N_law P_law (defScope s_law) := ⟨rfl, rfl, rfl, by decide +kernel, rfl, by decide +kernel, by decide +kernel⟩
abbrev lamT (tP0 tP1 : Addr) : List (Addr × Str) := [(tP0, "_law_right.<locals>.<lambda>"), (tP1, "law.<locals>.<lambda>")]
structure Txt (mg : Str → Option Value) : Prop where
  n_len : mg "len" = none
  n_int : mg "int" = none
  n_abs : mg "abs" = none
  n_isinstance : mg "isinstance" = none
  n_bool : mg "bool" = none
  n_all : mg "all" = none
  n_str : mg "str" = none
  n_tuple : mg "tuple" = none
  n_dict : mg "dict" = none
  n_sorted : mg "sorted" = none
  n_list : mg "list" = none
  n_range : mg "range" = none
  n_max : mg "max" = none
  n_min : mg "min" = none
  n_enumerate : mg "enumerate" = none
  n_repr : mg "repr" = none
  m_MAX_LETTERS : ∃ t, mg "MAX_LETTERS" = some (.int 8 t)
  m_MAX_ARITY : ∃ t, mg "MAX_ARITY" = some (.int 3 t)
  m_ANY : ∃ t, mg "ANY" = some (.str "_" t)
  m_LOST : ∃ t, mg "LOST" = some (.str "#" t)
  m_EMPTY : ∃ t, mg "EMPTY" = some (.str "-" t)
  m_NONE : ∃ t, mg "NONE" = some (.str "none" t)
  m_MAX_DIGITS : ∃ t, mg "MAX_DIGITS" = some (.int 60 t)
  m_MAX_USES : ∃ t, mg "MAX_USES" = some (.int 3 t)
section
variable {P : Program} {w : World} {K : PySem.W.Frag} {mg : Str → Option Value} {base : Heap} {tx : Xa} {tC0 tP0 tC1 tP1 : Addr}
abbrev s_iParseError : Stmt := (clB (top 34)).getD 0 (.Pass ⟨0, 0, 0, 0⟩)
abbrev N_iParseError : List Str := ["self", "line"]
abbrev P_iParseError : List Str := ["self", "line"]
theorem sc_iParseError : FnScope N_iParseError P_iParseError (defScope s_iParseError) := ⟨rfl, rfl, rfl, by decide +kernel, rfl, by decide +kernel, by decide +kernel⟩
theorem ok_iParseError {f : Addr} {fd : FuncData} (F : Fun K "__init__" "ParseError.__init__" s_iParseError f fd) : FnOk P w K mg base CX0 1 f fd P_iParseError (spIni K "line") := by
  refine F.ok sc_iParseError (fun vs H Q E h => ?_) (fun cdv A outer s H vs Q E hr h => ?_)
  · obtain ⟨a, C, y, rfl, _⟩ := h
    rfl
  · obtain ⟨a, C, y, rfl, T, no, e, q⟩ := h
    refine ⟨_, (pss_one (ps_put (pv 0) (pv 1))), ?_⟩
    exact ⟨_, rfl, _, rfl, a, C, rfl, T, no, e, q⟩
def spA (f : PyData → Bool) : Sp := fun vs H Q _ => ∃ v d, vs = [v] ∧ Dx H v d ∧ Q (.bl (f d)) H
abbrev spInt := spA isIntD
theorem ok_is_integer {f : Addr} {fd : FuncData} (F : Fun K "is_integer" "is_integer" s_is_integer f fd) (T : Txt mg) (Z : TexZ K mg tx) : FnOk P w K mg base CX0 1 f fd P_is_integer spInt := by
  refine F.ok sc_is_integer (fun vs H Q E h => ?_) (fun cdv A outer s H vs Q E hr h => ?_)
  · obtain ⟨v, d, rfl, _⟩ := h
    rfl
  · obtain ⟨v, d, rfl, hv, q⟩ := h
    refine ⟨_, (pss_one (ps_ret (pe_and (pe_callB call_isi (by rfl) T.n_isinstance (by decide +kernel) (pa_cons (pv 0) (pa_cons (pe_bltn (v := .ty "int") rfl T.n_int (by decide +kernel) rfl) pa_nil))) (pe_and (pe_not (pe_callB call_isi (by rfl) T.n_isinstance (by decide +kernel) (pa_cons (pv 0) (pa_cons (pe_bltn (v := .ty "bool") rfl T.n_bool (by decide +kernel) rfl) pa_nil)))) (pe_one (pe_cmpR op_lt (pe_callB call_abs (by rfl) T.n_abs (by decide +kernel) (pa_cons (pv 0) pa_nil)) (pe_op op_powW pe_int pe_int) (nomark _))))))), ?_⟩
    refine ⟨_, rfl, _, _, _, _, _, rfl, .ty _, hv.ty, kit_int d, _, rfl, ?_⟩
    cases hv with
    | int i =>
      refine iteT ?_
      refine ⟨_, rfl, _, _, _, _, false, rfl, .ty _, .base (.int i), (kit_ty (by decide +kernel)), _, rfl, _, rfl, ?_⟩
      refine iteT ?_
      refine ⟨_, rfl, _, rfl, _, _, rfl, rfl, (powOk (by decide +kernel)), _, _, rfl, rfl, ?_⟩
      exact q
    | bl b =>
      refine iteT ?_
      refine ⟨_, rfl, _, _, _, _, true, rfl, .ty _, .base (.bl b), (kit_ty (by decide +kernel)), _, rfl, _, rfl, ?_⟩
      refine iteF ?_
      exact q
    | _ => exact iteF q
def spWord : Sp := fun vs H Q _ => ∃ v d, vs = [v] ∧ Dx H v d ∧ (∀ x, d = .str x → x.length ≤ 100000) ∧ ∀ H', Same H H' → Q (.bl (isWordD d)) H'
theorem ok_is_word {f : Addr} {fd : FuncData} (F : Fun K "is_word" "is_word" s_is_word f fd) (T : Txt mg) (Z : TexZ K mg tx) : FnOk P w K mg base CX0 1 f fd P_is_word spWord := by
  refine F.ok sc_is_word (fun vs H Q E h => ?_) (fun cdv A outer s H vs Q E hr h => ?_)
  · obtain ⟨v, d, rfl, _⟩ := h
    rfl
  · obtain ⟨v, d, rfl, hv, hz, q⟩ := h
    refine ⟨_, (pss_cons (ps_if (PW.pt (pw_or (pt_not (pt_val (pe_callB call_isi (by rfl) T.n_isinstance (by decide +kernel) (pa_cons (pv 0) (pa_cons (pe_bltn (v := .ty "str") rfl T.n_str (by decide +kernel) rfl) pa_nil))))) (pw_or1 (pt_not (pt_chain op_le op_le pe_int (pe_callB call_len_str (by rfl) T.n_len (by decide +kernel) (pa_cons (pv 0) pa_nil)) (pe_glob (v := .int 8) rfl T.m_MAX_LETTERS.choose_spec ⟨_, rfl⟩)))))) (pss_one (ps_ret pe_bl)) pss_nil)
      (pss_one (ps_ret (pe_callB (cr_all rfl) (by rfl) T.n_all (by decide +kernel) (pa_cons (pe_lc (own := [("letter", 1)]) (g := gName 1) (tt := tYes) rfl sc_is_word.nd (pi_str (pv 0)) (blkOk_by (own := [("letter", 1)]) (N := ["value", "letter"]) (sc := (defScope s_is_word)) (by decide +kernel)) (fun _ _ _ _ _ => (pg_name (i := 1) sc_is_word.nd rfl (Or.inl rfl))) (fun _ _ _ _ _ => pts_nil) (fun _ _ _ _ _ => (pe_chain op_le_str op_le_str pe_str (pv 1) pe_str))) pa_nil))))), ?_⟩
    refine ⟨_, rfl, _, _, _, _, _, rfl, .ty _, hv.ty, kit_str d, _, rfl, ?_⟩
    cases hv with
    | str x =>
      have hx := hz x rfl
      refine iteF ?_
      refine ⟨_, rfl, _, rfl, Nat.le_trans hx (by decide), _, _, rfl, rfl, _, rfl, ?_⟩
      refine ite2 (fun h1 => ?_) (fun h1 => ?_)
      · refine ⟨_, _, rfl, rfl, _, rfl, ?_⟩
        have h1' := of_decide_eq_true h1
        by_cases h2 : (x.length : Int) ≤ 8
        · rw [decide_eq_true h2]
          refine iteF ?_
          have hl : isWordD (.str x) = ((x.cps.toList.map lowZ).all id) := by
            show ((decide (1 ≤ x.length) && decide (x.length ≤ 8)) && x.cps.toList.all lowZ) = _
            rw [decide_eq_true (show 1 ≤ x.length by omega), decide_eq_true (show x.length ≤ 8 by omega), List.all_map]
            rfl
          refine ⟨_, rfl, _, rfl, fun D hD => lc_it (walk_str (z := x)) (fun i H' => Same H H' ∧ H' D = some (.lst ((x.cps.toList.take i).map fun c => V.bl (lowZ c))))
            ⟨fun b o e => by rw [upd_ne (ne_of_none e hD)]; exact e, upd_same⟩ (fun _ _ _ _ => trivial) ?_ ?_⟩
          · rintro i v H1 H2 hi ⟨sm, hl1⟩ ⟨rfl, c, hc, rfl⟩
            refine ⟨rfl, ?_⟩
            have hlen : ((x.cps.toList.take i).map fun c => V.bl (lowZ c)).length < sizeLine := szlt (by
              have ecs : x.cps.size = x.length := rfl
              rw [List.length_map, List.length_take, Array.length_toList]
              omega)
            have hc2 : x.cps.toList[i]? = some c := by rw [Array.getElem?_toList]; exact hc
            have fin : Same H (upd H2 D (.lst (((x.cps.toList.take i).map fun c => V.bl (lowZ c)) ++ [V.bl (lowZ c)]))) ∧ (upd H2 D (.lst (((x.cps.toList.take i).map fun c => V.bl (lowZ c)) ++ [V.bl (lowZ c)]))) D = some (.lst ((x.cps.toList.take (i + 1)).map fun c => V.bl (lowZ c))) := by
              refine ⟨fun b o e => by rw [upd_ne (ne_of_none e hD)]; exact sm b o e, ?_⟩
              rw [upd_same, List.take_add_one, List.map_append, hc2]
              rfl
            have e : lowZ c = ((!decide ([c] < [97])) && (!decide ([122] < [c]))) := rfl
            refine ⟨_, rfl, _, _, rfl, rfl, _, rfl, ?_⟩
            refine ite2 (fun g1 => ?_) (fun g1 => ?_)
            · refine ⟨_, _, rfl, rfl, ?_⟩
              have g2 : lowZ c = !decide ([122] < [c]) := by
                rw [e, show (!decide ([c] < [97])) = true from g1, Bool.true_and]
              rw [g2] at fin
              exact ⟨_, hl1, hlen, fin⟩
            · have g2 : lowZ c = false := by
                rw [e, show (!decide ([c] < [97])) = false from Bool.eq_false_iff.mpr g1, Bool.false_and]
              rw [g2] at fin
              exact ⟨_, hl1, hlen, fin⟩
          · rintro H1 ⟨sm, hl1⟩
            rw [List.take_of_length_le (by rw [Array.length_toList] <;> exact Nat.le_refl _)] at hl1
            refine ⟨_, x.cps.toList.map lowZ, rfl, SqL.of (by rw [hl1, List.map_map]; rfl), ?_⟩
            rw [← hl]
            exact q H1 sm
        · rw [decide_eq_false h2]
          refine iteT ?_
          have hl : isWordD (.str x) = false := by
            show ((decide (1 ≤ x.length) && decide (x.length ≤ 8)) && x.cps.toList.all lowZ) = false
            rw [decide_eq_false (show ¬ x.length ≤ 8 by omega), Bool.and_false, Bool.false_and]
          rw [hl] at q
          exact q H (Same.refl H)
      · have h1' := of_decide_eq_false (Bool.eq_false_iff.mpr h1)
        refine ⟨_, rfl, ?_⟩
        refine iteT ?_
        have hl : isWordD (.str x) = false := by
          show ((decide (1 ≤ x.length) && decide (x.length ≤ 8)) && x.cps.toList.all lowZ) = false
          rw [decide_eq_false (show ¬ 1 ≤ x.length by omega), Bool.false_and, Bool.false_and]
        rw [hl] at q
        exact q H (Same.refl H)
    | _ => exact iteT (q H (Same.refl H))
def spD (f : PyData → Bool) : Sp := fun vs H Q _ => ∃ v d, vs = [v] ∧ Dx H v d ∧ (listfree d = true ∧ dictfree d = true ∧ SeqAt.shaped d = true) ∧ ∀ H', Same H H' → Q (.bl (f d)) H'
theorem ok_is_arity {f : Addr} {fd : FuncData} (F : Fun K "is_arity" "is_arity" s_is_arity f fd) (T : Txt mg) (Z : TexZ K mg tx) {f_is_integer : Addr} {fd_is_integer : FuncData} (G_is_integer : FnOk P w K mg base CX0 1 f_is_integer fd_is_integer P_is_integer spInt) (C_is_integer : Cal K mg "is_integer" f_is_integer fd_is_integer P_is_integer) : FnOk P w K mg base CX0 2 f fd P_is_arity (spA isArityD) := by
  refine F.ok sc_is_arity (fun vs H Q E h => ?_) (fun cdv A outer s H vs Q E hr h => ?_)
  · obtain ⟨v, d, rfl, _⟩ := h
    rfl
  · obtain ⟨v, d, rfl, hv, q⟩ := h
    refine ⟨_, (pss_one (ps_ret (pe_and (pe_call G_is_integer (hr.mono (by decide)) rfl C_is_integer.m C_is_integer.k C_is_integer.b .nil pass0 (pa_cons (pv 0) pa_nil)) (pe_one (pe_chain op_le op_le pe_int (pv 0) (pe_glob (v := .int 3) rfl T.m_MAX_ARITY.choose_spec ⟨_, rfl⟩)))))), ?_⟩
    refine ⟨_, rfl, _, _, rfl, hv, _, rfl, ?_⟩
    refine ite2 (fun g => ?_) (fun g => ?_)
    · cases hv with
      | int i =>
        refine ⟨_, rfl, _, _, rfl, rfl, _, rfl, ?_⟩
        refine ite2 (fun h1 => ?_) (fun h1 => ?_)
        · refine ⟨_, _, rfl, rfl, ?_⟩
          have e : isArityD (.int i) = decide (i ≤ 3) := by
            show (isIntD (.int i) && (decide (0 ≤ i) && decide (i ≤ 3))) = _
            rw [g, show decide (0 ≤ i) = true from h1, Bool.true_and, Bool.true_and]
          rw [e] at q
          exact q
        · have e : isArityD (.int i) = false := by
            show (isIntD (.int i) && (decide (0 ≤ i) && decide (i ≤ 3))) = _
            rw [show decide (0 ≤ i) = false from Bool.eq_false_iff.mpr h1, Bool.false_and, Bool.and_false]
          rw [e] at q
          exact q
      | _ => cases g
    · have e : isArityD d = false := by
        cases d with
        | int i =>
          show (isIntD (.int i) && (decide (0 ≤ i) && decide (i ≤ 3))) = _
          rw [Bool.eq_false_iff.mpr g, Bool.false_and]
        | _ => rfl
      rw [e] at q
      exact q
theorem ok_is_leaf {f : Addr} {fd : FuncData} (F : Fun K "is_leaf" "is_leaf" s_is_leaf f fd) (T : Txt mg) (Z : TexZ K mg tx) : FnOk P w K mg base CX0 1 f fd P_is_leaf (spD isLeafD) := by
  refine F.ok sc_is_leaf (fun vs H Q E h => ?_) (fun cdv A outer s H vs Q E hr h => ?_)
  · obtain ⟨v, d, rfl, _⟩ := h
    rfl
  · obtain ⟨v, d, rfl, hv, ⟨f1, f2, f3⟩, q⟩ := h
    refine ⟨_, (pss_one (ps_ret (pe_cmpR (op_inX (hu65 hr)) (pv 0) (pe_tup (pa_cons (pe_glob (v := .str "_") rfl T.m_ANY.choose_spec ⟨_, rfl⟩) (pa_cons (pe_glob (v := .str "#") rfl T.m_LOST.choose_spec ⟨_, rfl⟩) pa_nil))) (by first | rfl | with_unfolding_all rfl)))), ?_⟩
    refine ⟨_, rfl, (szr rfl), fun p1 n1 => ?_⟩
    generalize g1 : upd _ p1 _ = H1; obtain ⟨e1, o1, t1⟩ := made n1 g1; clear g1
    have sm := sameOf n1 o1
    refine ⟨_, _, _, (hv.same sm).dp f2, (Dx.tup t1 (.cons (.str _) (.cons (.str _) .nil))).dp rfl, (.inr rfl), f3, (by decide +kernel), ?_⟩
    exact q H1 sm

theorem ok__law_dice {f : Addr} {fd : FuncData} (F : Fun K "_law_dice" "_law_dice" s__law_dice f fd) (T : Txt mg) (Z : TexZ K mg tx) : FnOk P w K mg base CX0 1 f fd P__law_dice (spDice K) := by
  refine F.ok sc__law_dice (fun vs H Q E h => ?_) (fun cdv A outer s H vs Q E hr h => ?_)
  · obtain ⟨a, ns, k, rfl, _⟩ := h
    rfl
  · obtain ⟨a, ns, k, rfl, hS, hlen, h0, hk, q⟩ := h
    refine ⟨_, (pss_cons (ps_set (i := 2) sc__law_dice.nd rfl (Or.inl rfl) (pe_op op_add (pe_op op_mul pe_int (pv 1)) pe_int))
      (pss_cons (ps_if (pt_cmpR op_lt (pv 1) (pe_callB call_len_seq (by rfl) T.n_len (by decide +kernel) (pa_cons (pv 0) pa_nil)) (nomark _)) (pss_one (ps_set (i := 2) sc__law_dice.nd rfl (Or.inl rfl) (pe_ix ix_list (pv 0) (pv 1) (fun _ _ => rfl)))) pss_nil)
      (pss_cons (ps_set (i := 3) sc__law_dice.nd rfl (Or.inl rfl) (pe_op op_mod (pe_callTy call_int1 (by rfl) T.n_int (by decide +kernel) (pa_cons (pe_callB call_abs (by rfl) T.n_abs (by decide +kernel) (pa_cons (pv 2) pa_nil)) pa_nil)) (pe_op op_powW (pe_op op_powW pe_int pe_int) pe_int)))
      (pss_cons (ps_set (i := 4) sc__law_dice.nd rfl (Or.inl rfl) (pe_op op_add (pe_op op_add (pe_op op_add (pe_op op_mul (pe_op op_mod (pe_callTy call_int1 (by rfl) T.n_int (by decide +kernel) (pa_cons (pv 3) pa_nil)) pe_int) pe_int) (pe_op op_mul pe_int (pv 1))) (pe_op op_mul pe_int (pe_callTy call_int1 (by rfl) T.n_int (by decide +kernel) (pa_cons (pe_cmpR op_lt (pv 2) pe_int (nomark _)) pa_nil)))) pe_int))
      (pss_one (ps_ret (pe_lst (pa_cons (pe_callB (call_max2 rfl) (by rfl) T.n_max (by decide +kernel) (pa_cons pe_int (pa_cons (pe_op op_sub (pv 3) (pe_op op_powW pe_int pe_int)) pa_nil))) (pa_cons (pe_op op_mod (pe_callTy call_int1 (by rfl) T.n_int (by decide +kernel) (pa_cons (pv 4) pa_nil)) pe_int) (pa_cons pe_int pa_nil)))))))))), ?_⟩
    refine ⟨_, rfl, _, _, rfl, rfl, mulL (by decide), _, _, rfl, rfl, ?_⟩
    refine ⟨_, rfl, _, rfl, _, _, rfl, .inl hS, _, _, rfl, rfl, _, rfl, ?_⟩
    refine ite2 (fun hc => ?_) (fun hc => ?_)
    · have hc' := of_decide_eq_true hc
      rw [List.length_map] at hc'
      obtain ⟨c, hat⟩ := script_at h0 hc'
      refine ⟨_, rfl, _, rfl, _, _, _, _, rfl, rfl, hS, hat, ?_⟩
      refine ⟨_, rfl, _, rfl, .inl ⟨_, rfl, _, _, rfl, rfl, (powOk (by decide +kernel)), _, _, rfl, rfl, (powOk (by decide +kernel)), _, _, rfl, rfl, (modc (by decide +kernel)), ?_⟩⟩
      refine ⟨_, rfl, .inl ⟨_, rfl, _, _, rfl, rfl, (modc (by decide)), _, _, rfl, rfl, mulR (by decide), _, rfl, _, _, rfl, rfl, mulL (by decide), _, _, rfl, rfl, _, rfl, _, _, rfl, rfl, .inr ⟨_, rfl, _, _, rfl, rfl, mulL (by decide), _, _, rfl, rfl, _, _, rfl, rfl, ?_⟩⟩⟩
      refine ⟨_, rfl, _, _, rfl, rfl, (powOk (by decide +kernel)), _, _, rfl, rfl, _, _, rfl, _, rfl, .inl ⟨_, rfl, _, _, rfl, rfl, (modc (by decide)), (szr rfl), fun p hp => ?_⟩⟩
      exact q p _ hp (Ev2.new hp) (fun _ hb => upd_ne hb) ⟨_, _, _, upd_same⟩
    · generalize 53 * k + 29 = c
      refine ⟨_, rfl, _, rfl, .inl ⟨_, rfl, _, _, rfl, rfl, (powOk (by decide +kernel)), _, _, rfl, rfl, (powOk (by decide +kernel)), _, _, rfl, rfl, (modc (by decide +kernel)), ?_⟩⟩
      refine ⟨_, rfl, .inl ⟨_, rfl, _, _, rfl, rfl, (modc (by decide)), _, _, rfl, rfl, mulR (by decide), _, rfl, _, _, rfl, rfl, mulL (by decide), _, _, rfl, rfl, _, rfl, _, _, rfl, rfl, .inr ⟨_, rfl, _, _, rfl, rfl, mulL (by decide), _, _, rfl, rfl, _, _, rfl, rfl, ?_⟩⟩⟩
      refine ⟨_, rfl, _, _, rfl, rfl, (powOk (by decide +kernel)), _, _, rfl, rfl, _, _, rfl, _, rfl, .inl ⟨_, rfl, _, _, rfl, rfl, (modc (by decide)), (szr rfl), fun p hp => ?_⟩⟩
      exact q p _ hp (Ev2.new hp) (fun _ hb => upd_ne hb) ⟨_, _, _, upd_same⟩
theorem ok__law_roll {f : Addr} {fd : FuncData} (F : Fun K "_law_roll" "_law_roll" s__law_roll f fd) (T : Txt mg) (Z : TexZ K mg tx) : FnOk P w K mg base CX0 1 f fd P__law_roll spRoll := by
  refine F.ok sc__law_roll (fun vs H Q E h => ?_) (fun cdv A outer s H vs Q E hr h => ?_)
  · obtain ⟨p, n, rfl, _⟩ := h
    rfl
  · obtain ⟨p, n, rfl, hd, h0, hn, q⟩ := h
    obtain ⟨x, y, z, hp⟩ := id hd
    have a0 : ∀ x y z : Int, atI [V.int x, .int y, .int z] 0 = some (.int x) := fun _ _ _ => rfl
    have a1 : ∀ x y z : Int, atI [V.int x, .int y, .int z] 1 = some (.int y) := fun _ _ _ => rfl
    have a2 : ∀ x y z : Int, atI [V.int x, .int y, .int z] 2 = some (.int z) := fun _ _ _ => rfl
    refine ⟨_, (pss_cons (ps_if (pt_cmpR op_gt (pe_ix ix_list (pv 0) pe_int (fun _ _ => rfl)) pe_int (nomark _)) (pss_cons (ps_set (i := 2) sc__law_roll.nd rfl (Or.inl rfl) (pe_op op_mod (pe_callTy call_int1 (by rfl) T.n_int (by decide +kernel) (pa_cons (pe_ix ix_list (pv 0) pe_int (fun _ _ => rfl)) pa_nil)) (pv 1)))
      (pss_cons (ps_asg (pe_op op_fdiv (pe_ix ix_list (pv 0) pe_int (fun _ _ => rfl)) (pv 1)) (pg_sub (pv 0) pe_int set_list))
      (pss_one (ps_ret (pv 2))))) pss_nil)
      (pss_cons (ps_asg (pe_op op_add (pe_ix ix_list (pv 0) pe_int (fun _ _ => rfl)) pe_int) (pg_sub (pv 0) pe_int set_list))
      (pss_cons (ps_set (i := 3) sc__law_roll.nd rfl (Or.inl rfl) (pe_op op_mod (pe_callTy call_int1 (by rfl) T.n_int (by decide +kernel) (pa_cons (pe_op op_add (pe_ix ix_list (pv 0) pe_int (fun _ _ => rfl)) (pe_op op_mul pe_int (pe_ix ix_list (pv 0) pe_int (fun _ _ => rfl)))) pa_nil)) pe_int))
      (pss_cons (ps_set (i := 4) sc__law_roll.nd rfl (Or.inl rfl) (pe_op op_add (pe_op op_mul (pe_op op_mod (pe_callTy call_int1 (by rfl) T.n_int (by decide +kernel) (pa_cons (pe_op op_mul (pv 3) (pv 3)) pa_nil)) pe_int) (pv 3)) (pe_op op_mul pe_int (pe_ix ix_list (pv 0) pe_int (fun _ _ => rfl)))))
      (pss_cons (ps_set (i := 4) sc__law_roll.nd rfl (Or.inl rfl) (pe_op op_mod (pe_callTy call_int1 (by rfl) T.n_int (by decide +kernel) (pa_cons (pv 4) pa_nil)) pe_int))
      (pss_one (ps_ret (pe_op op_mod (pe_callTy call_int1 (by rfl) T.n_int (by decide +kernel) (pa_cons (pe_op op_fdiv (pv 4) pe_int) pa_nil)) (pv 1))))))))), ?_⟩
    refine ⟨_, rfl, _, _, _, _, rfl, rfl, SqL.of hp, a0 _ _ _, _, _, rfl, rfl, _, rfl, ?_⟩
    refine ite2 (fun hc => ?_) (fun hc => ?_)
    · refine ⟨_, rfl, _, _, _, _, rfl, rfl, SqL.of hp, a0 _ _ _, .inl ⟨_, rfl, _, rfl, _, _, rfl, rfl, (modc h0), ?_⟩⟩
      refine ⟨_, rfl, _, _, _, _, rfl, rfl, SqL.of hp, a0 _ _ _, _, rfl, _, _, rfl, rfl, ⟨h0, by omega⟩, _, rfl, _, _, _, _, rfl, rfl, hp, rfl, ?_⟩
      refine ⟨_, rfl, ?_⟩
      exact q _ _ (Int.emod_nonneg _ (by omega)) (Int.emod_lt_of_pos _ h0) (hd.set _ _ _).1 (hd.set _ _ _).2.1 (hd.set _ _ _).2.2
    · refine ⟨_, rfl, _, _, _, _, rfl, rfl, SqL.of hp, a2 _ _ _, _, _, rfl, rfl, _, rfl, _, _, _, _, rfl, rfl, hp, rfl, ?_⟩
      have hp2 : (upd H p (dl x y (z + 1))) p = some (dl x y (z + 1)) := upd_same
      refine ⟨_, rfl, _, _, _, _, rfl, rfl, SqL.of hp2, a1 _ _ _, _, rfl, _, _, _, _, rfl, rfl, SqL.of hp2, a2 _ _ _, _, _, rfl, rfl, mulL (by decide), _, _, rfl, rfl, .inl ⟨_, rfl, _, _, rfl, rfl, (modc (by decide)), ?_⟩⟩
      have b1 := Int.emod_nonneg (y + 998244341 * (z + 1)) (b := 2305843009213693951) (by decide)
      have b2 := Int.emod_lt_of_pos (y + 998244341 * (z + 1)) (b := 2305843009213693951) (by decide)
      generalize (y + 998244341 * (z + 1)) % 2305843009213693951 = one at b1 b2
      refine ⟨_, rfl, _, rfl, _, _, rfl, rfl, mulL (by omega), .inl ⟨_, rfl, _, _, rfl, rfl, (modc (by decide)), _, rfl, _, _, rfl, rfl, mulR (by omega), _, rfl, _, _, _, _, rfl, rfl, SqL.of hp2, a2 _ _ _, _, _, rfl, rfl, mulL (by decide), _, _, rfl, rfl, ?_⟩⟩
      refine ⟨_, rfl, .inl ⟨_, rfl, _, _, rfl, rfl, (modc (by decide)), ?_⟩⟩
      refine ⟨_, rfl, _, _, rfl, rfl, ⟨by decide, by decide⟩, .inl ⟨_, rfl, _, rfl, _, _, rfl, rfl, (modc h0), ?_⟩⟩
      exact q _ _ (Int.emod_nonneg _ (by omega)) (Int.emod_lt_of_pos _ h0) (hd.set _ _ _).1 (hd.set _ _ _).2.1 (hd.set _ _ _).2.2
theorem ok__law_pick {f : Addr} {fd : FuncData} (F : Fun K "_law_pick" "_law_pick" s__law_pick f fd) (T : Txt mg) (Z : TexZ K mg tx) {f__law_roll : Addr} {fd__law_roll : FuncData} (G__law_roll : FnOk P w K mg base CX0 1 f__law_roll fd__law_roll P__law_roll spRoll) (C__law_roll : Cal K mg "_law_roll" f__law_roll fd__law_roll P__law_roll) : FnOk P w K mg base CX0 2 f fd P__law_pick (spPick K) := by
  refine F.ok sc__law_pick (fun vs H Q E h => ?_) (fun cdv A outer s H vs Q E hr h => ?_)
  · obtain ⟨p, a, xs, rfl, _⟩ := h
    rfl
  · obtain ⟨p, a, xs, rfl, hp, hS, hS2, h0, hn, q⟩ := h
    refine ⟨_, (pss_one (ps_ret (pe_ix ix_list (pv 1) (pe_call G__law_roll (hr.mono (by decide)) rfl C__law_roll.m C__law_roll.k C__law_roll.b .nil pass0 (pa_cons (pv 0) (pa_cons (pe_callB call_len_seq (by rfl) T.n_len (by decide +kernel) (pa_cons (pv 1) pa_nil)) pa_nil))) (fun _ _ => rfl)))), ?_⟩
    refine ⟨_, rfl, _, rfl, _, rfl, _, _, rfl, .inl hS, ?_⟩
    refine ⟨p, _, rfl, hp, by omega, by omega, fun r H' r0 r1 e1 o1 d1 => ?_⟩
    have hlt : r.toNat < xs.length := by omega
    have hat : atI xs ((r.toNat : Nat) : Int) = some xs[r.toNat] := atI_nat (List.getElem?_eq_getElem hlt)
    rw [show ((r.toNat : Nat) : Int) = r by omega] at hat
    exact ⟨_, _, _, _, rfl, rfl, hS2 _ e1 o1, hat, q _ _ _ (List.getElem?_eq_getElem hlt) e1 o1 d1⟩

/-! ### the forms of numbers, classes and states -/
def spN (g f : PyData → Bool) : Sp := fun vs H Q _ => ∃ v d, vs = [v] ∧ Dx H v d ∧ g d = true ∧ ∀ H', Same H H' → Q (.bl (f d)) H'
def len1 : PyData → Bool
  | .tuple ds => decide (ds.length ≤ 100)
  | _ => true
def len2 : PyData → Bool
  | .tuple ds => decide (ds.length ≤ 100) && ds.all len1
  | _ => true
def len3 : PyData → Bool
  | .tuple ds => decide (ds.length ≤ 100) && ds.all len2
  | _ => true
def numD : PyData → Bool
  | .int i => isIntD (.int i) && decide (0 ≤ i)
  | _ => false
def numsD : PyData → Bool
  | .tuple ds => ds.all numD
  | _ => false
def intOf : PyData → Int
  | .int i => i
  | _ => 0
def intsOf : PyData → List Int
  | .tuple ds => ds.map intOf
  | _ => []
def ltD : PyData → PyData → Bool
  | .tuple ds, .tuple es => HT.lexLt (ds.map intOf) (es.map intOf)
  | d, e => decide (intOf d < intOf e)
def ascD (ds : List PyData) : Bool := (List.range (ds.length - 1)).all fun i => ltD (ds.getD i .none) (ds.getD (i + 1) .none)
def classD : PyData → Bool
  | .tuple ds => ds.all numD && ascD ds
  | _ => false
def classesD : PyData → Bool
  | .tuple ds => ds.all classD && ascD ds
  | _ => false
def stateD : PyData → Bool
  | .tuple [a, b] => classD a && classesD b
  | _ => false
section
variable {H H' H9 : Hp} {D : Addr} {ds : List PyData} {f : PyData → Bool} {i : Nat} {d : PyData}
theorem bools_step (hD : H D = none) (sm : Same H H') (hl : H' D = some (.lst ((ds.take i).map fun d => V.bl (f d)))) (hd : ds[i]? = some d) (s9 : Same H' H9) (small : ds.length ≤ 100) :
    ∃ acc, H9 D = some (.lst acc) ∧ acc.length < sizeLine ∧ Same H (upd H9 D (.lst (acc ++ [V.bl (f d)]))) ∧ (upd H9 D (.lst (acc ++ [V.bl (f d)]))) D = some (.lst ((ds.take (i + 1)).map fun d => V.bl (f d))) := by
  refine ⟨_, s9 _ _ hl, szlt (by rw [List.length_map, List.length_take]; omega), fun b o e => ?_, ?_⟩
  · rw [upd_ne (ne_of_none e hD)]
    exact s9 _ _ (sm _ _ e)
  · rw [upd_same, List.take_add_one, List.map_append, hd]
    rfl
theorem bools_all : (ds.map f).all id = ds.all f := by
  rw [List.all_map]
  rfl
end
theorem ok_are_numbers {f : Addr} {fd : FuncData} (F : Fun K "are_numbers" "are_numbers" s_are_numbers f fd) (T : Txt mg) (Z : TexZ K mg tx) {f_is_integer : Addr} {fd_is_integer : FuncData} (G_is_integer : FnOk P w K mg base CX0 1 f_is_integer fd_is_integer P_is_integer spInt) (C_is_integer : Cal K mg "is_integer" f_is_integer fd_is_integer P_is_integer) : FnOk P w K mg base CX0 2 f fd P_are_numbers (spN len1 numsD) := by
  refine F.ok sc_are_numbers (fun vs H Q E h => ?_) (fun cdv A outer s H vs Q E hr h => ?_)
  · obtain ⟨v, d, rfl, _⟩ := h
    rfl
  · obtain ⟨v, d, rfl, hv, hz, q⟩ := h
    refine ⟨_, (pss_one (ps_ret (pe_and (pe_callB call_isi (by rfl) T.n_isinstance (by decide +kernel) (pa_cons (pv 0) (pa_cons (pe_bltn (v := .ty "tuple") rfl T.n_tuple (by decide +kernel) rfl) pa_nil))) (pe_one (pe_callB (cr_all rfl) (by rfl) T.n_all (by decide +kernel) (pa_cons (pe_lc (own := [("number", 1)]) (g := gName 1) (tt := tYes) rfl sc_are_numbers.nd (pi_tup (pv 0)) (blkOk_by (own := [("number", 1)]) (N := ["value", "number"]) (sc := (defScope s_are_numbers)) (by decide +kernel)) (fun _ _ _ _ _ => (pg_name (i := 1) sc_are_numbers.nd rfl (Or.inl rfl))) (fun _ _ _ _ _ => pts_nil) (fun _ _ _ _ _ => (pe_and (pe_call G_is_integer (hr.mono (by decide)) rfl C_is_integer.m C_is_integer.k C_is_integer.b .nil pass0 (pa_cons (pv 1) pa_nil)) (pe_one (pe_cmpR op_ge (pv 1) pe_int (nomark _)))))) pa_nil)))))), ?_⟩
    refine ⟨_, rfl, _, _, _, _, _, rfl, .ty _, hv.ty, kit_tuple d, _, rfl, ?_⟩
    cases hv with
    | @tup a xs ds ha hx =>
      have hl : ds.length ≤ 100 := of_decide_eq_true hz
      refine iteT ?_
      refine ⟨_, rfl, _, rfl, ⟨_, SqT.of ha⟩, fun D hD => ?_⟩
      refine lc_tup (K := K) (xs := xs) (fun i H' => Same H H' ∧ H' D = some (.lst ((ds.take i).map fun d => V.bl (numD d)))) ⟨sameOf hD (fun b hb => upd_ne hb), upd_same⟩ (fun i H' _ h => SqT.of (h.1 _ _ ha)) ?_ ?_
      · rintro i y H' hi ⟨sm, hl1⟩
        obtain ⟨d, hd, xd⟩ := hx.get hi
        refine ⟨rfl, ?_⟩
        refine ⟨_, rfl, y, d, rfl, xd.same sm, ?_⟩
        refine ⟨_, rfl, ?_⟩
        have st := bools_step (f := numD) hD sm hl1 hd (Same.refl H') hl
        cases d with
        | int k =>
          refine ite2 (fun g => ?_) (fun g => ?_)
          · cases xd
            have e : numD (.int k) = decide (0 ≤ k) := by
              show (isIntD (.int k) && _) = _
              rw [show isIntD (.int k) = true from g, Bool.true_and]
            rw [e] at st
            exact ⟨_, rfl, _, _, rfl, rfl, st⟩
          · have e : numD (.int k) = false := by
              show (isIntD (.int k) && _) = _
              rw [show isIntD (.int k) = false from Bool.eq_false_iff.mpr g, Bool.false_and]
            rw [e] at st
            exact st
        | _ => exact iteF st
      · rintro H9 ⟨sm, hl1⟩
        rw [hx.len, List.take_of_length_le (Nat.le_refl _)] at hl1
        refine ⟨_, ds.map numD, rfl, SqL.of (by rw [hl1, List.map_map]; rfl), ?_⟩
        rw [bools_all]
        exact q H9 sm
    | _ => exact iteF (q H (Same.refl H))
def RowsD (ds : List PyData) : Prop := (∀ d ∈ ds, ∃ i, d = .int i) ∨ ∀ d ∈ ds, ∃ es, d = .tuple es ∧ ∀ e ∈ es, ∃ i, e = PyData.int i
def spAsc : Sp := fun vs H Q _ => ∃ (a : Addr) (xs : List V) (ds : List PyData), vs = [.ref a] ∧ H a = some (.tup xs) ∧ DxAll H xs ds ∧ ds.length ≤ 100 ∧ RowsD ds ∧ ∀ H', Same H H' → Q (.bl (ascD ds)) H'
theorem getD_at {ds : List PyData} {i : Nat} (h : i < ds.length) : ds.getD i .none = ds[i] := by
  rw [List.getD_eq_getElem?_getD, List.getElem?_eq_getElem h]
  rfl
theorem ints_vals {H : Hp} : ∀ {es : List PyData} {xs : List V}, DxAll H xs es → (∀ e ∈ es, ∃ i, e = PyData.int i) → xs = (es.map intOf).map V.int
  | [], _, h, _ => by cases h; rfl
  | e :: es, _, h, k => by
    obtain ⟨i, rfl⟩ := k e List.mem_cons_self
    cases h with
    | cons a r =>
      cases a
      rw [ints_vals r fun x hx => k x (List.mem_cons_of_mem _ hx)]
      rfl
theorem ok_ascends {f : Addr} {fd : FuncData} (F : Fun K "ascends" "ascends" s_ascends f fd) (T : Txt mg) (Z : TexZ K mg tx) : FnOk P w K mg base CX0 1 f fd P_ascends spAsc := by
  refine F.ok sc_ascends (fun vs H Q E h => ?_) (fun cdv A outer s H vs Q E hr h => ?_)
  · obtain ⟨a, xs, ds, rfl, _⟩ := h
    rfl
  · obtain ⟨a, xs, ds, rfl, ha, hx, hl, hR, q⟩ := h
    refine ⟨_, (pss_one (ps_ret (pe_callB (cr_all rfl) (by rfl) T.n_all (by decide +kernel) (pa_cons (pe_lc (own := [("at", 1)]) (g := gName 1) (tt := tYes) rfl sc_ascends.nd (pi_range1 (by rfl) T.n_range (pa_cons (pe_op op_sub (pe_callB call_len_seq (by rfl) T.n_len (by decide +kernel) (pa_cons (pv 0) pa_nil)) pe_int) pa_nil)) (blkOk_by (own := [("at", 1)]) (N := ["rows", "at"]) (sc := (defScope s_ascends)) (by decide +kernel)) (fun _ _ _ _ _ => (pg_name (i := 1) sc_ascends.nd rfl (Or.inl rfl))) (fun _ _ _ _ _ => pts_nil) (fun _ _ _ _ _ => (pe_cmpR (op_ltU (K := K) (by have z := hu65 hr; exact Nat.lt_of_le_of_lt (Nat.le_add_right _ _) z)) (pe_ix (ix_tup_k (K := K) ) (pv 0) (pv 1) (fun _ _ => rfl)) (pe_ix (ix_tup_k (K := K) ) (pv 0) (pe_op op_add (pv 1) pe_int) (fun _ _ => rfl)) (nomark _)))) pa_nil)))), ?_⟩
    have lx := hx.len
    refine ⟨_, rfl, _, _, rfl, .inr (SqT.of ha), _, _, rfl, rfl, _, rfl, by omega, by omega, ?_⟩
    refine fun D hD => ?_
    refine lc_range (lo := 0) (n := ((xs.length : Int) - 1).toNat) (fun i H' => Same H H' ∧ H' D = some (.lst ((List.range i).map fun i => V.bl (ltD (ds.getD i .none) (ds.getD (i + 1) .none))))) ⟨sameOf hD (fun b hb => upd_ne hb), upd_same⟩ ?_ ?_
    · rintro i H' hi ⟨sm, hl1⟩
      have i1 : i < ds.length := by omega
      have i2 : i + 1 < ds.length := by omega
      have at1 : ∀ {j : Nat} (h : j < ds.length), ∃ y, xs[j]? = some y ∧ Dx H y ds[j] := fun {j} h => by
        have h' : j < xs.length := by omega
        obtain ⟨d, hd, xd⟩ := hx.get (List.getElem?_eq_getElem h')
        rw [List.getElem?_eq_getElem h] at hd
        cases hd
        exact ⟨_, List.getElem?_eq_getElem h', xd⟩
      obtain ⟨y1, hy1, x1⟩ := at1 i1
      obtain ⟨y2, hy2, x2⟩ := at1 i2
      have st : ∃ acc, H' D = some (.lst acc) ∧ acc.length < sizeLine ∧ Same H (upd H' D (.lst (acc ++ [V.bl (ltD (ds.getD i .none) (ds.getD (i + 1) .none))]))) ∧ (upd H' D (.lst (acc ++ [V.bl (ltD (ds.getD i .none) (ds.getD (i + 1) .none))]))) D = some (.lst ((List.range (i + 1)).map fun i => V.bl (ltD (ds.getD i .none) (ds.getD (i + 1) .none)))) := by
        refine ⟨_, hl1, szlt (by rw [List.length_map, List.length_range]; omega), fun b o e => ?_, ?_⟩
        · rw [upd_ne (ne_of_none e hD)]
          exact sm _ _ e
        · rw [upd_same, List.range_succ, List.map_append]
          rfl
      rw [getD_at i1, getD_at i2] at st
      have y1' : atI xs (0 + (i : Int)) = some y1 := by rw [Int.zero_add]; exact atI_nat hy1
      have y2' : atI xs (0 + (i : Int) + 1) = some y2 := by
        rw [show (0 : Int) + (i : Int) + 1 = ((i + 1 : Nat) : Int) by omega]
        exact atI_nat hy2
      refine ⟨rfl, ?_⟩
      refine ⟨_, rfl, _, rfl, _, _, _, _, rfl, rfl, SqT.of (sm _ _ ha), y1', _, rfl, _, rfl, _, _, rfl, rfl, _, _, _, _, rfl, rfl, SqT.of (sm _ _ ha), y2', ?_⟩
      rcases hR with k | k
      · obtain ⟨u, e1⟩ := k _ (List.getElem_mem i1)
        obtain ⟨v, e2⟩ := k _ (List.getElem_mem i2)
        rw [e1] at x1 st
        rw [e2] at x2 st
        cases x1
        cases x2
        exact .inl ⟨u, v, rfl, rfl, st⟩
      · obtain ⟨es1, e1, k1⟩ := k _ (List.getElem_mem i1)
        obtain ⟨es2, e2, k2⟩ := k _ (List.getElem_mem i2)
        rw [e1] at x1 st
        rw [e2] at x2 st
        cases x1 with
        | @tup b1 ys1 _ g1 z1 =>
        cases x2 with
        | @tup b2 ys2 _ g2 z2 =>
        refine .inr ⟨b1, b2, es1.map intOf, es2.map intOf, rfl, rfl, ?_, ?_, st⟩
        · rw [← ints_vals z1 k1]
          exact SqT.of (sm _ _ g1)
        · rw [← ints_vals z2 k2]
          exact SqT.of (sm _ _ g2)
    · rintro H9 ⟨sm, hl1⟩
      refine ⟨_, (List.range ((xs.length : Int) - 1).toNat).map fun i => ltD (ds.getD i .none) (ds.getD (i + 1) .none), rfl, SqL.of (by rw [hl1, List.map_map]; rfl), ?_⟩
      rw [List.all_map, show ((xs.length : Int) - 1).toNat = ds.length - 1 by omega]
      exact q H9 sm

theorem num_int {d : PyData} (h : numD d = true) : ∃ i, d = .int i := by
  cases d with
  | int i => exact ⟨i, rfl⟩
  | _ => cases h
theorem nums_tup {d : PyData} (h : numsD d = true) : ∃ ds, d = .tuple ds ∧ ∀ e ∈ ds, ∃ i, e = PyData.int i := by
  cases d with
  | tuple ds => exact ⟨ds, rfl, fun e he => num_int (List.all_eq_true.mp h e he)⟩
  | _ => cases h
theorem class_eq {d : PyData} : classD d = (numsD d && match d with | .tuple ds => ascD ds | _ => false) := by
  cases d <;> rfl
theorem ok_is_class_form {f : Addr} {fd : FuncData} (F : Fun K "is_class_form" "is_class_form" s_is_class_form f fd) (T : Txt mg) (Z : TexZ K mg tx) {f_are_numbers : Addr} {fd_are_numbers : FuncData} (G_are_numbers : FnOk P w K mg base CX0 2 f_are_numbers fd_are_numbers P_are_numbers (spN len1 numsD)) (C_are_numbers : Cal K mg "are_numbers" f_are_numbers fd_are_numbers P_are_numbers) {f_ascends : Addr} {fd_ascends : FuncData} (G_ascends : FnOk P w K mg base CX0 1 f_ascends fd_ascends P_ascends spAsc) (C_ascends : Cal K mg "ascends" f_ascends fd_ascends P_ascends) : FnOk P w K mg base CX0 3 f fd P_is_class_form (spN len1 classD) := by
  refine F.ok sc_is_class_form (fun vs H Q E h => ?_) (fun cdv A outer s H vs Q E hr h => ?_)
  · obtain ⟨v, d, rfl, _⟩ := h
    rfl
  · obtain ⟨v, d, rfl, hv, hz, q⟩ := h
    refine ⟨_, (pss_one (ps_ret (pe_and (pe_call G_are_numbers (hr.mono (by decide)) rfl C_are_numbers.m C_are_numbers.k C_are_numbers.b .nil pass0 (pa_cons (pv 0) pa_nil)) (pe_one (pe_call G_ascends (hr.mono (by decide)) rfl C_ascends.m C_ascends.k C_ascends.b .nil pass0 (pa_cons (pv 0) pa_nil)))))), ?_⟩
    refine ⟨_, rfl, v, d, rfl, hv, hz, fun H1 s1 => ?_⟩
    rw [class_eq] at q
    refine ⟨_, rfl, ?_⟩
    refine ite2 (fun g => ?_) (fun g => ?_)
    · have g : numsD d = true := g
      obtain ⟨ds, rfl, k⟩ := nums_tup g
      rw [g, Bool.true_and] at q
      cases hv with
      | @tup a xs _ ha hx =>
        exact ⟨_, rfl, a, xs, ds, rfl, s1 _ _ ha, hx.same s1, of_decide_eq_true hz, .inl k, fun H2 s2 => q H2 (s1.trans s2)⟩
    · have g : numsD d = false := Bool.eq_false_iff.mpr g
      rw [g, Bool.false_and] at q
      exact q H1 s1
theorem ok_are_classes_form {f : Addr} {fd : FuncData} (F : Fun K "are_classes_form" "are_classes_form" s_are_classes_form f fd) (T : Txt mg) (Z : TexZ K mg tx) {f_is_class_form : Addr} {fd_is_class_form : FuncData} (G_is_class_form : FnOk P w K mg base CX0 3 f_is_class_form fd_is_class_form P_is_class_form (spN len1 classD)) (C_is_class_form : Cal K mg "is_class_form" f_is_class_form fd_is_class_form P_is_class_form) {f_ascends : Addr} {fd_ascends : FuncData} (G_ascends : FnOk P w K mg base CX0 1 f_ascends fd_ascends P_ascends spAsc) (C_ascends : Cal K mg "ascends" f_ascends fd_ascends P_ascends) : FnOk P w K mg base CX0 4 f fd P_are_classes_form (spN len2 classesD) := by
  refine F.ok sc_are_classes_form (fun vs H Q E h => ?_) (fun cdv A outer s H vs Q E hr h => ?_)
  · obtain ⟨v, d, rfl, _⟩ := h
    rfl
  · obtain ⟨v, d, rfl, hv, hz, q⟩ := h
    refine ⟨_, (pss_one (ps_ret (pe_and (pe_callB call_isi (by rfl) T.n_isinstance (by decide +kernel) (pa_cons (pv 0) (pa_cons (pe_bltn (v := .ty "tuple") rfl T.n_tuple (by decide +kernel) rfl) pa_nil))) (pe_and (pe_callB (cr_all rfl) (by rfl) T.n_all (by decide +kernel) (pa_cons (pe_lc (own := [("row", 1)]) (g := gName 1) (tt := tYes) rfl sc_are_classes_form.nd (pi_tup (pv 0)) (blkOk_by (own := [("row", 1)]) (N := ["value", "row"]) (sc := (defScope s_are_classes_form)) (by decide +kernel)) (fun _ _ _ _ _ => (pg_name (i := 1) sc_are_classes_form.nd rfl (Or.inl rfl))) (fun _ _ _ _ _ => pts_nil) (fun _ _ _ _ _ => (pe_call G_is_class_form (hr.mono (by decide)) rfl C_is_class_form.m C_is_class_form.k C_is_class_form.b .nil pass0 (pa_cons (pv 1) pa_nil)))) pa_nil)) (pe_one (pe_call G_ascends (hr.mono (by decide)) rfl C_ascends.m C_ascends.k C_ascends.b .nil pass0 (pa_cons (pv 0) pa_nil))))))), ?_⟩
    refine ⟨_, rfl, _, _, _, _, _, rfl, .ty _, hv.ty, kit_tuple d, _, rfl, ?_⟩
    cases hv with
    | @tup a xs ds ha hx =>
      have hz : (decide (ds.length ≤ 100) && ds.all len1) = true := hz
      rw [Bool.and_eq_true] at hz
      have hl : ds.length ≤ 100 := of_decide_eq_true hz.1
      refine iteT ?_
      refine ⟨_, rfl, _, rfl, ⟨_, SqT.of ha⟩, fun D hD => ?_⟩
      refine lc_tup (K := K) (xs := xs) (fun i H' => Same H H' ∧ H' D = some (.lst ((ds.take i).map fun d => V.bl (classD d)))) ⟨sameOf hD (fun b hb => upd_ne hb), upd_same⟩ (fun i H' _ h => SqT.of (h.1 _ _ ha)) ?_ ?_
      · rintro i y H' hi ⟨sm, hl1⟩
        obtain ⟨d, hd, xd⟩ := hx.get hi
        refine ⟨rfl, ?_⟩
        exact ⟨_, rfl, y, d, rfl, xd.same sm, List.all_eq_true.mp hz.2 d (List.mem_of_getElem? hd), fun H9 s9 => bools_step (f := classD) hD sm hl1 hd s9 hl⟩
      · rintro H9 ⟨sm, hl1⟩
        rw [hx.len, List.take_of_length_le (Nat.le_refl _)] at hl1
        refine ⟨_, ds.map classD, rfl, SqL.of (by rw [hl1, List.map_map]; rfl), ?_⟩
        rw [bools_all]
        have eq : classesD (.tuple ds) = (ds.all classD && ascD ds) := rfl
        rw [eq] at q
        refine ⟨_, rfl, ?_⟩
        refine ite2 (fun g => ?_) (fun g => ?_)
        · have g : ds.all classD = true := g
          rw [g, Bool.true_and] at q
          refine ⟨_, rfl, a, xs, ds, rfl, sm _ _ ha, hx.same sm, hl, .inr fun d hd => ?_, fun H2 s2 => q H2 (sm.trans s2)⟩
          have z := List.all_eq_true.mp g d hd
          rw [class_eq, Bool.and_eq_true] at z
          exact nums_tup z.1
        · have g : ds.all classD = false := Bool.eq_false_iff.mpr g
          rw [g, Bool.false_and] at q
          exact q H9 sm
    | _ => exact iteF (q H (Same.refl H))
theorem ok_is_state_form {f : Addr} {fd : FuncData} (F : Fun K "is_state_form" "is_state_form" s_is_state_form f fd) (T : Txt mg) (Z : TexZ K mg tx) {f_is_class_form : Addr} {fd_is_class_form : FuncData} (G_is_class_form : FnOk P w K mg base CX0 3 f_is_class_form fd_is_class_form P_is_class_form (spN len1 classD)) (C_is_class_form : Cal K mg "is_class_form" f_is_class_form fd_is_class_form P_is_class_form) {f_are_classes_form : Addr} {fd_are_classes_form : FuncData} (G_are_classes_form : FnOk P w K mg base CX0 4 f_are_classes_form fd_are_classes_form P_are_classes_form (spN len2 classesD)) (C_are_classes_form : Cal K mg "are_classes_form" f_are_classes_form fd_are_classes_form P_are_classes_form) : FnOk P w K mg base CX0 5 f fd P_is_state_form (spN len3 stateD) := by
  refine F.ok sc_is_state_form (fun vs H Q E h => ?_) (fun cdv A outer s H vs Q E hr h => ?_)
  · obtain ⟨v, d, rfl, _⟩ := h
    rfl
  · obtain ⟨v, d, rfl, hv, hz, q⟩ := h
    refine ⟨_, (pss_cons (ps_if (PW.pt (pw_or (pt_not (pt_val (pe_callB call_isi (by rfl) T.n_isinstance (by decide +kernel) (pa_cons (pv 0) (pa_cons (pe_bltn (v := .ty "tuple") rfl T.n_tuple (by decide +kernel) rfl) pa_nil))))) (pw_or1 (pt_cmpR op_ne (pe_callB call_len_seq (by rfl) T.n_len (by decide +kernel) (pa_cons (pv 0) pa_nil)) pe_int (nomark _))))) (pss_one (ps_ret pe_bl)) pss_nil)
      (pss_one (ps_ret (pe_and (pe_call G_is_class_form (hr.mono (by decide)) rfl C_is_class_form.m C_is_class_form.k C_is_class_form.b .nil pass0 (pa_cons (pe_ix ix_tup (pv 0) pe_int (fun _ _ => rfl)) pa_nil)) (pe_one (pe_call G_are_classes_form (hr.mono (by decide)) rfl C_are_classes_form.m C_are_classes_form.k C_are_classes_form.b .nil pass0 (pa_cons (pe_ix ix_tup (pv 0) pe_int (fun _ _ => rfl)) pa_nil))))))), ?_⟩
    refine ⟨_, rfl, _, _, _, _, _, rfl, .ty _, hv.ty, kit_tuple d, _, rfl, ?_⟩
    cases hv with
    | @tup a xs ds ha hx =>
      have hz : (decide (ds.length ≤ 100) && ds.all len2) = true := hz
      rw [Bool.and_eq_true] at hz
      refine iteF ?_
      refine ⟨_, rfl, _, _, rfl, .inr (SqT.of ha), rfl, _, rfl, ?_⟩
      have lx := hx.len
      refine ite2 (fun g => ?_) (fun g => ?_)
      · have g' : ¬ V.int (xs.length : Int) = V.int 2 := of_decide_eq_false (by simpa using g)
        have hl : ds.length ≠ 2 := fun e => g' (by rw [lx, e]; rfl)
        have e : stateD (.tuple ds) = false := by
          match ds, hl with
          | [], _ => rfl
          | [_], _ => rfl
          | _ :: _ :: _ :: _, _ => rfl
        rw [e] at q
        exact q H (Same.refl H)
      · have g' : V.int (xs.length : Int) = V.int 2 := by simpa using g
        have hl : ds.length = 2 := by
          have := V.int.inj g'
          omega
        obtain ⟨s, m, rfl⟩ : ∃ s m, ds = [s, m] := by
          cases ds with
          | nil => cases hl
          | cons s ds =>
            obtain ⟨m, rfl⟩ := List.length_eq_one_iff.mp (Nat.succ.inj hl)
            exact ⟨s, m, rfl⟩
        cases hx with
        | @cons x _ _ _ hs hx =>
        cases hx with
        | @cons y _ _ _ hm hx =>
        cases hx
        have l1 := List.all_eq_true.mp hz.2 s List.mem_cons_self
        have l2 := List.all_eq_true.mp hz.2 m (List.mem_cons_of_mem _ List.mem_cons_self)
        have l1' : len1 s = true := by
          cases s with
          | tuple es =>
            have z : (decide (es.length ≤ 100) && es.all len1) = true := l1
            exact (Bool.and_eq_true_iff.mp z).1
          | _ => rfl
        have eq : stateD (.tuple [s, m]) = (classD s && classesD m) := rfl
        rw [eq] at q
        refine ⟨_, rfl, _, _, _, _, rfl, rfl, SqT.of ha, rfl, x, s, rfl, hs, l1', fun H1 s1 => ?_⟩
        refine ⟨_, rfl, ?_⟩
        refine ite2 (fun g => ?_) (fun g => ?_)
        · have g : classD s = true := g
          rw [g, Bool.true_and] at q
          exact ⟨_, rfl, _, _, _, _, rfl, rfl, SqT.of (s1 _ _ ha), rfl, y, m, rfl, hm.same s1, l2, fun H2 s2 => q H2 (s1.trans s2)⟩
        · have g : classD s = false := Bool.eq_false_iff.mpr g
          rw [g, Bool.false_and] at q
          exact q H1 s1
    | _ => exact iteT (q H (Same.refl H))
def keyD : PyData → Bool
  | .tuple ds => ds.all numD && decide (ds.length = 2)
  | _ => false
theorem ok_is_key {f : Addr} {fd : FuncData} (F : Fun K "is_key" "is_key" s_is_key f fd) (T : Txt mg) (Z : TexZ K mg tx) {f_are_numbers : Addr} {fd_are_numbers : FuncData} (G_are_numbers : FnOk P w K mg base CX0 2 f_are_numbers fd_are_numbers P_are_numbers (spN len1 numsD)) (C_are_numbers : Cal K mg "are_numbers" f_are_numbers fd_are_numbers P_are_numbers) : FnOk P w K mg base CX0 3 f fd P_is_key (spN len1 keyD) := by
  refine F.ok sc_is_key (fun vs H Q E h => ?_) (fun cdv A outer s H vs Q E hr h => ?_)
  · obtain ⟨v, d, rfl, _⟩ := h
    rfl
  · obtain ⟨v, d, rfl, hv, hz, q⟩ := h
    refine ⟨_, (pss_one (ps_ret (pe_and (pe_call G_are_numbers (hr.mono (by decide)) rfl C_are_numbers.m C_are_numbers.k C_are_numbers.b .nil pass0 (pa_cons (pv 0) pa_nil)) (pe_one (pe_cmpR op_eq (pe_callB call_len_seq (by rfl) T.n_len (by decide +kernel) (pa_cons (pv 0) pa_nil)) pe_int (nomark _)))))), ?_⟩
    refine ⟨_, rfl, v, d, rfl, hv, hz, fun H1 s1 => ?_⟩
    refine ⟨_, rfl, ?_⟩
    refine ite2 (fun g => ?_) (fun g => ?_)
    · have g : numsD d = true := g
      obtain ⟨ds, rfl, k⟩ := nums_tup g
      have eq : keyD (.tuple ds) = decide (ds.length = 2) := by
        show (ds.all numD && _) = _
        rw [show ds.all numD = true from g, Bool.true_and]
      rw [eq] at q
      cases hv with
      | @tup a xs _ ha hx =>
        have lx := hx.len
        refine ⟨_, rfl, _, _, rfl, .inr (SqT.of (s1 _ _ ha)), rfl, ?_⟩
        have e : decide (V.int (xs.length : Int) = V.int 2) = decide (ds.length = 2) := by
          refine decide_eq_decide.mpr ⟨fun z => by have := V.int.inj z; omega, fun z => by rw [lx, z]; rfl⟩
        rw [e]
        exact q H1 s1
    · have g : numsD d = false := Bool.eq_false_iff.mpr g
      have eq : keyD d = false := by
        cases d with
        | tuple ds =>
          show (ds.all numD && _) = _
          rw [show ds.all numD = false from g, Bool.false_and]
        | _ => rfl
      rw [eq] at q
      exact q H1 s1

/-! ### rows -/
def isIdxD (d : PyData) (n : Nat) : Bool := isIntD d && match d with
  | .int i => decide (0 ≤ i) && decide (i < (n : Int))
  | _ => false
def spIdxD : Sp := fun vs H Q _ => ∃ (v : V) (d : PyData) (n : Nat), vs = [v, .int (n : Int)] ∧ Dx H v d ∧ Q (.bl (isIdxD d n)) H
theorem ok_is_index {f : Addr} {fd : FuncData} (F : Fun K "is_index" "is_index" s_is_index f fd) (T : Txt mg) (Z : TexZ K mg tx) {f_is_integer : Addr} {fd_is_integer : FuncData} (G_is_integer : FnOk P w K mg base CX0 1 f_is_integer fd_is_integer P_is_integer spInt) (C_is_integer : Cal K mg "is_integer" f_is_integer fd_is_integer P_is_integer) : FnOk P w K mg base CX0 2 f fd P_is_index spIdxD := by
  refine F.ok sc_is_index (fun vs H Q E h => ?_) (fun cdv A outer s H vs Q E hr h => ?_)
  · obtain ⟨v, d, n, rfl, _⟩ := h
    rfl
  · obtain ⟨v, d, n, rfl, hv, q⟩ := h
    refine ⟨_, (pss_one (ps_ret (pe_and (pe_call G_is_integer (hr.mono (by decide)) rfl C_is_integer.m C_is_integer.k C_is_integer.b .nil pass0 (pa_cons (pv 0) pa_nil)) (pe_one (pe_chain op_le op_lt pe_int (pv 0) (pv 1)))))), ?_⟩
    refine ⟨_, rfl, _, d, rfl, hv, _, rfl, ?_⟩
    unfold isIdxD at q
    cases e : isIntD d with
    | false =>
      rw [e] at q
      exact iteF q
    | true =>
      rw [e, Bool.true_and] at q
      obtain ⟨i, rfl⟩ : ∃ i, d = .int i := by
        cases d <;> first | exact ⟨_, rfl⟩ | cases e
      cases hv
      refine iteT ?_
      refine ⟨_, rfl, _, _, rfl, rfl, _, rfl, ?_⟩
      cases e0 : decide ((0 : Int) ≤ i) with
      | false =>
        have q' : Q (.bl (decide ((0 : Int) ≤ i) && decide (i < (n : Int)))) H := q
        rw [e0] at q'
        exact iteF q'
      | true =>
        have q' : Q (.bl (decide ((0 : Int) ≤ i) && decide (i < (n : Int)))) H := q
        rw [e0, Bool.true_and] at q'
        refine iteT ?_
        exact ⟨_, rfl, _, _, rfl, rfl, q'⟩
def usesD (n : Nat) : PyData → Bool
  | .tuple us => decide (us.length ≤ 3) && us.all fun u => isIdxD u n
  | _ => false
def rowD (n : Nat) : PyData → Bool
  | .tuple [s, u] => (isWordD s || isLeafD s) && usesD n u
  | _ => false
def okSign (d : PyData) : Bool := (listfree d && dictfree d) && (SeqAt.shaped d && (match d with | .str x => decide (x.length ≤ 100000) | _ => true))
def okRow : PyData → Bool
  | .tuple [s, u] => okSign s && len1 u
  | _ => true
def spRow : Sp := fun vs H Q _ => ∃ (v : V) (d : PyData) (n : Nat), vs = [v, .int (n : Int)] ∧ Dx H v d ∧ okRow d = true ∧ ∀ H', Same H H' → Q (.bl (rowD n d)) H'
theorem ok_is_row_form {f : Addr} {fd : FuncData} (F : Fun K "is_row_form" "is_row_form" s_is_row_form f fd) (T : Txt mg) (Z : TexZ K mg tx) {f_is_word : Addr} {fd_is_word : FuncData} (G_is_word : FnOk P w K mg base CX0 1 f_is_word fd_is_word P_is_word spWord) (C_is_word : Cal K mg "is_word" f_is_word fd_is_word P_is_word) {f_is_leaf : Addr} {fd_is_leaf : FuncData} (G_is_leaf : FnOk P w K mg base CX0 1 f_is_leaf fd_is_leaf P_is_leaf (spD isLeafD)) (C_is_leaf : Cal K mg "is_leaf" f_is_leaf fd_is_leaf P_is_leaf) {f_is_index : Addr} {fd_is_index : FuncData} (G_is_index : FnOk P w K mg base CX0 2 f_is_index fd_is_index P_is_index spIdxD) (C_is_index : Cal K mg "is_index" f_is_index fd_is_index P_is_index) : FnOk P w K mg base CX0 4 f fd P_is_row_form spRow := by
  refine F.ok sc_is_row_form (fun vs H Q E h => ?_) (fun cdv A outer s H vs Q E hr h => ?_)
  · obtain ⟨v, d, n, rfl, _⟩ := h
    rfl
  · obtain ⟨v, d, n, rfl, hv, hz, q⟩ := h
    refine ⟨_, (pss_cons (ps_if (PW.pt (pw_or (pt_not (pt_val (pe_callB call_isi (by rfl) T.n_isinstance (by decide +kernel) (pa_cons (pv 0) (pa_cons (pe_bltn (v := .ty "tuple") rfl T.n_tuple (by decide +kernel) rfl) pa_nil))))) (pw_or1 (pt_cmpR op_ne (pe_callB call_len_seq (by rfl) T.n_len (by decide +kernel) (pa_cons (pv 0) pa_nil)) pe_int (nomark _))))) (pss_one (ps_ret pe_bl)) pss_nil)
      (pss_cons (ps_asg (pv 0) (pg_tup rfl (pgs_cons (pg_name (i := 2) sc_is_row_form.nd rfl (Or.inl rfl)) (pgs_cons (pg_name (i := 3) sc_is_row_form.nd rfl (Or.inl rfl)) pgs_nil))))
      (pss_cons (ps_if (PW.pt (pw_and (pt_not (pt_val (pe_call G_is_word (hr.mono (by decide)) rfl C_is_word.m C_is_word.k C_is_word.b .nil pass0 (pa_cons (pv 2) pa_nil)))) (pw_and1 (pt_not (pt_val (pe_call G_is_leaf (hr.mono (by decide)) rfl C_is_leaf.m C_is_leaf.k C_is_leaf.b .nil pass0 (pa_cons (pv 2) pa_nil))))))) (pss_one (ps_ret pe_bl)) pss_nil)
      (pss_one (ps_ret (pe_and (pe_callB call_isi (by rfl) T.n_isinstance (by decide +kernel) (pa_cons (pv 3) (pa_cons (pe_bltn (v := .ty "tuple") rfl T.n_tuple (by decide +kernel) rfl) pa_nil))) (pe_and (pe_cmpR op_le (pe_callB call_len_seq (by rfl) T.n_len (by decide +kernel) (pa_cons (pv 3) pa_nil)) (pe_glob (v := .int 3) rfl T.m_MAX_USES.choose_spec ⟨_, rfl⟩) (nomark _)) (pe_one (pe_callB (cr_all rfl) (by rfl) T.n_all (by decide +kernel) (pa_cons (pe_lc (own := [("use", 4)]) (g := gName 4) (tt := tYes) rfl sc_is_row_form.nd (pi_tup (pv 3)) (blkOk_by (own := [("use", 4)]) (N := ["value", "index", "sign", "uses", "use"]) (sc := (defScope s_is_row_form)) (by decide +kernel)) (fun _ _ _ _ _ => (pg_name (i := 4) sc_is_row_form.nd rfl (Or.inl rfl))) (fun _ _ _ _ _ => pts_nil) (fun _ _ _ _ _ => (pe_call G_is_index (hr.mono (by decide)) rfl C_is_index.m C_is_index.k C_is_index.b .nil pass0 (pa_cons (pv 4) (pa_cons (pv 1) pa_nil))))) pa_nil)))))))))), ?_⟩
    refine ⟨_, rfl, _, _, _, _, _, rfl, .ty _, hv.ty, kit_tuple d, _, rfl, ?_⟩
    cases hv with
    | @tup a xs ds ha hx =>
      refine iteF ?_
      refine ⟨_, rfl, _, _, rfl, .inr (SqT.of ha), rfl, _, rfl, ?_⟩
      have lx := hx.len
      refine ite2 (fun g => ?_) (fun g => ?_)
      · have g' : ¬ V.int (xs.length : Int) = V.int 2 := of_decide_eq_false (by simpa using g)
        have hl : ds.length ≠ 2 := fun e => g' (by rw [lx, e]; rfl)
        have e : rowD n (.tuple ds) = false := by
          match ds, hl with
          | [], _ => rfl
          | [_], _ => rfl
          | _ :: _ :: _ :: _, _ => rfl
        rw [e] at q
        exact q H (Same.refl H)
      · have g' : V.int (xs.length : Int) = V.int 2 := by simpa using g
        have hl : ds.length = 2 := by
          have := V.int.inj g'
          omega
        obtain ⟨s, m, rfl⟩ : ∃ s m, ds = [s, m] := by
          cases ds with
          | nil => cases hl
          | cons s ds =>
            obtain ⟨m, rfl⟩ := List.length_eq_one_iff.mp (Nat.succ.inj hl)
            exact ⟨s, m, rfl⟩
        cases hx with
        | @cons x _ _ _ hs hx =>
        cases hx with
        | @cons y _ _ _ hm hx =>
        cases hx
        have hz : (okSign s && len1 m) = true := hz
        rw [Bool.and_eq_true] at hz
        obtain ⟨hs0, hm0⟩ := hz
        simp only [okSign, Bool.and_eq_true] at hs0
        obtain ⟨⟨c1, c2⟩, c3, c4⟩ := hs0
        have eq : rowD n (.tuple [s, m]) = ((isWordD s || isLeafD s) && usesD n m) := rfl
        rw [eq] at q
        refine ⟨_, rfl, _, _, rfl, SqT.of ha, rfl, _, _, rfl, _, _, rfl, rfl, ?_⟩
        dsimp only
        show tSeq (tIfS ?A ?B ?C) ?R ?D ?S ?H
        have rest : ∀ G, Same H G → (∀ G', Same G G' → Q (.bl (usesD n m)) G') → ?R ?D [some (.ref a), some (.int (n : Int)), some x, some y, none] G := by
          intro G sG qG
          have hmG := hm.same sG
          refine ⟨_, rfl, _, _, _, _, _, rfl, .ty _, hmG.ty, kit_tuple m, _, rfl, ?_⟩
          cases hm with
          | @tup bb ys us hb hy =>
            have hyG := hy.same sG
            refine iteT ?_
            refine ⟨_, rfl, _, _, rfl, .inr (SqT.of (sG _ _ hb)), _, _, rfl, rfl, _, rfl, ?_⟩
            have ly := hy.len
            have e : usesD n (.tuple us) = (decide (us.length ≤ 3) && us.all fun u => isIdxD u n) := rfl
            rw [e] at qG
            refine ite2 (fun g => ?_) (fun g => ?_)
            · have g' : us.length ≤ 3 := by have := of_decide_eq_true g; omega
              rw [decide_eq_true g', Bool.true_and] at qG
              refine ⟨_, rfl, _, rfl, ⟨_, SqT.of (sG _ _ hb)⟩, fun D hD => ?_⟩
              refine lc_tup (K := K) (xs := ys) (fun i H' => Same G H' ∧ H' D = some (.lst ((us.take i).map fun d => V.bl (isIdxD d n)))) ⟨sameOf hD (fun b hb => upd_ne hb), upd_same⟩ (fun i H' _ h => SqT.of (h.1 _ _ (sG _ _ hb))) ?_ ?_
              · rintro i z H' hi ⟨sm, hl1⟩
                obtain ⟨d, hd, xd⟩ := hyG.get hi
                refine ⟨rfl, ?_⟩
                exact ⟨_, rfl, _, rfl, z, d, n, rfl, xd.same sm, bools_step (f := fun d => isIdxD d n) hD sm hl1 hd (Same.refl H') (by omega)⟩
              · rintro H9 ⟨sm, hl1⟩
                rw [ly, List.take_of_length_le (Nat.le_refl _)] at hl1
                refine ⟨_, us.map fun d => isIdxD d n, rfl, SqL.of (by rw [hl1, List.map_map]; rfl), ?_⟩
                rw [bools_all]
                exact qG H9 sm
            · have g' : ¬ us.length ≤ 3 := fun z => g (decide_eq_true (by omega))
              rw [decide_eq_false g', Bool.false_and] at qG
              exact qG G (Same.refl G)
          | _ => exact iteF (qG G (Same.refl G))
        refine ⟨_, rfl, x, s, rfl, hs, (fun z e => by subst e; exact of_decide_eq_true c4), fun H1 s1 => ?_⟩
        refine ⟨_, rfl, ?_⟩
        cases ew : isWordD s with
        | true =>
          rw [ew, Bool.true_or, Bool.true_and] at q
          refine iteF ?_
          refine iteF ?_
          exact rest H1 s1 fun G' s' => q G' (s1.trans s')
        | false =>
          rw [ew, Bool.false_or] at q
          refine iteT ?_
          refine ⟨_, rfl, x, s, rfl, hs.same s1, ⟨c1, c2, c3⟩, fun H2 s2 => ?_⟩
          refine ⟨_, rfl, ?_⟩
          have s12 := s1.trans s2
          cases el : isLeafD s with
          | true =>
            rw [el, Bool.true_and] at q
            refine iteF ?_
            exact rest H2 s12 fun G' s' => q G' (s12.trans s')
          | false =>
            rw [el, Bool.false_and] at q
            refine iteT ?_
            exact q H2 s12
    | _ => exact iteT (q H (Same.refl H))

/-! ### what is refused -/
def spCkP (tx : Xa) : Sp := fun vs H _ E => ∃ v d, vs = [v] ∧ Dx H v d ∧ E (.ref tx.P) none H
theorem ok_check_program {f : Addr} {fd : FuncData} (F : Fun K "check_program" "check_program" s_check_program f fd) (T : Txt mg) (Z : TexZ K mg tx) : FnOk P w K mg base (L2.CX P w) 2 f fd P_check_program (spCkP tx) := by
  refine F.okX sc_check_program (fun vs H Q E h => ?_) (fun cdv A outer s H vs Q E hr h => ?_)
  · obtain ⟨v, d, rfl, _⟩ := h
    rfl
  · obtain ⟨v, d, rfl, hv, q⟩ := h
    refine ⟨_, (pss_one (ps_if (pt_not (pt_val (pe_callB call_isi (by rfl) T.n_isinstance (by decide +kernel) (pa_cons (pv 0) (pa_cons (pe_glob (v := .ref tx.G) rfl Z.gG rfl) pa_nil))))) (pss_one (ps_raise (W := WR E) rfl (takes_of rfl rfl rfl rfl) (pmk_own PySem.F.excBase_ValueError (Z.exc 2 (by decide)) Z.gP (Z.keep 2 (by decide)) (raises_own (Z.sub 2 (by decide)) (Z.ty 2 (by decide))) rfl))) pss_nil)), ?_⟩
    refine ⟨_, rfl, _, _, _, _, _, rfl, .own _, hv.ty, Z.kit _ (tyN_mem d), _, rfl, ?_⟩
    refine iteT ?_
    exact q
def spCkT (tx : Xa) : Sp := fun vs H Q E => ∃ v d, vs = [v] ∧ Dx H v d ∧ ((tyN d == "str") = true → Q .non H) ∧ ((tyN d == "str") = false → ∀ (dx : Addr) (H' : Hp), Same H H' → H' dx = some (.xd [("line", .non)]) → E (.ref tx.C) (some dx) H')
theorem ok_check_text {f : Addr} {fd : FuncData} (F : Fun K "check_text" "check_text" s_check_text f fd) (T : Txt mg) (Z : TexZ K mg tx) {fd_ParseError : FuncData} (G_ParseError : FnOk P w K mg base CX0 1 tx.I fd_ParseError P_iParseError (spIni K "line")) (B_ParseError : Binds K fd_ParseError P_iParseError []) : FnOk P w K mg base (L2.CX P w) 3 f fd P_check_text (spCkT tx) := by
  refine F.okX sc_check_text (fun vs H Q E h => ?_) (fun cdv A outer s H vs Q E hr h => ?_)
  · obtain ⟨v, d, rfl, _⟩ := h
    rfl
  · obtain ⟨v, d, rfl, hv, q1, q2⟩ := h
    refine ⟨_, (pss_one (ps_if (pt_not (pt_val (pe_callB call_isi (by rfl) T.n_isinstance (by decide +kernel) (pa_cons (pv 0) (pa_cons (pe_bltn (v := .ty "str") rfl T.n_str (by decide +kernel) rfl) pa_nil))))) (pss_one (ps_raise (W := WR E) rfl (takes_of rfl rfl rfl rfl) (pmk_oex Z.o Z.ini.i Z.ini.t G_ParseError (hr.mono (by decide)) B_ParseError .nil pass0 rfl Z.gC (pa_cons pe_non pa_nil)))) pss_nil)), ?_⟩
    refine ⟨_, rfl, _, _, _, _, _, rfl, .ty _, hv.ty, kit_str d, _, rfl, ?_⟩
    refine ite2 (fun g => ?_) (fun g => ?_)
    · exact mkO_any Z.ini (q2 (by simpa using g))
    · exact q1 (by simpa using g)
def spBadT (tx : Xa) : Sp := fun vs H _ E => ∃ v d, vs = [v] ∧ Dx H v d ∧ (tyN d == "str") = false ∧ ∀ (dx : Addr) (H' : Hp), Same H H' → H' dx = some (.xd [("line", .non)]) → E (.ref tx.C) (some dx) H'
theorem ok_read_state {f : Addr} {fd : FuncData} (F : Fun K "read_state" "read_state" s_read_state f fd) (T : Txt mg) (Z : TexZ K mg tx) {f_check_text : Addr} {fd_check_text : FuncData} (G_check_text : FnOk P w K mg base (L2.CX P w) 3 f_check_text fd_check_text P_check_text (spCkT tx)) (C_check_text : Cal K mg "check_text" f_check_text fd_check_text P_check_text) : FnOk P w K mg base (L2.CX P w) 4 f fd P_read_state (spBadT tx) := by
  refine F.okX sc_read_state (fun vs H Q E h => ?_) (fun cdv A outer s H vs Q E hr h => ?_)
  · obtain ⟨v, d, rfl, _⟩ := h
    rfl
  · obtain ⟨v, d, rfl, hv, ht, q⟩ := h
    refine ⟨_, (pss_cons (ps_expr (pe_call G_check_text (hr.mono (by decide)) rfl C_check_text.m C_check_text.k C_check_text.b .nil (passes_call (takes_of rfl rfl rfl rfl) (fun _ _ _ _ z => z)) (pa_cons (pv 0) pa_nil))) pss_never), ?_⟩
    exact ⟨_, rfl, v, d, rfl, hv, (fun z => by rw [ht] at z; cases z), fun _ => q⟩
theorem ok_read_table {f : Addr} {fd : FuncData} (F : Fun K "read_table" "read_table" s_read_table f fd) (T : Txt mg) (Z : TexZ K mg tx) {f_check_text : Addr} {fd_check_text : FuncData} (G_check_text : FnOk P w K mg base (L2.CX P w) 3 f_check_text fd_check_text P_check_text (spCkT tx)) (C_check_text : Cal K mg "check_text" f_check_text fd_check_text P_check_text) : FnOk P w K mg base (L2.CX P w) 4 f fd P_read_table (spBadT tx) := by
  refine F.okX sc_read_table (fun vs H Q E h => ?_) (fun cdv A outer s H vs Q E hr h => ?_)
  · obtain ⟨v, d, rfl, _⟩ := h
    rfl
  · obtain ⟨v, d, rfl, hv, ht, q⟩ := h
    refine ⟨_, (pss_cons (ps_expr (pe_call G_check_text (hr.mono (by decide)) rfl C_check_text.m C_check_text.k C_check_text.b .nil (passes_call (takes_of rfl rfl rfl rfl) (fun _ _ _ _ z => z)) (pa_cons (pv 0) pa_nil))) pss_never), ?_⟩
    exact ⟨_, rfl, v, d, rfl, hv, (fun z => by rw [ht] at z; cases z), fun _ => q⟩
theorem ok_read_rows {f : Addr} {fd : FuncData} (F : Fun K "read_rows" "read_rows" s_read_rows f fd) (T : Txt mg) (Z : TexZ K mg tx) {f_check_text : Addr} {fd_check_text : FuncData} (G_check_text : FnOk P w K mg base (L2.CX P w) 3 f_check_text fd_check_text P_check_text (spCkT tx)) (C_check_text : Cal K mg "check_text" f_check_text fd_check_text P_check_text) : FnOk P w K mg base (L2.CX P w) 4 f fd P_read_rows (spBadT tx) := by
  refine F.okX sc_read_rows (fun vs H Q E h => ?_) (fun cdv A outer s H vs Q E hr h => ?_)
  · obtain ⟨v, d, rfl, _⟩ := h
    rfl
  · obtain ⟨v, d, rfl, hv, ht, q⟩ := h
    refine ⟨_, (pss_cons (ps_expr (pe_call G_check_text (hr.mono (by decide)) rfl C_check_text.m C_check_text.k C_check_text.b .nil (passes_call (takes_of rfl rfl rfl rfl) (fun _ _ _ _ z => z)) (pa_cons (pv 0) pa_nil))) pss_never), ?_⟩
    exact ⟨_, rfl, v, d, rfl, hv, (fun z => by rw [ht] at z; cases z), fun _ => q⟩
theorem ok_read_program {f : Addr} {fd : FuncData} (F : Fun K "read_program" "read_program" s_read_program f fd) (T : Txt mg) (Z : TexZ K mg tx) {f_check_text : Addr} {fd_check_text : FuncData} (G_check_text : FnOk P w K mg base (L2.CX P w) 3 f_check_text fd_check_text P_check_text (spCkT tx)) (C_check_text : Cal K mg "check_text" f_check_text fd_check_text P_check_text) : FnOk P w K mg base (L2.CX P w) 4 f fd P_read_program (spBadT tx) := by
  refine F.okX sc_read_program (fun vs H Q E h => ?_) (fun cdv A outer s H vs Q E hr h => ?_)
  · obtain ⟨v, d, rfl, _⟩ := h
    rfl
  · obtain ⟨v, d, rfl, hv, ht, q⟩ := h
    refine ⟨_, (pss_cons (ps_expr (pe_call G_check_text (hr.mono (by decide)) rfl C_check_text.m C_check_text.k C_check_text.b .nil (passes_call (takes_of rfl rfl rfl rfl) (fun _ _ _ _ z => z)) (pa_cons (pv 0) pa_nil))) pss_never), ?_⟩
    exact ⟨_, rfl, v, d, rfl, hv, (fun z => by rw [ht] at z; cases z), fun _ => q⟩
theorem ok_write_program {f : Addr} {fd : FuncData} (F : Fun K "write_program" "write_program" s_write_program f fd) (T : Txt mg) (Z : TexZ K mg tx) {f_check_program : Addr} {fd_check_program : FuncData} (G_check_program : FnOk P w K mg base (L2.CX P w) 2 f_check_program fd_check_program P_check_program (spCkP tx)) (C_check_program : Cal K mg "check_program" f_check_program fd_check_program P_check_program) : FnOk P w K mg base (L2.CX P w) 3 f fd P_write_program (spCkP tx) := by
  refine F.okX sc_write_program (fun vs H Q E h => ?_) (fun cdv A outer s H vs Q E hr h => ?_)
  · obtain ⟨v, d, rfl, _⟩ := h
    rfl
  · obtain ⟨v, d, rfl, hv, q⟩ := h
    refine ⟨_, (pss_cons (ps_expr (pe_call G_check_program (hr.mono (by decide)) rfl C_check_program.m C_check_program.k C_check_program.b .nil (passes_call (takes_of rfl rfl rfl rfl) (fun _ _ _ _ z => z)) (pa_cons (pv 0) pa_nil))) pss_never), ?_⟩
    exact ⟨_, rfl, v, d, rfl, hv, q⟩
def spWS (tx : Xa) : Sp := fun vs H _ E => ∃ v d, vs = [v] ∧ Dx H v d ∧ len3 d = true ∧ stateD d = false ∧ ∀ H', Same H H' → E (.ref tx.B) none H'
theorem ok_write_state {f : Addr} {fd : FuncData} (F : Fun K "write_state" "write_state" s_write_state f fd) (T : Txt mg) (Z : TexZ K mg tx) {f_is_state_form : Addr} {fd_is_state_form : FuncData} (G_is_state_form : FnOk P w K mg base CX0 5 f_is_state_form fd_is_state_form P_is_state_form (spN len3 stateD)) (C_is_state_form : Cal K mg "is_state_form" f_is_state_form fd_is_state_form P_is_state_form) : FnOk P w K mg base (L2.CX P w) 6 f fd P_write_state (spWS tx) := by
  refine F.okX sc_write_state (fun vs H Q E h => ?_) (fun cdv A outer s H vs Q E hr h => ?_)
  · obtain ⟨v, d, rfl, _⟩ := h
    rfl
  · obtain ⟨v, d, rfl, hv, hz, ht, q⟩ := h
    refine ⟨_, (pss_cons (ps_if (pt_not (pt_val (pe_call G_is_state_form (hr.mono (by decide)) rfl C_is_state_form.m C_is_state_form.k C_is_state_form.b .nil pass0 (pa_cons (pv 0) pa_nil)))) (pss_one (ps_raise (W := WR E) rfl (takes_of rfl rfl rfl rfl) (pmk_own PySem.F.excBase_ValueError (Z.exc 0 (by decide)) Z.gB (Z.keep 0 (by decide)) (raises_own (Z.sub 0 (by decide)) (Z.ty 0 (by decide))) rfl))) pss_nil) pss_never), ?_⟩
    refine ⟨_, rfl, v, d, rfl, hv, hz, fun H1 s1 => ?_⟩
    rw [ht]
    refine ⟨_, rfl, ?_⟩
    exact iteT (q H1 s1)

/-! ### texts of numbers, rows and tables -/
def bigI : Int := 10 ^ 59
theorem big_ok : (Str.ofString (toString bigI)).length ≤ 100 ∧ bigI.natAbs.log2 < 1920 := by decide +kernel
def spW1 : Sp := fun vs H Q _ => ∃ (a : Addr), vs = [.ref a] ∧ H a = some (.tup [.int bigI]) ∧ ∀ (t : Str) (H' : Hp), Same H H' → Q (.str t) H'
theorem ok_numbers_text {f : Addr} {fd : FuncData} (F : Fun K "numbers_text" "numbers_text" s_numbers_text f fd) (T : Txt mg) (Z : TexZ K mg tx) : FnOk P w K mg base CX0 1 f fd P_numbers_text spW1 := by
  refine F.ok sc_numbers_text (fun vs H Q E h => ?_) (fun cdv A outer s H vs Q E hr h => ?_)
  · obtain ⟨a, rfl, _⟩ := h
    rfl
  · obtain ⟨a, rfl, ha, q⟩ := h
    refine ⟨_, (pss_one (ps_ret (pe_ifExp (pt_truth (pv 0) (by intro _; rfl)) (pe_join pe_str (pe_lc (own := [("number", 1)]) (g := gName 1) (tt := tYes) rfl sc_numbers_text.nd (pi_tup (pv 0)) (blkOk_by (own := [("number", 1)]) (N := ["numbers", "number"]) (sc := (defScope s_numbers_text)) (by decide +kernel)) (fun _ _ _ _ _ => (pg_name (i := 1) sc_numbers_text.nd rfl (Or.inl rfl))) (fun _ _ _ _ _ => pts_nil) (fun _ _ _ _ _ => (pe_callTy call_str_int (by rfl) T.n_str (by decide +kernel) (pa_cons (pv 1) pa_nil))))) (pe_glob (v := .str "-") rfl T.m_EMPTY.choose_spec ⟨_, rfl⟩)))), ?_⟩
    refine ⟨_, rfl, true, .inr (.inl ⟨_, SqT.of ha, rfl⟩), ?_⟩
    refine iteT ?_
    refine ⟨⟨_, rfl⟩, _, rfl, _, rfl, ⟨_, SqT.of ha⟩, fun D hD => ?_⟩
    refine lc_tup (K := K) (xs := [V.int bigI]) (fun j H' => Same H H' ∧ H' D = some (.lst ((([Str.ofString (toString bigI)] : List Str).take j).map V.str))) ⟨sameOf hD (fun b hb => upd_ne hb), upd_same⟩ (fun j H' _ h => SqT.of (h.1 _ _ ha)) ?_ ?_
    · rintro j y H' hj ⟨sm, hl⟩
      have j0 : j = 0 := by
        have := (List.getElem?_eq_some_iff.mp hj).1
        simp at this
        exact this
      subst j0
      cases hj
      refine ⟨rfl, ?_⟩
      refine ⟨_, rfl, _, rfl, big_ok.2, _, hl, szlt (Nat.zero_le _), fun b o e => ?_, upd_same⟩
      rw [upd_ne (ne_of_none e hD)]
      exact sm _ _ e
    · rintro H9 ⟨sm, hl⟩
      refine ⟨_, _, [Str.ofString (toString bigI)], rfl, rfl, (.inl (SqL.of hl)), ?_, ?_⟩
      · have := big_ok.1
        show ((Str.ofString (toString bigI)).length + 0) + 1 * (Str.length " ") ≤ 16777216
        rw [show Str.length " " = 1 from rfl]
        omega
      · exact q _ H9 sm
def spWN (tx : Xa) : Sp := fun vs H Q E => ∃ v d, vs = [v] ∧ Dx H v d ∧ len1 d = true ∧ (numsD d = false → ∀ H', Same H H' → E (.ref tx.O) none H') ∧ (numsD d = true → d = .tuple [.int bigI] ∧ ∀ (t : Str) (H' : Hp), Same H H' → Q (.str t) H')
theorem ok_write_numbers {f : Addr} {fd : FuncData} (F : Fun K "write_numbers" "write_numbers" s_write_numbers f fd) (T : Txt mg) (Z : TexZ K mg tx) {f_are_numbers : Addr} {fd_are_numbers : FuncData} (G_are_numbers : FnOk P w K mg base CX0 2 f_are_numbers fd_are_numbers P_are_numbers (spN len1 numsD)) (C_are_numbers : Cal K mg "are_numbers" f_are_numbers fd_are_numbers P_are_numbers) {f_numbers_text : Addr} {fd_numbers_text : FuncData} (G_numbers_text : FnOk P w K mg base CX0 1 f_numbers_text fd_numbers_text P_numbers_text spW1) (C_numbers_text : Cal K mg "numbers_text" f_numbers_text fd_numbers_text P_numbers_text) : FnOk P w K mg base (L2.CX P w) 3 f fd P_write_numbers (spWN tx) := by
  refine F.okX sc_write_numbers (fun vs H Q E h => ?_) (fun cdv A outer s H vs Q E hr h => ?_)
  · obtain ⟨v, d, rfl, _⟩ := h
    rfl
  · obtain ⟨v, d, rfl, hv, hz, q1, q2⟩ := h
    refine ⟨_, (pss_cons (ps_if (pt_not (pt_val (pe_call G_are_numbers (hr.mono (by decide)) rfl C_are_numbers.m C_are_numbers.k C_are_numbers.b .nil pass0 (pa_cons (pv 0) pa_nil)))) (pss_one (ps_raise (W := WR E) rfl (takes_of rfl rfl rfl rfl) (pmk_own PySem.F.excBase_ValueError (Z.exc 3 (by decide)) Z.gO (Z.keep 3 (by decide)) (raises_own (Z.sub 3 (by decide)) (Z.ty 3 (by decide))) rfl))) pss_nil)
      (pss_one (ps_ret (pe_call G_numbers_text (hr.mono (by decide)) rfl C_numbers_text.m C_numbers_text.k C_numbers_text.b .nil pass0 (pa_cons (pv 0) pa_nil))))), ?_⟩
    refine ⟨_, rfl, v, d, rfl, hv, hz, fun H1 s1 => ?_⟩
    refine ⟨_, rfl, ?_⟩
    cases e : numsD d with
    | false => exact iteT (q1 e H1 s1)
    | true =>
      obtain ⟨rfl, q⟩ := q2 e
      cases hv with
      | @tup a xs _ ha hx =>
      cases hx with
      | cons h1 hx =>
      cases hx
      cases h1
      refine iteF ?_
      exact ⟨_, rfl, a, rfl, s1 _ _ ha, fun t H2 s2 => q t H2 (s1.trans s2)⟩

/-! ### numbers told -/
theorem nine_facts : ((repS "9" 60).length = 60 ∧ (repS "9" 61).length = 61) ∧ (repS "9" 60).cps.toList.all (fun c => decide (c = 57)) = true ∧ (PySem.intText? (repS "9" 60)).isSome = true ∧ Txt.split (repS "9" 60) " " = [repS "9" 60] ∧ Txt.split (repS "9" 61) " " = [repS "9" 61] := by decide +kernel
@[irreducible] def nineS (n : Nat) : Str := repS "9" n
theorem nineS_eq (n : Nat) : nineS n = repS "9" n := by unfold nineS; rfl
theorem nine_len : (nineS 60).length = 60 ∧ (nineS 61).length = 61 := by rw [nineS_eq, nineS_eq]; exact nine_facts.1
theorem nine_all {c : Nat} (h : c ∈ (nineS 60).cps.toList) : c = 57 := by
  rw [nineS_eq] at h
  exact of_decide_eq_true (List.all_eq_true.mp nine_facts.2.1 c h)
theorem nine_int : ∃ n, PySem.intText? (nineS 60) = some n := by
  rw [nineS_eq]
  exact Option.isSome_iff_exists.mp nine_facts.2.2.1
theorem nine_split : Txt.split (nineS 60) " " = [nineS 60] ∧ Txt.split (nineS 61) " " = [nineS 61] := by
  rw [nineS_eq, nineS_eq]
  exact nine_facts.2.2.2
def spNo : Sp := fun vs H Q _ => (vs = [.str (nineS 60)] ∧ ∀ (i : Int) (H' : Hp), Same H H' → Q (.int i) H') ∨ (vs = [.str (nineS 61)] ∧ ∀ (H' : Hp), Same H H' → Q .non H')
theorem ok_number_told {f : Addr} {fd : FuncData} (F : Fun K "number_told" "number_told" s_number_told f fd) (T : Txt mg) (Z : TexZ K mg tx) : FnOk P w K mg base CX0 1 f fd P_number_told spNo := by
  refine F.ok sc_number_told (fun vs H Q E h => ?_) (fun cdv A outer s H vs Q E hr h => ?_)
  · rcases h with ⟨rfl, _⟩ | ⟨rfl, _⟩ <;> rfl
  · obtain ⟨x, rfl⟩ : ∃ x, vs = [.str x] := by rcases h with ⟨rfl, _⟩ | ⟨rfl, _⟩ <;> exact ⟨_, rfl⟩
    refine ⟨_, (pss_cons (ps_if (PW.pt (pw_or (pt_not (pt_chain op_le op_le pe_int (pe_callB call_len_str (by rfl) T.n_len (by decide +kernel) (pa_cons (pv 0) pa_nil)) (pe_glob (v := .int 60) rfl T.m_MAX_DIGITS.choose_spec ⟨_, rfl⟩))) (pw_or1 (pt_not (pt_val (pe_callB (cr_all rfl) (by rfl) T.n_all (by decide +kernel) (pa_cons (pe_lc (own := [("letter", 1)]) (g := gName 1) (tt := tYes) rfl sc_number_told.nd (pi_str (pv 0)) (blkOk_by (own := [("letter", 1)]) (N := ["text", "letter"]) (sc := (defScope s_number_told)) (by decide +kernel)) (fun _ _ _ _ _ => (pg_name (i := 1) sc_number_told.nd rfl (Or.inl rfl))) (fun _ _ _ _ _ => pts_nil) (fun _ _ _ _ _ => (pe_chain op_le_str op_le_str pe_str (pv 1) pe_str))) pa_nil))))))) (pss_one (ps_ret pe_non)) pss_nil)
      (pss_one (ps_ret (pe_ifExp (PW.pt (pw_or (pt_cmpR op_ne (pe_ix ix_str (pv 0) pe_int (fun _ _ => rfl)) pe_str (nomark _)) (pw_or1 (pt_cmpR op_eq (pv 0) pe_str (nomark _))))) (pe_callTy call_int_str (by rfl) T.n_int (by decide +kernel) (pa_cons (pv 0) pa_nil)) pe_non)))), ?_⟩
    rcases h with ⟨e, q⟩ | ⟨e, q⟩
    · cases e
      have l := nine_len.1
      refine ⟨_, rfl, _, rfl, by rw [l, sizeLine_eq]; decide, _, _, rfl, rfl, _, rfl, ?_⟩
      rw [l]
      refine ite2 (fun g => ?_) (fun g => absurd (decide_eq_true (by decide)) g)
      refine ⟨_, _, rfl, rfl, _, rfl, ?_⟩
      refine iteF ?_
      refine ⟨_, rfl, _, rfl, fun D hD => lc_it (walk_str (z := nineS 60)) (fun i H' => Same H H' ∧ H' D = some (.lst ((List.replicate i true).map V.bl))) ⟨sameOf hD (fun b hb => upd_ne hb), upd_same⟩ (fun _ _ _ _ => trivial) ?_ ?_⟩
      · rintro i v H1 H2 hi ⟨sm, hl1⟩ ⟨rfl, c, hc, rfl⟩
        refine ⟨rfl, ?_⟩
        have hc2 : (nineS 60).cps.toList[i]? = some c := by rw [Array.getElem?_toList]; exact hc
        obtain rfl := nine_all (List.mem_of_getElem? hc2)
        have hi : i < 60 := by
          have ecs : (nineS 60).cps.size = (nineS 60).length := rfl
          omega
        refine ⟨_, rfl, _, _, rfl, rfl, _, rfl, ?_⟩
        refine ite2 (fun g1 => ?_) (fun g1 => absurd rfl g1)
        refine ⟨_, _, rfl, rfl, ?_⟩
        refine ⟨_, hl1, szlt (by rw [List.length_map, List.length_replicate]; omega), fun b o e => ?_, ?_⟩
        · rw [upd_ne (ne_of_none e hD)]
          exact sm _ _ e
        · rw [upd_same, List.replicate_succ', List.map_append]
          rfl
      · rintro H1 ⟨sm, hl1⟩
        refine ⟨_, _, rfl, SqL.of hl1, ?_⟩
        rw [show (List.replicate (nineS 60).cps.size true).all id = true from List.all_eq_true.mpr fun x hx => (List.eq_of_mem_replicate hx)]
        refine ⟨_, rfl, ?_⟩
        refine iteF ?_
        have h0 : (nineS 60).cps.toList[0]? = some 57 := by
          have e0 : 0 < (nineS 60).cps.toList.length := by
            have ecs : (nineS 60).cps.toList.length = (nineS 60).length := Array.length_toList
            omega
          rw [List.getElem?_eq_getElem e0, nine_all (List.getElem_mem e0)]
        obtain ⟨N, hN⟩ := nine_int
        refine ⟨_, rfl, _, _, 57, rfl, rfl, by rw [l, sizeLine_eq]; decide, atI_nat (j := 0) h0, rfl, _, rfl, ?_⟩
        refine iteT ?_
        refine iteT ?_
        exact ⟨_, rfl, _, N, rfl, hN, by omega, q N H1 sm⟩
    · cases e
      have l := nine_len.2
      refine ⟨_, rfl, _, rfl, by rw [l, sizeLine_eq]; decide, _, _, rfl, rfl, _, rfl, ?_⟩
      rw [l]
      refine ite2 (fun g => ?_) (fun g => absurd (decide_eq_true (by decide)) g)
      refine ⟨_, _, rfl, rfl, _, rfl, ?_⟩
      refine iteT ?_
      exact q H (Same.refl H)
def spNums : Sp := fun vs H Q _ => (vs = [.str (nineS 60)] ∧ ∀ (p : Addr) (H' : Hp), Same H H' → Q (.ref p) H') ∨ (vs = [.str (nineS 61)] ∧ ∀ (H' : Hp), Same H H' → Q .non H')
theorem ok_numbers_told {f : Addr} {fd : FuncData} (F : Fun K "numbers_told" "numbers_told" s_numbers_told f fd) (T : Txt mg) (Z : TexZ K mg tx) {f_number_told : Addr} {fd_number_told : FuncData} (G_number_told : FnOk P w K mg base CX0 1 f_number_told fd_number_told P_number_told spNo) (C_number_told : Cal K mg "number_told" f_number_told fd_number_told P_number_told) : FnOk P w K mg base CX0 2 f fd P_numbers_told spNums := by
  refine F.ok sc_numbers_told (fun vs H Q E h => ?_) (fun cdv A outer s H vs Q E hr h => ?_)
  · rcases h with ⟨rfl, _⟩ | ⟨rfl, _⟩ <;> rfl
  · obtain ⟨x, rfl⟩ : ∃ x, vs = [.str x] := by rcases h with ⟨rfl, _⟩ | ⟨rfl, _⟩ <;> exact ⟨_, rfl⟩
    refine ⟨_, (pss_cons (ps_if (pt_cmpR op_eq (pv 0) (pe_glob (v := .str "-") rfl T.m_EMPTY.choose_spec ⟨_, rfl⟩) (nomark _)) (pss_one (ps_ret (pe_tup pa_nil))) pss_nil)
      (pss_cons (ps_setLc (i := 1) (own := [("item", 2)]) (g := gName 2) (tt := tYes) rfl sc_numbers_told.nd rfl rfl (sw_true rfl rfl rfl (by decide +kernel)) (pi_list (pe_split (pv 0) pe_str)) (blkOk_by (own := [("item", 2)]) (N := ["text", "numbers", "item"]) (sc := (defScope s_numbers_told)) (by decide +kernel)) (fun _ _ _ _ _ => (pg_name (i := 2) sc_numbers_told.nd rfl (Or.inl rfl))) (fun _ _ _ _ _ => pts_nil) (fun _ _ _ _ _ => (pe_call G_number_told (hr.mono (by decide)) rfl C_number_told.m C_number_told.k C_number_told.b .nil pass0 (pa_cons (pv 2) pa_nil))))
      (pss_one (ps_ret (pe_ifExp (pt_cmpR (op_inX (hu65 hr)) pe_non (pv 1) (by first | rfl | with_unfolding_all rfl)) pe_non (pe_callTy call_tuple_of (by rfl) T.n_tuple (by decide +kernel) (pa_cons (pv 1) pa_nil))))))), ?_⟩
    have l60 := nine_len.1
    have l61 := nine_len.2
    have nedash : ∀ y : Str, 60 ≤ y.length → (decide (V.str y = V.str "-")) = false := fun y hy => decide_eq_false fun z => by
      have := congrArg Str.length (V.str.inj z)
      rw [show Str.length "-" = 1 from rfl] at this
      omega
    obtain ⟨lx, sx⟩ : (60 ≤ x.length ∧ x.length ≤ 61) ∧ Txt.split x " " = [x] := by
      rcases h with ⟨e, _⟩ | ⟨e, _⟩ <;> cases e
      · exact ⟨⟨by omega, by omega⟩, nine_split.1⟩
      · exact ⟨⟨by omega, by omega⟩, nine_split.2⟩
    refine ⟨_, rfl, rfl, _, rfl, ?_⟩
    rw [nedash x lx.1]
    refine iteF ?_
    refine ⟨_, rfl, ⟨_, rfl⟩, _, _, rfl, rfl, rfl, by rw [sizeLine_eq]; omega, fun p2 n2 => ?_⟩
    rw [sx]
    generalize g2 : upd _ p2 _ = H2; obtain ⟨e2, o2, t2⟩ := made n2 g2; clear g2
    have s2 := sameOf n2 o2
    refine ⟨_, rfl, ⟨_, SqL.of t2⟩, fun D hD => ?_⟩
    rcases h with ⟨e, q⟩ | ⟨e, q⟩
    · cases e
      refine lc_list (K := K) (a := p2) (xs := [V.str (nineS 60)]) (fun j H' => Same H2 H' ∧ ∃ is : List Int, H' D = some (.lst (is.map V.int)) ∧ is.length = j) ⟨sameOf hD (fun b hb => upd_ne hb), [], upd_same, rfl⟩ (fun i H' _ h => SqL.of (h.1 _ _ t2)) ?_ ?_
      · rintro j y H' hj ⟨sm, is, hl, li⟩
        have j0 : j = 0 := by
          have := (List.getElem?_eq_some_iff.mp hj).1
          simp at this
          exact this
        subst j0
        cases hj
        refine ⟨rfl, ?_⟩
        refine ⟨_, rfl, .inl ⟨rfl, fun i H5 s5 => ?_⟩⟩
        refine ⟨_, s5 _ _ hl, szlt (by rw [List.length_map]; omega), fun b o e => ?_, is ++ [i], by rw [upd_same, List.map_append]; rfl, by rw [List.length_append, li]; rfl⟩
        rw [upd_ne (ne_of_none e hD)]
        exact s5 _ _ (sm _ _ e)
      · rintro H5 ⟨sm, is, hl, li⟩
        obtain ⟨i, rfl⟩ := List.length_eq_one_iff.mp li
        refine ⟨_, rfl, .none, .list [.int i], [.int i], .non, .lst (SqL.of hl) (.cons (.int i) .nil), (.inl rfl), (by decide +kernel), rfl, _, rfl, ?_⟩
        refine iteF ?_
        refine ⟨_, rfl, _, _, rfl, .inl ⟨SqL.of hl, fun p3 n3 => ?_⟩⟩
        generalize g3 : upd _ p3 _ = H6; obtain ⟨e3, o3, t3⟩ := made n3 g3; clear g3
        exact q p3 H6 ((s2.trans sm).trans (sameOf n3 o3))
    · cases e
      refine lc_list (K := K) (a := p2) (xs := [V.str (nineS 61)]) (fun j H' => Same H2 H' ∧ H' D = some (.lst (List.replicate j V.non))) ⟨sameOf hD (fun b hb => upd_ne hb), upd_same⟩ (fun i H' _ h => SqL.of (h.1 _ _ t2)) ?_ ?_
      · rintro j y H' hj ⟨sm, hl⟩
        have j0 : j = 0 := by
          have := (List.getElem?_eq_some_iff.mp hj).1
          simp at this
          exact this
        subst j0
        cases hj
        refine ⟨rfl, ?_⟩
        refine ⟨_, rfl, .inr ⟨rfl, fun H5 s5 => ?_⟩⟩
        refine ⟨_, s5 _ _ hl, szlt (Nat.zero_le _), fun b o e => ?_, upd_same⟩
        rw [upd_ne (ne_of_none e hD)]
        exact s5 _ _ (sm _ _ e)
      · rintro H5 ⟨sm, hl⟩
        refine ⟨_, rfl, .none, .list [.none], [.none], .non, .lst (SqL.of hl) (.cons .non .nil), (.inl rfl), (by decide +kernel), (by decide +kernel), _, rfl, ?_⟩
        refine iteT ?_
        exact q H5 (s2.trans sm)
def spRdN (tx : Xa) : Sp := fun vs H Q E => ∃ v d, vs = [v] ∧ Dx H v d ∧ ((tyN d == "str") = false → ∀ (dx : Addr) (H' : Hp), Same H H' → H' dx = some (.xd [("line", .non)]) → E (.ref tx.C) (some dx) H') ∧
  ((tyN d == "str") = true → (d = .str (nineS 60) ∧ ∀ (p : Addr) (H' : Hp), Same H H' → Q (.ref p) H') ∨ (d = .str (nineS 61) ∧ ∀ (dx : Addr) (H' : Hp), Same H H' → H' dx = some (.xd [("line", .non)]) → E (.ref tx.C) (some dx) H'))
theorem ok_read_numbers {f : Addr} {fd : FuncData} (F : Fun K "read_numbers" "read_numbers" s_read_numbers f fd) (T : Txt mg) (Z : TexZ K mg tx) {f_check_text : Addr} {fd_check_text : FuncData} (G_check_text : FnOk P w K mg base (L2.CX P w) 3 f_check_text fd_check_text P_check_text (spCkT tx)) (C_check_text : Cal K mg "check_text" f_check_text fd_check_text P_check_text) {f_numbers_told : Addr} {fd_numbers_told : FuncData} (G_numbers_told : FnOk P w K mg base CX0 2 f_numbers_told fd_numbers_told P_numbers_told spNums) (C_numbers_told : Cal K mg "numbers_told" f_numbers_told fd_numbers_told P_numbers_told) {fd_ParseError : FuncData} (G_ParseError : FnOk P w K mg base CX0 1 tx.I fd_ParseError P_iParseError (spIni K "line")) (B_ParseError : Binds K fd_ParseError P_iParseError []) : FnOk P w K mg base (L2.CX P w) 4 f fd P_read_numbers (spRdN tx) := by
  refine F.okX sc_read_numbers (fun vs H Q E h => ?_) (fun cdv A outer s H vs Q E hr h => ?_)
  · obtain ⟨v, d, rfl, _⟩ := h
    rfl
  · obtain ⟨v, d, rfl, hv, q1, q2⟩ := h
    refine ⟨_, (pss_cons (ps_expr (pe_call G_check_text (hr.mono (by decide)) rfl C_check_text.m C_check_text.k C_check_text.b .nil (passes_call (takes_of rfl rfl rfl rfl) (fun _ _ _ _ z => z)) (pa_cons (pv 0) pa_nil)))
      (pss_cons (ps_set (i := 1) sc_read_numbers.nd rfl (Or.inl rfl) (pe_call G_numbers_told (hr.mono (by decide)) rfl C_numbers_told.m C_numbers_told.k C_numbers_told.b .nil pass0 (pa_cons (pv 0) pa_nil)))
      (pss_cons (ps_if (pt_cmpR op_isN (pv 1) pe_non (nomark _)) (pss_one (ps_raise (W := WR E) rfl (takes_of rfl rfl rfl rfl) (pmk_oex Z.o Z.ini.i Z.ini.t G_ParseError (hr.mono (by decide)) B_ParseError .nil pass0 rfl Z.gC (pa_cons pe_non pa_nil)))) pss_nil)
      (pss_one (ps_ret (pv 1)))))), ?_⟩
    refine ⟨_, rfl, v, d, rfl, hv, fun g => ?_, fun g => q1 g⟩
    have raise_ : ∀ {H2 : Hp}, Same H H2 → (∀ (dx : Addr) (H' : Hp), Same H H' → H' dx = some (.xd [("line", .non)]) → E (.ref tx.C) (some dx) H') → ([V.non].length ≤ 1000 ∧ ∀ a, H2 a = none → spIni K "line" (.ref a :: ([V.non] ++ [])) (upd H2 a (exo a tx.C none)) (fun v H3 => v = .non ∧ ∃ (d : Addr) (fs : List (Str × V)), H3 a = some (exo a tx.C (some d)) ∧ H3 d = some (exd d fs) ∧ H2 d = none ∧ E (.ref tx.C) (some d) (upd (del H3 a) d (.xd fs))) fun _ _ _ => False) := fun {H2} s2 q => by
      refine mkO_any Z.ini fun dx H' s' e => q dx H' (s2.trans s') e
    rcases q2 g with ⟨rfl, q⟩ | ⟨rfl, q⟩
    · cases hv
      refine ⟨_, rfl, .inl ⟨rfl, fun p H2 s2 => ?_⟩⟩
      refine ⟨_, rfl, rfl, _, rfl, ?_⟩
      refine iteF ?_
      exact ⟨_, rfl, q p H2 s2⟩
    · cases hv
      refine ⟨_, rfl, .inr ⟨rfl, fun H2 s2 => ?_⟩⟩
      refine ⟨_, rfl, rfl, _, rfl, ?_⟩
      refine iteT ?_
      exact raise_ s2 q

/-- what is starred -/
def unS : Expr → Expr
  | .Starred e _ => e
  | e => e
def rowsD : PyData → Bool
  | .tuple ds => decide (ds.length ≠ 0) && (List.range ds.length).all fun i => rowD i (ds.getD i .none)
  | _ => false
def okRows : PyData → Bool
  | .tuple ds => decide (ds.length ≤ 100) && ds.all okRow
  | _ => true
def rowsF : List (Str × Nat) := [("zzzzzzzz", 0), ("#", 3)]
def rowF (r : Str × Nat) : PyData := .tuple [.str r.1, .tuple (List.replicate r.2 (.int 0))]
def fineR : PyData := .tuple (rowsF.map rowF)
def zeroS : Str := Str.ofString (toString (0 : Int))
def lineF (r : Str × Nat) : Str := Txt.join " " (r.1 :: List.replicate r.2 zeroS)
theorem line_ok : (∀ r ∈ rowsF, r.2 ≤ 3 ∧ ((r.1 :: List.replicate r.2 zeroS).map fun x => x.length).sum + (r.1 :: List.replicate r.2 zeroS).length * Str.length " " ≤ 1000) ∧ ((rowsF.map lineF).map fun x => x.length).sum + (rowsF.map lineF).length * Str.length "\n" ≤ 1000 := by decide +kernel
theorem brng_step {H H' H9 : Hp} {D : Addr} {g : Nat → Bool} {i : Nat} (hD : H D = none) (sm : Same H H') (hl : H' D = some (.lst ((List.range i).map fun i => V.bl (g i)))) (s9 : Same H' H9) (small : i ≤ 100) :
    ∃ acc, H9 D = some (.lst acc) ∧ acc.length < sizeLine ∧ Same H (upd H9 D (.lst (acc ++ [V.bl (g i)]))) ∧ (upd H9 D (.lst (acc ++ [V.bl (g i)]))) D = some (.lst ((List.range (i + 1)).map fun i => V.bl (g i))) := by
  refine ⟨_, s9 _ _ hl, szlt (by rw [List.length_map, List.length_range]; omega), fun b o e => ?_, ?_⟩
  · rw [upd_ne (ne_of_none e hD)]
    exact s9 _ _ (sm _ _ e)
  · rw [upd_same, List.range_succ, List.map_append]
    rfl
def spWR (tx : Xa) : Sp := fun vs H Q E => ∃ v d, vs = [v] ∧ Dx H v d ∧ okRows d = true ∧ (rowsD d = false → ∀ H', Same H H' → E (.ref tx.R) none H') ∧ (rowsD d = true → d = fineR ∧ ∀ (t : Str) (H' : Hp), Same H H' → Q (.str t) H')
theorem ok_write_rows {f : Addr} {fd : FuncData} (F : Fun K "write_rows" "write_rows" s_write_rows f fd) (T : Txt mg) (Z : TexZ K mg tx) {f_is_row_form : Addr} {fd_is_row_form : FuncData} (G_is_row_form : FnOk P w K mg base CX0 4 f_is_row_form fd_is_row_form P_is_row_form spRow) (C_is_row_form : Cal K mg "is_row_form" f_is_row_form fd_is_row_form P_is_row_form) : FnOk P w K mg base (L2.CX P w) 6 f fd P_write_rows (spWR tx) := by
  refine F.okX sc_write_rows (fun vs H Q E h => ?_) (fun cdv A outer s H vs Q E hr h => ?_)
  · obtain ⟨v, d, rfl, _⟩ := h
    rfl
  · obtain ⟨v, d, rfl, hv, hz, q1, q2⟩ := h
    refine ⟨_, (pss_cons (ps_if (PW.pt (pw_or (pt_not (pt_val (pe_callB call_isi (by rfl) T.n_isinstance (by decide +kernel) (pa_cons (pv 0) (pa_cons (pe_bltn (v := .ty "tuple") rfl T.n_tuple (by decide +kernel) rfl) pa_nil))))) (pw_or1 (pt_cmpR op_eq (pe_callB call_len_seq (by rfl) T.n_len (by decide +kernel) (pa_cons (pv 0) pa_nil)) pe_int (nomark _))))) (pss_one (ps_raise (W := WR E) rfl (takes_of rfl rfl rfl rfl) (pmk_own PySem.F.excBase_ValueError (Z.exc 1 (by decide)) Z.gR (Z.keep 1 (by decide)) (raises_own (Z.sub 1 (by decide)) (Z.ty 1 (by decide))) rfl))) pss_nil)
      (pss_cons (ps_if (pt_not (pt_val (pe_callB (cr_all rfl) (by rfl) T.n_all (by decide +kernel) (pa_cons (pe_lc (own := [("index", 1), ("row", 2)]) (g := gTup K 2 (gCons (gName 1) (gCons (gName 2) gNil))) (tt := tYes) rfl sc_write_rows.nd (pi_enumT (by rfl) T.n_enumerate (pa_cons (pv 0) pa_nil)) (blkOk_by (own := [("index", 1), ("row", 2)]) (N := ["rows", "index", "row", "lines", "use", "sign", "uses"]) (sc := (defScope s_write_rows)) (by decide +kernel)) (fun _ _ _ _ _ => (pg_tup_k (K := K) rfl (pgs_cons (pg_name (i := 1) sc_write_rows.nd rfl (Or.inl rfl)) (pgs_cons (pg_name (i := 2) sc_write_rows.nd rfl (Or.inl rfl)) pgs_nil)))) (fun _ _ _ _ _ => pts_nil) (fun _ _ _ _ _ => (pe_call G_is_row_form (hr.mono (by decide)) rfl C_is_row_form.m C_is_row_form.k C_is_row_form.b .nil pass0 (pa_cons (pv 2) (pa_cons (pv 1) pa_nil))))) pa_nil)))) (pss_one (ps_raise (W := WR E) rfl (takes_of rfl rfl rfl rfl) (pmk_own PySem.F.excBase_ValueError (Z.exc 1 (by decide)) Z.gR (Z.keep 1 (by decide)) (raises_own (Z.sub 1 (by decide)) (Z.ty 1 (by decide))) rfl))) pss_nil)
      (pss_cons (ps_setLc (i := 3) (own := [("sign", 5), ("uses", 6)]) (g := gTup K 2 (gCons (gName 5) (gCons (gName 6) gNil))) (tt := tYes) rfl sc_write_rows.nd rfl rfl (sw_true rfl rfl rfl (by decide +kernel)) (pi_tup (pv 0)) (blkOk_by (own := [("sign", 5), ("uses", 6)]) (N := ["rows", "index", "row", "lines", "use", "sign", "uses"]) (sc := (defScope s_write_rows)) (by decide +kernel)) (fun _ _ _ _ _ => (pg_tup_k (K := K) rfl (pgs_cons (pg_name (i := 5) sc_write_rows.nd rfl (Or.inl rfl)) (pgs_cons (pg_name (i := 6) sc_write_rows.nd rfl (Or.inl rfl)) pgs_nil)))) (fun _ _ _ _ _ => pts_nil) (fun _ _ _ _ _ => (pe_join_k (K := K) pe_str (pe_lst (pa_cons (pv 5) (pa_starK (K := K) (pe_lc (own := [("use", 4)]) (g := gName 4) (tt := tYes) rfl sc_write_rows.nd (pi_tup_k (K := K) (pv 6)) (blkOk_by (own := [("use", 4)]) (by rfl)) (fun _ _ _ _ _ => (pg_name (i := 4) sc_write_rows.nd rfl (Or.inl rfl))) (fun _ _ _ _ _ => pts_nil) (fun _ _ _ _ _ => (pe_callTy call_str_int (by rfl) T.n_str (by decide +kernel) (pa_cons (pv 4) pa_nil)))) pa_nil))))))
      (pss_one (ps_ret (pe_join pe_str (pv 3))))))), ?_⟩
    refine ⟨_, rfl, _, _, _, _, _, rfl, .ty _, hv.ty, kit_tuple d, _, rfl, ?_⟩
    cases hv with
    | @tup a xs ds ha hx =>
      have lx := hx.len
      have hz : (decide (ds.length ≤ 100) && ds.all okRow) = true := hz
      rw [Bool.and_eq_true] at hz
      have hl := of_decide_eq_true hz.1
      have eq : rowsD (.tuple ds) = (decide (ds.length ≠ 0) && (List.range ds.length).all fun i => rowD i (ds.getD i .none)) := rfl
      rw [eq] at q1 q2
      refine iteF ?_
      refine ⟨_, rfl, _, _, rfl, .inr (SqT.of ha), rfl, _, rfl, ?_⟩
      refine ite2 (fun g => ?_) (fun g => ?_)
      · have g0 : ds.length = 0 := by
          have := V.int.inj (of_decide_eq_true g)
          omega
        rw [decide_eq_false (fun z => z g0), Bool.false_and] at q1
        exact q1 rfl H (Same.refl H)
      · have g0 : ds.length ≠ 0 := fun z => g (decide_eq_true (by rw [lx, z]; rfl))
        rw [decide_eq_true g0, Bool.true_and] at q1 q2
        refine ⟨_, rfl, _, _, rfl, SqT.of ha, fun D hD => ?_⟩
        refine lc_it (walk_enumT (K := K) (a := a) (xs := xs)) (fun i H' => Same H H' ∧ H' D = some (.lst ((List.range i).map fun i => V.bl (rowD i (ds.getD i .none))))) ⟨sameOf hD (fun b hb => upd_ne hb), upd_same⟩ (fun i H' _ z => SqT.of (z.1 _ _ ha)) ?_ ?_
        · rintro i v H1 H2 hi ⟨sm, hl1⟩ ⟨T0, n0, y, rfl, hT, rfl, e1, hy⟩
          cases (show some (V.int (i : Nat)) = some n0 from e1)
          obtain ⟨d, hd, xd⟩ := hx.get hy
          have sT : Same H1 (upd H1 T0 (.tup [.int (i : Nat), y])) := sameOf hT (fun b hb => upd_ne hb)
          refine ⟨T0, [.int (i : Nat), y], rfl, SqT.of upd_same, rfl, _, _, rfl, _, _, rfl, rfl, ?_⟩
          refine ⟨rfl, ?_⟩
          refine ⟨_, rfl, _, rfl, y, d, i, rfl, xd.same (sm.trans sT), List.all_eq_true.mp hz.2 d (List.mem_of_getElem? hd), fun H5 s5 => ?_⟩
          have ed : ds.getD i .none = d := by rw [List.getD_eq_getElem?_getD, hd]; rfl
          have st := brng_step (g := fun i => rowD i (ds.getD i .none)) hD sm hl1 (sT.trans s5) (by omega)
          rw [ed] at st
          exact st
        · rintro H1 ⟨sm, hl1⟩
          rw [lx] at hl1
          refine ⟨_, (List.range ds.length).map fun i => rowD i (ds.getD i .none), rfl, SqL.of (by rw [hl1, List.map_map]; rfl), _, rfl, ?_⟩
          rw [List.all_map]
          cases eg : (List.range ds.length).all (fun i => rowD i (ds.getD i .none)) with
          | false =>
            rw [show (List.range ds.length).all (id ∘ fun i => rowD i (ds.getD i .none)) = false from eg]
            exact iteT (q1 eg H1 sm)
          | true =>
            rw [show (List.range ds.length).all (id ∘ fun i => rowD i (ds.getD i .none)) = true from eg]
            refine iteF ?_
            obtain ⟨e0, q⟩ := q2 eg
            cases (PyData.tuple.inj e0)
            refine ⟨_, rfl, _, rfl, ⟨_, SqT.of (sm _ _ ha)⟩, fun D2 hD2 => ?_⟩
            have hx1 := hx.same sm
            refine lc_tup (K := K) (xs := xs) (fun i H' => Same H1 H' ∧ H' D2 = some (.lst (((rowsF.take i).map lineF).map V.str))) ⟨sameOf hD2 (fun b hb => upd_ne hb), upd_same⟩ (fun i H' _ h => SqT.of (h.1 _ _ (sm _ _ ha))) ?_ ?_
            · rintro i y H' hi ⟨sm2, hl2⟩
              obtain ⟨d, hd, xd⟩ := hx1.get hi
              rw [List.getElem?_map] at hd
              obtain ⟨r, hr, rfl⟩ := Option.map_eq_some_iff.mp hd
              obtain ⟨r3, rz⟩ := line_ok.1 r (List.mem_of_getElem? hr)
              cases xd with
              | @tup cc _ _ hc h2 =>
              cases h2 with
              | cons b1 h2 =>
              cases h2 with
              | cons b2 h2 =>
              cases h2
              cases b1
              cases b2 with
              | @tup ub us _ hu hux =>
              have sm2' := sm2
              refine ⟨cc, [.str r.1, .ref ub], rfl, SqT.of (sm2 _ _ hc), rfl, _, _, rfl, _, _, rfl, rfl, ?_⟩
              refine ⟨rfl, ?_⟩
              refine ⟨⟨_, rfl⟩, _, rfl, _, rfl, _, rfl, ⟨_, SqT.of (sm2 _ _ hu)⟩, fun D3 hD3 => ?_⟩
              refine lc_tup (K := K) (xs := us) (fun j G => Same H' G ∧ G D3 = some (.lst ((List.replicate j zeroS).map V.str))) ⟨sameOf hD3 (fun b hb => upd_ne hb), upd_same⟩ (fun j G _ h => SqT.of (h.1 _ _ (sm2 _ _ hu))) ?_ ?_
              · rintro j z G hj ⟨sg, hlg⟩
                obtain ⟨d, hd, xd⟩ := hux.get hj
                have lj : j < 3 := by
                  have a := (List.getElem?_eq_some_iff.mp hd).1
                  rw [List.length_replicate] at a
                  omega
                cases List.eq_of_mem_replicate (List.mem_of_getElem? hd)
                cases xd
                refine ⟨rfl, ?_⟩
                refine ⟨_, rfl, _, rfl, (by decide +kernel), _, hlg, szlt (by rw [List.length_map, List.length_replicate]; omega), fun b o e => ?_, ?_⟩
                · rw [upd_ne (ne_of_none e hD3)]
                  exact sg _ _ e
                · rw [upd_same, List.replicate_succ', List.map_append]
                  rfl
              · rintro G ⟨sg, hlg⟩
                rw [hux.len, List.length_replicate] at hlg
                refine ⟨_, _, rfl, .inr (SqL.of hlg), (szr (by simp; omega)), fun p1 n1 => ?_⟩
                generalize g1 : upd _ p1 _ = G1; obtain ⟨e1, o1, t1⟩ := made n1 g1; clear g1
                rw [List.append_nil] at t1
                have l2 : rowsF.length = 2 := rfl
                have s1 := sameOf n1 o1
                refine ⟨_, _, r.1 :: List.replicate r.2 zeroS, rfl, rfl, (.inl (SqL.of t1)), Nat.le_trans rz (by decide), ?_⟩
                refine ⟨_, s1 _ _ (sg _ _ hl2), szlt (by rw [List.length_map, List.length_map, List.length_take]; omega), fun b o e => ?_, ?_⟩
                · rw [upd_ne (ne_of_none e hD2)]
                  exact s1 _ _ (sg _ _ (sm2 _ _ e))
                · rw [upd_same, List.take_add_one, hr, List.map_append, List.map_append]
                  rfl
            · rintro H2 ⟨sm2, hl2⟩
              rw [lx, List.length_map, List.take_length] at hl2
              refine ⟨⟨_, rfl⟩, _, rfl, _, _, rowsF.map lineF, rfl, rfl, (.inl (SqL.of hl2)), Nat.le_trans line_ok.2 (by decide), ?_⟩
              exact q _ H2 (sm.trans sm2)
    | _ => exact iteT (q1 rfl H (Same.refl H))
theorem frz_open {H H' : Hp} {a : Addr} {o : Obj} {u : HO} (h : H a = some u) (s : Same (upd H a (.frz o u)) H') : H' a = some (.frz o u) ∧ Same H (upd H' a u) := by
  refine ⟨s _ _ upd_same, fun b q e => ?_⟩
  by_cases z : b = a
  · rw [z] at e ⊢
    rw [h] at e
    cases e
    exact upd_same
  · rw [upd_ne z]
    exact s _ _ (by rw [upd_ne z]; exact e)
theorem frz_del {H H' : Hp} {a : Addr} {o : Obj} {u : HO} (s : Same (upd H a (.frz o u)) H') : Same (del H a) H' := fun b q e => by
  by_cases z : b = a
  · rw [z, del_same] at e
    cases e
  · rw [del_ne z] at e
    exact s _ _ (by rw [upd_ne z]; exact e)
def kP : Key → PyData
  | .inl i => .int i
  | .inr x => .str x
theorem kp_dx {H : Hp} : ∀ k : List Key, DxAll H (k.map kV) (k.map kP)
  | [] => .nil
  | .inl i :: k => .cons (.int i) (kp_dx k)
  | .inr x :: k => .cons (.str x) (kp_dx k)
theorem val_at : ∀ {kvs : List (List Key × V)} {i : Nat} {k : List Key} {v : V}, (kvs.map Prod.fst).Nodup → kvs[i]? = some (k, v) → valV kvs k = some v
  | [], _, _, _, _, h => by cases h
  | p :: kvs, 0, k, v, _, h => by
    cases h
    exact valV_pos rfl
  | p :: kvs, i + 1, k, v, n, h => by
    rw [List.map_cons, List.nodup_cons] at n
    have h : kvs[i]? = some (k, v) := h
    rw [valV_neg (p := p) fun z => n.1 (z ▸ List.mem_map.mpr ⟨_, List.mem_of_getElem? h, rfl⟩)]
    exact val_at n.2 h
def okAt (kvs : List (List Key × V)) (ds : List PyData) (i : Nat) : Bool := match kvs[i]?, ds[i]? with
  | some kv, some d => keyD (.tuple (kv.1.map kP)) && stateD d
  | _, _ => false
def spWT (tx : Xa) : Sp := fun vs H Q E => ∃ v, vs = [v] ∧
  ((∃ d, Dx H v d ∧ (tyN d == "dict") = false ∧ E (.ref tx.B) none H) ∨
    (∃ a, v = .ref a ∧ H a = some (.dK []) ∧ ∀ (t : Str) (H' : Hp), Same H H' → Q (.str t) H') ∨
    (∃ a u kvs, v = .ref a ∧ H a = some u ∧ DM a u kvs ∧ kvs.length ≠ 0 ∧ kvs.length ≤ 15 ∧ (∀ p ∈ kvs, ∃ d, Dx (del H a) p.1 d ∧ len1 d = true ∧ keyD d = false) ∧ ∀ H', Same H H' → E (.ref tx.B) none H') ∨
    ∃ a kvs ds, v = .ref a ∧ H a = some (.dT kvs) ∧ (kvs.map Prod.fst).Nodup ∧ kvs.length ≤ 15 ∧ (∀ p ∈ kvs, p.1.length ≤ 100) ∧ DxAll (del H a) (kvs.map Prod.snd) ds ∧ (∀ d ∈ ds, len3 d = true) ∧ (List.range kvs.length).all (okAt kvs ds) = false ∧ ∀ H', Same H H' → E (.ref tx.B) none H')
theorem ok_write_table {f : Addr} {fd : FuncData} (F : Fun K "write_table" "write_table" s_write_table f fd) (T : Txt mg) (Z : TexZ K mg tx) {f_is_key : Addr} {fd_is_key : FuncData} (G_is_key : FnOk P w K mg base CX0 3 f_is_key fd_is_key P_is_key (spN len1 keyD)) (C_is_key : Cal K mg "is_key" f_is_key fd_is_key P_is_key) {f_is_state_form : Addr} {fd_is_state_form : FuncData} (G_is_state_form : FnOk P w K mg base CX0 5 f_is_state_form fd_is_state_form P_is_state_form (spN len3 stateD)) (C_is_state_form : Cal K mg "is_state_form" f_is_state_form fd_is_state_form P_is_state_form) : FnOk P w K mg base (L2.CX P w) 7 f fd P_write_table (spWT tx) := by
  refine F.okX sc_write_table (fun vs H Q E h => ?_) (fun cdv A outer s H vs Q E hr h => ?_)
  · obtain ⟨v, rfl, _⟩ := h
    rfl
  · obtain ⟨v, rfl, h⟩ := h
    refine ⟨_, (pss_cons (ps_if (PW.pt (pw_or (pt_not (pt_val (pe_callB (call_isiM (K := K)) (by rfl) T.n_isinstance (by decide +kernel) (pa_cons (pv 0) (pa_cons (pe_bltn (v := .ty "dict") rfl T.n_dict (by decide +kernel) rfl) pa_nil))))) (pw_or1 (pt_not (pt_val (pe_callB (cr_all rfl) (by rfl) T.n_all (by decide +kernel) (pa_cons (pe_lock (pe_lc (own := [("key", 1)]) (g := gName 1) (tt := tYes) rfl sc_write_table.nd (pi_keysU (pv 0)) (blkOk_by (own := [("key", 1)]) (N := ["table", "key", "lines"]) (sc := (defScope s_write_table)) (by decide +kernel)) (fun _ _ _ _ _ => (pg_name (i := 1) sc_write_table.nd rfl (Or.inl rfl))) (fun _ _ _ _ _ => pts_nil) (fun _ _ _ _ _ => (pe_and (pe_call G_is_key (hr.mono (by decide)) rfl C_is_key.m C_is_key.k C_is_key.b .nil pass0 (pa_cons (pv 1) pa_nil)) (pe_one (pe_call G_is_state_form (hr.mono (by decide)) rfl C_is_state_form.m C_is_state_form.k C_is_state_form.b .nil pass0 (pa_cons (pe_dget (hu_of hr) (pv 0) (pv 1) (fun _ _ => rfl)) pa_nil))))))) pa_nil))))))) (pss_one (ps_raise (W := WR E) rfl (takes_of rfl rfl rfl rfl) (pmk_own PySem.F.excBase_ValueError (Z.exc 0 (by decide)) Z.gB (Z.keep 0 (by decide)) (raises_own (Z.sub 0 (by decide)) (Z.ty 0 (by decide))) rfl))) pss_nil)
      (pss_cons (ps_setLc (i := 2) (own := [("key", 1)]) (g := gName 1) (tt := tYes) rfl sc_write_table.nd rfl rfl (sw_true rfl rfl rfl (by decide +kernel)) (pi_list (pe_callB (call_sortedD rfl) (by rfl) T.n_sorted (by decide +kernel) (pa_cons (pv 0) pa_nil))) (blkOk_by (own := [("key", 1)]) (N := ["table", "key", "lines"]) (sc := (defScope s_write_table)) (by decide +kernel)) (fun _ _ _ _ _ => (pg_name (i := 1) sc_write_table.nd rfl (Or.inl rfl))) (fun _ _ _ _ _ => pts_nil) (fun _ _ _ _ _ => pe_dead))
      (pss_one (ps_ret (pe_ifExp (pt_truth (pv 2) (by intro _; rfl)) pe_dead (pe_glob (v := .str "none") rfl T.m_NONE.choose_spec ⟨_, rfl⟩)))))), ?_⟩
    rcases h with ⟨d, hv, ht, q⟩ | ⟨a, rfl, ha, q⟩ | ⟨a, u, kvs, rfl, ha, hD, h0, hl, hk, q⟩ | ⟨a, kvs, ds, rfl, ha, nd, hl, hkl, hx, h3, hno, q⟩
    · refine ⟨_, rfl, .inl ⟨_, _, _, _, _, rfl, .ty _, hv.ty, kit_dict d, _, rfl, ?_⟩⟩
      rw [ht]
      exact iteT q
    · refine ⟨_, rfl, .inl ⟨_, _, _, _, true, rfl, .ty _, .base (.dK ha), (kit_ty (by decide +kernel)), _, rfl, ?_⟩⟩
      refine iteF ?_
      refine ⟨_, _, ha, (DM.dk (d := a) []).mut, fun od => ⟨_, rfl, _, _, rfl, .inl ⟨_, _, upd_same, .dk _, fun D nD => ?_⟩⟩⟩
      refine lc_it walk_keysX (fun i H' => Same (upd H a (.frz od (.dK []))) H' ∧ H' D = some (.lst [])) ⟨sameOf nD (fun b hb => upd_ne hb), upd_same⟩ (fun i H' _ h => h.1 _ _ upd_same) (fun i x E1 E2 hi => absurd hi (Nat.not_lt_zero _)) ?_
      rintro H1 ⟨s1, hl1⟩
      have nDa : D ≠ a := fun z => by rw [z, upd_same] at nD; cases nD
      obtain ⟨hF, s2⟩ := frz_open ha s1
      refine ⟨hF, ?_⟩
      refine ⟨_, [], rfl, SqL.of (by rw [upd_ne nDa]; exact hl1), _, rfl, ?_⟩
      refine iteF ?_
      refine ⟨_, rfl, a, [], [], rfl, .inl (s2 _ _ ha), rfl, by decide, fun ys p pm so np => ?_⟩
      cases pm.eq_nil
      generalize gp : upd _ p _ = H3; obtain ⟨e3, o3, t3⟩ := made np gp; clear gp
      have s3 := sameOf np o3
      refine ⟨_, rfl, ⟨_, SqL.of t3⟩, fun D2 nD2 => ?_⟩
      refine lc_list (K := K) (te := fun _ _ _ => False) (a := p) (xs := []) (fun i H' => Same H3 H' ∧ H' D2 = some (.lst [])) ⟨sameOf nD2 (fun b hb => upd_ne hb), upd_same⟩ (fun i H' _ h => SqL.of (h.1 _ _ t3)) ?_ ?_
      · rintro i y H' hi
        cases hi
      rintro H4 ⟨s4, hl4⟩
      refine ⟨_, rfl, false, .inl ⟨_, SqL.of hl4, rfl⟩, ?_⟩
      refine iteF ?_
      exact q _ H4 ((s2.trans s3).trans s4)
    · refine ⟨_, rfl, .inr ⟨a, u, kvs, _, _, true, rfl, .ty _, ha, hD, kit_ty (by decide +kernel), _, rfl, ?_⟩⟩
      refine iteF ?_
      refine ⟨_, _, ha, hD.mut, fun od => ⟨_, rfl, _, _, rfl, .inl ⟨_, _, upd_same, hD, fun D nD => ?_⟩⟩⟩
      refine lc_it walk_keysX (fun i H' => Same (upd H a (.frz od u)) H' ∧ H' D = some (.lst ((List.range i).map fun i => V.bl ((fun _ => false) i)))) ⟨sameOf nD (fun b hb => upd_ne hb), upd_same⟩ (fun i H' _ h => h.1 _ _ upd_same) ?_ ?_
      · rintro i x E1 E2 hi ⟨sm, hl1⟩ ⟨rfl, v', hkv⟩
        obtain ⟨d, xd, l1, kd⟩ := hk (x, v') (List.mem_of_getElem? hkv)
        refine ⟨rfl, ?_⟩
        refine ⟨_, rfl, x, d, rfl, xd.same (frz_del sm), l1, fun H5 s5 => ?_⟩
        rw [kd]
        refine ⟨_, rfl, ?_⟩
        exact iteF (brng_step (g := fun _ => false) nD sm hl1 s5 (by omega))
      · rintro H1 ⟨s1, hl1⟩
        have nDa : D ≠ a := fun z => by rw [z, upd_same] at nD; cases nD
        obtain ⟨hF, s2⟩ := frz_open ha s1
        refine ⟨hF, ?_⟩
        refine ⟨_, (List.range kvs.length).map fun _ => false, rfl, SqL.of (by rw [upd_ne nDa, hl1, List.map_map]; rfl), _, rfl, ?_⟩
        rw [show ((List.range kvs.length).map fun _ => false).all id = false from by
          rw [List.all_map, List.all_eq_false]
          exact ⟨0, List.mem_range.mpr (by omega), by decide⟩]
        exact iteT (q _ s2)
    · refine ⟨_, rfl, .inl ⟨_, _, _, _, true, rfl, .ty _, .base (.dT ha), (kit_ty (by decide +kernel)), _, rfl, ?_⟩⟩
      refine iteF ?_
      refine ⟨_, _, ha, True.intro, fun od => ⟨_, rfl, _, _, rfl, .inr ⟨kvs, upd_same, fun D nD => ?_⟩⟩⟩
      refine lc_it walk_keysT (fun i H' => Same (upd H a (.frz od (.dT kvs))) H' ∧ H' D = some (.lst ((List.range i).map fun i => V.bl (okAt kvs ds i)))) ⟨sameOf nD (fun b hb => upd_ne hb), upd_same⟩ (fun i H' _ h => h.1 _ _ upd_same) ?_ ?_
      · rintro i x E1 E2 hi ⟨sm, hl1⟩ ⟨rfl, k, v', q0, hkv, rfl, hq⟩
        obtain ⟨d, hd, xd⟩ := hx.get (show (kvs.map Prod.snd)[i]? = some v' by rw [List.getElem?_map, hkv]; rfl)
        have eo : okAt kvs ds i = (keyD (.tuple (k.map kP)) && stateD d) := by
          unfold okAt
          rw [hkv, hd]
        have st := fun {H9 : Hp} (s9 : Same E2 H9) => brng_step (g := okAt kvs ds) nD sm hl1 s9 (by omega)
        rw [eo] at st
        refine ⟨rfl, ?_⟩
        refine ⟨_, rfl, .ref q0, .tuple (k.map kP), rfl, .tup hq (kp_dx k), decide_eq_true (by rw [List.length_map]; exact hkl _ (List.mem_of_getElem? hkv)), fun H5 s5 => ?_⟩
        refine ⟨_, rfl, ?_⟩
        cases ek : keyD (.tuple (k.map kP)) with
        | false =>
          rw [ek, Bool.false_and] at st
          exact iteF (st s5)
        | true =>
          rw [ek, Bool.true_and] at st
          refine iteT ?_
          have g : DGet H5 a (.ref q0) (some v') := .inr ⟨kvs, k, q0, .inr ⟨od, s5 _ _ (sm _ _ upd_same)⟩, rfl, s5 _ _ hq, (val_at nd hkv).symm⟩
          exact ⟨_, rfl, _, rfl, _, _, rfl, g, v', d, rfl, (xd.same (frz_del sm)).same s5, h3 d (List.mem_of_getElem? hd), fun H6 s6 => st (s5.trans s6)⟩
      · rintro H1 ⟨s1, hl1⟩
        have nDa : D ≠ a := fun z => by rw [z, upd_same] at nD; cases nD
        obtain ⟨hF, s2⟩ := frz_open ha s1
        refine ⟨hF, ?_⟩
        refine ⟨_, (List.range kvs.length).map (okAt kvs ds), rfl, SqL.of (by rw [upd_ne nDa, hl1, List.map_map]; rfl), _, rfl, ?_⟩
        rw [show ((List.range kvs.length).map (okAt kvs ds)).all id = false from by
          rw [List.all_map]
          exact hno]
        exact iteT (q _ s2)

/-! ### the def that tells what came of a call -/
def clz (K : PySem.W.Frag) (tx : Xa) : List Cls1 := cl5 tx 1 (tSay "table") (tSay "rows") (tSay "program") (tSay "operation") (tSayF K tx.C 1 "parse " "line")
theorem gives__law_met {X : Cx} {tx : Xa} {g : Addr} {cdv : Value} {q : Str} (T : Txt X.mg) (Z : TexZ X.K X.mg tx) (hg : X.A.guards = some []) (hr : Room 4 X.A) :
    LamX.GivesTo X N__law_met "_law_met" (defScope s__law_met) g cdv (defBody s__law_met) "_law_call" q (TMet X.K 2 "fine" (clz X.K tx)) := by
  refine gives_met (Ng := N__law_met) (fun _ => rfl) fun s H => ?_
  have hu : ∀ {e : Env}, (X.A.deeper e).units + 64 < cLine := fun {e} => hu64i (hr.deeper e)
  refine .plain ⟨rfl, by decide, .inl Z.gB⟩ (fun a oe cls d pn hz hf => say_plain) ?_
  refine .plain ⟨rfl, by decide, .inl Z.gR⟩ (fun a oe cls d pn hz hf => say_plain) ?_
  refine .plain ⟨rfl, by decide, .inl Z.gP⟩ (fun a oe cls d pn hz hf => say_plain) ?_
  refine .plain ⟨rfl, by decide, .inl Z.gO⟩ (fun a oe cls d pn hz hf => say_plain) ?_
  refine .named sc__law_met.nd rfl rfl ⟨rfl, by decide, .inl Z.gC⟩ (fun a oe cls d pn hz hf => say_named Z.xf Z.ini.n hz hf rfl (Or.inl rfl) hg hu rfl T.n_repr (by decide +kernel)) ?_
  exact .nil
theorem hu_of0 {A : Around} {k : Nat} (hr : Room k A) : A.units < cLine := Nat.lt_of_le_of_lt (Nat.le_succ _) (hu_of hr)
section
variable {H : Hp} {Q : VK}
theorem teB (Z : TexZ K mg tx) (q : Q (.str "table") H) : eMet K 2 "fine" (clz K tx) Q (.ref tx.B) none H := fun σ _ => tex0 Z fun a _ => q
theorem teR (Z : TexZ K mg tx) (q : Q (.str "rows") H) : eMet K 2 "fine" (clz K tx) Q (.ref tx.R) none H := fun σ _ => tex1 Z fun a _ => q
theorem teP (Z : TexZ K mg tx) (q : Q (.str "program") H) : eMet K 2 "fine" (clz K tx) Q (.ref tx.P) none H := fun σ _ => tex2 Z fun a _ => q
theorem teO (Z : TexZ K mg tx) (q : Q (.str "operation") H) : eMet K 2 "fine" (clz K tx) Q (.ref tx.O) none H := fun σ _ => tex3 Z fun a _ => q
theorem teC (Z : TexZ K mg tx) {dx : Addr} (e : H dx = some (.xd [("line", .non)])) (q : Q (.str "parse None") H) : eMet K 2 "fine" (clz K tx) Q (.ref tx.C) (some dx) H := fun σ hl => tex4 Z fun a _ => by
  refine ⟨?_, rfl, ⟨dx, _, .non, .none, rfl, e, rfl, .inl (.inl ⟨.non, rfl⟩), rfl, by decide, by decide, ?_⟩⟩
  · rw [List.getElem?_set_self (by omega)]
  · have z : (("parse " : Str) ++ PyData.none.shown : Str) = "parse None" := by decide +kernel
    show Q (.str (("parse " : Str) ++ PyData.none.shown)) H
    rw [z]
    exact q
end
/-! ### what stays beside the dice -/
theorem ext_refl (H : Hp) : LamX.ExtN H H := fun _ _ h _ => h
theorem ext_trans {H H1 H2 : Hp} (x : LamX.ExtN H H1) (y : LamX.ExtN H1 H2) : LamX.ExtN H H2 := fun a o h n => y a o (x a o h n) n
theorem ext_del {H H' : Hp} (x : LamX.ExtN H H') (a : Addr) : LamX.ExtN (del H a) (del H' a) := fun b o h n => by
  by_cases z : b = a
  · rw [z, del_same] at h
    cases h
  · rw [del_ne z] at h ⊢
    exact x b o h n
structure St (p tP0 tP1 : Addr) (H0 H : Hp) : Prop where
  x : LamX.ExtN (del H0 p) (del H p)
  d : Dc H p
  t : LamX.Tabs (lamT tP0 tP1) H
section
variable {p tP0 tP1 : Addr} {H0 H H' : Hp}
theorem St.same (s : St p tP0 tP1 H0 H) (e : Same H H') : St p tP0 tP1 H0 H' := ⟨ext_trans s.x (ext_del (xOf e) p), s.d.same e, Tabs.same s.t e⟩
theorem St.pick (s : St p tP0 tP1 H0 H) (e : Ev2 H H') (o : Only1 H H' p) (d : Dc H' p) : St p tP0 tP1 H0 H' := ⟨ext_trans s.x fun b q h _ => by
  by_cases z : b = p
  · rw [z, del_same] at h
    cases h
  · rw [del_ne z] at h ⊢
    rw [o b z]
    exact h, d, Tabs.ev s.t e⟩
theorem St.re (s : St p tP0 tP1 H0 H) : St p tP0 tP1 H H := ⟨ext_refl _, s.d, s.t⟩
theorem St.some (s : St p tP0 tP1 H0 H) : ∃ o, H p = some o := by
  obtain ⟨x, y, z, h⟩ := s.d
  exact ⟨_, h⟩
end
theorem ext_at {H H' : Hp} {a : Addr} {o : HO} (x : LamX.ExtN H H') (h : H a = some o) (n : ∀ ps, o ≠ .tbl ps) : H' a = some o := x a o h n
/-! ### values that are none -/
def Pk (f : PyData → Bool) (H : Hp) (v : V) : Prop := ∃ d, Dx H v d ∧ f d = true
theorem Pk.ext {f : PyData → Bool} {H H' : Hp} {v : V} (h : Pk f H v) (x : LamX.ExtN H H') : Pk f H' v := by
  obtain ⟨d, h1, h2⟩ := h
  exact ⟨d, h1.ext x, h2⟩
def fN (d : PyData) : Bool := len1 d && !numsD d
def fS (d : PyData) : Bool := len3 d && !stateD d
def fR (d : PyData) : Bool := okRows d && !rowsD d
def fP (_ : PyData) : Bool := true
def fT (d : PyData) : Bool := !(tyN d == "str")
/-- what is no table -/
def Bt (H : Hp) (v : V) : Prop :=
  (∃ d, Dx H v d ∧ (tyN d == "dict") = false) ∨
    (∃ a u kvs, v = .ref a ∧ H a = some u ∧ (∀ ps, u ≠ .tbl ps) ∧ DM a u kvs ∧ kvs.length ≠ 0 ∧ kvs.length ≤ 15 ∧ ∀ p ∈ kvs, ∃ d, Dx (del H a) p.1 d ∧ len1 d = true ∧ keyD d = false) ∨
    ∃ a kvs ds, v = .ref a ∧ H a = some (.dT kvs) ∧ (kvs.map Prod.fst).Nodup ∧ kvs.length ≤ 15 ∧ (∀ p ∈ kvs, p.1.length ≤ 100) ∧ DxAll (del H a) (kvs.map Prod.snd) ds ∧ (∀ d ∈ ds, len3 d = true) ∧ (List.range kvs.length).all (okAt kvs ds) = false
theorem Bt.ext {H H' : Hp} {v : V} (h : Bt H v) (x : LamX.ExtN H H') : Bt H' v := by
  rcases h with ⟨d, h1, h2⟩ | ⟨a, u, kvs, e, ha, hn, hD, h0, hl, hk⟩ | ⟨a, kvs, ds, e, ha, nd, hl, hk, hx, h3, hno⟩
  · exact .inl ⟨d, h1.ext x, h2⟩
  · exact .inr (.inl ⟨a, u, kvs, e, x _ _ ha hn, hn, hD, h0, hl, fun p hp => by
      obtain ⟨d, z, z2⟩ := hk p hp
      exact ⟨d, z.ext (ext_del x a), z2⟩⟩)
  · exact .inr (.inr ⟨a, kvs, ds, e, x _ _ ha (fun _ z => nomatch z), nd, hl, hk, hx.ext (ext_del x a), h3, hno⟩)
theorem Bt.use {tx : Xa} {H : Hp} {v : V} {Q : VK} {E : XK} (h : Bt H v) (q : ∀ H', Same H H' → E (.ref tx.B) none H') : spWT tx [v] H Q E := by
  rcases h with ⟨d, h1, h2⟩ | ⟨a, u, kvs, e, ha, hn, hD, h0, hl, hk⟩ | ⟨a, kvs, ds, e, ha, nd, hl, hk, hx, h3, hno⟩
  · exact ⟨v, rfl, .inl ⟨d, h1, h2, q H (Same.refl H)⟩⟩
  · exact ⟨v, rfl, .inr (.inr (.inl ⟨a, u, kvs, e, ha, hD, h0, hl, hk, q⟩))⟩
  · exact ⟨v, rfl, .inr (.inr (.inr ⟨a, kvs, ds, e, ha, nd, hl, hk, hx, h3, hno, q⟩))⟩
/-- a list of such values -/
structure LsP (P : Hp → V → Prop) (H : Hp) (a : Addr) (xs : List V) : Prop where
  l : H a = some (.lst xs)
  all : ∀ x ∈ xs, P H x
  n0 : 0 < xs.length
  n1 : xs.length ≤ 100
theorem lit_ls {f : PyData → Bool} {H L : Hp} {p : Addr} {o : HO} {v : V} {ds : List PyData} (hp : H p = some o) (x : Dx (newIn H L) v (.list ds)) (hf : (decide (0 < ds.length) && (decide (ds.length ≤ 100) && ds.all f)) = true) : ∃ a xs, v = .ref a ∧ a ≠ p ∧ LsP (Pk f) (del L p) a xs ∧ xs.length = ds.length := by
  simp only [Bool.and_eq_true, decide_eq_true_eq] at hf
  cases x with
  | @lst a xs _ h1 h2 =>
    obtain ⟨n, e⟩ := newIn_some h1
    have ap : a ≠ p := fun z => by rw [z, hp] at n; cases n
    have l := h2.len
    refine ⟨a, xs, rfl, ap, ⟨by rw [del_ne ap]; exact e, fun x hx => ?_, by omega, by omega⟩, l⟩
    obtain ⟨i, hi, rfl⟩ := List.getElem_of_mem hx
    obtain ⟨d, hd, xd⟩ := h2.get (List.getElem?_eq_getElem hi)
    exact ⟨d, xd.same (newIn_del hp), List.all_eq_true.mp hf.2.2 d (List.mem_of_getElem? hd)⟩
theorem LsP.ext {P : Hp → V → Prop} (hP : ∀ {H H' v}, P H v → LamX.ExtN H H' → P H' v) {H H' : Hp} {a : Addr} {xs : List V} (h : LsP P H a xs) (x : LamX.ExtN H H') : LsP P H' a xs := ⟨x _ _ h.l fun _ z => (nomatch z), fun y hy => hP (h.all y hy) x, h.n0, h.n1⟩
theorem LsP.cat {P : Hp → V → Prop} (hP : ∀ {H H' v}, P H v → LamX.ExtN H H' → P H' v) {H : Hp} {p a b q : Addr} {xs ys : List V} (h : LsP P (del H p) a xs) (h2 : LsP P (del H p) b ys) (n : H q = none) (qp : q ≠ p) (lim : xs.length + ys.length ≤ 100) : LsP P (del (upd H q (.lst (xs ++ ys))) p) q (xs ++ ys) := by
  have x : LamX.ExtN (del H p) (del (upd H q (.lst (xs ++ ys))) p) := ext_del (xOf (upd_sm n)) p
  refine ⟨by rw [del_ne qp]; exact upd_same, fun y hy => ?_, ?_, by rw [List.length_append]; exact lim⟩
  · rcases List.mem_append.mp hy with hy | hy
    · exact hP (h.all y hy) x
    · exact hP (h2.all y hy) x
  · rw [List.length_append]
    have := h.n0
    omega
theorem LsP.real {P : Hp → V → Prop} {H : Hp} {p a : Addr} {xs : List V} (h : LsP P (del H p) a xs) (ap : a ≠ p) : H a = some (.lst xs) := by
  have z := h.l
  rw [del_ne ap] at z
  exact z
theorem LsP.pick {P : Hp → V → Prop} {K : PySem.W.Frag} {H : Hp} {p a : Addr} {xs : List V} (h : LsP P (del H p) a xs) (ap : a ≠ p) (d : Dc H p) {Q : VK} {E : XK} (q : ∀ (v : V) (H' : Hp), P (del H p) v → Ev2 H H' → Only1 H H' p → Dc H' p → Q v H') : spPick K [.ref p, .ref a] H Q E := by
  have e := h.real ap
  refine ⟨p, a, xs, rfl, d, SqL.of e, fun H' _ o => SqL.of ((o _ ap).trans e), h.n0, by have := h.n1; omega, fun i v H' hv e1 o1 d1 => q v H' (h.all v (List.mem_of_getElem? hv)) e1 o1 d1⟩
/-! ### a list that grows by what was told -/
structure Lp (tP0 tP1 : Addr) (Hb : Hp) (pl : Addr) (xs : List V) (H : Hp) : Prop where
  x : LamX.ExtN Hb H
  t : LamX.Tabs (lamT tP0 tP1) H
  l : H pl = some (.lst xs)
  n : Hb pl = none
theorem Lp.call {tP0 tP1 : Addr} {Hb H G G' : Hp} {pl : Addr} {xs : List V} (L : Lp tP0 tP1 Hb pl xs H) (e : LamX.ExtN H G) (t : LamX.Tabs (lamT tP0 tP1) G) (s : Same G G') : Lp tP0 tP1 Hb pl xs G' :=
  ⟨ext_trans L.x (ext_trans e (xOf s)), Tabs.same t s, s _ _ (xl e L.l), L.n⟩
theorem Lp.put {tP0 tP1 : Addr} {Hb H : Hp} {pl : Addr} {xs ys : List V} (L : Lp tP0 tP1 Hb pl xs H) : Lp tP0 tP1 Hb pl ys (upd H pl (.lst ys)) := by
  refine ⟨fun b o h t => ?_, Tabs.ev L.t fun b o h => ?_, upd_same, L.n⟩
  · rw [upd_ne (ne_of_none h L.n)]
    exact L.x b o h t
  · by_cases z : b = pl
    · subst z
      rw [L.l] at h
      cases h
      exact .inl ⟨_, _, rfl, upd_same⟩
    · exact .inr (by rw [upd_ne z]; exact h)
theorem Lp.new {tP0 tP1 : Addr} {Hb H : Hp} {pl : Addr} {xs : List V} (n : Hb pl = none) (s : Same Hb H) (t : LamX.Tabs (lamT tP0 tP1) Hb) (l : H pl = some (.lst xs)) : Lp tP0 tP1 Hb pl xs H := ⟨xOf s, Tabs.same t s, l, n⟩

/-! ### written dicts that are no tables -/
theorem kp_vals {H : Hp} : ∀ {k : List Key} {xs : List V}, DxAll H xs (k.map kP) → xs = k.map kV
  | [], _, h => by cases h; rfl
  | .inl i :: k, _, h => by
    cases h with
    | cons a r =>
      cases a
      rw [kp_vals r]
      rfl
  | .inr i :: k, _, h => by
    cases h with
    | cons a r =>
      cases a
      rw [kp_vals r]
      rfl
theorem key_tup {H : Hp} {v : V} {k : List Key} (h : Dx H v (.tuple (k.map kP))) : ∃ b, v = .ref b ∧ H b = some (.tup (k.map kV)) := by
  cases h with
  | @tup b xs _ h1 h2 =>
    rw [kp_vals h2] at h1
    exact ⟨b, rfl, h1⟩
section
variable {H L L1 L2 : Hp} {p q : Addr} {op u0 u1 : HO}
theorem disp_same (n : H q = none) (s : Same (upd H q u0) L) : Same H (upd L q u1) := fun b o e => by
  have bq : b ≠ q := ne_of_none e n
  rw [upd_ne bq]
  exact s _ _ (by rw [upd_ne bq]; exact e)
theorem newIn_disp (hp : H p = some op) (n : H q = none) : Same (newIn (upd H q u0) L) (del (del (upd L q u1) p) q) := fun b o e => by
  obtain ⟨z, e'⟩ := newIn_some e
  have bq : b ≠ q := fun w => by rw [w, upd_same] at z; cases z
  have qp : p ≠ q := ne_of_none hp n
  have bp : b ≠ p := fun w => by rw [w, upd_ne qp, hp] at z; cases z
  rw [del_ne bq, del_ne bp, upd_ne bq]
  exact e'
theorem old_disp (n : H q = none) (s : Same (upd H q u0) L) : Same (del H p) (del (del (upd L q u1) p) q) := fun b o e => by
  by_cases bp : b = p
  · rw [bp, del_same] at e
    cases e
  · rw [del_ne bp] at e
    have bq : b ≠ q := ne_of_none e n
    rw [del_ne bq, del_ne bp, upd_ne bq]
    exact s _ _ (by rw [upd_ne bq]; exact e)
theorem disp_at (hp : H p = some op) (n : H q = none) : del (upd L q u1) p q = some u1 := by
  have qp : p ≠ q := ne_of_none hp n
  rw [del_ne qp.symm]
  exact upd_same
def badE (k : List Key) (d : PyData) : Bool := decide (k.length ≤ 100) && (len3 d && !(keyD (.tuple (k.map kP)) && stateD d))
theorem disp_item {vk vv : V} {k : List Key} {dv : PyData} (hp : H p = some op) (n : H q = none) (s1 : Same (upd H q (.dT [])) L1) (x1 : Dx (newIn (upd H q (.dT [])) L1) vk (.tuple (k.map kP))) (s2 : Same L1 L2) (x2 : Dx (newIn L1 L2) vv dv) (bad : badE k dv = true) :
    L2 q = some (.dT []) ∧ KeysT L2 [(vk, vv)] [(k, vv)] ∧ Same H (upd L2 q (.dT [(k, vv)])) ∧ Bt (del (upd L2 q (.dT [(k, vv)])) p) (.ref q) := by
  simp only [badE, Bool.and_eq_true, decide_eq_true_eq, Bool.not_eq_true'] at bad
  obtain ⟨b, rfl, hb⟩ := key_tup x1
  have s12 := s1.trans s2
  refine ⟨s12 _ _ upd_same, .cons ⟨b, rfl, s2 _ _ (newIn_all _ _ hb)⟩ .nil, disp_same n s12, .inr (.inr ⟨q, [(k, vv)], [dv], rfl, disp_at hp n, List.nodup_cons.mpr ⟨List.not_mem_nil, List.nodup_nil⟩, Nat.le_of_ble_eq_true rfl, ?_, .cons ((x2.same (newIn_r s1)).same (newIn_disp hp n)) .nil, ?_, ?_⟩)⟩
  · intro p hp
    cases List.mem_singleton.mp hp
    exact bad.1
  · intro d hd
    cases List.mem_singleton.mp hd
    exact bad.2.1
  · show (okAt [(k, vv)] [dv] 0 && true) = false
    rw [Bool.and_true]
    exact bad.2.2
theorem disp_old {vk vv : V} {k : List Key} {dv : PyData} (hp : H p = some op) (n : H q = none) (s1 : Same (upd H q (.dT [])) L1) (x1 : Dx (newIn (upd H q (.dT [])) L1) vk (.tuple (k.map kP))) (x2 : Dx (del H p) vv dv) (bad : badE k dv = true) :
    L1 q = some (.dT []) ∧ KeysT L1 [(vk, vv)] [(k, vv)] ∧ Same H (upd L1 q (.dT [(k, vv)])) ∧ Bt (del (upd L1 q (.dT [(k, vv)])) p) (.ref q) := by
  simp only [badE, Bool.and_eq_true, decide_eq_true_eq, Bool.not_eq_true'] at bad
  obtain ⟨b, rfl, hb⟩ := key_tup x1
  refine ⟨s1 _ _ upd_same, .cons ⟨b, rfl, newIn_all _ _ hb⟩ .nil, disp_same n s1, .inr (.inr ⟨q, [(k, vv)], [dv], rfl, disp_at hp n, List.nodup_cons.mpr ⟨List.not_mem_nil, List.nodup_nil⟩, Nat.le_of_ble_eq_true rfl, ?_, .cons (x2.same (old_disp n s1)) .nil, ?_, ?_⟩)⟩
  · intro p hp
    cases List.mem_singleton.mp hp
    exact bad.1
  · intro d hd
    cases List.mem_singleton.mp hd
    exact bad.2.1
  · show (okAt [(k, vv)] [dv] 0 && true) = false
    rw [Bool.and_true]
    exact bad.2.2
theorem disp_two {L3 : Hp} {vk vv vk2 : V} {k k2 : List Key} {dv : PyData} (hp : H p = some op) (n : H q = none) (s1 : Same (upd H q (.dT [])) L1) (x1 : Dx (newIn (upd H q (.dT [])) L1) vk (.tuple (k.map kP))) (s2 : Same L1 L2) (x2 : Dx (newIn L1 L2) vv dv) (s3 : Same L2 L3) (x3 : Dx (newIn L2 L3) vk2 (.tuple (k2.map kP)))
    (ne : k ≠ k2) (l1 : k.length ≤ 100) (l2 : k2.length ≤ 100) (l3 : len3 dv = true) (bad : (keyD (.tuple (k2.map kP)) && stateD .none) = false) :
    L3 q = some (.dT []) ∧ KeysT L3 [(vk, vv), (vk2, .non)] [(k, vv), (k2, .non)] ∧ Same H (upd L3 q (.dT [(k, vv), (k2, .non)])) ∧ Bt (del (upd L3 q (.dT [(k, vv), (k2, .non)])) p) (.ref q) := by
  obtain ⟨b, rfl, hb⟩ := key_tup x1
  obtain ⟨b2, rfl, hb2⟩ := key_tup x3
  have s12 := s1.trans s2
  have s13 := s12.trans s3
  refine ⟨s13 _ _ upd_same, .cons ⟨b, rfl, (s2.trans s3) _ _ (newIn_all _ _ hb)⟩ (.cons ⟨b2, rfl, newIn_all _ _ hb2⟩ .nil), disp_same n s13, .inr (.inr ⟨q, [(k, vv), (k2, .non)], [dv, .none], rfl, disp_at hp n, List.nodup_cons.mpr ⟨fun z => ne (List.mem_singleton.mp z), List.nodup_cons.mpr ⟨List.not_mem_nil, List.nodup_nil⟩⟩, Nat.le_of_ble_eq_true rfl, ?_, .cons (((x2.same (newIn_r s1)).same (newIn_l s3)).same (newIn_disp hp n)) (.cons .non .nil), ?_, ?_⟩)⟩
  · intro p hp
    rcases List.mem_cons.mp hp with rfl | hp
    · exact l1
    · cases List.mem_singleton.mp hp
      exact l2
  · intro d hd
    rcases List.mem_cons.mp hd with rfl | hd
    · exact l3
    · cases List.mem_singleton.mp hd
      rfl
  · show (okAt _ _ 0 && (okAt [(k, vv), (k2, .non)] [dv, .none] 1 && true)) = false
    rw [show okAt [(k, vv), (k2, V.non)] [dv, .none] 1 = false from bad, Bool.false_and, Bool.and_false]
theorem disp_num {vv : V} (hp : H p = some op) (n : H q = none) (s1 : Same (upd H q (.dK [])) L1) : L1 q = some (.dK []) ∧ Same H (upd L1 q (.dK [(.inl 0, vv)])) ∧ Bt (del (upd L1 q (.dK [(.inl 0, vv)])) p) (.ref q) := by
  refine ⟨s1 _ _ upd_same, disp_same n s1, .inr (.inl ⟨q, .dK [(.inl 0, vv)], [(.int 0, vv)], rfl, disp_at hp n, (fun _ z => nomatch z), .dk _, Nat.one_ne_zero, Nat.le_of_ble_eq_true rfl, fun p hp => ?_⟩)⟩
  cases List.mem_singleton.mp hp
  exact ⟨.int 0, .int 0, rfl, rfl⟩
theorem disp_bool {vk vv : V} (hp : H p = some op) (n : H q = none) (s1 : Same (upd H q (.dT [])) L1) (x1 : Dx (newIn (upd H q (.dT [])) L1) vk (.tuple [.int 0, .bool true])) (s2 : Same L1 L2) :
    ∃ b, vk = .ref b ∧ L2 q = some (.dT []) ∧ L2 b = some (.tup [.int 0, .bl true]) ∧ Same H (upd L2 q (MxO q [(.ref b, vv)])) ∧ Bt (del (upd L2 q (MxO q [(.ref b, vv)])) p) (.ref q) := by
  have s12 := s1.trans s2
  have x1' := x1
  cases x1 with
  | @tup b xs _ h1 h2 =>
    cases h2 with
    | cons a h2 =>
    cases h2 with
    | cons a2 h2 =>
    cases h2
    cases a
    cases a2
    refine ⟨b, rfl, s12 _ _ upd_same, s2 _ _ (newIn_all _ _ h1), disp_same n s12, .inr (.inl ⟨q, _, [(.ref b, vv)], rfl, disp_at hp n, (fun _ z => nomatch z), .mx _, Nat.one_ne_zero, Nat.le_of_ble_eq_true rfl, fun p hp => ?_⟩)⟩
    cases List.mem_singleton.mp hp
    exact ⟨.tuple [.int 0, .bool true], (x1'.same (newIn_l s2)).same (newIn_disp ‹_› n), rfl, rfl⟩
end

def spRt (tP0 tP1 : Addr) : Sp := fun vs H Q _ => ∃ (p : Addr), vs = [.ref p] ∧ Dc H p ∧ LamX.Tabs (lamT tP0 tP1) H ∧ ∀ H', St p tP0 tP1 H H' → Q (.bl true) H'
theorem St.lam {p tP0 tP1 : Addr} {H0 H H' : Hp} (s : St p tP0 tP1 H0 H) (e : LamX.ExtN H H') (t : LamX.Tabs (lamT tP0 tP1) H') : St p tP0 tP1 H0 H' := ⟨ext_trans s.x (ext_del e p), xdc e s.d, t⟩
theorem del_le {H : Hp} {p : Addr} : LamX.ExtN (del H p) H := fun b o e _ => by
  by_cases z : b = p
  · rw [z, del_same] at e
    cases e
  · rwa [del_ne z] at e
section
variable {p : Addr} {L L' : Hp} {xs : List V}
theorem bts_up (F : ∀ x ∈ xs, Bt (del L p) x) (s : Same L L') : ∀ x ∈ xs, Bt (del L' p) x := fun x hx => (F x hx).ext (ext_del (xOf s) p)
theorem bts_add {y : V} (F : ∀ x ∈ xs, Bt (del L p) x) (b : Bt (del L p) y) : ∀ x ∈ xs ++ [y], Bt (del L p) x := fun x hx => by
  rcases List.mem_append.mp hx with h | h
  · exact F x h
  · cases List.mem_singleton.mp h
    exact b
theorem bt_dx {H : Hp} {o : HO} {v : V} {d : PyData} (hp : H p = some o) (x : Dx (newIn H L) v d) (nd : (tyN d == "dict") = false) : Bt (del L p) v := .inl ⟨d, x.same (newIn_del hp), nd⟩
theorem bt_non {H : Hp} : Bt H .non := .inl ⟨.none, .non, rfl⟩
theorem bt_int {H : Hp} {i : Int} : Bt H (.int i) := .inl ⟨.int i, .int i, rfl⟩
theorem bt_str {H : Hp} {x : Str} : Bt H (.str x) := .inl ⟨.str x, .str x, rfl⟩
theorem bts_ls {q : Addr} (F : ∀ x ∈ xs, Bt (del L p) x) (n : L q = none) (qp : q ≠ p) (h0 : 0 < xs.length) (h1 : xs.length ≤ 100) : LsP Bt (del (upd L q (.lst xs)) p) q xs := ⟨by rw [del_ne qp]; exact upd_same, bts_up F (upd_sm n), h0, h1⟩
end
theorem bad_state {d : PyData} (h : fS d = true) : badE [.inl 0, .inl 0] d = true := by
  simp only [fS, Bool.and_eq_true, Bool.not_eq_true'] at h
  unfold badE
  rw [h.1, h.2, Bool.and_false]
  rfl
def toldL1 : List PyData := [.str "operation", .str "table", .str "table", .str "rows", .str "program"]
def toldL2 : List PyData := List.replicate 5 (.str "parse None")
theorem told_ok : (SeqAt.shaped (.list toldL1) && PyData.eqv (.list toldL1) (.list toldL1)) = true ∧ (SeqAt.shaped (.list toldL2) && PyData.eqv (.list toldL2) (.list toldL2)) = true := by decide +kernel
theorem ok__law_right {f : Addr} {fd : FuncData} (F : Fun K "_law_right" "_law_right" s__law_right f fd) (T : Txt mg) (Z : TexZ K mg tx) (hcd : fd.code = .ref tC0) (TB : LamX.TabB base mg tC0 tP0) (tne : tP0 ≠ tP1) {f__law_met : Addr} {fd__law_met : FuncData} (F__law_met : Fun K "_law_met" "_law_met" s__law_met f__law_met fd__law_met) (C__law_met : Cal K mg "_law_met" f__law_met fd__law_met P__law_met) {f__law_pick : Addr} {fd__law_pick : FuncData} (G__law_pick : FnOk P w K mg base CX0 2 f__law_pick fd__law_pick P__law_pick (spPick K)) (C__law_pick : Cal K mg "_law_pick" f__law_pick fd__law_pick P__law_pick) {f_write_numbers : Addr} {fd_write_numbers : FuncData} (G_write_numbers : FnOk P w K mg base (L2.CX P w) 3 f_write_numbers fd_write_numbers P_write_numbers (spWN tx)) (C_write_numbers : Cal K mg "write_numbers" f_write_numbers fd_write_numbers P_write_numbers) {f_write_state : Addr} {fd_write_state : FuncData} (G_write_state : FnOk P w K mg base (L2.CX P w) 6 f_write_state fd_write_state P_write_state (spWS tx)) (C_write_state : Cal K mg "write_state" f_write_state fd_write_state P_write_state) {f_write_table : Addr} {fd_write_table : FuncData} (G_write_table : FnOk P w K mg base (L2.CX P w) 7 f_write_table fd_write_table P_write_table (spWT tx)) (C_write_table : Cal K mg "write_table" f_write_table fd_write_table P_write_table) {f_write_rows : Addr} {fd_write_rows : FuncData} (G_write_rows : FnOk P w K mg base (L2.CX P w) 6 f_write_rows fd_write_rows P_write_rows (spWR tx)) (C_write_rows : Cal K mg "write_rows" f_write_rows fd_write_rows P_write_rows) {f_write_program : Addr} {fd_write_program : FuncData} (G_write_program : FnOk P w K mg base (L2.CX P w) 3 f_write_program fd_write_program P_write_program (spCkP tx)) (C_write_program : Cal K mg "write_program" f_write_program fd_write_program P_write_program) {f_read_numbers : Addr} {fd_read_numbers : FuncData} (G_read_numbers : FnOk P w K mg base (L2.CX P w) 4 f_read_numbers fd_read_numbers P_read_numbers (spRdN tx)) (C_read_numbers : Cal K mg "read_numbers" f_read_numbers fd_read_numbers P_read_numbers) {f_read_state : Addr} {fd_read_state : FuncData} (G_read_state : FnOk P w K mg base (L2.CX P w) 4 f_read_state fd_read_state P_read_state (spBadT tx)) (C_read_state : Cal K mg "read_state" f_read_state fd_read_state P_read_state) {f_read_table : Addr} {fd_read_table : FuncData} (G_read_table : FnOk P w K mg base (L2.CX P w) 4 f_read_table fd_read_table P_read_table (spBadT tx)) (C_read_table : Cal K mg "read_table" f_read_table fd_read_table P_read_table) {f_read_rows : Addr} {fd_read_rows : FuncData} (G_read_rows : FnOk P w K mg base (L2.CX P w) 4 f_read_rows fd_read_rows P_read_rows (spBadT tx)) (C_read_rows : Cal K mg "read_rows" f_read_rows fd_read_rows P_read_rows) {f_read_program : Addr} {fd_read_program : FuncData} (G_read_program : FnOk P w K mg base (L2.CX P w) 4 f_read_program fd_read_program P_read_program (spBadT tx)) (C_read_program : Cal K mg "read_program" f_read_program fd_read_program P_read_program) : FnG P w K mg base CX0 20 f fd P__law_right (spRt tP0 tP1) := by
  refine okGC F hcd sc__law_right (fun vs H Q E h => ?_) (fun A outer s H vs Q E hg hr h => ?_)
  · obtain ⟨p, rfl, _⟩ := h
    rfl
  · obtain ⟨p, rfl, hd, hT, q⟩ := h
    refine ⟨_, (pss_cons (ps_set (i := 1) sc__law_right.nd rfl (Or.inr rfl) (pe_call G__law_pick (hr.mono (by decide)) rfl C__law_pick.m C__law_pick.k C__law_pick.b .nil pass0 (pa_cons (pv 0) (pa_cons (lit_lst (lits_cons lit_non (lits_cons lit_int (lits_cons (lit_lst (lits_cons lit_int lits_nil)) (lits_cons (lit_tup (lits_cons lit_neg lits_nil)) (lits_cons (lit_tup (lits_cons lit_bl lits_nil)) (lits_cons (lit_tup (lits_cons lit_str lits_nil)) (lits_cons (lit_tup (lits_cons (lit_pow (powOk (by decide +kernel))) lits_nil)) (lits_cons (lit_tup (lits_cons lit_non lits_nil)) (lits_cons lit_str (lits_cons lit_dict (lits_cons (lit_tup (lits_cons (lit_tup (lits_cons lit_int lits_nil)) lits_nil)) lits_nil)))))))))))) pa_nil))))
      (pss_cons (ps_set (i := 2) sc__law_right.nd rfl (Or.inr rfl) (lit_lst (lits_cons lit_non (lits_cons (lit_tup lits_nil) (lits_cons (lit_tup (lits_cons (lit_tup lits_nil) lits_nil)) (lits_cons (lit_tup (lits_cons (lit_tup lits_nil) (lits_cons (lit_tup lits_nil) (lits_cons (lit_tup lits_nil) lits_nil)))) (lits_cons (lit_lst (lits_cons (lit_tup lits_nil) (lits_cons (lit_tup lits_nil) lits_nil))) (lits_cons (lit_tup (lits_cons (lit_tup (lits_cons lit_int (lits_cons lit_int lits_nil))) (lits_cons (lit_tup lits_nil) lits_nil))) (lits_cons (lit_tup (lits_cons (lit_tup (lits_cons lit_int (lits_cons lit_int lits_nil))) (lits_cons (lit_tup lits_nil) lits_nil))) (lits_cons (lit_tup (lits_cons (lit_tup lits_nil) (lits_cons (lit_tup (lits_cons (lit_tup (lits_cons lit_int lits_nil)) (lits_cons (lit_tup (lits_cons lit_int lits_nil)) lits_nil))) lits_nil))) (lits_cons (lit_tup (lits_cons (lit_tup lits_nil) (lits_cons (lit_tup (lits_cons (lit_tup lits_nil) (lits_cons (lit_tup lits_nil) lits_nil))) lits_nil))) lits_nil)))))))))))
      (pss_cons (ps_set (i := 2) sc__law_right.nd rfl (Or.inr rfl) (pe_call G__law_pick (hr.mono (by decide)) rfl C__law_pick.m C__law_pick.k C__law_pick.b .nil pass0 (pa_cons (pv 0) (pa_cons (pe_op op_cat (pv 2) (lit_lst (lits_cons (lit_tup (lits_cons (lit_tup lits_nil) (lits_cons (lit_lst (lits_cons (lit_tup lits_nil) lits_nil)) lits_nil))) (lits_cons (lit_tup (lits_cons (lit_tup (lits_cons lit_bl lits_nil)) (lits_cons (lit_tup lits_nil) lits_nil))) (lits_cons (lit_tup (lits_cons (lit_tup lits_nil) (lits_cons (lit_tup (lits_cons lit_int lits_nil)) lits_nil))) (lits_cons (lit_tup (lits_cons (lit_tup (lits_cons lit_neg lits_nil)) (lits_cons (lit_tup lits_nil) lits_nil))) (lits_cons lit_str (lits_cons lit_dict (lits_cons lit_int lits_nil))))))))) pa_nil))))
      (pss_cons (ps_set (i := 3) sc__law_right.nd rfl (Or.inr rfl) (pe_lst (pa_cons pe_non (pa_cons (lit_tup lits_nil) (pa_cons (lit_lst lits_nil) (pa_cons (pe_disp (pps_cons pe_int (lit_tup (lits_cons (lit_tup lits_nil) (lits_cons (lit_tup lits_nil) lits_nil))) pps_nil) (by rfl) (by rfl) (fun z => by cases z) (by decide)) (pa_cons (pe_dispT (by have z := hu64i hr; exact Nat.lt_of_le_of_lt (Nat.le_add_right _ _) z) (pps_cons (lit_tup (lits_cons lit_int lits_nil)) (lit_tup (lits_cons (lit_tup lits_nil) (lits_cons (lit_tup lits_nil) lits_nil))) pps_nil) (by rfl) (by rfl) (fun z => by cases z) (by decide)) (pa_cons (pe_dispT (by have z := hu64i hr; exact Nat.lt_of_le_of_lt (Nat.le_add_right _ _) z) (pps_cons (lit_tup (lits_cons lit_int (lits_cons lit_int (lits_cons lit_int lits_nil)))) (lit_tup (lits_cons (lit_tup lits_nil) (lits_cons (lit_tup lits_nil) lits_nil))) pps_nil) (by rfl) (by rfl) (fun z => by cases z) (by decide)) (pa_cons (pe_dispT (by have z := hu64i hr; exact Nat.lt_of_le_of_lt (Nat.le_add_right _ _) z) (pps_cons (lit_tup (lits_cons lit_int (lits_cons lit_neg lits_nil))) (lit_tup (lits_cons (lit_tup lits_nil) (lits_cons (lit_tup lits_nil) lits_nil))) pps_nil) (by rfl) (by rfl) (fun z => by cases z) (by decide)) (pa_cons pe_str (pa_cons pe_int pa_nil)))))))))))
      (pss_cons (ps_set (i := 3) sc__law_right.nd rfl (Or.inr rfl) (pe_call G__law_pick (hr.mono (by decide)) rfl C__law_pick.m C__law_pick.k C__law_pick.b .nil pass0 (pa_cons (pv 0) (pa_cons (pe_op op_cat (pv 3) (pe_lst (pa_cons (pe_dispT (by have z := hu64i hr; exact Nat.lt_of_le_of_lt (Nat.le_add_right _ _) z) (pps_cons (lit_tup (lits_cons lit_int (lits_cons lit_int lits_nil))) (pv 2) pps_nil) (by rfl) (by rfl) (fun z => by cases z) (by decide)) (pa_cons (pe_dispN (hu64i hr) (pps_cons (lit_tup (lits_cons lit_int (lits_cons lit_bl lits_nil))) (lit_tup (lits_cons (lit_tup lits_nil) (lits_cons (lit_tup lits_nil) lits_nil))) pps_nil) (by rfl) (by rfl) (fun z => by cases z) (by decide)) (pa_cons (pe_dispT (by have z := hu64i hr; exact Nat.lt_of_le_of_lt (Nat.le_add_right _ _) z) (pps_cons (lit_tup (lits_cons lit_int (lits_cons lit_int lits_nil))) (lit_tup (lits_cons (lit_tup lits_nil) (lits_cons (lit_tup lits_nil) lits_nil))) (pps_cons (lit_tup (lits_cons lit_int (lits_cons lit_int lits_nil))) pe_non pps_nil)) (by rfl) (by rfl) (fun z => by cases z) (by decide)) pa_nil))))) pa_nil))))
      (pss_cons (ps_set (i := 4) sc__law_right.nd rfl (Or.inr rfl) (lit_lst (lits_cons lit_non (lits_cons (lit_tup lits_nil) (lits_cons (lit_lst (lits_cons (lit_tup (lits_cons lit_str (lits_cons (lit_tup lits_nil) lits_nil))) lits_nil)) (lits_cons (lit_tup (lits_cons (lit_tup (lits_cons lit_str lits_nil)) lits_nil)) (lits_cons (lit_tup (lits_cons (lit_tup (lits_cons lit_str (lits_cons (lit_tup (lits_cons lit_int lits_nil)) lits_nil))) lits_nil)) (lits_cons (lit_tup (lits_cons (lit_tup (lits_cons lit_str (lits_cons (lit_tup lits_nil) lits_nil))) lits_nil)) (lits_cons (lit_tup (lits_cons (lit_tup (lits_cons lit_str (lits_cons (lit_lst lits_nil) lits_nil))) lits_nil)) (lits_cons (lit_tup (lits_cons (lit_tup (lits_cons lit_str (lits_cons (lit_tup lits_nil) lits_nil))) (lits_cons (lit_tup (lits_cons lit_str (lits_cons (lit_tup (lits_cons lit_int lits_nil)) lits_nil))) lits_nil))) (lits_cons lit_str lits_nil)))))))))))
      (pss_cons (ps_set (i := 4) sc__law_right.nd rfl (Or.inr rfl) (pe_call G__law_pick (hr.mono (by decide)) rfl C__law_pick.m C__law_pick.k C__law_pick.b .nil pass0 (pa_cons (pv 0) (pa_cons (pe_op op_cat (pv 4) (lit_lst (lits_cons (lit_tup (lits_cons (lit_tup (lits_cons lit_str (lits_cons (lit_tup lits_nil) lits_nil))) (lits_cons (lit_tup (lits_cons lit_str (lits_cons (lit_tup (lits_cons lit_int (lits_cons lit_int (lits_cons lit_int (lits_cons lit_int lits_nil))))) lits_nil))) lits_nil))) (lits_cons (lit_tup (lits_cons (lit_tup (lits_cons lit_str (lits_cons (lit_tup lits_nil) lits_nil))) (lits_cons (lit_tup (lits_cons lit_str (lits_cons (lit_tup (lits_cons lit_bl lits_nil)) lits_nil))) lits_nil))) (lits_cons lit_dict (lits_cons lit_int lits_nil)))))) pa_nil))))
      (pss_cons (ps_set (i := 5) sc__law_right.nd rfl (Or.inr rfl) (pe_call G__law_pick (hr.mono (by decide)) rfl C__law_pick.m C__law_pick.k C__law_pick.b .nil pass0 (pa_cons (pv 0) (pa_cons (lit_lst (lits_cons lit_non (lits_cons lit_int (lits_cons (lit_tup lits_nil) (lits_cons lit_str (lits_cons lit_dict (lits_cons (lit_lst lits_nil) (lits_cons lit_bl lits_nil)))))))) pa_nil))))
      (pss_cons (ps_set (i := 6) sc__law_right.nd rfl (Or.inl rfl) (pe_lst (pa_cons (pe_lam (k := 12) (T := lamT tP0 tP1) (c := tC0) (P := tP0) rfl C__law_met F__law_met sc__law_met rfl (Or.inl rfl) (fun _ => gives__law_met T Z (by exact hg) (hr.mono (by decide))) TB rfl two_mem0 (two_one0 tne) (hr.mono (by decide)) (fun A outer s H E f c' hr => (pe_call G_write_numbers (hr.mono (by decide)) rfl C_write_numbers.m C_write_numbers.k C_write_numbers.b .nil (passLam (outer := outer) (s := s) (H := H)) (pa_cons (pv 1) pa_nil))) (L := (show LamX.lamSB (defScope s__law_right) _ = true by decide +kernel))) pa_nil)))
      (pss_cons (ps_expr (pe_bm PySem.F.plainAttrs_list PySem.F.slot_list_append PySem.F.type_list_append mt_append (pv 6) (pa_cons (pe_lam (k := 12) (T := lamT tP0 tP1) (c := tC0) (P := tP0) rfl C__law_met F__law_met sc__law_met rfl (Or.inl rfl) (fun _ => gives__law_met T Z (by exact hg) (hr.mono (by decide))) TB rfl two_mem0 (two_one0 tne) (hr.mono (by decide)) (fun A outer s H E f c' hr => (pe_call G_write_state (hr.mono (by decide)) rfl C_write_state.m C_write_state.k C_write_state.b .nil (passLam (outer := outer) (s := s) (H := H)) (pa_cons (pv 2) pa_nil))) (L := (show LamX.lamSB (defScope s__law_right) _ = true by decide +kernel))) pa_nil)))
      (pss_cons (ps_expr (pe_bm PySem.F.plainAttrs_list PySem.F.slot_list_append PySem.F.type_list_append mt_append (pv 6) (pa_cons (pe_lam (k := 12) (T := lamT tP0 tP1) (c := tC0) (P := tP0) rfl C__law_met F__law_met sc__law_met rfl (Or.inl rfl) (fun _ => gives__law_met T Z (by exact hg) (hr.mono (by decide))) TB rfl two_mem0 (two_one0 tne) (hr.mono (by decide)) (fun A outer s H E f c' hr => (pe_call G_write_table (hr.mono (by decide)) rfl C_write_table.m C_write_table.k C_write_table.b .nil (passLam (outer := outer) (s := s) (H := H)) (pa_cons (pv 3) pa_nil))) (L := (show LamX.lamSB (defScope s__law_right) _ = true by decide +kernel))) pa_nil)))
      (pss_cons (ps_expr (pe_bm PySem.F.plainAttrs_list PySem.F.slot_list_append PySem.F.type_list_append mt_append (pv 6) (pa_cons (pe_lam (k := 12) (T := lamT tP0 tP1) (c := tC0) (P := tP0) rfl C__law_met F__law_met sc__law_met rfl (Or.inl rfl) (fun _ => gives__law_met T Z (by exact hg) (hr.mono (by decide))) TB rfl two_mem0 (two_one0 tne) (hr.mono (by decide)) (fun A outer s H E f c' hr => (pe_call G_write_rows (hr.mono (by decide)) rfl C_write_rows.m C_write_rows.k C_write_rows.b .nil (passLam (outer := outer) (s := s) (H := H)) (pa_cons (pv 4) pa_nil))) (L := (show LamX.lamSB (defScope s__law_right) _ = true by decide +kernel))) pa_nil)))
      (pss_cons (ps_expr (pe_bm PySem.F.plainAttrs_list PySem.F.slot_list_append PySem.F.type_list_append mt_append (pv 6) (pa_cons (pe_lam (k := 12) (T := lamT tP0 tP1) (c := tC0) (P := tP0) rfl C__law_met F__law_met sc__law_met rfl (Or.inl rfl) (fun _ => gives__law_met T Z (by exact hg) (hr.mono (by decide))) TB rfl two_mem0 (two_one0 tne) (hr.mono (by decide)) (fun A outer s H E f c' hr => (pe_call G_write_program (hr.mono (by decide)) rfl C_write_program.m C_write_program.k C_write_program.b .nil (passLam (outer := outer) (s := s) (H := H)) (pa_cons (pv 5) pa_nil))) (L := (show LamX.lamSB (defScope s__law_right) _ = true by decide +kernel))) pa_nil)))
      (pss_cons (ps_if (pt_cmpR (op_neD hr.units) (pv 6) (lit_lst (lits_cons lit_str (lits_cons lit_str (lits_cons lit_str (lits_cons lit_str (lits_cons lit_str lits_nil)))))) (nomark _)) (pss_one (ps_ret pe_bl)) pss_nil)
      (pss_cons (ps_set (i := 7) sc__law_right.nd rfl (Or.inr rfl) (pe_call G__law_pick (hr.mono (by decide)) rfl C__law_pick.m C__law_pick.k C__law_pick.b .nil pass0 (pa_cons (pv 0) (pa_cons (lit_lst (lits_cons lit_non (lits_cons lit_int (lits_cons (lit_tup lits_nil) (lits_cons (lit_lst (lits_cons lit_str lits_nil)) (lits_cons lit_dict (lits_cons lit_bl lits_nil))))))) pa_nil))))
      (pss_cons (ps_set (i := 6) sc__law_right.nd rfl (Or.inl rfl) (pe_lst (pa_cons (pe_lam (k := 12) (T := lamT tP0 tP1) (c := tC0) (P := tP0) rfl C__law_met F__law_met sc__law_met rfl (Or.inl rfl) (fun _ => gives__law_met T Z (by exact hg) (hr.mono (by decide))) TB rfl two_mem0 (two_one0 tne) (hr.mono (by decide)) (fun A outer s H E f c' hr => (pe_call G_read_numbers (hr.mono (by decide)) rfl C_read_numbers.m C_read_numbers.k C_read_numbers.b .nil (passLam (outer := outer) (s := s) (H := H)) (pa_cons (pv 7) pa_nil))) (L := (show LamX.lamSB (defScope s__law_right) _ = true by decide +kernel))) pa_nil)))
      (pss_cons (ps_expr (pe_bm PySem.F.plainAttrs_list PySem.F.slot_list_append PySem.F.type_list_append mt_append (pv 6) (pa_cons (pe_lam (k := 12) (T := lamT tP0 tP1) (c := tC0) (P := tP0) rfl C__law_met F__law_met sc__law_met rfl (Or.inl rfl) (fun _ => gives__law_met T Z (by exact hg) (hr.mono (by decide))) TB rfl two_mem0 (two_one0 tne) (hr.mono (by decide)) (fun A outer s H E f c' hr => (pe_call G_read_state (hr.mono (by decide)) rfl C_read_state.m C_read_state.k C_read_state.b .nil (passLam (outer := outer) (s := s) (H := H)) (pa_cons (pv 7) pa_nil))) (L := (show LamX.lamSB (defScope s__law_right) _ = true by decide +kernel))) pa_nil)))
      (pss_cons (ps_expr (pe_bm PySem.F.plainAttrs_list PySem.F.slot_list_append PySem.F.type_list_append mt_append (pv 6) (pa_cons (pe_lam (k := 12) (T := lamT tP0 tP1) (c := tC0) (P := tP0) rfl C__law_met F__law_met sc__law_met rfl (Or.inl rfl) (fun _ => gives__law_met T Z (by exact hg) (hr.mono (by decide))) TB rfl two_mem0 (two_one0 tne) (hr.mono (by decide)) (fun A outer s H E f c' hr => (pe_call G_read_table (hr.mono (by decide)) rfl C_read_table.m C_read_table.k C_read_table.b .nil (passLam (outer := outer) (s := s) (H := H)) (pa_cons (pv 7) pa_nil))) (L := (show LamX.lamSB (defScope s__law_right) _ = true by decide +kernel))) pa_nil)))
      (pss_cons (ps_expr (pe_bm PySem.F.plainAttrs_list PySem.F.slot_list_append PySem.F.type_list_append mt_append (pv 6) (pa_cons (pe_lam (k := 12) (T := lamT tP0 tP1) (c := tC0) (P := tP0) rfl C__law_met F__law_met sc__law_met rfl (Or.inl rfl) (fun _ => gives__law_met T Z (by exact hg) (hr.mono (by decide))) TB rfl two_mem0 (two_one0 tne) (hr.mono (by decide)) (fun A outer s H E f c' hr => (pe_call G_read_rows (hr.mono (by decide)) rfl C_read_rows.m C_read_rows.k C_read_rows.b .nil (passLam (outer := outer) (s := s) (H := H)) (pa_cons (pv 7) pa_nil))) (L := (show LamX.lamSB (defScope s__law_right) _ = true by decide +kernel))) pa_nil)))
      (pss_cons (ps_expr (pe_bm PySem.F.plainAttrs_list PySem.F.slot_list_append PySem.F.type_list_append mt_append (pv 6) (pa_cons (pe_lam (k := 12) (T := lamT tP0 tP1) (c := tC0) (P := tP0) rfl C__law_met F__law_met sc__law_met rfl (Or.inl rfl) (fun _ => gives__law_met T Z (by exact hg) (hr.mono (by decide))) TB rfl two_mem0 (two_one0 tne) (hr.mono (by decide)) (fun A outer s H E f c' hr => (pe_call G_read_program (hr.mono (by decide)) rfl C_read_program.m C_read_program.k C_read_program.b .nil (passLam (outer := outer) (s := s) (H := H)) (pa_cons (pv 7) pa_nil))) (L := (show LamX.lamSB (defScope s__law_right) _ = true by decide +kernel))) pa_nil)))
      (pss_one (ps_ret (pe_cmpR (op_eqD hr.units) (pv 6) (pe_op op_rep (lit_lst (lits_cons lit_str lits_nil)) pe_int) (nomark _)))))))))))))))))))))))), ?_⟩
    have S0 : St p tP0 tP1 H H := ⟨ext_refl _, hd, hT⟩
    obtain ⟨o0, hp0⟩ := S0.some
    -- numbers
    refine ⟨_, rfl, fun v1 L1 s1 x1 => ?_⟩
    obtain ⟨a1, xs1, rfl, n1, l1, _⟩ := lit_ls (f := fN) hp0 x1 (by decide +kernel)
    have S1 := S0.same s1
    refine l1.pick (E := E0) n1 S1.d fun vN H1 bN e1 o1 d1 => ?_
    have bN := bN.ext (S1.re.pick e1 o1 d1).x
    have S2 := S1.pick e1 o1 d1
    clear l1 x1
    -- states
    obtain ⟨o2, hp2⟩ := S2.some
    refine fun v3 L3 s3 x3 => ?_
    obtain ⟨a3, xs3, rfl, n3, l3, e3⟩ := lit_ls (f := fS) hp2 x3 (by decide +kernel)
    have S3 := S2.same s3
    obtain ⟨o3, hp3⟩ := S3.some
    have bN := bN.ext (S2.re.same s3).x
    refine ⟨_, rfl, _, rfl, fun v4 L4 s4 x4 => ?_⟩
    obtain ⟨a4, xs4, rfl, n4, l4, e4⟩ := lit_ls (f := fS) hp3 x4 (by decide +kernel)
    have S4 := S3.same s4
    have bN := bN.ext (S3.re.same s4).x
    have l3 := LsP.ext (P := Pk fS) (fun h x => h.ext x) l3 (S3.re.same s4).x
    have lim3 : xs3.length + xs4.length ≤ 100 := by rw [e3, e4]; exact Nat.le_of_ble_eq_true rfl
    refine ⟨_, _, _, _, rfl, rfl, l3.real n3, l4.real n4, Nat.le_trans (m := 100000) (by omega) (by decide), fun p5 n5 => ?_⟩
    have q5 : p5 ≠ p := (S4.d.ne n5).symm
    have l5 := LsP.cat (P := Pk fS) (fun h x => h.ext x) l3 l4 n5 q5 lim3
    have s5 : Same L4 (upd L4 p5 (.lst (xs3 ++ xs4))) := upd_sm n5
    generalize upd L4 p5 (.lst (xs3 ++ xs4)) = L5 at l5 s5 ⊢
    have S5 := S4.same s5
    have bN := bN.ext (S4.re.same s5).x
    refine l5.pick (E := E0) q5 S5.d fun vS L6 bS e6 o6 d6 => ?_
    have bN := bN.ext (S5.re.pick e6 o6 d6).x
    have bS := bS.ext (S5.re.pick e6 o6 d6).x
    have S6 := S5.pick e6 o6 d6
    clear l3 l4 l5 x3 x4
    -- tables
    obtain ⟨o6', hp6⟩ := S6.some
    refine fun v7 L7 s7 x7 => ?_
    have hp7 := s7 _ _ hp6
    have F := bts_add (bts_up (p := p) (xs := [V.non]) (fun x hx => by cases List.mem_singleton.mp hx; exact bt_non) s7) (bt_dx hp6 x7 rfl)
    refine fun v8 L8 s8 x8 => ?_
    have hp8 := s8 _ _ hp7
    have F := bts_add (bts_up F s8) (bt_dx hp7 x8 rfl)
    refine fun p9 n9 => ?_
    refine fun v10 L10 s10 x10 => ?_
    obtain ⟨k1, s11, b11⟩ := disp_num (vv := v10) hp8 n9 s10
    refine ⟨k1, [(.inl 0, v10)], rfl, Nat.le_of_ble_eq_true rfl, ?_⟩
    rw [show mergeK [] [((.inl 0 : Key), v10)] = [(.inl 0, v10)] from rfl]
    generalize upd L10 p9 (HO.dK [(.inl 0, v10)]) = L11 at s11 b11 ⊢
    have hp11 := s11 _ _ hp8
    have F := bts_add (bts_up F s11) b11
    refine fun p12 n12 => ?_
    refine fun v12 L12 s12 x12 v13 L13 s13 x13 => ?_
    obtain ⟨k1, k2, s14, b14⟩ := disp_item (k := [.inl 0]) hp11 n12 s12 x12 s13 x13 (by decide +kernel)
    refine ⟨k1, _, k2, (List.nodup_cons.mpr ⟨List.not_mem_nil, List.nodup_nil⟩), Nat.le_of_ble_eq_true rfl, ?_⟩
    generalize upd L13 p12 _ = L14 at s14 b14 ⊢
    have hp14 := s14 _ _ hp11
    have F := bts_add (bts_up F s14) b14
    refine fun p15 n15 => ?_
    refine fun v15 L15 s15 x15 v16 L16 s16 x16 => ?_
    obtain ⟨k1, k2, s17, b17⟩ := disp_item (k := [.inl 0, .inl 0, .inl 0]) hp14 n15 s15 x15 s16 x16 (by decide +kernel)
    refine ⟨k1, _, k2, (List.nodup_cons.mpr ⟨List.not_mem_nil, List.nodup_nil⟩), Nat.le_of_ble_eq_true rfl, ?_⟩
    generalize upd L16 p15 _ = L17 at s17 b17 ⊢
    have hp17 := s17 _ _ hp14
    have F := bts_add (bts_up F s17) b17
    refine fun p18 n18 => ?_
    refine fun v18 L18 s18 x18 v19 L19 s19 x19 => ?_
    obtain ⟨k1, k2, s20, b20⟩ := disp_item (k := [.inl 0, .inl (-1)]) hp17 n18 s18 x18 s19 x19 (by decide +kernel)
    refine ⟨k1, _, k2, (List.nodup_cons.mpr ⟨List.not_mem_nil, List.nodup_nil⟩), Nat.le_of_ble_eq_true rfl, ?_⟩
    generalize upd L19 p18 _ = L20 at s20 b20 ⊢
    have hp20 := s20 _ _ hp17
    have F := bts_add (bts_add (bts_add (bts_up F s20) b20) (bt_str (x := "none"))) (bt_int (i := 0))
    refine ⟨(szr rfl), fun p21 n21 => ?_⟩
    have sT := ((((s7.trans s8).trans s11).trans s14).trans s17).trans s20
    have S20 := S6.same sT
    have q21 : p21 ≠ p := (S20.d.ne n21).symm
    have l21 := bts_ls F n21 q21 (Nat.le_of_ble_eq_true rfl) (Nat.le_of_ble_eq_true rfl)
    have s21 := upd_sm (o := .lst ([V.non] ++ [v7] ++ [v8] ++ [V.ref p9] ++ [V.ref p12] ++ [V.ref p15] ++ [V.ref p18] ++ [V.str "none"] ++ [V.int 0])) n21
    change LsP Bt (del (upd L20 p21 (.lst [V.non, v7, v8, V.ref p9, V.ref p12, V.ref p15, V.ref p18, V.str "none", V.int 0])) p) p21 [V.non, v7, v8, V.ref p9, V.ref p12, V.ref p15, V.ref p18, V.str "none", V.int 0] at l21
    change Same L20 (upd L20 p21 (.lst [V.non, v7, v8, V.ref p9, V.ref p12, V.ref p15, V.ref p18, V.str "none", V.int 0])) at s21
    clear F
    have e21 : [V.non, v7, v8, V.ref p9, V.ref p12, V.ref p15, V.ref p18, V.str "none", V.int 0].length = 9 := rfl
    generalize [V.non, v7, v8, V.ref p9, V.ref p12, V.ref p15, V.ref p18, V.str "none", V.int 0] = xs21 at l21 s21 e21 ⊢
    generalize upd L20 p21 (.lst xs21) = L21 at l21 s21 ⊢
    have S21 := S20.same s21
    have bN := bN.ext (S6.re.same (sT.trans s21)).x
    have bS := bS.ext (S6.re.same (sT.trans s21)).x
    clear sT s7 s8 s11 s14 s17 s20 x7 x8 hp7 hp8 hp11 hp14 hp17 hp20 s10 s12 s13 s15 s16 s18 s19 x10 x12 x13 x15 x16 x18 x19 b11 b14 b17 b20 k1 k2
    -- more tables
    obtain ⟨o21, hp21⟩ := S21.some
    refine ⟨_, rfl, _, rfl, fun p22 n22 => ?_⟩
    refine fun v22 L22 s22 x22 => ?_
    obtain ⟨dS, xS, fSd⟩ := id bS
    obtain ⟨k1, k2, s23, b23⟩ := disp_old (k := [.inl 0, .inl 0]) hp21 n22 s22 x22 xS (bad_state fSd)
    refine ⟨_, rfl, k1, _, k2, (List.nodup_cons.mpr ⟨List.not_mem_nil, List.nodup_nil⟩), Nat.le_of_ble_eq_true rfl, ?_⟩
    generalize upd L22 p22 _ = L23 at s23 b23 ⊢
    have hp23 := s23 _ _ hp21
    have F := bts_add (bts_up (p := p) (xs := []) (fun x hx => nomatch hx) s23) b23
    refine fun p24 n24 => ?_
    refine fun v24 L24 s24 x24 v25 L25 s25 x25 => ?_
    obtain ⟨b26, rfl, k1, k2, s26, b26'⟩ := disp_bool (vv := v25) hp23 n24 s24 x24 s25
    refine ⟨k1, _, _, _, rfl, k2, (fun x hx => by
      rcases List.mem_cons.mp hx with rfl | hx
      · rfl
      · cases List.mem_singleton.mp hx
        rfl), ?_⟩
    generalize upd L25 p24 _ = L26 at s26 b26' ⊢
    have hp26 := s26 _ _ hp23
    have F := bts_add (bts_up F s26) b26'
    refine fun p27 n27 => ?_
    refine fun v27 L27 s27 x27 v28 L28 s28 x28 v29 L29 s29 x29 => ?_
    obtain ⟨k1, k2, s30, b30⟩ := disp_two (k := [.inl 0, .inl 0]) (k2 := [.inl 0, .inl 1]) hp26 n27 s27 x27 s28 x28 s29 x29 (by decide) (by decide) (by decide) (by decide +kernel) (by decide +kernel)
    refine ⟨k1, _, k2, (by show [([.inl 0, .inl 0] : List Key), [.inl 0, .inl 1]].Nodup; decide), Nat.le_of_ble_eq_true rfl, ?_⟩
    generalize upd L29 p27 _ = L30 at s30 b30 ⊢
    have F := bts_add (bts_up F s30) b30
    have sT := (s23.trans s26).trans s30
    have S30 := S21.same sT
    refine ⟨(szr rfl), fun p31 n31 => ?_⟩
    have q31 : p31 ≠ p := (S30.d.ne n31).symm
    have l31 := bts_ls F n31 q31 (Nat.le_of_ble_eq_true rfl) (Nat.le_of_ble_eq_true rfl)
    have s31 := upd_sm (o := .lst ([] ++ [V.ref p22] ++ [V.ref p24] ++ [V.ref p27])) n31
    change LsP Bt (del (upd L30 p31 (.lst [V.ref p22, V.ref p24, V.ref p27])) p) p31 [V.ref p22, V.ref p24, V.ref p27] at l31
    change Same L30 (upd L30 p31 (.lst [V.ref p22, V.ref p24, V.ref p27])) at s31
    clear F
    have e31 : [V.ref p22, V.ref p24, V.ref p27].length = 3 := rfl
    generalize [V.ref p22, V.ref p24, V.ref p27] = xs31 at l31 s31 e31 ⊢
    generalize upd L30 p31 (.lst xs31) = L31 at l31 s31 ⊢
    have S31 := S30.same s31
    have l21 := LsP.ext (P := Bt) (fun h x => h.ext x) l21 (S21.re.same (sT.trans s31)).x
    have lim : xs21.length + xs31.length ≤ 100 := by rw [e21, e31]; exact Nat.le_of_ble_eq_true rfl
    refine ⟨_, _, _, _, rfl, rfl, l21.real q21, l31.real q31, Nat.le_trans (m := 100000) (by omega) (by decide), fun p32 n32 => ?_⟩
    have q32 : p32 ≠ p := (S31.d.ne n32).symm
    have l32 := LsP.cat (P := Bt) (fun h x => h.ext x) l21 l31 n32 q32 lim
    have s32 : Same L31 (upd L31 p32 (.lst (xs21 ++ xs31))) := upd_sm n32
    generalize upd L31 p32 (.lst (xs21 ++ xs31)) = L32 at l32 s32 ⊢
    have sT2 := (sT.trans s31).trans s32
    have S32 := S31.same s32
    have bN := bN.ext (S21.re.same sT2).x
    have bS := bS.ext (S21.re.same sT2).x
    refine l32.pick (E := E0) q32 S32.d fun vT L33 bT e33 o33 d33 => ?_
    have pk := S32.re.pick e33 o33 d33
    have bN := bN.ext pk.x
    have bS := bS.ext pk.x
    have bT := bT.ext pk.x
    have S33 := S32.pick e33 o33 d33
    clear sT sT2 pk l21 l31 l32 s23 s26 s30 s31 s32 x22 x24 x25 x27 x28 x29 b23 b26' b30 k1 k2 xS fSd hp21 hp23 hp26
    -- rows
    obtain ⟨o33', hp33⟩ := S33.some
    refine fun v34 L34 s34 x34 => ?_
    obtain ⟨a34, xs34, rfl, n34, l34, e34⟩ := lit_ls (f := fR) hp33 x34 (by decide +kernel)
    have S34 := S33.same s34
    obtain ⟨o34, hp34⟩ := S34.some
    refine ⟨_, rfl, _, rfl, fun v35 L35 s35 x35 => ?_⟩
    obtain ⟨a35, xs35, rfl, n35, l35, e35⟩ := lit_ls (f := fR) hp34 x35 (by decide +kernel)
    have S35 := S34.same s35
    have l34 := LsP.ext (P := Pk fR) (fun h x => h.ext x) l34 (S34.re.same s35).x
    have lim : xs34.length + xs35.length ≤ 100 := by rw [e34, e35]; exact Nat.le_of_ble_eq_true rfl
    refine ⟨_, _, _, _, rfl, rfl, l34.real n34, l35.real n35, Nat.le_trans (m := 100000) (by omega) (by decide), fun p36 n36 => ?_⟩
    have q36 : p36 ≠ p := (S35.d.ne n36).symm
    have l36 := LsP.cat (P := Pk fR) (fun h x => h.ext x) l34 l35 n36 q36 lim
    have s36 : Same L35 (upd L35 p36 (.lst (xs34 ++ xs35))) := upd_sm n36
    generalize upd L35 p36 (.lst (xs34 ++ xs35)) = L36 at l36 s36 ⊢
    have sT := (s34.trans s35).trans s36
    have S36 := S35.same s36
    refine l36.pick (E := E0) q36 S36.d fun vR L37 bR e37 o37 d37 => ?_
    have pk := S36.re.pick e37 o37 d37
    have bN := (bN.ext (S33.re.same sT).x).ext pk.x
    have bS := (bS.ext (S33.re.same sT).x).ext pk.x
    have bT := (bT.ext (S33.re.same sT).x).ext pk.x
    have bR := bR.ext pk.x
    have S37 := S36.pick e37 o37 d37
    clear sT pk l34 l35 l36 s34 s35 s36 x34 x35
    -- a program
    obtain ⟨o37', hp37⟩ := S37.some
    refine ⟨_, rfl, fun v38 L38 s38 x38 => ?_⟩
    obtain ⟨a38, xs38, rfl, n38, l38, e38⟩ := lit_ls (f := fP) hp37 x38 (by decide +kernel)
    have S38 := S37.same s38
    refine l38.pick (E := E0) n38 S38.d fun vP Hb bP e39 o39 d39 => ?_
    have pk := S38.re.pick e39 o39 d39
    have bN := ((bN.ext (S37.re.same s38).x).ext pk.x).ext del_le
    have bS := ((bS.ext (S37.re.same s38).x).ext pk.x).ext del_le
    have bT := ((bT.ext (S37.re.same s38).x).ext pk.x).ext del_le
    have bR := ((bR.ext (S37.re.same s38).x).ext pk.x).ext del_le
    have bP := (bP.ext pk.x).ext del_le
    have Sb := S38.pick e39 o39 d39
    clear pk l38 x38
    -- what is refused
    refine ⟨Sb.t, fun A xa ba => ?_⟩
    obtain ⟨dN, xN, fNd⟩ := bN.ext xa
    simp only [fN, Bool.and_eq_true, Bool.not_eq_true'] at fNd
    refine ⟨_, rfl, vN, dN, rfl, xN, fNd.1, fun _ G0 s0 => teO Z ?_, fun z => absurd (fNd.2.symm.trans z) nofun⟩
    have x0 := ext_trans xa (xOf s0)
    have bS := bS.ext x0
    have bT := bT.ext x0
    have bR := bR.ext x0
    have bP := bP.ext x0
    have S0' := Sb.lam x0 (Tabs.same ba s0)
    clear x0 xN fNd
    refine ⟨(szr rfl), fun pl nl => ?_⟩
    have M1 : Lp tP0 tP1 G0 pl [V.str "operation"] (upd G0 pl (.lst [V.str "operation"])) := .new nl (upd_sm nl) S0'.t upd_same
    generalize upd G0 pl (.lst [V.str "operation"]) = G1 at M1 ⊢
    refine ⟨_, rfl, (.inl ⟨rfl, _, SqL.of M1.l⟩), M1.t, fun A xa ba => ?_⟩
    obtain ⟨dd, xd, fd'⟩ := bS.ext (ext_trans M1.x xa)
    simp only [fS, Bool.and_eq_true, Bool.not_eq_true'] at fd'
    refine ⟨_, rfl, vS, dd, rfl, xd, fd'.1, fd'.2, fun G s => teB Z ?_⟩
    have K1 := M1.call xa ba s
    refine ⟨_, _, _, rfl, rfl, K1.l, szlt (Nat.le_of_ble_eq_true rfl), ?_⟩
    have M2 := K1.put (ys := [V.str "operation"] ++ [V.str "table"])
    clear K1 xd fd'
    refine ⟨_, rfl, (.inl ⟨rfl, _, SqL.of M2.l⟩), M2.t, fun A xa ba => ?_⟩
    refine ⟨_, rfl, ?_⟩
    dsimp only [tNil, List.append_nil]
    refine (bT.ext (ext_trans M2.x xa)).use fun G s => teB Z ?_
    have K1 := M2.call xa ba s
    refine ⟨_, _, _, rfl, rfl, K1.l, szlt (Nat.le_of_ble_eq_true rfl), ?_⟩
    have M3 := K1.put (ys := [V.str "operation"] ++ [V.str "table"] ++ [V.str "table"])
    clear K1
    refine ⟨_, rfl, (.inl ⟨rfl, _, SqL.of M3.l⟩), M3.t, fun A xa ba => ?_⟩
    obtain ⟨dd, xd, fd'⟩ := bR.ext (ext_trans M3.x xa)
    simp only [fR, Bool.and_eq_true, Bool.not_eq_true'] at fd'
    refine ⟨_, rfl, vR, dd, rfl, xd, fd'.1, fun _ G s => teR Z ?_, fun z => absurd (fd'.2.symm.trans z) nofun⟩
    have K1 := M3.call xa ba s
    refine ⟨_, _, _, rfl, rfl, K1.l, szlt (Nat.le_of_ble_eq_true rfl), ?_⟩
    have M4 := K1.put (ys := [V.str "operation"] ++ [V.str "table"] ++ [V.str "table"] ++ [V.str "rows"])
    clear K1 xd fd'
    refine ⟨_, rfl, (.inl ⟨rfl, _, SqL.of M4.l⟩), M4.t, fun A xa ba => ?_⟩
    obtain ⟨dd, xd, _⟩ := bP.ext (ext_trans M4.x xa)
    refine ⟨_, rfl, vP, dd, rfl, xd, teP Z ?_⟩
    have K1 := M4.call xa ba (Same.refl A)
    refine ⟨_, _, _, rfl, rfl, K1.l, szlt (Nat.le_of_ble_eq_true rfl), ?_⟩
    have M5 := K1.put (ys := [V.str "operation"] ++ [V.str "table"] ++ [V.str "table"] ++ [V.str "rows"] ++ [V.str "program"])
    clear K1 xd
    refine ⟨_, rfl, fun v40 L40 s40 x40 => ?_⟩
    have t1 := told_ok.1
    rw [Bool.and_eq_true] at t1
    refine ⟨.list toldL1, .list toldL1, .lst (SqL.of (s40 _ _ M5.l)) (.cons (.str _) (.cons (.str _) (.cons (.str _) (.cons (.str _) (.cons (.str _) .nil))))), (x40.same newIn_all).dp rfl, t1.1, t1.1, _, rfl, ?_⟩
    rw [t1.2]
    refine iteF ?_
    have S40 := (S0'.lam M5.x M5.t).same s40
    clear M1 M2 M3 M4 M5 x40 s40 bN bS bT bR bP
    -- a text
    obtain ⟨o40, hp40⟩ := S40.some
    refine ⟨_, rfl, fun v41 L41 s41 x41 => ?_⟩
    obtain ⟨a41, xs41, rfl, n41, l41, e41⟩ := lit_ls (f := fT) hp40 x41 (by decide +kernel)
    have S41 := S40.same s41
    refine l41.pick (E := E0) n41 S41.d fun vX Hc bX e42 o42 d42 => ?_
    have bX := (bX.ext (S41.re.pick e42 o42 d42).x).ext del_le
    have Sc := S41.pick e42 o42 d42
    clear l41 x41
    refine ⟨Sc.t, fun A xa ba => ?_⟩
    obtain ⟨dd, xd, fd'⟩ := bX.ext xa
    simp only [fT, Bool.not_eq_true'] at fd'
    refine ⟨_, rfl, vX, dd, rfl, xd, fun _ dx G0' s0 e => teC Z e ?_, fun z => absurd (fd'.symm.trans z) nofun⟩
    have x0 := ext_trans xa (xOf s0)
    have bX := bX.ext x0
    have Sd := Sc.lam x0 (Tabs.same ba s0)
    clear x0 xd fd'
    refine ⟨(szr rfl), fun pm nm => ?_⟩
    have M10 : Lp tP0 tP1 G0' pm [V.str "parse None"] (upd G0' pm (.lst [V.str "parse None"])) := .new nm (upd_sm nm) Sd.t upd_same
    generalize upd G0' pm (.lst [V.str "parse None"]) = G10 at M10 ⊢
    refine ⟨_, rfl, (.inl ⟨rfl, _, SqL.of M10.l⟩), M10.t, fun A xa ba => ?_⟩
    obtain ⟨dd, xd, fd'⟩ := bX.ext (ext_trans M10.x xa)
    simp only [fT, Bool.not_eq_true'] at fd'
    refine ⟨_, rfl, vX, dd, rfl, xd, fd', fun dx G s e => teC Z e ?_⟩
    have K1 := M10.call xa ba s
    refine ⟨_, _, _, rfl, rfl, K1.l, szlt (Nat.le_of_ble_eq_true rfl), ?_⟩
    have M11 := K1.put (ys := [V.str "parse None"] ++ [V.str "parse None"])
    clear K1 xd fd'
    refine ⟨_, rfl, (.inl ⟨rfl, _, SqL.of M11.l⟩), M11.t, fun A xa ba => ?_⟩
    obtain ⟨dd, xd, fd'⟩ := bX.ext (ext_trans M11.x xa)
    simp only [fT, Bool.not_eq_true'] at fd'
    refine ⟨_, rfl, vX, dd, rfl, xd, fd', fun dx G s e => teC Z e ?_⟩
    have K1 := M11.call xa ba s
    refine ⟨_, _, _, rfl, rfl, K1.l, szlt (Nat.le_of_ble_eq_true rfl), ?_⟩
    have M12 := K1.put (ys := [V.str "parse None"] ++ [V.str "parse None"] ++ [V.str "parse None"])
    clear K1 xd fd'
    refine ⟨_, rfl, (.inl ⟨rfl, _, SqL.of M12.l⟩), M12.t, fun A xa ba => ?_⟩
    obtain ⟨dd, xd, fd'⟩ := bX.ext (ext_trans M12.x xa)
    simp only [fT, Bool.not_eq_true'] at fd'
    refine ⟨_, rfl, vX, dd, rfl, xd, fd', fun dx G s e => teC Z e ?_⟩
    have K1 := M12.call xa ba s
    refine ⟨_, _, _, rfl, rfl, K1.l, szlt (Nat.le_of_ble_eq_true rfl), ?_⟩
    have M13 := K1.put (ys := [V.str "parse None"] ++ [V.str "parse None"] ++ [V.str "parse None"] ++ [V.str "parse None"])
    clear K1 xd fd'
    refine ⟨_, rfl, (.inl ⟨rfl, _, SqL.of M13.l⟩), M13.t, fun A xa ba => ?_⟩
    obtain ⟨dd, xd, fd'⟩ := bX.ext (ext_trans M13.x xa)
    simp only [fT, Bool.not_eq_true'] at fd'
    refine ⟨_, rfl, vX, dd, rfl, xd, fd', fun dx G s e => teC Z e ?_⟩
    have K1 := M13.call xa ba s
    refine ⟨_, _, _, rfl, rfl, K1.l, szlt (Nat.le_of_ble_eq_true rfl), ?_⟩
    have M14 := K1.put (ys := [V.str "parse None"] ++ [V.str "parse None"] ++ [V.str "parse None"] ++ [V.str "parse None"] ++ [V.str "parse None"])
    clear K1 xd fd'
    refine ⟨_, rfl, fun v50 L50 s50 x50 => ?_⟩
    have x50 := x50.same newIn_all
    cases x50 with
    | @lst a50 xs50 _ h50 z50 =>
    cases z50 with
    | cons y50 z50 =>
    cases z50
    cases y50
    refine ⟨_, _, _, rfl, rfl, h50, (by decide), (by decide), (by rw [sizeLine_eq]; exact Nat.le_of_ble_eq_true rfl), fun p51 n51 => ?_⟩
    generalize g51 : upd _ p51 _ = L51; obtain ⟨e51, o51, t51⟩ := made n51 g51; clear g51
    have s51 := sameOf n51 o51
    have t1 := told_ok.2
    rw [Bool.and_eq_true] at t1
    refine ⟨.list toldL2, .list toldL2, .lst (SqL.of ((s50.trans s51) _ _ M14.l)) (.cons (.str _) (.cons (.str _) (.cons (.str _) (.cons (.str _) (.cons (.str _) .nil))))), .lst (SqL.of t51) (.cons (.str _) (.cons (.str _) (.cons (.str _) (.cons (.str _) (.cons (.str _) .nil))))), t1.1, t1.1, ?_⟩
    rw [t1.2]
    exact q L51 (((Sd.lam M14.x M14.t).same s50).same s51)

/-! ### the law -/
theorem two_all {α : Type} {x y : α} {p : α → Prop} (hx : p x) (hy : p y) : ∀ z ∈ [x, y], p z := fun z hz => by
  rcases List.mem_cons.mp hz with rfl | hz
  · exact hx
  · rw [List.mem_singleton.mp hz]
    exact hy
theorem tabs_two {H : Hp} {tP0 tP1 : Addr} (h0 : H tP0 = some (.tbl #[])) (h1 : H tP1 = some (.tbl #[])) : LamX.Tabs (lamT tP0 tP1) H :=
  two_all ⟨#[], h0, trivial, fun _ _ z => nomatch z⟩ ⟨#[], h1, trivial, fun _ _ z => nomatch z⟩
def lastL : List PyData := [.str "fine", .str "fine", .str "fine", .str "fine", .str "parse None"]
theorem last_ok : (SeqAt.shaped (.list lastL) && PyData.eqv (.list lastL) (.list lastL)) = true := by decide +kernel
theorem fine_ok : numsD (.tuple [.int bigI]) = true ∧ rowsD fineR = true ∧ okRows fineR = true := by decide +kernel
theorem St.ev {p tP0 tP1 : Addr} {H H' : Hp} (s : St p tP0 tP1 H H') (d : Dc H p) : EvN H H' := fun a o h n => by
  by_cases z : a = p
  · subst z
    obtain ⟨x, y, w, e⟩ := d
    obtain ⟨x', y', w', e'⟩ := s.d
    rw [e] at h
    cases h
    exact .inl ⟨_, _, rfl, e'⟩
  · have y := s.x a o (by rw [del_ne z]; exact h) n
    rw [del_ne z] at y
    exact .inr y
def spLaw9 (K : PySem.W.Frag) (tP0 tP1 : Addr) : Sp := fun vs H Q _ => ∃ (a : Addr) (ns : List Int), vs = [.ref a] ∧ ScrN K H a (ns.map V.int) ∧ ns.length ≤ 63 ∧ LamX.Tabs (lamT tP0 tP1) H ∧ ∀ H', Q (.bl true) H'
theorem ok_law {f : Addr} {fd : FuncData} (F : Fun K "law" "law" s_law f fd) (T : Txt mg) (Z : TexZ K mg tx) (hcd : fd.code = .ref tC1) (TB : LamX.TabB base mg tC1 tP1) (tne : tP0 ≠ tP1) {f__law_met : Addr} {fd__law_met : FuncData} (F__law_met : Fun K "_law_met" "_law_met" s__law_met f__law_met fd__law_met) (C__law_met : Cal K mg "_law_met" f__law_met fd__law_met P__law_met) {f__law_dice : Addr} {fd__law_dice : FuncData} (G__law_dice : FnOk P w K mg base CX0 1 f__law_dice fd__law_dice P__law_dice (spDice K)) (C__law_dice : Cal K mg "_law_dice" f__law_dice fd__law_dice P__law_dice) {f__law_right : Addr} {fd__law_right : FuncData} (G__law_right : FnG P w K mg base CX0 20 f__law_right fd__law_right P__law_right (spRt tP0 tP1)) (C__law_right : Cal K mg "_law_right" f__law_right fd__law_right P__law_right) {f_write_numbers : Addr} {fd_write_numbers : FuncData} (G_write_numbers : FnOk P w K mg base (L2.CX P w) 3 f_write_numbers fd_write_numbers P_write_numbers (spWN tx)) (C_write_numbers : Cal K mg "write_numbers" f_write_numbers fd_write_numbers P_write_numbers) {f_write_table : Addr} {fd_write_table : FuncData} (G_write_table : FnOk P w K mg base (L2.CX P w) 7 f_write_table fd_write_table P_write_table (spWT tx)) (C_write_table : Cal K mg "write_table" f_write_table fd_write_table P_write_table) {f_write_rows : Addr} {fd_write_rows : FuncData} (G_write_rows : FnOk P w K mg base (L2.CX P w) 6 f_write_rows fd_write_rows P_write_rows (spWR tx)) (C_write_rows : Cal K mg "write_rows" f_write_rows fd_write_rows P_write_rows) {f_read_numbers : Addr} {fd_read_numbers : FuncData} (G_read_numbers : FnOk P w K mg base (L2.CX P w) 4 f_read_numbers fd_read_numbers P_read_numbers (spRdN tx)) (C_read_numbers : Cal K mg "read_numbers" f_read_numbers fd_read_numbers P_read_numbers) : FnG P w K mg base CX0 21 f fd P_law (spLaw9 K tP0 tP1) := by
  refine okGC F hcd sc_law (fun vs H Q E h => ?_) (fun A outer s H vs Q E hg hr h => ?_)
  · obtain ⟨a, ns, rfl, _⟩ := h
    rfl
  · obtain ⟨a, ns, rfl, hS, hlen, hT, q⟩ := h
    refine ⟨_, (pss_cons (ps_for PassesOwn.never rfl (pi_range1 (by rfl) T.n_range (pa_cons (pe_callB (call_max2 rfl) (by rfl) T.n_max (by decide +kernel) (pa_cons pe_int (pa_cons (pe_callB (call_min2 rfl) (by rfl) T.n_min (by decide +kernel) (pa_cons pe_int (pa_cons (pe_callB call_len_seq (by rfl) T.n_len (by decide +kernel) (pa_cons (pv 0) pa_nil)) pa_nil))) pa_nil))) pa_nil)) (pg_name (i := 1) sc_law.nd rfl (Or.inl rfl)) (pss_one (ps_if (pt_not (pt_val (pe_callG G__law_right hg (hr.mono (by decide)) rfl C__law_right.m C__law_right.k C__law_right.b .nil pass0 (pa_cons (pe_call G__law_dice (hr.mono (by decide)) rfl C__law_dice.m C__law_dice.k C__law_dice.b .nil pass0 (pa_cons (pv 0) (pa_cons (pv 1) pa_nil))) pa_nil)))) (pss_one (ps_ret pe_bl)) pss_nil)))
      (pss_cons (ps_set (i := 2) sc_law.nd rfl (Or.inl rfl) (pe_lst (pa_cons (pe_lam (k := 12) (T := lamT tP0 tP1) (c := tC1) (P := tP1) rfl C__law_met F__law_met sc__law_met rfl (Or.inl rfl) (fun _ => gives__law_met T Z (by exact hg) (hr.mono (by decide))) TB rfl two_mem1 (two_one1 tne) (hr.mono (by decide)) (fun A outer s H E f c' hr => (pe_call G_write_numbers (hr.mono (by decide)) rfl C_write_numbers.m C_write_numbers.k C_write_numbers.b .nil (passLam (outer := outer) (s := s) (H := H)) (pa_cons (lit_tup (lits_cons (lit_pow (powOk (by decide +kernel))) lits_nil)) pa_nil))) (L := (show LamX.lamSB (defScope s_law) _ = true by decide +kernel))) pa_nil)))
      (pss_cons (ps_expr (pe_bm PySem.F.plainAttrs_list PySem.F.slot_list_append PySem.F.type_list_append mt_append (pv 2) (pa_cons (pe_lam (k := 12) (T := lamT tP0 tP1) (c := tC1) (P := tP1) rfl C__law_met F__law_met sc__law_met rfl (Or.inl rfl) (fun _ => gives__law_met T Z (by exact hg) (hr.mono (by decide))) TB rfl two_mem1 (two_one1 tne) (hr.mono (by decide)) (fun A outer s H E f c' hr => (pe_call G_write_table (hr.mono (by decide)) rfl C_write_table.m C_write_table.k C_write_table.b .nil (passLam (outer := outer) (s := s) (H := H)) (pa_cons pe_dnewK pa_nil))) (L := (show LamX.lamSB (defScope s_law) _ = true by decide +kernel))) pa_nil)))
      (pss_cons (ps_expr (pe_bm PySem.F.plainAttrs_list PySem.F.slot_list_append PySem.F.type_list_append mt_append (pv 2) (pa_cons (pe_lam (k := 12) (T := lamT tP0 tP1) (c := tC1) (P := tP1) rfl C__law_met F__law_met sc__law_met rfl (Or.inl rfl) (fun _ => gives__law_met T Z (by exact hg) (hr.mono (by decide))) TB rfl two_mem1 (two_one1 tne) (hr.mono (by decide)) (fun A outer s H E f c' hr => (pe_call G_write_rows (hr.mono (by decide)) rfl C_write_rows.m C_write_rows.k C_write_rows.b .nil (passLam (outer := outer) (s := s) (H := H)) (pa_cons (lit_tup (lits_cons (lit_tup (lits_cons lit_str (lits_cons (lit_tup lits_nil) lits_nil))) (lits_cons (lit_tup (lits_cons lit_str (lits_cons (lit_tup (lits_cons lit_int (lits_cons lit_int (lits_cons lit_int lits_nil)))) lits_nil))) lits_nil))) pa_nil))) (L := (show LamX.lamSB (defScope s_law) _ = true by decide +kernel))) pa_nil)))
      (pss_cons (ps_expr (pe_bm PySem.F.plainAttrs_list PySem.F.slot_list_append PySem.F.type_list_append mt_append (pv 2) (pa_cons (pe_lam (k := 12) (T := lamT tP0 tP1) (c := tC1) (P := tP1) rfl C__law_met F__law_met sc__law_met rfl (Or.inl rfl) (fun _ => gives__law_met T Z (by exact hg) (hr.mono (by decide))) TB rfl two_mem1 (two_one1 tne) (hr.mono (by decide)) (fun A outer s H E f c' hr => (pe_call G_read_numbers (hr.mono (by decide)) rfl C_read_numbers.m C_read_numbers.k C_read_numbers.b .nil (passLam (outer := outer) (s := s) (H := H)) (pa_cons (pe_op op_mulS pe_str pe_int) pa_nil))) (L := (show LamX.lamSB (defScope s_law) _ = true by decide +kernel))) pa_nil)))
      (pss_cons (ps_expr (pe_bm PySem.F.plainAttrs_list PySem.F.slot_list_append PySem.F.type_list_append mt_append (pv 2) (pa_cons (pe_lam (k := 12) (T := lamT tP0 tP1) (c := tC1) (P := tP1) rfl C__law_met F__law_met sc__law_met rfl (Or.inl rfl) (fun _ => gives__law_met T Z (by exact hg) (hr.mono (by decide))) TB rfl two_mem1 (two_one1 tne) (hr.mono (by decide)) (fun A outer s H E f c' hr => (pe_call G_read_numbers (hr.mono (by decide)) rfl C_read_numbers.m C_read_numbers.k C_read_numbers.b .nil (passLam (outer := outer) (s := s) (H := H)) (pa_cons (pe_op op_mulS pe_str pe_int) pa_nil))) (L := (show LamX.lamSB (defScope s_law) _ = true by decide +kernel))) pa_nil)))
      (pss_one (ps_ret (pe_cmpR (op_eqD hr.units) (pv 2) (lit_lst (lits_cons lit_str (lits_cons lit_str (lits_cons lit_str (lits_cons lit_str (lits_cons lit_str lits_nil)))))) (nomark _)))))))))), ?_⟩
    have hb := turns (n := (ns.map V.int).length)
    refine ⟨_, rfl, _, _, rfl, .inl hS.now, _, _, rfl, _, _, rfl, _, rfl, by omega, by omega, ?_⟩
    have hm8 : (if (if ((ns.map V.int).length : Int) < 8 then ((ns.map V.int).length : Int) else 8) > 1 then (if ((ns.map V.int).length : Int) < 8 then ((ns.map V.int).length : Int) else 8) else 1) ≤ 8 := hb.2
    generalize (if (if ((ns.map V.int).length : Int) < 8 then ((ns.map V.int).length : Int) else 8) > 1 then (if ((ns.map V.int).length : Int) < 8 then ((ns.map V.int).length : Int) else 8) else 1) = m at hm8
    refine for_range (lo := 0) (n := m.toNat) (fun i σ H' => ∃ a1 a2, σ = [some (.ref a), a1, a2] ∧ ScrN K H' a (ns.map V.int) ∧ LamX.Tabs (lamT tP0 tP1) H') ⟨none, none, rfl, hS, hT⟩ ?_ ?_
    · rintro i σ H1 hi ⟨a1, a2, rfl, hS1, hT1⟩
      refine ⟨_, rfl, _, rfl, a, ns, _, rfl, hS1.now, by omega, by omega, by omega, fun p H2 np e2 o2 d2 => ?_⟩
      have hT2 := Tabs.ev hT1 e2
      have hS2 := hS1.mono (.ofEv e2)
      refine ⟨p, rfl, d2, hT2, fun H3 S3 => ?_⟩
      refine ⟨_, rfl, ?_⟩
      exact iteF ⟨_, _, rfl, hS2.mono (S3.ev d2), S3.t⟩
    · rintro σ H0 ⟨a1, a2, rfl, hS0, hT0⟩
      refine ⟨hT0, fun A xa ba => ?_⟩
      refine fun v1 L1 s1 x1 => ?_
      refine ⟨v1, _, rfl, x1.same newIn_all, rfl, (fun z => absurd (fine_ok.1.symm.trans z) nofun), fun _ => ⟨rfl, fun t G0 s0 => ?_⟩⟩
      have hTG := Tabs.same (Tabs.same ba s1) s0
      refine ⟨(szr rfl), fun pl nl => ?_⟩
      have M1 : Lp tP0 tP1 G0 pl [V.str "fine"] (upd G0 pl (.lst [V.str "fine"])) := .new nl (upd_sm nl) hTG upd_same
      generalize upd G0 pl (.lst [V.str "fine"]) = G1 at M1 ⊢
      refine ⟨_, rfl, (.inl ⟨rfl, _, SqL.of M1.l⟩), M1.t, fun A xa ba => ?_⟩
      refine fun p2 n2 => ?_
      refine ⟨.ref p2, rfl, .inr (.inl ⟨p2, rfl, upd_same, fun t G s => ?_⟩)⟩
      have K1 := M1.call xa ba ((upd_sm n2).trans s)
      refine ⟨_, _, _, rfl, rfl, K1.l, szlt (Nat.le_of_ble_eq_true rfl), ?_⟩
      have M2 := K1.put (ys := [V.str "fine"] ++ [V.str "fine"])
      clear K1
      refine ⟨_, rfl, (.inl ⟨rfl, _, SqL.of M2.l⟩), M2.t, fun A xa ba => ?_⟩
      refine fun v3 L3 s3 x3 => ?_
      refine ⟨v3, fineR, rfl, x3.same newIn_all, fine_ok.2.2, (fun z => absurd (fine_ok.2.1.symm.trans z) nofun), fun _ => ⟨rfl, fun t G s => ?_⟩⟩
      have K1 := M2.call xa ba (s3.trans s)
      refine ⟨_, _, _, rfl, rfl, K1.l, szlt (Nat.le_of_ble_eq_true rfl), ?_⟩
      have M3 := K1.put (ys := [V.str "fine"] ++ [V.str "fine"] ++ [V.str "fine"])
      clear K1
      have e60 : nineS 60 = repS "9" (Int.toNat 60) := nineS_eq 60
      have e61 : nineS 61 = repS "9" (Int.toNat 61) := nineS_eq 61
      refine ⟨_, rfl, (.inl ⟨rfl, _, SqL.of M3.l⟩), M3.t, fun A xa ba => ?_⟩
      refine ⟨_, _, rfl, rfl, (by decide), (by decide), (by decide), ?_⟩
      rw [← e60]
      refine ⟨_, .str (nineS 60), rfl, .str _, (fun z => absurd z (show ¬ (("str" : String) == "str") = false by decide)), fun _ => .inl ⟨rfl, fun p G s => ?_⟩⟩
      have K1 := M3.call xa ba s
      refine ⟨_, _, _, rfl, rfl, K1.l, szlt (Nat.le_of_ble_eq_true rfl), ?_⟩
      have M4 := K1.put (ys := [V.str "fine"] ++ [V.str "fine"] ++ [V.str "fine"] ++ [V.str "fine"])
      clear K1
      refine ⟨_, rfl, (.inl ⟨rfl, _, SqL.of M4.l⟩), M4.t, fun A xa ba => ?_⟩
      refine ⟨_, _, rfl, rfl, (by decide), (by decide), (by decide), ?_⟩
      rw [← e61]
      refine ⟨_, .str (nineS 61), rfl, .str _, (fun z => absurd z (show ¬ (("str" : String) == "str") = false by decide)), fun _ => .inr ⟨rfl, fun dx G s e => teC Z e ?_⟩⟩
      have K1 := M4.call xa ba s
      refine ⟨_, _, _, rfl, rfl, K1.l, szlt (Nat.le_of_ble_eq_true rfl), ?_⟩
      have M5 := K1.put (ys := [V.str "fine"] ++ [V.str "fine"] ++ [V.str "fine"] ++ [V.str "fine"] ++ [V.str "parse None"])
      clear K1
      refine ⟨_, rfl, fun v9 L9 s9 x9 => ?_⟩
      have t1 := last_ok
      rw [Bool.and_eq_true] at t1
      refine ⟨.list lastL, .list lastL, .lst (SqL.of (s9 _ _ M5.l)) (.cons (.str _) (.cons (.str _) (.cons (.str _) (.cons (.str _) (.cons (.str _) .nil))))), (x9.same newIn_all).dp rfl, t1.1, t1.1, ?_⟩
      rw [t1.2]
      exact q L9

end
theorem all_mk {l : PySem.W.OpenLaw} {w : World} {K : PySem.W.Frag} {h : Heap} {mg : Str → Option Value} {fa f_is_integer f_is_index f_is_word f_is_arity f_is_leaf f_are_numbers f_ascends f_is_class_form f_are_classes_form f_is_state_form f_number_told f_numbers_told f_is_row_form f_check_program f_check_text f_numbers_text f_write_numbers f_read_numbers f_write_state f_read_state f_is_key f_write_table f_read_table f_write_rows f_read_rows f_write_program f_read_program f__law_dice f__law_roll f__law_pick f__law_met f__law_right f_law : Addr} (X : K.In h) (G : h.Ns mainGlobals mg) (hfa : mg "law" = some (.ref fa))
    {od0 an0 od1 an1 od2 an2 od3 an3 od4 an4 od5 an5 od6 an6 od7 an7 od8 an8 od9 an9 od10 an10 od11 an11 od12 an12 od13 an13 od14 an14 od15 an15 od16 an16 od17 an17 od18 an18 od19 an19 od20 an20 od21 an21 od22 an22 od23 an23 od24 an24 od25 an25 od26 an26 od27 an27 od28 an28 od29 an29 od30 an30 od31 an31 od32 an32 : Option Addr} {sl0 sl1 sl2 sl3 sl4 sl5 sl6 sl7 sl8 sl9 sl10 sl11 sl12 sl13 sl14 sl15 sl16 sl17 sl18 sl19 sl20 sl21 sl22 sl23 sl24 sl25 sl26 sl27 sl28 sl29 sl30 sl31 sl32 : Array (Option Value)} {oc0 kV0 dc0 pm0 cd0 ct0 oc1 kV1 dc1 pm1 cd1 ct1 oc2 kV2 dc2 pm2 cd2 ct2 oc3 kV3 dc3 pm3 cd3 ct3 oc4 kV4 dc4 pm4 cd4 ct4 oc5 kV5 dc5 pm5 cd5 ct5 oc6 kV6 dc6 pm6 cd6 ct6 oc7 kV7 dc7 pm7 cd7 ct7 oc8 kV8 dc8 pm8 cd8 ct8 oc9 kV9 dc9 pm9 cd9 ct9 oc10 kV10 dc10 pm10 cd10 ct10 oc11 kV11 dc11 pm11 cd11 ct11 oc12 kV12 dc12 pm12 cd12 ct12 oc13 kV13 dc13 pm13 cd13 ct13 oc14 kV14 dc14 pm14 cd14 ct14 oc15 kV15 dc15 pm15 cd15 ct15 oc16 kV16 dc16 pm16 cd16 ct16 oc17 kV17 dc17 pm17 cd17 ct17 oc18 kV18 dc18 pm18 cd18 ct18 oc19 kV19 dc19 pm19 cd19 ct19 oc20 kV20 dc20 pm20 cd20 ct20 oc21 kV21 dc21 pm21 cd21 ct21 oc22 kV22 dc22 pm22 cd22 ct22 oc23 kV23 dc23 pm23 cd23 ct23 oc24 kV24 dc24 pm24 cd24 ct24 oc25 kV25 dc25 pm25 cd25 ct25 oc26 kV26 dc26 pm26 cd26 ct26 oc27 kV27 dc27 pm27 cd27 ct27 oc28 kV28 dc28 pm28 cd28 ct28 oc29 kV29 dc29 pm29 cd29 ct29 oc30 kV30 dc30 pm30 cd30 ct30 oc31 kV31 dc31 pm31 cd31 ct31 oc32 kV32 dc32 pm32 cd32 ct32 : Value}
    (a0 : PySem.W.nsIn K mainGlobals "is_integer" = some (some (.ref f_is_integer))) (l0 : K.lookup f_is_integer = some ⟨oc0, od0, .func (PySem.W.fnOf "is_integer" "is_integer" (defArgs s_is_integer) (defBody s_is_integer) (defScope s_is_integer) .none kV0 dc0 pm0 an0 cd0 ct0), sl0⟩) (c0 : PySem.W.codeIn K cd0 "is_integer" = true) (k0 : PySem.W.keepIn K (.ref f_is_integer) = true)
    (a1 : PySem.W.nsIn K mainGlobals "is_index" = some (some (.ref f_is_index))) (l1 : K.lookup f_is_index = some ⟨oc1, od1, .func (PySem.W.fnOf "is_index" "is_index" (defArgs s_is_index) (defBody s_is_index) (defScope s_is_index) .none kV1 dc1 pm1 an1 cd1 ct1), sl1⟩) (c1 : PySem.W.codeIn K cd1 "is_index" = true) (k1 : PySem.W.keepIn K (.ref f_is_index) = true)
    (a2 : PySem.W.nsIn K mainGlobals "is_word" = some (some (.ref f_is_word))) (l2 : K.lookup f_is_word = some ⟨oc2, od2, .func (PySem.W.fnOf "is_word" "is_word" (defArgs s_is_word) (defBody s_is_word) (defScope s_is_word) .none kV2 dc2 pm2 an2 cd2 ct2), sl2⟩) (c2 : PySem.W.codeIn K cd2 "is_word" = true) (k2 : PySem.W.keepIn K (.ref f_is_word) = true)
    (a3 : PySem.W.nsIn K mainGlobals "is_arity" = some (some (.ref f_is_arity))) (l3 : K.lookup f_is_arity = some ⟨oc3, od3, .func (PySem.W.fnOf "is_arity" "is_arity" (defArgs s_is_arity) (defBody s_is_arity) (defScope s_is_arity) .none kV3 dc3 pm3 an3 cd3 ct3), sl3⟩) (c3 : PySem.W.codeIn K cd3 "is_arity" = true) (k3 : PySem.W.keepIn K (.ref f_is_arity) = true)
    (a4 : PySem.W.nsIn K mainGlobals "is_leaf" = some (some (.ref f_is_leaf))) (l4 : K.lookup f_is_leaf = some ⟨oc4, od4, .func (PySem.W.fnOf "is_leaf" "is_leaf" (defArgs s_is_leaf) (defBody s_is_leaf) (defScope s_is_leaf) .none kV4 dc4 pm4 an4 cd4 ct4), sl4⟩) (c4 : PySem.W.codeIn K cd4 "is_leaf" = true) (k4 : PySem.W.keepIn K (.ref f_is_leaf) = true)
    (a5 : PySem.W.nsIn K mainGlobals "are_numbers" = some (some (.ref f_are_numbers))) (l5 : K.lookup f_are_numbers = some ⟨oc5, od5, .func (PySem.W.fnOf "are_numbers" "are_numbers" (defArgs s_are_numbers) (defBody s_are_numbers) (defScope s_are_numbers) .none kV5 dc5 pm5 an5 cd5 ct5), sl5⟩) (c5 : PySem.W.codeIn K cd5 "are_numbers" = true) (k5 : PySem.W.keepIn K (.ref f_are_numbers) = true)
    (a6 : PySem.W.nsIn K mainGlobals "ascends" = some (some (.ref f_ascends))) (l6 : K.lookup f_ascends = some ⟨oc6, od6, .func (PySem.W.fnOf "ascends" "ascends" (defArgs s_ascends) (defBody s_ascends) (defScope s_ascends) .none kV6 dc6 pm6 an6 cd6 ct6), sl6⟩) (c6 : PySem.W.codeIn K cd6 "ascends" = true) (k6 : PySem.W.keepIn K (.ref f_ascends) = true)
    (a7 : PySem.W.nsIn K mainGlobals "is_class_form" = some (some (.ref f_is_class_form))) (l7 : K.lookup f_is_class_form = some ⟨oc7, od7, .func (PySem.W.fnOf "is_class_form" "is_class_form" (defArgs s_is_class_form) (defBody s_is_class_form) (defScope s_is_class_form) .none kV7 dc7 pm7 an7 cd7 ct7), sl7⟩) (c7 : PySem.W.codeIn K cd7 "is_class_form" = true) (k7 : PySem.W.keepIn K (.ref f_is_class_form) = true)
    (a8 : PySem.W.nsIn K mainGlobals "are_classes_form" = some (some (.ref f_are_classes_form))) (l8 : K.lookup f_are_classes_form = some ⟨oc8, od8, .func (PySem.W.fnOf "are_classes_form" "are_classes_form" (defArgs s_are_classes_form) (defBody s_are_classes_form) (defScope s_are_classes_form) .none kV8 dc8 pm8 an8 cd8 ct8), sl8⟩) (c8 : PySem.W.codeIn K cd8 "are_classes_form" = true) (k8 : PySem.W.keepIn K (.ref f_are_classes_form) = true)
    (a9 : PySem.W.nsIn K mainGlobals "is_state_form" = some (some (.ref f_is_state_form))) (l9 : K.lookup f_is_state_form = some ⟨oc9, od9, .func (PySem.W.fnOf "is_state_form" "is_state_form" (defArgs s_is_state_form) (defBody s_is_state_form) (defScope s_is_state_form) .none kV9 dc9 pm9 an9 cd9 ct9), sl9⟩) (c9 : PySem.W.codeIn K cd9 "is_state_form" = true) (k9 : PySem.W.keepIn K (.ref f_is_state_form) = true)
    (a10 : PySem.W.nsIn K mainGlobals "number_told" = some (some (.ref f_number_told))) (l10 : K.lookup f_number_told = some ⟨oc10, od10, .func (PySem.W.fnOf "number_told" "number_told" (defArgs s_number_told) (defBody s_number_told) (defScope s_number_told) .none kV10 dc10 pm10 an10 cd10 ct10), sl10⟩) (c10 : PySem.W.codeIn K cd10 "number_told" = true) (k10 : PySem.W.keepIn K (.ref f_number_told) = true)
    (a11 : PySem.W.nsIn K mainGlobals "numbers_told" = some (some (.ref f_numbers_told))) (l11 : K.lookup f_numbers_told = some ⟨oc11, od11, .func (PySem.W.fnOf "numbers_told" "numbers_told" (defArgs s_numbers_told) (defBody s_numbers_told) (defScope s_numbers_told) .none kV11 dc11 pm11 an11 cd11 ct11), sl11⟩) (c11 : PySem.W.codeIn K cd11 "numbers_told" = true) (k11 : PySem.W.keepIn K (.ref f_numbers_told) = true)
    (a12 : PySem.W.nsIn K mainGlobals "is_row_form" = some (some (.ref f_is_row_form))) (l12 : K.lookup f_is_row_form = some ⟨oc12, od12, .func (PySem.W.fnOf "is_row_form" "is_row_form" (defArgs s_is_row_form) (defBody s_is_row_form) (defScope s_is_row_form) .none kV12 dc12 pm12 an12 cd12 ct12), sl12⟩) (c12 : PySem.W.codeIn K cd12 "is_row_form" = true) (k12 : PySem.W.keepIn K (.ref f_is_row_form) = true)
    (a13 : PySem.W.nsIn K mainGlobals "check_program" = some (some (.ref f_check_program))) (l13 : K.lookup f_check_program = some ⟨oc13, od13, .func (PySem.W.fnOf "check_program" "check_program" (defArgs s_check_program) (defBody s_check_program) (defScope s_check_program) .none kV13 dc13 pm13 an13 cd13 ct13), sl13⟩) (c13 : PySem.W.codeIn K cd13 "check_program" = true) (k13 : PySem.W.keepIn K (.ref f_check_program) = true)
    (a14 : PySem.W.nsIn K mainGlobals "check_text" = some (some (.ref f_check_text))) (l14 : K.lookup f_check_text = some ⟨oc14, od14, .func (PySem.W.fnOf "check_text" "check_text" (defArgs s_check_text) (defBody s_check_text) (defScope s_check_text) .none kV14 dc14 pm14 an14 cd14 ct14), sl14⟩) (c14 : PySem.W.codeIn K cd14 "check_text" = true) (k14 : PySem.W.keepIn K (.ref f_check_text) = true)
    (a15 : PySem.W.nsIn K mainGlobals "numbers_text" = some (some (.ref f_numbers_text))) (l15 : K.lookup f_numbers_text = some ⟨oc15, od15, .func (PySem.W.fnOf "numbers_text" "numbers_text" (defArgs s_numbers_text) (defBody s_numbers_text) (defScope s_numbers_text) .none kV15 dc15 pm15 an15 cd15 ct15), sl15⟩) (c15 : PySem.W.codeIn K cd15 "numbers_text" = true) (k15 : PySem.W.keepIn K (.ref f_numbers_text) = true)
    (a16 : PySem.W.nsIn K mainGlobals "write_numbers" = some (some (.ref f_write_numbers))) (l16 : K.lookup f_write_numbers = some ⟨oc16, od16, .func (PySem.W.fnOf "write_numbers" "write_numbers" (defArgs s_write_numbers) (defBody s_write_numbers) (defScope s_write_numbers) .none kV16 dc16 pm16 an16 cd16 ct16), sl16⟩) (c16 : PySem.W.codeIn K cd16 "write_numbers" = true) (k16 : PySem.W.keepIn K (.ref f_write_numbers) = true)
    (a17 : PySem.W.nsIn K mainGlobals "read_numbers" = some (some (.ref f_read_numbers))) (l17 : K.lookup f_read_numbers = some ⟨oc17, od17, .func (PySem.W.fnOf "read_numbers" "read_numbers" (defArgs s_read_numbers) (defBody s_read_numbers) (defScope s_read_numbers) .none kV17 dc17 pm17 an17 cd17 ct17), sl17⟩) (c17 : PySem.W.codeIn K cd17 "read_numbers" = true) (k17 : PySem.W.keepIn K (.ref f_read_numbers) = true)
    (a18 : PySem.W.nsIn K mainGlobals "write_state" = some (some (.ref f_write_state))) (l18 : K.lookup f_write_state = some ⟨oc18, od18, .func (PySem.W.fnOf "write_state" "write_state" (defArgs s_write_state) (defBody s_write_state) (defScope s_write_state) .none kV18 dc18 pm18 an18 cd18 ct18), sl18⟩) (c18 : PySem.W.codeIn K cd18 "write_state" = true) (k18 : PySem.W.keepIn K (.ref f_write_state) = true)
    (a19 : PySem.W.nsIn K mainGlobals "read_state" = some (some (.ref f_read_state))) (l19 : K.lookup f_read_state = some ⟨oc19, od19, .func (PySem.W.fnOf "read_state" "read_state" (defArgs s_read_state) (defBody s_read_state) (defScope s_read_state) .none kV19 dc19 pm19 an19 cd19 ct19), sl19⟩) (c19 : PySem.W.codeIn K cd19 "read_state" = true) (k19 : PySem.W.keepIn K (.ref f_read_state) = true)
    (a20 : PySem.W.nsIn K mainGlobals "is_key" = some (some (.ref f_is_key))) (l20 : K.lookup f_is_key = some ⟨oc20, od20, .func (PySem.W.fnOf "is_key" "is_key" (defArgs s_is_key) (defBody s_is_key) (defScope s_is_key) .none kV20 dc20 pm20 an20 cd20 ct20), sl20⟩) (c20 : PySem.W.codeIn K cd20 "is_key" = true) (k20 : PySem.W.keepIn K (.ref f_is_key) = true)
    (a21 : PySem.W.nsIn K mainGlobals "write_table" = some (some (.ref f_write_table))) (l21 : K.lookup f_write_table = some ⟨oc21, od21, .func (PySem.W.fnOf "write_table" "write_table" (defArgs s_write_table) (defBody s_write_table) (defScope s_write_table) .none kV21 dc21 pm21 an21 cd21 ct21), sl21⟩) (c21 : PySem.W.codeIn K cd21 "write_table" = true) (k21 : PySem.W.keepIn K (.ref f_write_table) = true)
    (a22 : PySem.W.nsIn K mainGlobals "read_table" = some (some (.ref f_read_table))) (l22 : K.lookup f_read_table = some ⟨oc22, od22, .func (PySem.W.fnOf "read_table" "read_table" (defArgs s_read_table) (defBody s_read_table) (defScope s_read_table) .none kV22 dc22 pm22 an22 cd22 ct22), sl22⟩) (c22 : PySem.W.codeIn K cd22 "read_table" = true) (k22 : PySem.W.keepIn K (.ref f_read_table) = true)
    (a23 : PySem.W.nsIn K mainGlobals "write_rows" = some (some (.ref f_write_rows))) (l23 : K.lookup f_write_rows = some ⟨oc23, od23, .func (PySem.W.fnOf "write_rows" "write_rows" (defArgs s_write_rows) (defBody s_write_rows) (defScope s_write_rows) .none kV23 dc23 pm23 an23 cd23 ct23), sl23⟩) (c23 : PySem.W.codeIn K cd23 "write_rows" = true) (k23 : PySem.W.keepIn K (.ref f_write_rows) = true)
    (a24 : PySem.W.nsIn K mainGlobals "read_rows" = some (some (.ref f_read_rows))) (l24 : K.lookup f_read_rows = some ⟨oc24, od24, .func (PySem.W.fnOf "read_rows" "read_rows" (defArgs s_read_rows) (defBody s_read_rows) (defScope s_read_rows) .none kV24 dc24 pm24 an24 cd24 ct24), sl24⟩) (c24 : PySem.W.codeIn K cd24 "read_rows" = true) (k24 : PySem.W.keepIn K (.ref f_read_rows) = true)
    (a25 : PySem.W.nsIn K mainGlobals "write_program" = some (some (.ref f_write_program))) (l25 : K.lookup f_write_program = some ⟨oc25, od25, .func (PySem.W.fnOf "write_program" "write_program" (defArgs s_write_program) (defBody s_write_program) (defScope s_write_program) .none kV25 dc25 pm25 an25 cd25 ct25), sl25⟩) (c25 : PySem.W.codeIn K cd25 "write_program" = true) (k25 : PySem.W.keepIn K (.ref f_write_program) = true)
    (a26 : PySem.W.nsIn K mainGlobals "read_program" = some (some (.ref f_read_program))) (l26 : K.lookup f_read_program = some ⟨oc26, od26, .func (PySem.W.fnOf "read_program" "read_program" (defArgs s_read_program) (defBody s_read_program) (defScope s_read_program) .none kV26 dc26 pm26 an26 cd26 ct26), sl26⟩) (c26 : PySem.W.codeIn K cd26 "read_program" = true) (k26 : PySem.W.keepIn K (.ref f_read_program) = true)
    (a27 : PySem.W.nsIn K mainGlobals "_law_dice" = some (some (.ref f__law_dice))) (l27 : K.lookup f__law_dice = some ⟨oc27, od27, .func (PySem.W.fnOf "_law_dice" "_law_dice" (defArgs s__law_dice) (defBody s__law_dice) (defScope s__law_dice) .none kV27 dc27 pm27 an27 cd27 ct27), sl27⟩) (c27 : PySem.W.codeIn K cd27 "_law_dice" = true) (k27 : PySem.W.keepIn K (.ref f__law_dice) = true)
    (a28 : PySem.W.nsIn K mainGlobals "_law_roll" = some (some (.ref f__law_roll))) (l28 : K.lookup f__law_roll = some ⟨oc28, od28, .func (PySem.W.fnOf "_law_roll" "_law_roll" (defArgs s__law_roll) (defBody s__law_roll) (defScope s__law_roll) .none kV28 dc28 pm28 an28 cd28 ct28), sl28⟩) (c28 : PySem.W.codeIn K cd28 "_law_roll" = true) (k28 : PySem.W.keepIn K (.ref f__law_roll) = true)
    (a29 : PySem.W.nsIn K mainGlobals "_law_pick" = some (some (.ref f__law_pick))) (l29 : K.lookup f__law_pick = some ⟨oc29, od29, .func (PySem.W.fnOf "_law_pick" "_law_pick" (defArgs s__law_pick) (defBody s__law_pick) (defScope s__law_pick) .none kV29 dc29 pm29 an29 cd29 ct29), sl29⟩) (c29 : PySem.W.codeIn K cd29 "_law_pick" = true) (k29 : PySem.W.keepIn K (.ref f__law_pick) = true)
    (a30 : PySem.W.nsIn K mainGlobals "_law_met" = some (some (.ref f__law_met))) (l30 : K.lookup f__law_met = some ⟨oc30, od30, .func (PySem.W.fnOf "_law_met" "_law_met" (defArgs s__law_met) (defBody s__law_met) (defScope s__law_met) .none kV30 dc30 pm30 an30 cd30 ct30), sl30⟩) (c30 : PySem.W.codeIn K cd30 "_law_met" = true) (k30 : PySem.W.keepIn K (.ref f__law_met) = true)
    (a31 : PySem.W.nsIn K mainGlobals "_law_right" = some (some (.ref f__law_right))) (l31 : K.lookup f__law_right = some ⟨oc31, od31, .func (PySem.W.fnOf "_law_right" "_law_right" (defArgs s__law_right) (defBody s__law_right) (defScope s__law_right) .none kV31 dc31 pm31 an31 cd31 ct31), sl31⟩) (c31 : PySem.W.codeIn K cd31 "_law_right" = true) (k31 : PySem.W.keepIn K (.ref f__law_right) = true)
    (a32 : PySem.W.nsIn K mainGlobals "law" = some (some (.ref f_law))) (l32 : K.lookup f_law = some ⟨oc32, od32, .func (PySem.W.fnOf "law" "law" (defArgs s_law) (defBody s_law) (defScope s_law) .none kV32 dc32 pm32 an32 cd32 ct32), sl32⟩) (c32 : PySem.W.codeIn K cd32 "law" = true) (k32 : PySem.W.keepIn K (.ref f_law) = true)
    {A_B A_R A_P A_O A_C A_I A_G : Addr} {odiP aniP : Option Addr} {sliP : Array (Option Value)} {ociP kViP dciP pmiP cdiP ctiP : Value}
    (xgB : PySem.W.nsIn K mainGlobals "InvalidTable" = some (some (.ref A_B)))
    (xgR : PySem.W.nsIn K mainGlobals "InvalidRows" = some (some (.ref A_R)))
    (xgP : PySem.W.nsIn K mainGlobals "InvalidProgram" = some (some (.ref A_P)))
    (xgO : PySem.W.nsIn K mainGlobals "InvalidOperation" = some (some (.ref A_O)))
    (xgC : PySem.W.nsIn K mainGlobals "ParseError" = some (some (.ref A_C)))
    (xgG : PySem.W.nsIn K mainGlobals "Program" = some (some (.ref A_G)))
    (xeB : PySem.W.excIn K A_B tVal "ValueError.__new__" = true)
    (xeR : PySem.W.excIn K A_R tVal "ValueError.__new__" = true)
    (xeP : PySem.W.excIn K A_P tVal "ValueError.__new__" = true)
    (xeO : PySem.W.excIn K A_O tVal "ValueError.__new__" = true)
    (fP : PySem.W.findIn K (.ref A_C) "__init__" = some (some (.ref A_I))) (lP : K.lookup A_I = some ⟨ociP, odiP, .func (PySem.W.fnOf "__init__" "ParseError.__init__" (defArgs s_iParseError) (defBody s_iParseError) (defScope s_iParseError) .none kViP dciP pmiP aniP cdiP ctiP), sliP⟩) (cP : PySem.W.codeIn K cdiP "ParseError.__init__" = true) (kP : PySem.W.keepIn K (.ref A_I) = true) (bX : texB K ⟨A_B, A_R, A_P, A_O, A_C, A_I, A_G⟩ = true)
    {A_c0 A_p0 : Addr} {oA0 : Value} {oD0 : Option Addr} {vS0 : Array Value} {oS0 : Array (Option Value)} (ce0 : cd31 = .ref A_c0) (lc0 : K.lookup A_c0 = some ⟨oA0, oD0, .fields vS0, oS0⟩) (vp0 : (vS0[11]? : Option Value) = some (.ref A_p0)) (tN0 : K.lookup A_p0 = none)
    {A_c1 A_p1 : Addr} {oA1 : Value} {oD1 : Option Addr} {vS1 : Array Value} {oS1 : Array (Option Value)} (ce1 : cd32 = .ref A_c1) (lc1 : K.lookup A_c1 = some ⟨oA1, oD1, .fields vS1, oS1⟩) (vp1 : (vS1[11]? : Option Value) = some (.ref A_p1)) (tN1 : K.lookup A_p1 = none)
    (tne : A_p0 ≠ A_p1) (hd0 : PySem.W.CodeHd h A_c0 A_p0 ∧ h.get? A_p0 = some (PySem.W.tabObj #[])) (hd1 : PySem.W.CodeHd h A_c1 A_p1 ∧ h.get? A_p1 = some (PySem.W.tabObj #[]))
    {t_MAX_LETTERS t_MAX_ARITY t_ANY t_LOST t_EMPTY t_NONE t_MAX_DIGITS t_MAX_USES : Tok}
    (z0 : PySem.W.nsIn K mainGlobals "len" = some none)
    (z1 : PySem.W.nsIn K mainGlobals "int" = some none)
    (z2 : PySem.W.nsIn K mainGlobals "abs" = some none)
    (z3 : PySem.W.nsIn K mainGlobals "isinstance" = some none)
    (z4 : PySem.W.nsIn K mainGlobals "bool" = some none)
    (z5 : PySem.W.nsIn K mainGlobals "all" = some none)
    (z6 : PySem.W.nsIn K mainGlobals "str" = some none)
    (z7 : PySem.W.nsIn K mainGlobals "tuple" = some none)
    (z8 : PySem.W.nsIn K mainGlobals "dict" = some none)
    (z9 : PySem.W.nsIn K mainGlobals "sorted" = some none)
    (z10 : PySem.W.nsIn K mainGlobals "list" = some none)
    (z11 : PySem.W.nsIn K mainGlobals "range" = some none)
    (z12 : PySem.W.nsIn K mainGlobals "max" = some none)
    (z13 : PySem.W.nsIn K mainGlobals "min" = some none)
    (z14 : PySem.W.nsIn K mainGlobals "enumerate" = some none)
    (z15 : PySem.W.nsIn K mainGlobals "repr" = some none)
    (z16 : PySem.W.nsIn K mainGlobals "MAX_LETTERS" = some (some (.int 8 t_MAX_LETTERS)))
    (z17 : PySem.W.nsIn K mainGlobals "MAX_ARITY" = some (some (.int 3 t_MAX_ARITY)))
    (z18 : PySem.W.nsIn K mainGlobals "ANY" = some (some (.str "_" t_ANY)))
    (z19 : PySem.W.nsIn K mainGlobals "LOST" = some (some (.str "#" t_LOST)))
    (z20 : PySem.W.nsIn K mainGlobals "EMPTY" = some (some (.str "-" t_EMPTY)))
    (z21 : PySem.W.nsIn K mainGlobals "NONE" = some (some (.str "none" t_NONE)))
    (z22 : PySem.W.nsIn K mainGlobals "MAX_DIGITS" = some (some (.int 60 t_MAX_DIGITS)))
    (z23 : PySem.W.nsIn K mainGlobals "MAX_USES" = some (some (.int 3 t_MAX_USES)))
    : ∃ (cs : List (Addr × Addr)) (sp : Sp), LawT l.prog w K mg h 21 fa "_law_script" cs sp ∧ ∀ (H : Hp) (a : Addr) (ns : List Int), ns.length ≤ 63 → Only2 H → (∀ p ∈ cs, H p.2 = some (.tbl #[])) → SqL K H a (ns.map V.int) → sp [.ref a] H (fun v _ => v = .bl true) fun _ _ _ => False := by
  have e := hfa.symm.trans (PySem.W.mg_of X G a32)
  cases e
  have T : Txt mg := ⟨PySem.W.mg_none_of X G z0, PySem.W.mg_none_of X G z1, PySem.W.mg_none_of X G z2, PySem.W.mg_none_of X G z3, PySem.W.mg_none_of X G z4, PySem.W.mg_none_of X G z5, PySem.W.mg_none_of X G z6, PySem.W.mg_none_of X G z7, PySem.W.mg_none_of X G z8, PySem.W.mg_none_of X G z9, PySem.W.mg_none_of X G z10, PySem.W.mg_none_of X G z11, PySem.W.mg_none_of X G z12, PySem.W.mg_none_of X G z13, PySem.W.mg_none_of X G z14, PySem.W.mg_none_of X G z15, ⟨_, PySem.W.mg_of X G z16⟩, ⟨_, PySem.W.mg_of X G z17⟩, ⟨_, PySem.W.mg_of X G z18⟩, ⟨_, PySem.W.mg_of X G z19⟩, ⟨_, PySem.W.mg_of X G z20⟩, ⟨_, PySem.W.mg_of X G z21⟩, ⟨_, PySem.W.mg_of X G z22⟩, ⟨_, PySem.W.mg_of X G z23⟩⟩
  have Z : TexZ K mg ⟨A_B, A_R, A_P, A_O, A_C, A_I, A_G⟩ := texZ (PySem.W.mg_of X G xgB) (PySem.W.mg_of X G xgR) (PySem.W.mg_of X G xgP) (PySem.W.mg_of X G xgO) (PySem.W.mg_of X G xgC) (PySem.W.mg_of X G xgG) xeB xeR xeP xeO bX
  have F_iP := fun_mk (st := s_iParseError) lP cP kP
  have B_ParseError : Binds K _ P_iParseError [] := F_iP.binds fun _ _ _ _ _ _ us hl => match us, hl with | [_, _], _ => rfl
  have F_is_integer := fun_mk (st := s_is_integer) l0 c0 k0
  have C_is_integer : Cal K mg "is_integer" f_is_integer _ P_is_integer := ⟨PySem.W.mg_of X G a0, k0, F_is_integer.binds fun _ _ _ _ _ _ us hl => match us, hl with | [_], _ => rfl⟩
  have F_is_index := fun_mk (st := s_is_index) l1 c1 k1
  have C_is_index : Cal K mg "is_index" f_is_index _ P_is_index := ⟨PySem.W.mg_of X G a1, k1, F_is_index.binds fun _ _ _ _ _ _ us hl => match us, hl with | [_, _], _ => rfl⟩
  have F_is_word := fun_mk (st := s_is_word) l2 c2 k2
  have C_is_word : Cal K mg "is_word" f_is_word _ P_is_word := ⟨PySem.W.mg_of X G a2, k2, F_is_word.binds fun _ _ _ _ _ _ us hl => match us, hl with | [_], _ => rfl⟩
  have F_is_arity := fun_mk (st := s_is_arity) l3 c3 k3
  have C_is_arity : Cal K mg "is_arity" f_is_arity _ P_is_arity := ⟨PySem.W.mg_of X G a3, k3, F_is_arity.binds fun _ _ _ _ _ _ us hl => match us, hl with | [_], _ => rfl⟩
  have F_is_leaf := fun_mk (st := s_is_leaf) l4 c4 k4
  have C_is_leaf : Cal K mg "is_leaf" f_is_leaf _ P_is_leaf := ⟨PySem.W.mg_of X G a4, k4, F_is_leaf.binds fun _ _ _ _ _ _ us hl => match us, hl with | [_], _ => rfl⟩
  have F_are_numbers := fun_mk (st := s_are_numbers) l5 c5 k5
  have C_are_numbers : Cal K mg "are_numbers" f_are_numbers _ P_are_numbers := ⟨PySem.W.mg_of X G a5, k5, F_are_numbers.binds fun _ _ _ _ _ _ us hl => match us, hl with | [_], _ => rfl⟩
  have F_ascends := fun_mk (st := s_ascends) l6 c6 k6
  have C_ascends : Cal K mg "ascends" f_ascends _ P_ascends := ⟨PySem.W.mg_of X G a6, k6, F_ascends.binds fun _ _ _ _ _ _ us hl => match us, hl with | [_], _ => rfl⟩
  have F_is_class_form := fun_mk (st := s_is_class_form) l7 c7 k7
  have C_is_class_form : Cal K mg "is_class_form" f_is_class_form _ P_is_class_form := ⟨PySem.W.mg_of X G a7, k7, F_is_class_form.binds fun _ _ _ _ _ _ us hl => match us, hl with | [_], _ => rfl⟩
  have F_are_classes_form := fun_mk (st := s_are_classes_form) l8 c8 k8
  have C_are_classes_form : Cal K mg "are_classes_form" f_are_classes_form _ P_are_classes_form := ⟨PySem.W.mg_of X G a8, k8, F_are_classes_form.binds fun _ _ _ _ _ _ us hl => match us, hl with | [_], _ => rfl⟩
  have F_is_state_form := fun_mk (st := s_is_state_form) l9 c9 k9
  have C_is_state_form : Cal K mg "is_state_form" f_is_state_form _ P_is_state_form := ⟨PySem.W.mg_of X G a9, k9, F_is_state_form.binds fun _ _ _ _ _ _ us hl => match us, hl with | [_], _ => rfl⟩
  have F_number_told := fun_mk (st := s_number_told) l10 c10 k10
  have C_number_told : Cal K mg "number_told" f_number_told _ P_number_told := ⟨PySem.W.mg_of X G a10, k10, F_number_told.binds fun _ _ _ _ _ _ us hl => match us, hl with | [_], _ => rfl⟩
  have F_numbers_told := fun_mk (st := s_numbers_told) l11 c11 k11
  have C_numbers_told : Cal K mg "numbers_told" f_numbers_told _ P_numbers_told := ⟨PySem.W.mg_of X G a11, k11, F_numbers_told.binds fun _ _ _ _ _ _ us hl => match us, hl with | [_], _ => rfl⟩
  have F_is_row_form := fun_mk (st := s_is_row_form) l12 c12 k12
  have C_is_row_form : Cal K mg "is_row_form" f_is_row_form _ P_is_row_form := ⟨PySem.W.mg_of X G a12, k12, F_is_row_form.binds fun _ _ _ _ _ _ us hl => match us, hl with | [_, _], _ => rfl⟩
  have F_check_program := fun_mk (st := s_check_program) l13 c13 k13
  have C_check_program : Cal K mg "check_program" f_check_program _ P_check_program := ⟨PySem.W.mg_of X G a13, k13, F_check_program.binds fun _ _ _ _ _ _ us hl => match us, hl with | [_], _ => rfl⟩
  have F_check_text := fun_mk (st := s_check_text) l14 c14 k14
  have C_check_text : Cal K mg "check_text" f_check_text _ P_check_text := ⟨PySem.W.mg_of X G a14, k14, F_check_text.binds fun _ _ _ _ _ _ us hl => match us, hl with | [_], _ => rfl⟩
  have F_numbers_text := fun_mk (st := s_numbers_text) l15 c15 k15
  have C_numbers_text : Cal K mg "numbers_text" f_numbers_text _ P_numbers_text := ⟨PySem.W.mg_of X G a15, k15, F_numbers_text.binds fun _ _ _ _ _ _ us hl => match us, hl with | [_], _ => rfl⟩
  have F_write_numbers := fun_mk (st := s_write_numbers) l16 c16 k16
  have C_write_numbers : Cal K mg "write_numbers" f_write_numbers _ P_write_numbers := ⟨PySem.W.mg_of X G a16, k16, F_write_numbers.binds fun _ _ _ _ _ _ us hl => match us, hl with | [_], _ => rfl⟩
  have F_read_numbers := fun_mk (st := s_read_numbers) l17 c17 k17
  have C_read_numbers : Cal K mg "read_numbers" f_read_numbers _ P_read_numbers := ⟨PySem.W.mg_of X G a17, k17, F_read_numbers.binds fun _ _ _ _ _ _ us hl => match us, hl with | [_], _ => rfl⟩
  have F_write_state := fun_mk (st := s_write_state) l18 c18 k18
  have C_write_state : Cal K mg "write_state" f_write_state _ P_write_state := ⟨PySem.W.mg_of X G a18, k18, F_write_state.binds fun _ _ _ _ _ _ us hl => match us, hl with | [_], _ => rfl⟩
  have F_read_state := fun_mk (st := s_read_state) l19 c19 k19
  have C_read_state : Cal K mg "read_state" f_read_state _ P_read_state := ⟨PySem.W.mg_of X G a19, k19, F_read_state.binds fun _ _ _ _ _ _ us hl => match us, hl with | [_], _ => rfl⟩
  have F_is_key := fun_mk (st := s_is_key) l20 c20 k20
  have C_is_key : Cal K mg "is_key" f_is_key _ P_is_key := ⟨PySem.W.mg_of X G a20, k20, F_is_key.binds fun _ _ _ _ _ _ us hl => match us, hl with | [_], _ => rfl⟩
  have F_write_table := fun_mk (st := s_write_table) l21 c21 k21
  have C_write_table : Cal K mg "write_table" f_write_table _ P_write_table := ⟨PySem.W.mg_of X G a21, k21, F_write_table.binds fun _ _ _ _ _ _ us hl => match us, hl with | [_], _ => rfl⟩
  have F_read_table := fun_mk (st := s_read_table) l22 c22 k22
  have C_read_table : Cal K mg "read_table" f_read_table _ P_read_table := ⟨PySem.W.mg_of X G a22, k22, F_read_table.binds fun _ _ _ _ _ _ us hl => match us, hl with | [_], _ => rfl⟩
  have F_write_rows := fun_mk (st := s_write_rows) l23 c23 k23
  have C_write_rows : Cal K mg "write_rows" f_write_rows _ P_write_rows := ⟨PySem.W.mg_of X G a23, k23, F_write_rows.binds fun _ _ _ _ _ _ us hl => match us, hl with | [_], _ => rfl⟩
  have F_read_rows := fun_mk (st := s_read_rows) l24 c24 k24
  have C_read_rows : Cal K mg "read_rows" f_read_rows _ P_read_rows := ⟨PySem.W.mg_of X G a24, k24, F_read_rows.binds fun _ _ _ _ _ _ us hl => match us, hl with | [_], _ => rfl⟩
  have F_write_program := fun_mk (st := s_write_program) l25 c25 k25
  have C_write_program : Cal K mg "write_program" f_write_program _ P_write_program := ⟨PySem.W.mg_of X G a25, k25, F_write_program.binds fun _ _ _ _ _ _ us hl => match us, hl with | [_], _ => rfl⟩
  have F_read_program := fun_mk (st := s_read_program) l26 c26 k26
  have C_read_program : Cal K mg "read_program" f_read_program _ P_read_program := ⟨PySem.W.mg_of X G a26, k26, F_read_program.binds fun _ _ _ _ _ _ us hl => match us, hl with | [_], _ => rfl⟩
  have F__law_dice := fun_mk (st := s__law_dice) l27 c27 k27
  have C__law_dice : Cal K mg "_law_dice" f__law_dice _ P__law_dice := ⟨PySem.W.mg_of X G a27, k27, F__law_dice.binds fun _ _ _ _ _ _ us hl => match us, hl with | [_, _], _ => rfl⟩
  have F__law_roll := fun_mk (st := s__law_roll) l28 c28 k28
  have C__law_roll : Cal K mg "_law_roll" f__law_roll _ P__law_roll := ⟨PySem.W.mg_of X G a28, k28, F__law_roll.binds fun _ _ _ _ _ _ us hl => match us, hl with | [_, _], _ => rfl⟩
  have F__law_pick := fun_mk (st := s__law_pick) l29 c29 k29
  have C__law_pick : Cal K mg "_law_pick" f__law_pick _ P__law_pick := ⟨PySem.W.mg_of X G a29, k29, F__law_pick.binds fun _ _ _ _ _ _ us hl => match us, hl with | [_, _], _ => rfl⟩
  have F__law_met := fun_mk (st := s__law_met) l30 c30 k30
  have C__law_met : Cal K mg "_law_met" f__law_met _ P__law_met := ⟨PySem.W.mg_of X G a30, k30, F__law_met.binds fun _ _ _ _ _ _ us hl => match us, hl with | [_], _ => rfl⟩
  have F__law_right := fun_mk (st := s__law_right) l31 c31 k31
  have C__law_right : Cal K mg "_law_right" f__law_right _ P__law_right := ⟨PySem.W.mg_of X G a31, k31, F__law_right.binds fun _ _ _ _ _ _ us hl => match us, hl with | [_], _ => rfl⟩
  have F_law := fun_mk (st := s_law) l32 c32 k32
  refine ⟨[(A_c0, A_p0), (A_c1, A_p1)], spLaw9 K A_p0 A_p1, ⟨two_all hd0.2 hd1.2, two_all tN0 tN1, two_all hd0.1 hd1.1, ?_⟩, fun H a ns hl hO ht hS => ⟨a, ns, rfl, scrN_of hO hS, hl, tabs_two (ht (A_c0, A_p0) (by simp)) (ht (A_c1, A_p1) (by simp)), fun _ => rfl⟩⟩
  refine ⟨PySem.W.fnOf "law" "law" (defArgs s_law) (defBody s_law) (defScope s_law) .none kV32 dc32 pm32 an32 cd32 ct32, fun s v => .of_eq rfl, fun base _ _ TBs => ?_⟩
  have G_is_integer := ok_is_integer (P := l.prog) (w := w) (base := base) F_is_integer T Z
  have G_is_word := ok_is_word (P := l.prog) (w := w) (base := base) F_is_word T Z
  have G_is_arity := ok_is_arity (P := l.prog) (w := w) (base := base) F_is_arity T Z G_is_integer C_is_integer
  have G_is_leaf := ok_is_leaf (P := l.prog) (w := w) (base := base) F_is_leaf T Z
  have G__law_dice := ok__law_dice (P := l.prog) (w := w) (base := base) F__law_dice T Z
  have G__law_roll := ok__law_roll (P := l.prog) (w := w) (base := base) F__law_roll T Z
  have G__law_pick := ok__law_pick (P := l.prog) (w := w) (base := base) F__law_pick T Z G__law_roll C__law_roll
  have G_are_numbers := ok_are_numbers (P := l.prog) (w := w) (base := base) F_are_numbers T Z G_is_integer C_is_integer
  have G_ascends := ok_ascends (P := l.prog) (w := w) (base := base) F_ascends T Z
  have G_is_class_form := ok_is_class_form (P := l.prog) (w := w) (base := base) F_is_class_form T Z G_are_numbers C_are_numbers G_ascends C_ascends
  have G_are_classes_form := ok_are_classes_form (P := l.prog) (w := w) (base := base) F_are_classes_form T Z G_is_class_form C_is_class_form G_ascends C_ascends
  have G_is_state_form := ok_is_state_form (P := l.prog) (w := w) (base := base) F_is_state_form T Z G_is_class_form C_is_class_form G_are_classes_form C_are_classes_form
  have G_is_key := ok_is_key (P := l.prog) (w := w) (base := base) F_is_key T Z G_are_numbers C_are_numbers
  have G_is_index := ok_is_index (P := l.prog) (w := w) (base := base) F_is_index T Z G_is_integer C_is_integer
  have G_is_row_form := ok_is_row_form (P := l.prog) (w := w) (base := base) F_is_row_form T Z G_is_word C_is_word G_is_leaf C_is_leaf G_is_index C_is_index
  have G_check_program := ok_check_program (P := l.prog) (w := w) (base := base) F_check_program T Z
  have G_check_text := ok_check_text (P := l.prog) (w := w) (base := base) F_check_text T Z (ok_iParseError (P := l.prog) (w := w) (mg := mg) (base := base) F_iP) B_ParseError
  have G_read_state := ok_read_state (P := l.prog) (w := w) (base := base) F_read_state T Z G_check_text C_check_text
  have G_read_table := ok_read_table (P := l.prog) (w := w) (base := base) F_read_table T Z G_check_text C_check_text
  have G_read_rows := ok_read_rows (P := l.prog) (w := w) (base := base) F_read_rows T Z G_check_text C_check_text
  have G_read_program := ok_read_program (P := l.prog) (w := w) (base := base) F_read_program T Z G_check_text C_check_text
  have G_write_program := ok_write_program (P := l.prog) (w := w) (base := base) F_write_program T Z G_check_program C_check_program
  have G_write_state := ok_write_state (P := l.prog) (w := w) (base := base) F_write_state T Z G_is_state_form C_is_state_form
  have G_numbers_text := ok_numbers_text (P := l.prog) (w := w) (base := base) F_numbers_text T Z
  have G_write_numbers := ok_write_numbers (P := l.prog) (w := w) (base := base) F_write_numbers T Z G_are_numbers C_are_numbers G_numbers_text C_numbers_text
  have G_number_told := ok_number_told (P := l.prog) (w := w) (base := base) F_number_told T Z
  have G_numbers_told := ok_numbers_told (P := l.prog) (w := w) (base := base) F_numbers_told T Z G_number_told C_number_told
  have G_read_numbers := ok_read_numbers (P := l.prog) (w := w) (base := base) F_read_numbers T Z G_check_text C_check_text G_numbers_told C_numbers_told (ok_iParseError (P := l.prog) (w := w) (mg := mg) (base := base) F_iP) B_ParseError
  have G_write_rows := ok_write_rows (P := l.prog) (w := w) (base := base) F_write_rows T Z G_is_row_form C_is_row_form
  have G_write_table := ok_write_table (P := l.prog) (w := w) (base := base) F_write_table T Z G_is_key C_is_key G_is_state_form C_is_state_form
  have G__law_right := ok__law_right (P := l.prog) (w := w) (base := base) F__law_right T Z (ce0) (TBs (A_c0, A_p0) (by simp)) tne F__law_met C__law_met G__law_pick C__law_pick G_write_numbers C_write_numbers G_write_state C_write_state G_write_table C_write_table G_write_rows C_write_rows G_write_program C_write_program G_read_numbers C_read_numbers G_read_state C_read_state G_read_table C_read_table G_read_rows C_read_rows G_read_program C_read_program
  exact ok_law F_law T Z (ce1) (TBs (A_c1, A_p1) (by simp)) tne F__law_met C__law_met G__law_dice C__law_dice G__law_right C__law_right G_write_numbers C_write_numbers G_write_table C_write_table G_write_rows C_write_rows G_read_numbers C_read_numbers
set_option maxHeartbeats 0 in
theorem facts_mk {l : PySem.W.OpenLaw} {w : World} {K : PySem.W.Frag} {h : Heap} {mg : Str → Option Value} {fa : Addr} (X : K.In h) (G : h.Ns mainGlobals mg) (hmg : mg "law" = some (.ref fa)) (c : Fn.HSays 106 flX fnX K) (hd0 : PySem.W.CodeHd h (Fn.htA K "_law_right") (Fn.htP K "_law_right") ∧ h.get? (Fn.htP K "_law_right") = some (PySem.W.tabObj #[])) (hd1 : PySem.W.CodeHd h (Fn.htA K "law") (Fn.htP K "law") ∧ h.get? (Fn.htP K "law") = some (PySem.W.tabObj #[])) : ∃ (cs : List (Addr × Addr)) (sp : Sp), LawT l.prog w K mg h 21 fa "_law_script" cs sp ∧ ∀ (H : Hp) (a : Addr) (ns : List Int), ns.length ≤ 63 → Only2 H → (∀ p ∈ cs, H p.2 = some (.tbl #[])) → SqL K H a (ns.map V.int) → sp [.ref a] H (fun v _ => v = .bl true) fun _ _ _ => False := by
  obtain ⟨o1_0, o2_0, o3_0, o4_0, o5_0, o6_0, o7_0, o8_0, o9_0, l0, c0⟩ := c.def_ 0 (d := dX0) rfl
  obtain ⟨o1_1, o2_1, o3_1, o4_1, o5_1, o6_1, o7_1, o8_1, o9_1, l1, c1⟩ := c.def_ 1 (d := dX1) rfl
  obtain ⟨o1_2, o2_2, o3_2, o4_2, o5_2, o6_2, o7_2, o8_2, o9_2, l2, c2⟩ := c.def_ 2 (d := dX2) rfl
  obtain ⟨o1_3, o2_3, o3_3, o4_3, o5_3, o6_3, o7_3, o8_3, o9_3, l3, c3⟩ := c.def_ 3 (d := dX3) rfl
  obtain ⟨o1_4, o2_4, o3_4, o4_4, o5_4, o6_4, o7_4, o8_4, o9_4, l4, c4⟩ := c.def_ 4 (d := dX4) rfl
  obtain ⟨o1_5, o2_5, o3_5, o4_5, o5_5, o6_5, o7_5, o8_5, o9_5, l5, c5⟩ := c.def_ 5 (d := dX5) rfl
  obtain ⟨o1_6, o2_6, o3_6, o4_6, o5_6, o6_6, o7_6, o8_6, o9_6, l6, c6⟩ := c.def_ 6 (d := dX6) rfl
  obtain ⟨o1_7, o2_7, o3_7, o4_7, o5_7, o6_7, o7_7, o8_7, o9_7, l7, c7⟩ := c.def_ 7 (d := dX7) rfl
  obtain ⟨o1_8, o2_8, o3_8, o4_8, o5_8, o6_8, o7_8, o8_8, o9_8, l8, c8⟩ := c.def_ 8 (d := dX8) rfl
  obtain ⟨o1_9, o2_9, o3_9, o4_9, o5_9, o6_9, o7_9, o8_9, o9_9, l9, c9⟩ := c.def_ 9 (d := dX9) rfl
  obtain ⟨o1_10, o2_10, o3_10, o4_10, o5_10, o6_10, o7_10, o8_10, o9_10, l10, c10⟩ := c.def_ 10 (d := dX10) rfl
  obtain ⟨o1_11, o2_11, o3_11, o4_11, o5_11, o6_11, o7_11, o8_11, o9_11, l11, c11⟩ := c.def_ 11 (d := dX11) rfl
  obtain ⟨o1_12, o2_12, o3_12, o4_12, o5_12, o6_12, o7_12, o8_12, o9_12, l12, c12⟩ := c.def_ 12 (d := dX12) rfl
  obtain ⟨o1_13, o2_13, o3_13, o4_13, o5_13, o6_13, o7_13, o8_13, o9_13, l13, c13⟩ := c.def_ 13 (d := dX13) rfl
  obtain ⟨o1_14, o2_14, o3_14, o4_14, o5_14, o6_14, o7_14, o8_14, o9_14, l14, c14⟩ := c.def_ 14 (d := dX14) rfl
  obtain ⟨o1_15, o2_15, o3_15, o4_15, o5_15, o6_15, o7_15, o8_15, o9_15, l15, c15⟩ := c.def_ 15 (d := dX15) rfl
  obtain ⟨o1_16, o2_16, o3_16, o4_16, o5_16, o6_16, o7_16, o8_16, o9_16, l16, c16⟩ := c.def_ 16 (d := dX16) rfl
  obtain ⟨o1_17, o2_17, o3_17, o4_17, o5_17, o6_17, o7_17, o8_17, o9_17, l17, c17⟩ := c.def_ 17 (d := dX17) rfl
  obtain ⟨o1_18, o2_18, o3_18, o4_18, o5_18, o6_18, o7_18, o8_18, o9_18, l18, c18⟩ := c.def_ 18 (d := dX18) rfl
  obtain ⟨o1_19, o2_19, o3_19, o4_19, o5_19, o6_19, o7_19, o8_19, o9_19, l19, c19⟩ := c.def_ 19 (d := dX19) rfl
  obtain ⟨o1_20, o2_20, o3_20, o4_20, o5_20, o6_20, o7_20, o8_20, o9_20, l20, c20⟩ := c.def_ 20 (d := dX20) rfl
  obtain ⟨o1_21, o2_21, o3_21, o4_21, o5_21, o6_21, o7_21, o8_21, o9_21, l21, c21⟩ := c.def_ 21 (d := dX21) rfl
  obtain ⟨o1_22, o2_22, o3_22, o4_22, o5_22, o6_22, o7_22, o8_22, o9_22, l22, c22⟩ := c.def_ 22 (d := dX22) rfl
  obtain ⟨o1_23, o2_23, o3_23, o4_23, o5_23, o6_23, o7_23, o8_23, o9_23, l23, c23⟩ := c.def_ 23 (d := dX23) rfl
  obtain ⟨o1_24, o2_24, o3_24, o4_24, o5_24, o6_24, o7_24, o8_24, o9_24, l24, c24⟩ := c.def_ 24 (d := dX24) rfl
  obtain ⟨o1_25, o2_25, o3_25, o4_25, o5_25, o6_25, o7_25, o8_25, o9_25, l25, c25⟩ := c.def_ 25 (d := dX25) rfl
  obtain ⟨o1_26, o2_26, o3_26, o4_26, o5_26, o6_26, o7_26, o8_26, o9_26, l26, c26⟩ := c.def_ 26 (d := dX26) rfl
  obtain ⟨o1_27, o2_27, o3_27, o4_27, o5_27, o6_27, o7_27, o8_27, o9_27, l27, c27⟩ := c.def_ 27 (d := dX27) rfl
  obtain ⟨o1_28, o2_28, o3_28, o4_28, o5_28, o6_28, o7_28, o8_28, o9_28, l28, c28⟩ := c.def_ 28 (d := dX28) rfl
  obtain ⟨o1_29, o2_29, o3_29, o4_29, o5_29, o6_29, o7_29, o8_29, o9_29, l29, c29⟩ := c.def_ 29 (d := dX29) rfl
  obtain ⟨o1_30, o2_30, o3_30, o4_30, o5_30, o6_30, o7_30, o8_30, o9_30, l30, c30⟩ := c.def_ 30 (d := dX30) rfl
  obtain ⟨o1_31, o2_31, o3_31, o4_31, o5_31, o6_31, o7_31, o8_31, o9_31, l31, c31⟩ := c.def_ 31 (d := dX31) rfl
  obtain ⟨o1_32, o2_32, o3_32, o4_32, o5_32, o6_32, o7_32, o8_32, o9_32, l32, c32⟩ := c.def_ 32 (d := dX32) rfl
  obtain ⟨o1_33, o2_33, o3_33, o4_33, o5_33, o6_33, o7_33, o8_33, o9_33, lP, cP⟩ := c.def_ 33 (d := dX33) rfl
  obtain ⟨_, q_z16⟩ := Fn.hInt_ok (c.b (b := Fn.hInt K "MAX_LETTERS" 8) 98 rfl)
  obtain ⟨_, q_z17⟩ := Fn.hInt_ok (c.b (b := Fn.hInt K "MAX_ARITY" 3) 99 rfl)
  obtain ⟨_, q_z18⟩ := Fn.hStr_ok (c.b (b := Fn.hStr K "ANY" "_") 100 rfl)
  obtain ⟨_, q_z19⟩ := Fn.hStr_ok (c.b (b := Fn.hStr K "LOST" "#") 101 rfl)
  obtain ⟨_, q_z20⟩ := Fn.hStr_ok (c.b (b := Fn.hStr K "EMPTY" "-") 102 rfl)
  obtain ⟨_, q_z21⟩ := Fn.hStr_ok (c.b (b := Fn.hStr K "NONE" "none") 103 rfl)
  obtain ⟨_, q_z22⟩ := Fn.hInt_ok (c.b (b := Fn.hInt K "MAX_DIGITS" 60) 104 rfl)
  obtain ⟨_, q_z23⟩ := Fn.hInt_ok (c.b (b := Fn.hInt K "MAX_USES" 3) 105 rfl)
  obtain ⟨ce0, oA0, oD0, vS0, oS0, lc0, vp0⟩ := Fn.htOk (Fn.hGa_ok (c.b (b := Fn.hGa K "_law_right") 62 rfl)) l31 (Fn.htT (c.b (b := Fn.htB K "_law_right") 79 rfl))
  obtain ⟨ce1, oA1, oD1, vS1, oS1, lc1, vp1⟩ := Fn.htOk (Fn.hGa_ok (c.b (b := Fn.hGa K "law") 64 rfl)) l32 (Fn.htT (c.b (b := Fn.htB K "law") 80 rfl))
  exact all_mk (f_is_integer := (He.ga K "is_integer")) (f_is_index := (He.ga K "is_index")) (f_is_word := (He.ga K "is_word")) (f_is_arity := (He.ga K "is_arity")) (f_is_leaf := (He.ga K "is_leaf")) (f_are_numbers := (He.ga K "are_numbers")) (f_ascends := (He.ga K "ascends")) (f_is_class_form := (He.ga K "is_class_form")) (f_are_classes_form := (He.ga K "are_classes_form")) (f_is_state_form := (He.ga K "is_state_form")) (f_number_told := (He.ga K "number_told")) (f_numbers_told := (He.ga K "numbers_told")) (f_is_row_form := (He.ga K "is_row_form")) (f_check_program := (He.ga K "check_program")) (f_check_text := (He.ga K "check_text")) (f_numbers_text := (He.ga K "numbers_text")) (f_write_numbers := (He.ga K "write_numbers")) (f_read_numbers := (He.ga K "read_numbers")) (f_write_state := (He.ga K "write_state")) (f_read_state := (He.ga K "read_state")) (f_is_key := (He.ga K "is_key")) (f_write_table := (He.ga K "write_table")) (f_read_table := (He.ga K "read_table")) (f_write_rows := (He.ga K "write_rows")) (f_read_rows := (He.ga K "read_rows")) (f_write_program := (He.ga K "write_program")) (f_read_program := (He.ga K "read_program")) (f__law_dice := (He.ga K "_law_dice")) (f__law_roll := (He.ga K "_law_roll")) (f__law_pick := (He.ga K "_law_pick")) (f__law_met := (He.ga K "_law_met")) (f__law_right := (He.ga K "_law_right")) (f_law := (He.ga K "law")) (A_B := (He.ga K "InvalidTable")) (A_R := (He.ga K "InvalidRows")) (A_P := (He.ga K "InvalidProgram")) (A_O := (He.ga K "InvalidOperation")) (A_C := (He.ga K "ParseError")) (A_G := (He.ga K "Program")) (A_I := (He.ma K (He.ga K "ParseError") "__init__")) (A_c0 := (Fn.htA K "_law_right")) (A_p0 := (Fn.htP K "_law_right")) (A_c1 := (Fn.htA K "law")) (A_p1 := (Fn.htP K "law")) X G hmg (Fn.hGa_ok (c.b (b := Fn.hGa K "is_integer") 0 rfl)) l0 c0 (c.b (b := PySem.W.keepIn K (.ref (He.ga K "is_integer"))) 1 rfl) (Fn.hGa_ok (c.b (b := Fn.hGa K "is_index") 2 rfl)) l1 c1 (c.b (b := PySem.W.keepIn K (.ref (He.ga K "is_index"))) 3 rfl) (Fn.hGa_ok (c.b (b := Fn.hGa K "is_word") 4 rfl)) l2 c2 (c.b (b := PySem.W.keepIn K (.ref (He.ga K "is_word"))) 5 rfl) (Fn.hGa_ok (c.b (b := Fn.hGa K "is_arity") 6 rfl)) l3 c3 (c.b (b := PySem.W.keepIn K (.ref (He.ga K "is_arity"))) 7 rfl) (Fn.hGa_ok (c.b (b := Fn.hGa K "is_leaf") 8 rfl)) l4 c4 (c.b (b := PySem.W.keepIn K (.ref (He.ga K "is_leaf"))) 9 rfl) (Fn.hGa_ok (c.b (b := Fn.hGa K "are_numbers") 10 rfl)) l5 c5 (c.b (b := PySem.W.keepIn K (.ref (He.ga K "are_numbers"))) 11 rfl) (Fn.hGa_ok (c.b (b := Fn.hGa K "ascends") 12 rfl)) l6 c6 (c.b (b := PySem.W.keepIn K (.ref (He.ga K "ascends"))) 13 rfl) (Fn.hGa_ok (c.b (b := Fn.hGa K "is_class_form") 14 rfl)) l7 c7 (c.b (b := PySem.W.keepIn K (.ref (He.ga K "is_class_form"))) 15 rfl) (Fn.hGa_ok (c.b (b := Fn.hGa K "are_classes_form") 16 rfl)) l8 c8 (c.b (b := PySem.W.keepIn K (.ref (He.ga K "are_classes_form"))) 17 rfl) (Fn.hGa_ok (c.b (b := Fn.hGa K "is_state_form") 18 rfl)) l9 c9 (c.b (b := PySem.W.keepIn K (.ref (He.ga K "is_state_form"))) 19 rfl) (Fn.hGa_ok (c.b (b := Fn.hGa K "number_told") 20 rfl)) l10 c10 (c.b (b := PySem.W.keepIn K (.ref (He.ga K "number_told"))) 21 rfl) (Fn.hGa_ok (c.b (b := Fn.hGa K "numbers_told") 22 rfl)) l11 c11 (c.b (b := PySem.W.keepIn K (.ref (He.ga K "numbers_told"))) 23 rfl) (Fn.hGa_ok (c.b (b := Fn.hGa K "is_row_form") 24 rfl)) l12 c12 (c.b (b := PySem.W.keepIn K (.ref (He.ga K "is_row_form"))) 25 rfl) (Fn.hGa_ok (c.b (b := Fn.hGa K "check_program") 26 rfl)) l13 c13 (c.b (b := PySem.W.keepIn K (.ref (He.ga K "check_program"))) 27 rfl) (Fn.hGa_ok (c.b (b := Fn.hGa K "check_text") 28 rfl)) l14 c14 (c.b (b := PySem.W.keepIn K (.ref (He.ga K "check_text"))) 29 rfl) (Fn.hGa_ok (c.b (b := Fn.hGa K "numbers_text") 30 rfl)) l15 c15 (c.b (b := PySem.W.keepIn K (.ref (He.ga K "numbers_text"))) 31 rfl) (Fn.hGa_ok (c.b (b := Fn.hGa K "write_numbers") 32 rfl)) l16 c16 (c.b (b := PySem.W.keepIn K (.ref (He.ga K "write_numbers"))) 33 rfl) (Fn.hGa_ok (c.b (b := Fn.hGa K "read_numbers") 34 rfl)) l17 c17 (c.b (b := PySem.W.keepIn K (.ref (He.ga K "read_numbers"))) 35 rfl) (Fn.hGa_ok (c.b (b := Fn.hGa K "write_state") 36 rfl)) l18 c18 (c.b (b := PySem.W.keepIn K (.ref (He.ga K "write_state"))) 37 rfl) (Fn.hGa_ok (c.b (b := Fn.hGa K "read_state") 38 rfl)) l19 c19 (c.b (b := PySem.W.keepIn K (.ref (He.ga K "read_state"))) 39 rfl) (Fn.hGa_ok (c.b (b := Fn.hGa K "is_key") 40 rfl)) l20 c20 (c.b (b := PySem.W.keepIn K (.ref (He.ga K "is_key"))) 41 rfl) (Fn.hGa_ok (c.b (b := Fn.hGa K "write_table") 42 rfl)) l21 c21 (c.b (b := PySem.W.keepIn K (.ref (He.ga K "write_table"))) 43 rfl) (Fn.hGa_ok (c.b (b := Fn.hGa K "read_table") 44 rfl)) l22 c22 (c.b (b := PySem.W.keepIn K (.ref (He.ga K "read_table"))) 45 rfl) (Fn.hGa_ok (c.b (b := Fn.hGa K "write_rows") 46 rfl)) l23 c23 (c.b (b := PySem.W.keepIn K (.ref (He.ga K "write_rows"))) 47 rfl) (Fn.hGa_ok (c.b (b := Fn.hGa K "read_rows") 48 rfl)) l24 c24 (c.b (b := PySem.W.keepIn K (.ref (He.ga K "read_rows"))) 49 rfl) (Fn.hGa_ok (c.b (b := Fn.hGa K "write_program") 50 rfl)) l25 c25 (c.b (b := PySem.W.keepIn K (.ref (He.ga K "write_program"))) 51 rfl) (Fn.hGa_ok (c.b (b := Fn.hGa K "read_program") 52 rfl)) l26 c26 (c.b (b := PySem.W.keepIn K (.ref (He.ga K "read_program"))) 53 rfl) (Fn.hGa_ok (c.b (b := Fn.hGa K "_law_dice") 54 rfl)) l27 c27 (c.b (b := PySem.W.keepIn K (.ref (He.ga K "_law_dice"))) 55 rfl) (Fn.hGa_ok (c.b (b := Fn.hGa K "_law_roll") 56 rfl)) l28 c28 (c.b (b := PySem.W.keepIn K (.ref (He.ga K "_law_roll"))) 57 rfl) (Fn.hGa_ok (c.b (b := Fn.hGa K "_law_pick") 58 rfl)) l29 c29 (c.b (b := PySem.W.keepIn K (.ref (He.ga K "_law_pick"))) 59 rfl) (Fn.hGa_ok (c.b (b := Fn.hGa K "_law_met") 60 rfl)) l30 c30 (c.b (b := PySem.W.keepIn K (.ref (He.ga K "_law_met"))) 61 rfl) (Fn.hGa_ok (c.b (b := Fn.hGa K "_law_right") 62 rfl)) l31 c31 (c.b (b := PySem.W.keepIn K (.ref (He.ga K "_law_right"))) 63 rfl) (Fn.hGa_ok (c.b (b := Fn.hGa K "law") 64 rfl)) l32 c32 (c.b (b := PySem.W.keepIn K (.ref (He.ga K "law"))) 65 rfl) (Fn.hGa_ok (c.b (b := Fn.hGa K "InvalidTable") 66 rfl)) (Fn.hGa_ok (c.b (b := Fn.hGa K "InvalidRows") 67 rfl)) (Fn.hGa_ok (c.b (b := Fn.hGa K "InvalidProgram") 68 rfl)) (Fn.hGa_ok (c.b (b := Fn.hGa K "InvalidOperation") 69 rfl)) (Fn.hGa_ok (c.b (b := Fn.hGa K "ParseError") 70 rfl)) (Fn.hGa_ok (c.b (b := Fn.hGa K "Program") 71 rfl)) (c.b (b := PySem.W.excIn K (He.ga K "InvalidTable") tVal "ValueError.__new__") 72 rfl) (c.b (b := PySem.W.excIn K (He.ga K "InvalidRows") tVal "ValueError.__new__") 73 rfl) (c.b (b := PySem.W.excIn K (He.ga K "InvalidProgram") tVal "ValueError.__new__") 74 rfl) (c.b (b := PySem.W.excIn K (He.ga K "InvalidOperation") tVal "ValueError.__new__") 75 rfl) (Fn.hMa_ok (c.b (b := Fn.hMa K (He.ga K "ParseError") "__init__") 76 rfl)) lP cP (c.b (b := PySem.W.keepIn K (.ref (He.ma K (He.ga K "ParseError") "__init__"))) 77 rfl) (c.b (b := Fn.texB K ⟨(He.ga K "InvalidTable"), (He.ga K "InvalidRows"), (He.ga K "InvalidProgram"), (He.ga K "InvalidOperation"), (He.ga K "ParseError"), (He.ma K (He.ga K "ParseError") "__init__"), (He.ga K "Program")⟩) 78 rfl) ce0 lc0 vp0 (Fn.htN (c.b (b := Fn.htB K "_law_right") 79 rfl)) ce1 lc1 vp1 (Fn.htN (c.b (b := Fn.htB K "law") 80 rfl)) (Fn.htNe_ok (c.b (b := Fn.htNe K "_law_right" "law") 81 rfl)) hd0 hd1 (Fn.hFree_ok (c.b (b := Fn.hFree K "len") 82 rfl)) (Fn.hFree_ok (c.b (b := Fn.hFree K "int") 83 rfl)) (Fn.hFree_ok (c.b (b := Fn.hFree K "abs") 84 rfl)) (Fn.hFree_ok (c.b (b := Fn.hFree K "isinstance") 85 rfl)) (Fn.hFree_ok (c.b (b := Fn.hFree K "bool") 86 rfl)) (Fn.hFree_ok (c.b (b := Fn.hFree K "all") 87 rfl)) (Fn.hFree_ok (c.b (b := Fn.hFree K "str") 88 rfl)) (Fn.hFree_ok (c.b (b := Fn.hFree K "tuple") 89 rfl)) (Fn.hFree_ok (c.b (b := Fn.hFree K "dict") 90 rfl)) (Fn.hFree_ok (c.b (b := Fn.hFree K "sorted") 91 rfl)) (Fn.hFree_ok (c.b (b := Fn.hFree K "list") 92 rfl)) (Fn.hFree_ok (c.b (b := Fn.hFree K "range") 93 rfl)) (Fn.hFree_ok (c.b (b := Fn.hFree K "max") 94 rfl)) (Fn.hFree_ok (c.b (b := Fn.hFree K "min") 95 rfl)) (Fn.hFree_ok (c.b (b := Fn.hFree K "enumerate") 96 rfl)) (Fn.hFree_ok (c.b (b := Fn.hFree K "repr") 97 rfl)) q_z16 q_z17 q_z18 q_z19 q_z20 q_z21 q_z22 q_z23
end K72
open PySem PySem.W PyProof.Rows PySem.Calls
set_option maxRecDepth 100000 in
set_option maxHeartbeats 0 in
theorem PySem.Challenge.cw_firstneed_k72_errors_of_written_values_holds : PySem.Challenge.rw_firstneed_k72_errors_of_written_values.Holds := by
  w_on; o_law
  refine HandSHeadRun.head_any (r := OpenLaw.row PySem.Challenge.rw_firstneed_k72_errors_of_written_values) (q := K72.qv) (H := K72.hkX) (ob := K72.obX) (M := 20000) (loose := K72.nmL) (d := HandSHeadRun.topDef (OpenLaw.row PySem.Challenge.rw_firstneed_k72_errors_of_written_values).prog 123) (kwd := []) K72.obX_eq
    (by kernel_rfl) (fun s => by kernel_rfl) K72.runX (by kernel_rfl) (by kernel_rfl) (by kernel_rfl) (by rfl) (by first | assumption | decide +kernel) (by decide +kernel) ⟨rfl, rfl, rfl, rfl, rfl, by decide +kernel⟩ ?hw ?hc
  case hw => w_witness2
  case hc =>
    have e : (HandSHeadRun.topDef (OpenLaw.row PySem.Challenge.rw_firstneed_k72_errors_of_written_values).prog 123).name = ("law" : PySem.Str) := by kernel_rfl
    refine Fn.walkTX (l := PySem.Challenge.rw_firstneed_k72_errors_of_written_values) (n := 63) (k := 21) (x := "_law_script") rfl (by decide) (by kernel_rfl) ⟨rfl, by decide, by decide⟩ ?F
    intro w mean mg mb fa h Tp Y G hmg0
    obtain ⟨K, KX, c⟩ := Y
    rw [e] at hmg0
    exact ⟨K, KX, K72.facts_mk (l := PySem.Challenge.rw_firstneed_k72_errors_of_written_values) KX G hmg0 c (PySem.W.tab_of (d := HandSHeadRun.topDef (OpenLaw.row PySem.Challenge.rw_firstneed_k72_errors_of_written_values).prog 122) (x := "_law_right") Tp KX (by kernel_rfl) (Fn.htT (c.b (b := Fn.htB K "_law_right") 79 rfl))) (PySem.W.tab_of (d := HandSHeadRun.topDef (OpenLaw.row PySem.Challenge.rw_firstneed_k72_errors_of_written_values).prog 123) (x := "law") Tp KX (by kernel_rfl) (Fn.htT (c.b (b := Fn.htB K "law") 80 rfl)))⟩
