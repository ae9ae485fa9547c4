import PyProof.Rows.All
import Wide.All
import OpenK.AllK
import Wide.FinOn
import HandS.ForMost
import HandS.IsInst
import HandS.Deep
import HandS.Walk
import KE.KDictWalk
import KE.KDictCopyH
import KE.KeyNested
import HandS.Small
import HandS.Style
import HandS.TupSets
import HandS.SetBool
import HandS.SortOrd
import PyProof.Rows.SortKeyStr
import HandS.Star
import HandS.ClsMeth
import HandS.ExcOwn
import HandS.TryOnly
import HandS.WordsExc
import HandS.Property
import HandS.TupMul
import HandS.FStr
import HandS.Iter
import HandS.Text
import PyProof.StrBlockL
import HandS.SlotsOwn
import KE.KCallOwn
import PyProof.InstEq
import KE.GoesEnum
import KE.DataMinMax
import HandS.SortKw
import HandS.TupAny
import HandS.ListItems
import PyProof.StrLawsRepr
import PyProof.FitsInt
import HandS.DictComp
import HandS.Finally
import PySem.Challenge.RW_firstneed_k05_terms_told
set_option Elab.async false
set_option maxRecDepth 100000
/-! Rules and promises that all laws share: powers of great numbers, repr of a truth value, the dice. -/
namespace Fn
open PySem PySem.Spec PyProof.Rows L2
section
variable {X : Cx}
def CPowW (i j : Int) : Prop := 0 ≤ j ∧ (Builtin.Int.intBits i : Int) * j ≤ 2 ^ 27
theorem op_powW : OpR X (binaryOp .Pow) (rI CPowW fun i j => .int (i ^ j.toNat)) := opI fun _ _ _ _ _ _ _ hc q => pow_int hc.1 hc.2 q
theorem call_repr_b : CallR X (.builtin "repr") (fun xs H Q => ∃ b, xs = [.bl b] ∧ Q (.str (if b then "True" else "False")) H) := by
  intro pins s σ H xs us Q I r h
  obtain ⟨b, rfl, q⟩ := h
  obtain ⟨u, rfl, r1⟩ := vals1 r
  cases r1
  exact PySem.P.repr_of_bool ⟨.str _, H, I.tok _, ⟨_, rfl⟩, q⟩
end
theorem powOk {i j : Int} (h : (decide (0 ≤ j) && decide ((Builtin.Int.intBits i : Int) * j ≤ 2 ^ 27)) = true) : CPowW i j := by
  rw [Bool.and_eq_true] at h
  exact ⟨of_decide_eq_true h.1, of_decide_eq_true h.2⟩
theorem modc {j : Int} (h : 0 < j) : 0 < j := h
theorem szr {α : Type} {xs : List α} (h : Nat.ble xs.length 100000 = true) : xs.length ≤ sizeLine := Nat.le_trans (Nat.le_of_ble_eq_true h) (by decide)
theorem szl {α : Type} {xs : List α} (h : xs.length ≤ 100000) : xs.length ≤ sizeLine := Nat.le_trans h (by decide)
theorem szlt {n : Nat} (h : n ≤ 100000) : n < sizeLine := Nat.lt_of_le_of_lt h (by decide)
theorem script_at {ns : List Int} {k : Int} (h0 : 0 ≤ k) (h : k < (ns.length : Int)) : ∃ c : Int, atI (ns.map V.int) k = some (.int c) := by
  have hlt : k.toNat < ns.length := by omega
  have ek : ((k.toNat : Nat) : Int) = k := by omega
  have g : atI (ns.map V.int) ((k.toNat : Nat) : Int) = some (.int ns[k.toNat]) := atI_nat (by rw [List.getElem?_map, List.getElem?_eq_getElem hlt] <;> rfl)
  rw [ek] at g
  exact ⟨_, g⟩
/-! ### places in the text: the scope of a comprehension -/
def kidsE : Expr → List Expr
  | .BoolOp _ vs _ => vs
  | .BinOp a _ b _ => [a, b]
  | .UnaryOp _ a _ => [a]
  | .IfExp t a b _ => [t, a, b]
  | .ListComp e gs _ _ => e :: gs.flatMap fun c => c.iter :: c.ifs
  | .Compare l _ cs _ => l :: cs
  | .Call f xs _ _ => f :: xs
  | .Attribute v _ _ => [v]
  | .Subscript a b _ => [a, b]
  | .List es _ => es
  | .Tuple es _ _ => es
  | _ => []
def goE (e : Expr) (path : List Nat) : Expr := path.foldl (fun e i => (kidsE e).getD i e) e
def stE : Stmt → Expr
  | .Return (some e) _ => e
  | .Assign _ e _ => e
  | .AugAssign _ _ e _ => e
  | .For _ e _ _ _ => e
  | .While e _ _ _ => e
  | .If e _ _ _ => e
  | .Expr e _ => e
  | _ => .Name "" ⟨0, 0, 0, 0⟩
def stB : Stmt → List Stmt
  | .For _ _ a b _ => a ++ b
  | .While _ a b _ => a ++ b
  | .If _ a b _ => a ++ b
  | _ => []
def goS (body : List Stmt) (path : List Nat) : Stmt := match path with
  | [] => .Pass ⟨0, 0, 0, 0⟩
  | i :: r => r.foldl (fun s j => (stB s).getD j s) (body.getD i (.Pass ⟨0, 0, 0, 0⟩))
def lcSc : Expr → Scope
  | .ListComp _ _ sc _ => sc
  | _ => { kind := .function, names := [], isGenerator := false, isCoroutine := false }
theorem mulL {i j : Int} (h : -(2 ^ 64) < i ∧ i < 2 ^ 64) : CMul i j := Or.inl h
theorem mulR {i j : Int} (h : -(2 ^ 64) < j ∧ j < 2 ^ 64) : CMul i j := Or.inr h
/-- a def as a callee: its name, its object, how its arguments bind -/
structure Cal (K : PySem.W.Frag) (mg : Str → Option Value) (x : Str) (f : Addr) (fd : FuncData) (ps : List Str) : Prop where
  m : mg x = some (.ref f)
  k : PySem.W.keepIn K (.ref f) = true
  b : Binds K fd ps []
/-- three ints: the dice -/
def dl (x y z : Int) : HO := .lst [.int x, .int y, .int z]
theorem sq_upd {K : PySem.W.Frag} {H : Hp} {p a : Addr} {o : HO} {xs : List V} (h : a ≠ p) (hs : H a = some (.lst xs)) : SqL K (upd H p o) a xs := SqL.of (by rw [upd_ne h]; exact hs)

/-! ### what stays: all but the contents of lists -/
def Ev2 (H H' : Hp) : Prop := ∀ (a : Addr) (o : HO), H a = some o → (∃ xs ys, o = .lst xs ∧ H' a = some (.lst ys)) ∨ H' a = some o
theorem Ev2.refl (H : Hp) : Ev2 H H := fun _ _ h => .inr h
theorem Ev2.trans {H H1 H2 : Hp} (a : Ev2 H H1) (b : Ev2 H1 H2) : Ev2 H H2 := fun x o h => by
  rcases a x o h with ⟨xs, ys, rfl, h1⟩ | h1
  · rcases b x _ h1 with ⟨_, zs, _, h2⟩ | h2
    · exact .inl ⟨_, zs, rfl, h2⟩
    · exact .inl ⟨_, ys, rfl, h2⟩
  · exact b x o h1
theorem Ev2.new {H : Hp} {p : Addr} {o : HO} (h : H p = none) : Ev2 H (upd H p o) := fun a u e => .inr (by
  rw [upd_ne (ne_of_none e h)]
  exact e)
theorem Ev2.lst {H : Hp} {p : Addr} {xs ys : List V} (h : H p = some (.lst xs)) : Ev2 H (upd H p (.lst ys)) := fun a u e => by
  by_cases q : a = p
  · subst q
    rw [h] at e
    exact .inl ⟨xs, ys, (Option.some.inj e).symm, upd_same⟩
  · exact .inr (by rw [upd_ne q]; exact e)
theorem Ev2.tup {H H' : Hp} {a : Addr} {xs : List V} (h : H a = some (.tup xs)) (e : Ev2 H H') : H' a = some (.tup xs) := by
  rcases e a _ h with ⟨_, _, q, _⟩ | q
  · cases q
  · exact q
theorem Ev2.frz {H H' : Hp} {a : Addr} {o : Obj} {u : HO} (h : H a = some (.frz o u)) (e : Ev2 H H') : H' a = some (.frz o u) := by
  rcases e a _ h with ⟨_, _, q, _⟩ | q
  · cases q
  · exact q
theorem Ev2.dK {H H' : Hp} {a : Addr} {kvs : List (Key × V)} (h : H a = some (.dK kvs)) (e : Ev2 H H') : H' a = some (.dK kvs) := by
  rcases e a _ h with ⟨_, _, q, _⟩ | q
  · cases q
  · exact q
theorem Ev2.isL {H H' : Hp} {a : Addr} {xs : List V} (h : H a = some (.lst xs)) (e : Ev2 H H') : ∃ ys, H' a = some (.lst ys) := by
  rcases e a _ h with ⟨_, ys, _, q⟩ | q
  · exact ⟨ys, q⟩
  · exact ⟨xs, q⟩
theorem Ev2.some {H H' : Hp} {a : Addr} {o : HO} (h : H a = some o) (e : Ev2 H H') : ∃ u, H' a = some u := by
  rcases e a _ h with ⟨_, ys, _, q⟩ | q
  · exact ⟨_, q⟩
  · exact ⟨_, q⟩
theorem Ev2.fresh {H H' : Hp} {a : Addr} (e : Ev2 H H') (h : H' a = none) : H a = none := by
  cases q : H a with
  | none => rfl
  | some o =>
    obtain ⟨u, z⟩ := Ev2.some q e
    rw [z] at h
    cases h
theorem ne_new {H H' : Hp} {a p : Addr} {o : HO} (h : H a = some o) (e : Ev2 H H') (hp : H' p = none) : a ≠ p := ne_of_none h (e.fresh hp)
/-- a new object: the heap behind is named -/
theorem made {H H1 : Hp} {p : Addr} {o : HO} (n : H p = none) (g : upd H p o = H1) : Ev2 H H1 ∧ (∀ b, b ≠ p → H1 b = H b) ∧ H1 p = some o := by
  subst g
  exact ⟨Ev2.new n, fun _ hb => upd_ne hb, upd_same⟩
/-- the script, in a heap that knows nothing else -/
def Scr (K : PySem.W.Frag) (H : Hp) (a : Addr) (xs : List V) : Prop := SqL K H a xs ∧ ∀ H', Ev2 H H' → SqL K H' a xs
theorem scr_of {K : PySem.W.Frag} {H : Hp} {a : Addr} {xs : List V} (hO : Only H) (h : SqL K H a xs) : Scr K H a xs := by
  refine ⟨h, fun H' e => ?_⟩
  rcases h with (h | ⟨o, h⟩) | h
  · rcases hO a with q | ⟨o, ys, q⟩
    · rw [q] at h
      cases h
    · rw [q] at h
      cases h
  · exact .inl (.inr ⟨o, Ev2.frz h e⟩)
  · exact .inr h
theorem Scr.mono {K : PySem.W.Frag} {H H' : Hp} {a : Addr} {xs : List V} (h : Scr K H a xs) (e : Ev2 H H') : Scr K H' a xs := ⟨h.2 _ e, fun _ e2 => h.2 _ (e.trans e2)⟩
/-- kinds of values that are looked at by isinstance -/
def Ty (K : PySem.W.Frag) (H : Hp) (v : V) (n : String) : Prop := match v with
  | .non => n = "NoneType" | .bl _ => n = "bool" | .int _ => n = "int" | .str _ => n = "str"
  | .ref a => (n = "list" ∧ ∃ xs, H a = some (.lst xs)) ∨ (n = "tuple" ∧ ∃ xs, H a = some (.tup xs)) ∨ (n = "dict" ∧ ∃ kvs, H a = some (.dK kvs))
  | _ => False
theorem Ty.x {K : PySem.W.Frag} {H : Hp} {v : V} {n : String} (h : Ty K H v n) : TyX K H v (.type n) := by
  cases v with
  | non => cases (show n = "NoneType" from h); exact .base .non
  | bl b => cases (show n = "bool" from h); exact .base (.bl b)
  | int i => cases (show n = "int" from h); exact .base (.int i)
  | str x => cases (show n = "str" from h); exact .base (.str x)
  | byt b => exact h.elim
  | flt b => exact h.elim
  | ty b => exact h.elim
  | ref a =>
    rcases h with ⟨rfl, xs, e⟩ | ⟨rfl, xs, e⟩ | ⟨rfl, xs, e⟩
    · exact .base (.lst e)
    · exact .base (.tup e)
    · exact .base (.dK e)
theorem Ty.mono {K : PySem.W.Frag} {H H' : Hp} {v : V} {n : String} (h : Ty K H v n) (e : Ev2 H H') : Ty K H' v n := by
  cases v with
  | ref a =>
    rcases h with ⟨rfl, xs, q⟩ | ⟨rfl, xs, q⟩ | ⟨rfl, xs, q⟩
    · exact .inl ⟨rfl, Ev2.isL q e⟩
    · exact .inr (.inl ⟨rfl, xs, Ev2.tup q e⟩)
    · exact .inr (.inr ⟨rfl, xs, Ev2.dK q e⟩)
  | non => exact h
  | bl b => exact h
  | int i => exact h
  | str x => exact h
  | byt b => exact h
  | flt b => exact h
  | ty b => exact h
/-- the dice stand at p -/
def Dc (H : Hp) (p : Addr) : Prop := ∃ x y z : Int, H p = some (dl x y z)
/-- only what stands at p is another -/
def Only1 (H H' : Hp) (p : Addr) : Prop := ∀ b, b ≠ p → H' b = H b
theorem keepAt {H H1 : Hp} {a p : Addr} {o : HO} (t : H a = some o) (n : H p = none) (k : ∀ b, b ≠ p → H1 b = H b) : H1 a = some o := (k a (ne_of_none t n)).trans t
theorem sameOf {H H1 : Hp} {p : Addr} (n : H p = none) (k : ∀ b, b ≠ p → H1 b = H b) : Same H H1 := fun _ _ e => keepAt e n k
theorem Ev2.same {H H1 : Hp} (s : Same H H1) : Ev2 H H1 := fun a o e => .inr (s a o e)
theorem Dc.keep {H H1 : Hp} {a p : Addr} (t : Dc H a) (n : H p = none) (k : ∀ b, b ≠ p → H1 b = H b) : Dc H1 a := by
  obtain ⟨x, y, z, t⟩ := t
  exact ⟨x, y, z, keepAt t n k⟩
theorem Dc.ne {H : Hp} {a p : Addr} (t : Dc H a) (n : H p = none) : a ≠ p := by
  obtain ⟨x, y, z, t⟩ := t
  exact ne_of_none t n
/-- all but what stands at p is the same -/
def But (p : Addr) (H H' : Hp) : Prop := ∀ a o, a ≠ p → H a = some o → H' a = some o
theorem But.refl (p : Addr) (H : Hp) : But p H H := fun _ _ _ h => h
theorem But.trans {p : Addr} {H H1 H2 : Hp} (x : But p H H1) (y : But p H1 H2) : But p H H2 := fun a o n h => y a o n (x a o n h)
theorem But.of1 {p : Addr} {H H' : Hp} (k : Only1 H H' p) : But p H H' := fun a o n h => (k a n).trans h
theorem But.ofS {p : Addr} {H H' : Hp} (k : Same H H') : But p H H' := fun a o _ h => k a o h
theorem But.ev {p : Addr} {H H' : Hp} (k : But p H H') (d : Dc H p) (d' : Dc H' p) : Ev2 H H' := fun a o h => by
  by_cases e : a = p
  · subst e
    obtain ⟨x, y, z, h1⟩ := d
    obtain ⟨x', y', z', h2⟩ := d'
    rw [h1] at h
    exact .inl ⟨_, _, (Option.some.inj h).symm, h2⟩
  · exact .inr (k a o e h)
theorem But.at {p : Addr} {H H' : Hp} {a : Addr} {o : HO} (h : H a = some o) (n : a ≠ p) (k : But p H H') : H' a = some o := k a o n h
theorem Dc.same {H H' : Hp} {p : Addr} (d : Dc H p) (s : Same H H') : Dc H' p := by
  obtain ⟨x, y, z, h⟩ := d
  exact ⟨x, y, z, s _ _ h⟩
theorem Dc.neOf {H : Hp} {a p : Addr} {xs : List V} (d : Dc H p) (h : H a = some (.lst xs)) (n : ∀ x y z : Int, xs ≠ [.int x, .int y, .int z]) : a ≠ p := by
  rintro rfl
  obtain ⟨x, y, z, h1⟩ := d
  rw [h1] at h
  exact n x y z (HO.lst.inj (Option.some.inj h)).symm
def spDice (K : PySem.W.Frag) : Sp := fun vs H Q _ => ∃ (a : Addr) (ns : List Int) (k : Int), vs = [.ref a, .int k] ∧ SqL K H a (ns.map V.int) ∧ ns.length ≤ 1000 ∧ 0 ≤ k ∧ k < 1000 ∧
  ∀ (p : Addr) (H' : Hp), H p = none → Ev2 H H' → Only1 H H' p → Dc H' p → Q (.ref p) H'
def spRoll : Sp := fun vs H Q _ => ∃ (p : Addr) (n : Int), vs = [.ref p, .int n] ∧ Dc H p ∧ 0 < n ∧ n < 1000000 ∧
  ∀ (r : Int) (H' : Hp), 0 ≤ r → r < n → Ev2 H H' → Only1 H H' p → Dc H' p → Q (.int r) H'
def spPick (K : PySem.W.Frag) : Sp := fun vs H Q _ => ∃ (p a : Addr) (xs : List V), vs = [.ref p, .ref a] ∧ Dc H p ∧ SqL K H a xs ∧ (∀ H', Ev2 H H' → Only1 H H' p → SqL K H' a xs) ∧ 0 < xs.length ∧ xs.length < 1000000 ∧
  ∀ (i : Nat) (v : V) (H' : Hp), xs[i]? = some v → Ev2 H H' → Only1 H H' p → Dc H' p → Q v H'
theorem perm_erase {α : Type} : ∀ {zs : List α} {i : Nat} (h : i < zs.length), ([zs[i]] ++ zs.eraseIdx i).Perm zs
  | z :: zs, 0, _ => List.Perm.refl _
  | z :: zs, i + 1, h => by
    have h' : i < zs.length := by simpa using h
    have ih := perm_erase h'
    exact (List.Perm.swap z (zs[i]'h') _).trans (List.Perm.cons z ih)
/-- some of a list, taken without putting back -/
def spSome (K : PySem.W.Frag) : Sp := fun vs H Q _ => ∃ (p a : Addr) (xs : List V) (n : Int), vs = [.ref p, .ref a, .int n] ∧ Dc H p ∧ H a = some (.lst xs) ∧ 0 ≤ n ∧ n ≤ 1000 ∧ xs.length ≤ 1000 ∧
  ∀ (l : Addr) (ys zs : List V) (H' : Hp), But p H H' → Dc H' p → H l = none → l ≠ p → H' l = some (.lst ys) → (ys ++ zs).Perm xs → (ys.length : Int) = (if (xs.length : Int) < n then (xs.length : Int) else n) → Q (.ref l) H'
theorem Dc.set {H : Hp} {p : Addr} (h : Dc H p) (x y z : Int) : Ev2 H (upd H p (dl x y z)) ∧ Only1 H (upd H p (dl x y z)) p ∧ Dc (upd H p (dl x y z)) p := by
  obtain ⟨x0, y0, z0, h⟩ := h
  exact ⟨Ev2.lst h, fun _ hb => upd_ne hb, x, y, z, upd_same⟩
/-- the list that is picked from is not the dice -/
theorem pick_l {K : PySem.W.Frag} {H : Hp} {a p : Addr} {xs : List V} (h : H a = some (.lst xs)) (d : a ≠ p) : SqL K H a xs ∧ ∀ H', Ev2 H H' → Only1 H H' p → SqL K H' a xs :=
  ⟨SqL.of h, fun H' _ k => SqL.of ((k a d).trans h)⟩
def spLaw (K : PySem.W.Frag) : Sp := fun vs H Q _ => ∃ (a : Addr) (ns : List Int), vs = [.ref a] ∧ Scr K H a (ns.map V.int) ∧ ns.length ≤ 63 ∧ ∀ H', Q (.bl true) H'
/-- the number of turns of a law: between 1 and 8 -/
theorem turns {n : Nat} : 0 ≤ (if (if (n : Int) < 8 then (n : Int) else 8) > 1 then (if (n : Int) < 8 then (n : Int) else 8) else 1) ∧ (if (if (n : Int) < 8 then (n : Int) else 8) > 1 then (if (n : Int) < 8 then (n : Int) else 8) else 1) ≤ 8 := by
  split <;> split <;> omega
end Fn

set_option Elab.async false
set_option maxRecDepth 100000
/-! Data at an address: values that are told as PyData; what is in a list or tuple of data. -/
namespace Fn
open PySem PySem.Spec PyProof.Rows L2
mutual
inductive Dx (H : Hp) : V → PyData → Prop
  | non : Dx H .non .none
  | bl (b : Bool) : Dx H (.bl b) (.bool b)
  | int (i : Int) : Dx H (.int i) (.int i)
  | str (x : Str) : Dx H (.str x) (.str x)
  | lst {a : Addr} {xs : List V} {ds : List PyData} : H a = some (.lst xs) → DxAll H xs ds → Dx H (.ref a) (.list ds)
  | tup {a : Addr} {xs : List V} {ds : List PyData} : H a = some (.tup xs) → DxAll H xs ds → Dx H (.ref a) (.tuple ds)
  | dct {a : Addr} : H a = some (.dK []) → Dx H (.ref a) (.dict [])
inductive DxAll (H : Hp) : List V → List PyData → Prop
  | nil : DxAll H [] []
  | cons {v : V} {vs : List V} {d : PyData} {ds : List PyData} : Dx H v d → DxAll H vs ds → DxAll H (v :: vs) (d :: ds)
end
theorem DxAll.len {H : Hp} : ∀ {ds : List PyData} {vs : List V}, DxAll H vs ds → vs.length = ds.length
  | [], _, h => by cases h; rfl
  | d :: ds, _, h => by
    cases h with
    | cons h1 h2 =>
      show _ + 1 = _ + 1
      rw [DxAll.len h2]
theorem DxAll.get {H : Hp} : ∀ {ds : List PyData} {vs : List V} {i : Nat} {v : V}, DxAll H vs ds → vs[i]? = some v → ∃ d, ds[i]? = some d ∧ Dx H v d
  | [], _, i, v, h, e => by cases h; simp at e
  | d :: ds, _, 0, v, h, e => by
    cases h with
    | cons h1 h2 =>
      cases (show some _ = some v from e)
      exact ⟨d, rfl, h1⟩
  | d :: ds, _, i + 1, v, h, e => by
    cases h with
    | cons h1 h2 => exact DxAll.get (i := i) h2 (by simpa using e)
mutual
def dictfree : PyData → Bool
  | .list xs => dictfreeAll xs
  | .tuple xs => dictfreeAll xs
  | .dict _ => false
  | _ => true
def dictfreeAll : List PyData → Bool
  | [] => true
  | d :: ds => dictfree d && dictfreeAll ds
end
mutual
def listfree : PyData → Bool
  | .list _ => false
  | .tuple xs => listfreeAll xs
  | _ => true
def listfreeAll : List PyData → Bool
  | [] => true
  | d :: ds => listfree d && listfreeAll ds
end
mutual
theorem Dx.dp {K : PySem.W.Frag} {H : Hp} : ∀ {d : PyData} {v : V}, Dx H v d → dictfree d = true → Dp K H v d
  | .none, _, h, _ => by cases h; exact .non
  | .bool b, _, h, _ => by cases h; exact .bl b
  | .int i, _, h, _ => by cases h; exact .int i
  | .str x, _, h, _ => by cases h; exact .str x
  | .list ds, _, h, f => by
    cases h with
    | lst h1 h2 => exact .lst (SqL.of h1) (DxAll.dp h2 (by simpa only [dictfree] using f))
  | .tuple ds, _, h, f => by
    cases h with
    | tup h1 h2 => exact .tup (SqT.of h1) (DxAll.dp h2 (by simpa only [dictfree] using f))
  | .dict kvs, _, h, f => by
    simp only [dictfree] at f
    cases f
theorem DxAll.dp {K : PySem.W.Frag} {H : Hp} : ∀ {ds : List PyData} {vs : List V}, DxAll H vs ds → dictfreeAll ds = true → DpAll K H vs ds
  | [], _, h, _ => by cases h; exact .nil
  | d :: ds, _, h, f => by
    simp only [dictfreeAll, Bool.and_eq_true] at f
    cases h with
    | cons h1 h2 => exact .cons (Dx.dp h1 f.1) (DxAll.dp h2 f.2)
end
mutual
theorem Dx.mono {H H' : Hp} (e : Ev2 H H') : ∀ {d : PyData} {v : V}, Dx H v d → listfree d = true → Dx H' v d
  | .none, _, h, _ => by cases h; exact .non
  | .bool b, _, h, _ => by cases h; exact .bl b
  | .int i, _, h, _ => by cases h; exact .int i
  | .str x, _, h, _ => by cases h; exact .str x
  | .list ds, _, h, f => by
    simp only [listfree] at f
    cases f
  | .tuple ds, _, h, f => by
    cases h with
    | tup h1 h2 => exact .tup (Ev2.tup h1 e) (DxAll.mono e h2 (by simpa only [listfree] using f))
  | .dict kvs, _, h, f => by
    cases h with
    | dct h1 => exact .dct (Ev2.dK h1 e)
theorem DxAll.mono {H H' : Hp} (e : Ev2 H H') : ∀ {ds : List PyData} {vs : List V}, DxAll H vs ds → listfreeAll ds = true → DxAll H' vs ds
  | [], _, h, _ => by cases h; exact .nil
  | d :: ds, _, h, f => by
    simp only [listfreeAll, Bool.and_eq_true] at f
    cases h with
    | cons h1 h2 => exact .cons (Dx.mono e h1 f.1) (DxAll.mono e h2 f.2)
end
mutual
theorem Dx.same {H H' : Hp} (e : Same H H') : ∀ {d : PyData} {v : V}, Dx H v d → Dx H' v d
  | .none, _, h => by cases h; exact .non
  | .bool b, _, h => by cases h; exact .bl b
  | .int i, _, h => by cases h; exact .int i
  | .str x, _, h => by cases h; exact .str x
  | .list ds, _, h => by
    cases h with
    | lst h1 h2 => exact .lst (e _ _ h1) (DxAll.same e h2)
  | .tuple ds, _, h => by
    cases h with
    | tup h1 h2 => exact .tup (e _ _ h1) (DxAll.same e h2)
  | .dict kvs, _, h => by
    cases h with
    | dct h1 => exact .dct (e _ _ h1)
theorem DxAll.same {H H' : Hp} (e : Same H H') : ∀ {ds : List PyData} {vs : List V}, DxAll H vs ds → DxAll H' vs ds
  | [], _, h => by cases h; exact .nil
  | d :: ds, _, h => by
    cases h with
    | cons h1 h2 => exact .cons (Dx.same e h1) (DxAll.same e h2)
end
def three : List PyData → Bool
  | [.int _, .int _, .int _] => true
  | _ => false
mutual
/-- no list of three ints is within: so no list that is told is the dice -/
def nodice : PyData → Bool
  | .list ds => !three ds && nodiceAll ds
  | .tuple ds => nodiceAll ds
  | _ => true
def nodiceAll : List PyData → Bool
  | [] => true
  | d :: ds => nodice d && nodiceAll ds
end
theorem nodice_list {ds : List PyData} (h : nodice (.list ds) = true) : nodiceAll ds = true ∧ ∀ x y z, ds ≠ [.int x, .int y, .int z] := by
  simp only [nodice, Bool.and_eq_true] at h
  refine ⟨h.2, fun x y z e => ?_⟩
  subst e
  exact Bool.noConfusion h.1
mutual
theorem Dx.but {H H' : Hp} {p : Addr} (hd : Dc H p) (o : But p H H') : ∀ {d : PyData} {v : V}, Dx H v d → nodice d = true → Dx H' v d
  | .none, _, h, _ => by cases h; exact .non
  | .bool b, _, h, _ => by cases h; exact .bl b
  | .int i, _, h, _ => by cases h; exact .int i
  | .str x, _, h, _ => by cases h; exact .str x
  | .list ds, _, h, f => by
    obtain ⟨f1, f2⟩ := nodice_list f
    cases h with
    | @lst a xs _ h1 h2 =>
      have hne : a ≠ p := by
        rintro rfl
        obtain ⟨x, y, z, hp⟩ := hd
        rw [hp] at h1
        cases (HO.lst.inj (Option.some.inj h1))
        cases h2 with
        | cons q1 h2 =>
          cases h2 with
          | cons q2 h2 =>
            cases h2 with
            | cons q3 h2 =>
              cases h2
              cases q1
              cases q2
              cases q3
              exact f2 _ _ _ rfl
      exact .lst (o _ _ hne h1) (DxAll.but hd o h2 f1)
  | .tuple ds, _, h, f => by
    cases h with
    | @tup a xs _ h1 h2 =>
      have hne : a ≠ p := by
        rintro rfl
        obtain ⟨x, y, z, hp⟩ := hd
        rw [hp] at h1
        cases h1
      exact .tup (o _ _ hne h1) (DxAll.but hd o h2 (by simpa only [nodice] using f))
  | .dict kvs, _, h, f => by
    cases h with
    | @dct a h1 =>
      have hne : a ≠ p := by
        rintro rfl
        obtain ⟨x, y, z, hp⟩ := hd
        rw [hp] at h1
        cases h1
      exact .dct (o _ _ hne h1)
theorem DxAll.but {H H' : Hp} {p : Addr} (hd : Dc H p) (o : But p H H') : ∀ {ds : List PyData} {vs : List V}, DxAll H vs ds → nodiceAll ds = true → DxAll H' vs ds
  | [], _, h, _ => by cases h; exact .nil
  | d :: ds, _, h, f => by
    simp only [nodiceAll, Bool.and_eq_true] at f
    cases h with
    | cons h1 h2 => exact .cons (Dx.but hd o h1 f.1) (DxAll.but hd o h2 f.2)
end
theorem Dx.only {H H' : Hp} {p : Addr} (hd : Dc H p) (o : Only1 H H' p) {d : PyData} {v : V} (h : Dx H v d) (f : nodice d = true) : Dx H' v d := Dx.but hd (But.of1 o) h f
theorem DxAll.only {H H' : Hp} {p : Addr} (hd : Dc H p) (o : Only1 H H' p) {ds : List PyData} {vs : List V} (h : DxAll H vs ds) (f : nodiceAll ds = true) : DxAll H' vs ds := DxAll.but hd (But.of1 o) h f
theorem nodiceAll_get : ∀ {ds : List PyData} {i : Nat} {d : PyData}, nodiceAll ds = true → ds[i]? = some d → nodice d = true
  | [], _, _, _, e => by simp at e
  | d :: ds, 0, _, h, e => by
    simp only [nodiceAll, Bool.and_eq_true] at h
    cases (show some d = some _ from e)
    exact h.1
  | d :: ds, i + 1, _, h, e => by
    simp only [nodiceAll, Bool.and_eq_true] at h
    exact nodiceAll_get (i := i) h.2 (by simpa using e)
theorem pick_dx {H G : Hp} {p : Addr} {xs : List V} {ds : List PyData} {i : Nat} {v : V} (hx : DxAll H xs ds) (hv : xs[i]? = some v) (hd : Dc H p) (o : Only1 H G p) (hn : nodiceAll ds = true) : ∃ d, ds[i]? = some d ∧ Dx G v d := by
  obtain ⟨d, h1, h2⟩ := hx.get hv
  exact ⟨d, h1, Dx.only hd o h2 (nodiceAll_get hn h1)⟩
theorem Same.at {H H' : Hp} {a : Addr} {o : HO} (h : H a = some o) (e : Same H H') : H' a = some o := e _ _ h
/-- the name of the type of data -/
def tyN : PyData → String
  | .none => "NoneType" | .bool _ => "bool" | .int _ => "int" | .str _ => "str" | .list _ => "list" | .tuple _ => "tuple" | .dict _ => "dict"
theorem Dx.ty {K : PySem.W.Frag} {H : Hp} {v : V} {d : PyData} (h : Dx H v d) : TyX K H v (.type (tyN d)) := by
  cases h with
  | non => exact .base .non
  | bl b => exact .base (.bl b)
  | int i => exact .base (.int i)
  | str x => exact .base (.str x)
  | lst h1 h2 => exact .base (.lst h1)
  | tup h1 h2 => exact .base (.tup h1)
  | dct h1 => exact .base (.dK h1)
def tyNs : List String := ["NoneType", "bool", "int", "str", "list", "tuple", "dict"]
theorem tyN_mem (d : PyData) : tyN d ∈ tyNs := by cases d <;> (simp only [tyN]; decide)
theorem kit_all : ∀ n ∈ tyNs, kitB n "int" = some (n == "int" || n == "bool") ∧ kitB n "bool" = some (n == "bool") ∧ kitB n "str" = some (n == "str") ∧ kitB n "tuple" = some (n == "tuple") ∧ kitB n "list" = some (n == "list") ∧ kitB n "dict" = some (n == "dict") := by decide +kernel
section
variable {K : PySem.W.Frag} (d : PyData)
theorem kit_int : PySem.W.kitOne K (.type (tyN d)) (.type "int") = some (tyN d == "int" || tyN d == "bool") := kit_ty (kit_all _ (tyN_mem d)).1
theorem kit_bool : PySem.W.kitOne K (.type (tyN d)) (.type "bool") = some (tyN d == "bool") := kit_ty (kit_all _ (tyN_mem d)).2.1
theorem kit_str : PySem.W.kitOne K (.type (tyN d)) (.type "str") = some (tyN d == "str") := kit_ty (kit_all _ (tyN_mem d)).2.2.1
theorem kit_tuple : PySem.W.kitOne K (.type (tyN d)) (.type "tuple") = some (tyN d == "tuple") := kit_ty (kit_all _ (tyN_mem d)).2.2.2.1
theorem kit_list : PySem.W.kitOne K (.type (tyN d)) (.type "list") = some (tyN d == "list") := kit_ty (kit_all _ (tyN_mem d)).2.2.2.2.1
theorem kit_dict : PySem.W.kitOne K (.type (tyN d)) (.type "dict") = some (tyN d == "dict") := kit_ty (kit_all _ (tyN_mem d)).2.2.2.2.2
end
/-- x in a list or a tuple of data -/
def rInX (K : PySem.W.Frag) (neg : Bool) : R2 := fun x y H Q => ∃ d c ds, Dp K H x d ∧ Dp K H y c ∧ (c = .list ds ∨ c = .tuple ds) ∧ SeqAt.shaped d = true ∧ SeqAt.shaped c = true ∧ Q (.bl (if neg then !(ds.any fun z => PyData.eqv z d) else ds.any fun z => PyData.eqv z d)) H
section
variable {X : Cx}
theorem op_inX (hu : X.A.units + 65 < cLine) : OpR X (compareOp .In) (rInX X.K false) := by
  intro pins s σ H x y v u Q I rx ry h
  obtain ⟨d, c, ds, hd, he, hc, sd, se, q⟩ := h
  obtain ⟨as, r1⟩ := Dp.reads I d x v hd rx
  obtain ⟨bs, r2⟩ := Dp.reads I c y u he ry
  rcases hc with rfl | rfl
  · exact SeqAt.in_list_reads r2 r1 (SeqAt.canLay_of_shaped se) (SeqAt.canLay_of_shaped sd) (room_in_shaped sd hu) ⟨.bl _, H, I, rfl, q⟩
  · exact SeqAt.in_tuple_reads r2 r1 (SeqAt.canLay_of_shaped se) (SeqAt.canLay_of_shaped sd) (room_in_shaped sd hu) ⟨.bl _, H, I, rfl, q⟩
theorem op_notInX (hu : X.A.units + 65 < cLine) : OpR X (compareOp .NotIn) (rInX X.K true) := by
  intro pins s σ H x y v u Q I rx ry h
  obtain ⟨d, c, ds, hd, he, hc, sd, se, q⟩ := h
  obtain ⟨as, r1⟩ := Dp.reads I d x v hd rx
  obtain ⟨bs, r2⟩ := Dp.reads I c y u he ry
  rcases hc with rfl | rfl
  · exact SeqAt.notIn_list_reads r2 r1 (SeqAt.canLay_of_shaped se) (SeqAt.canLay_of_shaped sd) (room_in_shaped sd hu) ⟨.bl _, H, I, rfl, q⟩
  · exact SeqAt.notIn_tuple_reads r2 r1 (SeqAt.canLay_of_shaped se) (SeqAt.canLay_of_shaped sd) (room_in_shaped sd hu) ⟨.bl _, H, I, rfl, q⟩
end
theorem hu65 {A : Around} {k : Nat} (hr : Room k A) : A.units + 65 < cLine := by
  have := hr.un
  omega
/-! ### rules whose readings name the written part: with a letter of its own for it (within comprehensions) -/
def rLenK (K : PySem.W.Frag) : List V → Hp → VK → Prop := fun xs H Q => ∃ p ys, xs = [.ref p] ∧ (SqL K H p ys ∨ SqT K H p ys) ∧ Q (.int ys.length) H
def rListK (K : PySem.W.Frag) : List V → Hp → VK → Prop := fun xs H Q => ∃ p ys, xs = [.ref p] ∧ (SqL K H p ys ∨ SqT K H p ys) ∧ ∀ l, H l = none → Q (.ref l) (upd H l (.lst ys))
section
variable {X : Cx}
theorem call_len_k {K : PySem.W.Frag} (hK : X.K = K := by rfl) : CallR X (.builtin "len") (rLenK K) := by subst hK; exact call_len_seq
theorem call_list_k {K : PySem.W.Frag} (hK : X.K = K := by rfl) : CallR X (.type "list") (rListK K) := by subst hK; exact call_list_of
theorem call_isi_k {K : PySem.W.Frag} (hK : X.K = K := by rfl) : CallR X (.builtin "isinstance") (rIsi K) := by subst hK; exact call_isi
theorem cr_all_k {K : PySem.W.Frag} (hc : X.calm = true) (hK : X.K = K := by rfl) : CallR X (.builtin "all") (rAll K) := by subst hK; exact cr_all hc
theorem cr_any_k {K : PySem.W.Frag} (hc : X.calm = true) (hK : X.K = K := by rfl) : CallR X (.builtin "any") (rAny K) := by subst hK; exact cr_any hc
theorem ix_list_k {K : PySem.W.Frag} (hK : X.K = K := by rfl) : IxR X (rIxL K) := by subst hK; exact ix_list
theorem ix_tup_k {K : PySem.W.Frag} (hK : X.K = K := by rfl) : IxR X (rIxT K) := by subst hK; exact ix_tup
theorem sl_list_k {K : PySem.W.Frag} (hK : X.K = K := by rfl) : SlR X (rSlL K) := by subst hK; exact sl_list
theorem sl_tup_k {K : PySem.W.Frag} (hK : X.K = K := by rfl) : SlR X (rSlT K) := by subst hK; exact sl_tup
theorem op_inX_k {K : PySem.W.Frag} (hu : X.A.units + 65 < cLine) (hK : X.K = K := by rfl) : OpR X (compareOp .In) (rInX K false) := by subst hK; exact op_inX hu
theorem op_notInX_k {K : PySem.W.Frag} (hu : X.A.units + 65 < cLine) (hK : X.K = K := by rfl) : OpR X (compareOp .NotIn) (rInX K true) := by subst hK; exact op_notInX hu
theorem op_eqD_k {K : PySem.W.Frag} (hu : X.A.units + 64 < cLine) (hK : X.K = K := by rfl) : OpR X (compareOp .Eq) (rEqD K) := by subst hK; exact op_eqD hu
theorem op_neD_k {K : PySem.W.Frag} (hu : X.A.units + 64 < cLine) (hK : X.K = K := by rfl) : OpR X (compareOp .NotEq) (rNeD K) := by subst hK; exact op_neD hu
theorem pi_list_k {tg l : Expr} {tl : TE} {K : PySem.W.Frag} (hl : PE X l tl) (hK : X.K = K := by rfl) : PI X tg l (iList K tl) := by subst hK; exact pi_list hl
theorem pi_tup_k {tg l : Expr} {tl : TE} {K : PySem.W.Frag} (hl : PE X l tl) (hK : X.K = K := by rfl) : PI X tg l (iTup K tl) := by subst hK; exact pi_tup hl
variable {o e : Expr} {es : List Expr} {to : TE} {t : TA} {name : Str} {apos cpos : Pos} {T id : String} {r : V → List V → Hp → VK → Prop}
theorem pe_bm_k {K : PySem.W.Frag} (pa : PlainAttrs T) (slot : Slot T name id) (hty : typeOf (.builtin id) = pure (.type "method_descriptor")) (hm : MtR X id r) (ho : PE X o to) (ha : PA X (e :: es) t)
    (hbase : attributeBase o name X.env (eval o X.env) = eval o X.env := by rfl)
    (hfew : ((backTo cpos (starEach (e :: es) X.env)).all (fun x => !x.1) && (backToKw cpos (keywordEach [] X.env)).all (fun x => x.1.isSome)
      && decide ((e :: es).length + ([] : List Keyword).length + (if ([] : List Keyword).isEmpty then 0 else 1) < 30)) = true := by rfl)
    (hline : (apos.endLine == cpos.line) = true := by rfl) (hs : starEach (e :: es) X.env = (false, eval e X.env) :: starEach es X.env := by rfl) (hplain : (backTo cpos (starEach es X.env)).any (·.1) = false := by rfl) (hK : X.K = K := by rfl) :
    PE X (.Call (.Attribute o name apos) (e :: es) [] cpos) (tBM K T r to t) := by
  subst hK
  exact pe_bm pa slot hty hm ho ha hbase hfew hline hs hplain
def tJoin (K : PySem.W.Frag) (to te : TE) : TE := tM1 (fun x xs H Q => ∃ a p, ∃ ys : List Str, x = .str a ∧ xs = [.ref p] ∧ (SqL K H p (ys.map V.str) ∨ SqT K H p (ys.map V.str)) ∧
      (ys.map (·.length)).sum + ys.length * a.length ≤ 16777216 ∧ Q (.str (Txt.join a ys)) H) to te
theorem pe_join_k {te : TE} {K : PySem.W.Frag} (ho : PE X o to) (he : PE X e te) (hs : starEach [e] X.env = [(false, eval e X.env)] := by rfl) (hbase : attributeBase o "join" X.env (eval o X.env) = eval o X.env := by rfl) (hline : (apos.endLine == cpos.line) = true := by rfl) (hK : X.K = K := by rfl) :
    PE X (.Call (.Attribute o "join" apos) [e] [] cpos) (tJoin K to te) := by
  subst hK
  exact pe_join ho he hs hbase hline
end
/-! ### list(text) -/
def signV (z : Str) : List V := z.cps.toList.map fun c => V.str ⟨#[c]⟩
theorem paired_get {α β : Type} {R : α → β → Prop} : ∀ {xs : List α} {us : List β}, xs.length = us.length → (∀ (j : Nat) (x : α) (u : β), xs[j]? = some x → us[j]? = some u → R x u) → Paired R xs us
  | [], [], _, _ => .nil
  | [], _ :: _, h, _ => by cases h
  | _ :: _, [], h, _ => by cases h
  | x :: xs, u :: us, h, k => .cons (k 0 x u rfl rfl) (paired_get (by simpa using h) fun j y v h1 h2 => k (j + 1) y v (by simpa using h1) (by simpa using h2))
theorem call_listS {X : Cx} (hcalm : X.calm = true) : CallR X (.type "list") (fun xs H Q => ∃ z, xs = [.str z] ∧ z.length ≤ sizeLine ∧ ∀ p, H p = none → Q (.ref p) (upd H p (.lst (signV z)))) := by
  intro pins s σ H xs us Q I r h
  obtain ⟨z, rfl, hz, q⟩ := h
  obtain ⟨u, rfl, t, rfl⟩ := vals1 r
  refine call_list_str (I.ok.hd hcalm) z t (hn := hz) fun h' tk acc' c' hk hS' hacc => ?_
  have hl : (signV z).length = z.length := by
    unfold signV
    rw [List.length_map, Array.length_toList]
    rfl
  have hv : Vals (signV z) acc'.toList := by
    refine paired_get (R := RelV) (by rw [hl, Array.length_toList, hacc.1]; rfl) fun j x u h1 h2 => ?_
    obtain ⟨c, t', hc, rfl⟩ := hacc.2 j u (by rw [← Array.getElem?_toList]; exact h2)
    unfold signV at h1
    rw [List.getElem?_map, Array.getElem?_toList, hc] at h1
    cases (show some (V.str ⟨#[c]⟩) = some x from h1)
    exact ⟨t', rfl⟩
  exact ⟨.ref s.heap.objs.size, upd H s.heap.objs.size (.lst (signV z)), I.laid (t' := tk) hk (Nat.le_refl _)
    (show ObjOk X.prog X.w _ _ _ (.lst (signV z)) from ⟨by rw [hl]; exact hz, acc'.toList, c', hv, by rw [Array.toArray_toList]; exact hS'⟩), rfl, q _ (I.hok.fresh (Nat.le_refl _))⟩
/-! ### the program's judges, on data -/
def isIntD : PyData → Bool
  | .int i => decide ((if i < 0 then -i else i) < 10 ^ Int.toNat 60)
  | _ => false
def lowZ (c : Nat) : Bool := (!decide ([c] < [97])) && (!decide ([122] < [c]))
def isWordS (x : Str) : Bool := (decide (1 ≤ x.length) && decide (x.length ≤ 8)) && x.cps.toList.all lowZ
def isWordD : PyData → Bool
  | .str x => isWordS x
  | _ => false
def isArityD : PyData → Bool
  | .int i => isIntD (.int i) && (decide (0 ≤ i) && decide (i ≤ 3))
  | _ => false
def isLeafD (d : PyData) : Bool := ([.str "_", .str "#"] : List PyData).any fun z => PyData.eqv z d
def isNodeD : PyData → Bool
  | .tuple [s, m] => if isLeafD s then (isArityD m && PyData.eqv m (.int 0)) else (isWordD s && isArityD m)
  | _ => false
end Fn

set_option Elab.async false
set_option maxRecDepth 100000
set_option maxHeartbeats 4000000
/-! A dict with any keys, told by its pairs of values: read by len, isinstance, walks; a key of another kind put into a dict of texts. -/
namespace Fn
open PySem PySem.Spec PyProof.Rows L2
def EntV (kvs : List (V × V)) (es : Array DictEntry) : Prop := es.size = kvs.length ∧ ∀ (i : Nat) (k v : V), kvs[i]? = some (k, v) → ∃ en, es[i]? = some en ∧ RelV k en.key ∧ RelV v en.val
def MxO (d : Addr) (kvs : List (V × V)) : HO := .ext fun h => (d == sysModules) = false ∧ kvs.length ≤ sizeLine ∧ ∃ es ep, h.DictRaw d es ep ∧ EntV kvs es
inductive DM (d : Addr) : HO → List (V × V) → Prop
  | mx (kvs : List (V × V)) : DM d (MxO d kvs) kvs
  | dk (ks : List (Key × V)) : DM d (.dK ks) (ks.map fun p => (kV p.1, p.2))
theorem DM.mut {d : Addr} {u : HO} {kvs : List (V × V)} (D : DM d u kvs) : Mut (some u) := by
  cases D <;> exact True.intro
theorem EntV.of_kv {P : Program} {w : World} {ks : List (Key × V)} {vs : List (Key × Value)} {es : Array DictEntry} (kv : KV ks vs) (hz : es.size = vs.length)
    (he : ∀ i (hi : i < es.size) k v, vs[i]? = some (k, v) → (mixKind P w).is k es[i].key = true ∧ es[i].val = v) : EntV (ks.map fun p => (kV p.1, p.2)) es := by
  refine ⟨by rw [List.length_map, hz]; exact (Paired.length kv).symm, fun i k v e => ?_⟩
  rw [List.getElem?_map] at e
  cases hk : ks[i]? with
  | none => rw [hk] at e; cases e
  | some p =>
    obtain ⟨kk, x⟩ := p
    rw [hk] at e
    cases (show some (kV kk, x) = some (k, v) from e)
    obtain ⟨u, hu, ru⟩ := kv_get kv hk
    have hi : i < es.size := by
      rw [hz]
      exact (List.getElem?_eq_some_iff.mp hu).1
    obtain ⟨h1, h2⟩ := he i hi _ _ hu
    exact ⟨es[i], Array.getElem?_eq_getElem hi, relV_key (show keyIs kk _ = true from h1), by rw [h2]; exact ru⟩
theorem DM.raw {P : Program} {w : World} {H : Hp} {h : Heap} {d : Addr} {u : HO} {kvs : List (V × V)} (D : DM d u kvs) (x : ObjOk P w H h d u) :
    (d == sysModules) = false ∧ kvs.length ≤ sizeLine ∧ ∃ es ep, h.DictRaw d es ep ∧ EntV kvs es := by
  cases D with
  | mx => exact x.1
  | dk ks =>
    obtain ⟨z, hd, vs, kv, dd⟩ := x
    obtain ⟨es, ep, r, hz, he⟩ := dd.raw
    exact ⟨hd, by rw [List.length_map]; exact z, es, ep, r, EntV.of_kv kv hz he⟩
section
variable {X : Cx} {pins : List (Addr × Obj)} {σ : L2.St} {H : Hp} {s : Shared} {d : Addr} {o : Obj} {u : HO} {kvs : List (V × V)}
theorem frzM (I : Inv X pins σ H s) (h : H d = some (.frz o u)) (D : DM d u kvs) :
    (d == sysModules) = false ∧ kvs.length ≤ sizeLine ∧ ∃ es ep, o.data = .dict es ep ∧ s.heap.DictRaw d es ep ∧ EntV kvs es := by
  obtain ⟨h1, h2⟩ := I.hok d _ h
  obtain ⟨a, b, es, ep, r, e⟩ := D.raw h2
  obtain ⟨o', ho, hx, hd⟩ := id r
  rw [h1] at ho
  cases ho
  exact ⟨a, b, es, ep, hd, r, e⟩
end
def Mtk (d : Addr) (o : Obj) (u : HO) (kvs : List (V × V)) : It :=
  ⟨fun i H => H d = some (.frz o u) ∧ i < kvs.length, fun i H x H' => H' = H ∧ ∃ v, kvs[i]? = some (x, v), fun i H => H d = some (.frz o u) ∧ kvs.length ≤ i⟩
def Mtd (d : Addr) (o : Obj) (u : HO) (kvs : List (V × V)) : It :=
  ⟨fun i H => H d = some (.frz o u) ∧ i < kvs.length, fun i H x H' => H' = H ∧ ∃ k, kvs[i]? = some (k, x), fun i H => H d = some (.frz o u) ∧ kvs.length ≤ i⟩
def Mti (d : Addr) (o : Obj) (u : HO) (kvs : List (V × V)) : It :=
  ⟨fun i H => H d = some (.frz o u) ∧ i < kvs.length, fun i H x H' => ∃ T k v, kvs[i]? = some (k, v) ∧ x = .ref T ∧ H T = none ∧ H' = upd H T (.tup [k, v]), fun i H => H d = some (.frz o u) ∧ kvs.length ≤ i⟩
section
variable {P : Program} {w : World} {K : PySem.W.Frag} {tg : Expr} {d : Addr} {o : Obj} {es : Array DictEntry} {ep : Nat} {u : HO} {kvs : List (V × V)}
theorem turn_keysM (D : DM d u kvs) (it : Addr) (hod : o.data = .dict es ep) : Turn P w K tg (Mtk d o u kvs) [it] it (fun i h => h.IsKeyIter it d i es.size ep) where
  mem := by simp
  obj := fun i h st b hb => by
    have e : b = it := by simpa using hb
    subst e
    obtain ⟨oi, e, c, dd⟩ := st
    exact ⟨oi, e, fun v z => by rw [dd] at z; cases z⟩
  keep := fun i h h' st k => st.at fun oi e => k it (by simp) oi e
  item := by
    intro X hP hw hK hc i pins s σ H E I hf st hg
    subst hP hw hK
    obtain ⟨hd, hi⟩ := hg
    obtain ⟨f0, f1, f2, f3, f4, f5⟩ := hf it (by simp)
    obtain ⟨hs, hz, es', ep', hdt, hr, hsz, ent⟩ := frzM I hd D
    obtain ⟨rfl, rfl⟩ := dict_ep hod hdt
    obtain ⟨⟨k, v⟩, hkv⟩ : ∃ p, kvs[i]? = some p := ⟨kvs[i], List.getElem?_eq_getElem hi⟩
    obtain ⟨en, hen, rk, rv⟩ := ent i k v hkv
    have hi' : i < es'.size := by omega
    refine wpAny_pyNext_keys_item_raw st hr hi' fun h' st' sb => ?_
    have I1 : Inv X pins σ H { s with heap := h' } := I.turned (t' := s.toks) (fun b ob hb e => (sb.2 b hb).trans e) f0 f1 f3 f4 f5
    obtain ⟨oi, e, c, dd⟩ := id st'
    have een : es'[i] = en := by
      rw [Array.getElem?_eq_getElem hi'] at hen
      exact Option.some.inj hen
    rw [een]
    exact ⟨en.key, rfl, go_of (s := { s with heap := h' }) e c dd (by decide) ⟨k, H, I1, rk, ⟨rfl, v, hkv⟩, st', fun b hb => (hf b hb).1⟩⟩
  done := by
    intro X hP hw hK hc i pins s σ H E I hf st hg
    subst hP hw hK
    obtain ⟨hd, hi⟩ := hg
    obtain ⟨f0, f1, f2, f3, f4, f5⟩ := hf it (by simp)
    obtain ⟨hs, hz, es', ep', hdt, hr, hsz, ent⟩ := frzM I hd D
    obtain ⟨rfl, rfl⟩ := dict_ep hod hdt
    exact wpAny_pyNext_keys_end_raw (I.ok.hd hc) st hr (by omega) fun h' eb => ⟨rfl, I.turned (t' := s.toks) (fun b ob hb e => eb b ob hb e) f0 f1 f3 f4 f5⟩
  self := fun A i s Q E st h => wpAny_pyIter_keyiter st h
theorem turn_valsM (D : DM d u kvs) (it : Addr) (hod : o.data = .dict es ep) : Turn P w K tg (Mtd d o u kvs) [it] it (fun i h => h.IsValIter it d i es.size ep) where
  mem := by simp
  obj := fun i h st b hb => by
    have e : b = it := by simpa using hb
    subst e
    obtain ⟨oi, e, c, dd⟩ := st
    exact ⟨oi, e, fun v z => by rw [dd] at z; cases z⟩
  keep := fun i h h' st k => st.at fun oi e => k it (by simp) oi e
  item := by
    intro X hP hw hK hc i pins s σ H E I hf st hg
    subst hP hw hK
    obtain ⟨hd, hi⟩ := hg
    obtain ⟨f0, f1, f2, f3, f4, f5⟩ := hf it (by simp)
    obtain ⟨hs, hz, es', ep', hdt, hr, hsz, ent⟩ := frzM I hd D
    obtain ⟨rfl, rfl⟩ := dict_ep hod hdt
    obtain ⟨⟨k, v⟩, hkv⟩ : ∃ p, kvs[i]? = some p := ⟨kvs[i], List.getElem?_eq_getElem hi⟩
    obtain ⟨en, hen, rk, rv⟩ := ent i k v hkv
    have hi' : i < es'.size := by omega
    refine wpAny_pyNext_values_item_raw st hr hi' fun h' st' sb => ?_
    have I1 : Inv X pins σ H { s with heap := h' } := I.turned (t' := s.toks) (fun b ob hb e => (sb.2 b hb).trans e) f0 f1 f3 f4 f5
    obtain ⟨oi, e, c, dd⟩ := id st'
    have een : es'[i] = en := by
      rw [Array.getElem?_eq_getElem hi'] at hen
      exact Option.some.inj hen
    rw [een]
    exact ⟨en.val, rfl, go_of (s := { s with heap := h' }) e c dd (by decide) ⟨v, H, I1, rv, ⟨rfl, k, hkv⟩, st', fun b hb => (hf b hb).1⟩⟩
  done := by
    intro X hP hw hK hc i pins s σ H E I hf st hg
    subst hP hw hK
    obtain ⟨hd, hi⟩ := hg
    obtain ⟨f0, f1, f2, f3, f4, f5⟩ := hf it (by simp)
    obtain ⟨hs, hz, es', ep', hdt, hr, hsz, ent⟩ := frzM I hd D
    obtain ⟨rfl, rfl⟩ := dict_ep hod hdt
    exact wpAny_pyNext_values_end_raw (I.ok.hd hc) st hr (by omega) fun h' eb => ⟨rfl, I.turned (t' := s.toks) (fun b ob hb e => eb b ob hb e) f0 f1 f3 f4 f5⟩
  self := fun A i s Q E st h => wpAny_pyIter_valiter st h
theorem turn_itemsM (D : DM d u kvs) {elts : List Expr} {kk : Nat} {tpos : Pos} (it : Addr) (hod : o.data = .dict es ep) :
    Turn P w K (.Tuple elts kk tpos) (Mti d o u kvs) [it] it (fun i h => ∃ ok ov, IsItemIter h it d i es.size ep ok ov) where
  mem := by simp
  obj := fun i h st b hb => by
    have e : b = it := by simpa using hb
    subst e
    obtain ⟨ok, ov, e⟩ := st
    exact ⟨_, e, fun v z => nomatch z⟩
  keep := fun i h h' st k => let ⟨ok, ov, e⟩ := st; ⟨ok, ov, k it (by simp) _ e⟩
  item := by
    intro X hP hw hK hc i pins s σ H E I hf st hg
    subst hP hw hK
    obtain ⟨hd, hi⟩ := hg
    obtain ⟨hs, hz, es', ep', hdt, hr, hsz, ent⟩ := frzM I hd D
    obtain ⟨rfl, rfl⟩ := dict_ep hod hdt
    obtain ⟨⟨k, v⟩, hkv⟩ : ∃ p, kvs[i]? = some p := ⟨kvs[i], List.getElem?_eq_getElem hi⟩
    obtain ⟨en, hen, rk, rv⟩ := ent i k v hkv
    have hi' : i < es'.size := by omega
    have een : es'[i] = en := by
      rw [Array.getElem?_eq_getElem hi'] at hen
      exact Option.some.inj hen
    obtain ⟨ok, ov, he⟩ := st
    have hlt : it < s.heap.objs.size := Heap.lt_size he
    refine wpAny_pyNext_items_item_raw he hr hi' fun h' ho hT hz hk => ?_
    rw [een] at ho hT
    refine ⟨_, rfl, wpAny_letOwnedTupleGo_items (s := { s with heap := h' }) ho fun h'' he' sb => ?_⟩
    have hT2 : h''.get? s.heap.objs.size = some { cls := .type "tuple", data := .seq #[en.key, en.val] } := (sb.2 _ (Nat.ne_of_gt hlt)).trans hT
    have new : ObjOk X.prog X.w (upd H s.heap.objs.size (.tup [k, v])) h'' s.heap.objs.size (.tup [k, v]) :=
      ⟨by show 2 ≤ sizeLine; decide, [en.key, en.val], .cons rk (.cons rv .nil), ⟨_, hT2, rfl, _, rfl⟩⟩
    have I1 : Inv X pins σ (upd H s.heap.objs.size (.tup [k, v])) { s with heap := h'' } :=
      I.turnedNew (t' := s.toks) (ch := [it]) (fun b ob hb e => (sb.2 b (by simpa using hb)).trans (hk b ob (by simpa using hb) e)) hf (Nat.le_refl _) new
    refine ⟨.ref s.heap.objs.size, _, I1, rfl, ⟨_, k, v, hkv, rfl, I.hok.fresh (Nat.le_refl _), rfl⟩, ⟨en.key, en.val, he'⟩, fun b hb => ?_⟩
    have e : b = it := by simpa using hb
    rw [e, upd_ne (Nat.ne_of_lt hlt)]
    exact (hf it (by simp)).1
  done := by
    intro X hP hw hK hc i pins s σ H E I hf st hg
    subst hP hw hK
    obtain ⟨hd, hi⟩ := hg
    obtain ⟨f0, f1, f2, f3, f4, f5⟩ := hf it (by simp)
    obtain ⟨hs, hz, es', ep', hdt, hr, hsz, ent⟩ := frzM I hd D
    obtain ⟨rfl, rfl⟩ := dict_ep hod hdt
    obtain ⟨ok, ov, he⟩ := st
    exact wpAny_pyNext_items_end_raw (I.ok.hd hc) he hr (by omega) fun h' eb => ⟨rfl, I.turned (t' := s.toks) (fun b ob hb e => eb b ob hb e) f0 f1 f3 f4 f5⟩
  self := fun A i s Q E st h => let ⟨_, _, e⟩ := st; PySem.W.kcp_self e h
end
section
variable {d : Addr} {o : Obj} {u : HO} {kvs : List (V × V)}
theorem walk_keysX : Walk (Mtk d o u kvs) kvs.length (fun H => H d = some (.frz o u)) (fun i H x H' => H' = H ∧ ∃ v, kvs[i]? = some (x, v)) :=
  ⟨fun _ _ hi q => ⟨q, hi⟩, fun _ q => ⟨q, Nat.le_refl _⟩, fun _ _ _ _ _ _ y => y⟩
theorem walk_valsX : Walk (Mtd d o u kvs) kvs.length (fun H => H d = some (.frz o u)) (fun i H x H' => H' = H ∧ ∃ k, kvs[i]? = some (k, x)) :=
  ⟨fun _ _ hi q => ⟨q, hi⟩, fun _ q => ⟨q, Nat.le_refl _⟩, fun _ _ _ _ _ _ y => y⟩
theorem walk_itemsX : Walk (Mti d o u kvs) kvs.length (fun H => H d = some (.frz o u)) (fun i H x H' => ∃ T k v, kvs[i]? = some (k, v) ∧ x = .ref T ∧ H T = none ∧ H' = upd H T (.tup [k, v])) :=
  ⟨fun _ _ hi q => ⟨q, hi⟩, fun _ q => ⟨q, Nat.le_refl _⟩, fun _ _ _ _ _ _ y => y⟩
end
def iKeysX (td : TE) : TI := fun σ H R => td σ H fun x H1 => ∃ d o u kvs, x = .ref d ∧ H1 d = some (.frz o u) ∧ DM d u kvs ∧ R (Mtk d o u kvs) H1
def iValsX (td : TE) : TI := fun σ H R => td σ H fun x H1 => ∃ d o u kvs, x = .ref d ∧ H1 d = some (.frz o u) ∧ DM d u kvs ∧ R (Mtd d o u kvs) H1
def iItemsX (td : TE) : TI := fun σ H R => td σ H fun x H1 => ∃ d o u kvs, x = .ref d ∧ H1 d = some (.frz o u) ∧ DM d u kvs ∧ R (Mti d o u kvs) H1
section
variable {X : Cx} {tg e : Expr} {td : TE} {apos cpos : Pos}
theorem pi_keysX (he : PE X e td) : PI X tg e (iKeysX td) := by
  refine ⟨fun pins s σ H R I h => ?_⟩
  refine thn (he.run pins s σ H _ I h) fun v s1 ⟨x, H1, I1, rx, d, o, u, kvs, ex, hd, D, q⟩ => ?_
  subst ex
  obtain rfl : v = Value.ref d := rx
  obtain ⟨hs, hz, es, ep, hdt, hr, ent⟩ := frzM I1 hd D
  exact wpAny_pyIter_dict_raw hs hr (pi_one (tk := s1.toks) I1 _ (turn_keysM D _ hdt) ⟨_, Heap.get?_push_size _ rfl, rfl, rfl⟩ q)
theorem pi_valuesX (he : PE X e td) (hbase : attributeBase e "values" X.env (eval e X.env) = eval e X.env := by rfl) (hline : (apos.endLine == cpos.line) = true := by rfl) : PI X tg (.Call (.Attribute e "values" apos) [] [] cpos) (iValsX td) := by
  refine ⟨fun pins s σ H R I h => ?_⟩
  refine wpAny_Call_method (T := "dict") (id := "dict.values") hbase rfl hline F.plainAttrs_dict F.slot_dict_values F.type_dict_values (thn (he.run pins s σ H _ I h) fun v s1 ⟨x, H1, I1, rx, d, o, u, kvs, ex, hd, D, q⟩ => ?_)
  subst ex
  obtain rfl : v = Value.ref d := rx
  obtain ⟨hs, hz, es, ep, hdt, hr, ent⟩ := frzM I1 hd D
  refine ⟨hr.typeIs, fun b e => ?_, ?_⟩
  · cases e
    obtain ⟨ob, ho, hc, _⟩ := hr
    exact ⟨ob, ho, hc.2.1⟩
  have I2 : Inv X pins σ H1 { s1 with heap := s1.heap.push { cls := .type "dict_values", data := .fields #[.ref d] } } := I1.kept (t' := s1.toks) fun b ob q => Heap.get?_push_of_some _ q
  have fin : wpAny (model X.prog X.w) X.A (pyIter (.ref s1.heap.objs.size)) (PIE X pins σ tg R) X.xe { s1 with heap := s1.heap.push { cls := .type "dict_values", data := .fields #[.ref d] } } :=
    wpAny_pyIter_values_raw (d := d) (es := es) (ep := ep) ⟨_, Heap.get?_push_size _ rfl, rfl, rfl⟩ (hr.push _) (pi_one (tk := s1.toks) I2 _ (turn_valsM D _ hdt) ⟨_, Heap.get?_push_size _ rfl, rfl, rfl⟩ q)
  show wpAny _ _ (callWith cpos (.builtin "dict.values") [.ref d] [] []) _ X.xe s1
  exact method_meetsIn F.slot_dict_values F.entry_dict_values rfl (PySem.evalArgs_none ⟨rfl, hr.typeIs, F.args_dict_values_1 _, _, meets_dict_values_raw d hs, ⟨es, ep, hr⟩, fin⟩)
theorem pi_itemsX {elts : List Expr} {kk : Nat} {tpos : Pos} (he : PE X e td) (hbase : attributeBase e "items" X.env (eval e X.env) = eval e X.env := by rfl) (hline : (apos.endLine == cpos.line) = true := by rfl) :
    PI X (.Tuple elts kk tpos) (.Call (.Attribute e "items" apos) [] [] cpos) (iItemsX td) := by
  refine ⟨fun pins s σ H R I h => ?_⟩
  refine wpAny_Call_method (T := "dict") (id := "dict.items") hbase rfl hline F.plainAttrs_dict F.slot_dict_items F.type_dict_items (thn (he.run pins s σ H _ I h) fun v s1 ⟨x, H1, I1, rx, d, o, u, kvs, ex, hd, D, q⟩ => ?_)
  subst ex
  obtain rfl : v = Value.ref d := rx
  obtain ⟨hs, hz, es, ep, hdt, hr, ent⟩ := frzM I1 hd D
  refine ⟨hr.typeIs, fun b e => ?_, ?_⟩
  · cases e
    obtain ⟨ob, ho, hc, _⟩ := hr
    exact ⟨ob, ho, hc.2.1⟩
  have I2 : Inv X pins σ H1 { s1 with heap := s1.heap.push { cls := .type "dict_items", data := .fields #[.ref d] } } := I1.kept (t' := s1.toks) fun b ob q => Heap.get?_push_of_some _ q
  have fin : wpAny (model X.prog X.w) X.A (pyIter (.ref s1.heap.objs.size)) (PIE X pins σ (.Tuple elts kk tpos) R) X.xe { s1 with heap := s1.heap.push { cls := .type "dict_items", data := .fields #[.ref d] } } :=
    wpAny_pyIter_items_raw (d := d) (es := es) (ep := ep) ⟨_, Heap.get?_push_size _ rfl, rfl, rfl⟩ (hr.push _) (pi_one (tk := s1.toks) I2 _ (turn_itemsM D _ hdt) ⟨.none, .none, Heap.get?_push_size _ rfl⟩ q)
  show wpAny _ _ (callWith cpos (.builtin "dict.items") [.ref d] [] []) _ X.xe s1
  exact method_meetsIn F.slot_dict_items F.entry_dict_items rfl (PySem.evalArgs_none ⟨rfl, hr.typeIs, F.args_dict_items_1 _, _, meets_dict_items_raw d hs, ⟨es, ep, hr⟩, fin⟩)
/-- isinstance(x, c) where x may be a dict with any keys -/
def rIsiM (K : PySem.W.Frag) : List V → Hp → VK → Prop := fun xs H Q => rIsi K xs H Q ∨
  ∃ (d : Addr) (w : HO) (kvs : List (V × V)) (c : V) (u : Value) (b : Bool), xs = [.ref d, c] ∧ ClsV c u ∧ H d = some w ∧ DM d w kvs ∧ PySem.W.kitOne K (.type "dict") u = some b ∧ Q (.bl b) H
theorem call_isiM {K : PySem.W.Frag} (hK : X.K = K := by rfl) : CallR X (.builtin "isinstance") (rIsiM K) := by
  subst hK
  intro pins s σ H xs us Q I r h
  rcases h with h | ⟨d, w, kvs, c, u, b, rfl, k, hd, D, e, q⟩
  · exact call_isi pins s σ H xs us Q I r h
  · obtain ⟨u1, u2, rfl, r1, r2⟩ := vals2 r
    have e2 := k.eq r2
    subst e2
    cases (show u1 = Value.ref d from r1)
    obtain ⟨hs, hz, es, ep, ⟨o, ho, hc, hdt⟩, ent⟩ := D.raw (I.hok d _ hd)
    exact PySem.W.kia_one PySem.W.kitx_dict I.kIn ⟨o, ho, hc.1⟩ e (fun z => nomatch z) fun tk => ⟨.bl b, H, I.tok tk, rfl, q⟩
def rLenM : List V → Hp → VK → Prop := fun xs H Q => ∃ (d : Addr) (w : HO) (kvs : List (V × V)), xs = [.ref d] ∧ H d = some w ∧ DM d w kvs ∧ Q (.int kvs.length) H
theorem call_lenM : CallR X (.builtin "len") rLenM := by
  intro pins s σ H xs us Q I r h
  obtain ⟨d, w, kvs, rfl, hd, D, q⟩ := h
  obtain rfl := Vals.ref1 r
  obtain ⟨hs, hz, es, ep, hr, hsz, ent⟩ := D.raw (I.hok d _ hd)
  have hl := line63
  refine call_len_slot (n := (es.size : Int)) hr.typeIs F.slot_dict_len (fun Q' hq => call_len_raw hs hr hq) (by omega) (by omega) ?_
  exact ⟨.int kvs.length, H, I.tok _, ⟨_, by rw [hsz]⟩, q⟩
end
theorem pg_tup_k {X : Cx} {K : PySem.W.Frag} {pos : Pos} {es : List Expr} {k : Nat} {t : TGs} {n : Nat} (hc : X.calm = true) (h : PGs X es t)
    (hn : (assignEach es X.env).length = n := by rfl) (hst : (assignEach es X.env).findIdx? (·.1) = none := by rfl) (hK : X.K = K := by rfl) : PG X (.Tuple es k pos) (gTup K n t) := by
  subst hK
  exact pg_tup hc h hn hst
/-! ### list(d.values()) -/
def tListVals (te : TE) : TE := fun σ H Q => te σ H fun x H1 => ∃ (d : Addr) (w : HO) (kvs : List (V × V)), x = .ref d ∧ H1 d = some w ∧ DM d w kvs ∧
  ∀ p, H1 p = none → Q (.ref p) (upd H1 p (.lst (kvs.map Prod.snd)))
theorem pe_listVals {X : Cx} {e : Expr} {te : TE} {p apos cpos pos : Pos} (hc : X.calm = true) (he : PE X e te) (hg : Gl X "list") (hm : X.mg "list" = none) (hv : bootBuiltins "list" = some (.type "list")) (hbase : attributeBase e "values" X.env (eval e X.env) = eval e X.env := by rfl) (hline : (apos.endLine == cpos.line) = true := by rfl)
    (hs : starEach [.Call (.Attribute e "values" apos) [] [] cpos] X.env = (false, eval (.Call (.Attribute e "values" apos) [] [] cpos) X.env) :: starEach [] X.env := by rfl) :
    PE X (.Call (.Name "list" p) [.Call (.Attribute e "values" apos) [] [] cpos] [] pos) (tListVals te) := by
  refine ⟨fun pins s σ H Q I hq => ?_⟩
  refine wpAny_Call_Name_kw (ld_blt I hg hm hv ?_)
  refine PyProof.Rows.callWith_type1 ?_ hs rfl
  rw [hs]
  show wpAny _ _ (spliced ((false, eval (.Call (.Attribute e "values" apos) [] [] cpos) X.env) :: backTo pos (starEach [] X.env))) _ _ s
  refine Calls.spliced_cons ?_
  refine wpAny_Call_method (T := "dict") (id := "dict.values") hbase rfl hline F.plainAttrs_dict F.slot_dict_values F.type_dict_values (thn (he.run pins s σ H _ I hq) fun u s1 ⟨x, H1, I1, rx, d, w, kvs, ex, hd, D, q⟩ => ?_)
  subst ex
  obtain rfl : u = Value.ref d := rx
  obtain ⟨hs0, hz, es, ep, hr, hsz, ent⟩ := D.raw (I1.hok d _ hd)
  have I2 : Inv X pins σ H1 { s1 with heap := s1.heap.push { cls := .type "dict_values", data := .fields #[.ref d] } } := I1.kept (t' := s1.toks) fun b ob q => Heap.get?_push_of_some _ q
  refine ⟨hr.typeIs, fun b e => ?_, ?_⟩
  · cases e
    obtain ⟨ob, ho, hc, _⟩ := hr
    exact ⟨ob, ho, hc.2.1⟩
  show wpAny _ _ (callWith cpos (.builtin "dict.values") [.ref d] [] []) _ X.xe s1
  refine method_meetsIn F.slot_dict_values F.entry_dict_values rfl (PySem.evalArgs_none ⟨rfl, hr.typeIs, F.args_dict_values_1 _, _, meets_dict_values_raw d hs0, ⟨es, ep, hr⟩, ?_⟩)
  refine Calls.spliced_nil ?_
  refine PySem.W.kdl_call (KdlSrc.rawValues (es := es) (ep := ep)) (I1.ok.hd hc) ⟨⟨_, Heap.get?_push_size _ rfl, rfl, rfl⟩, hr.push _⟩ (by rw [hsz]; exact hz) fun h' tk acc' c' hk hS hacc => ?_
  have hv : Vals (kvs.map Prod.snd) acc'.toList := by
    refine paired_get (R := RelV) (by rw [List.length_map, Array.length_toList (xs := acc'), hacc.1, hsz]) fun j x u h1 h2 => ?_
    obtain ⟨hi, rfl⟩ := hacc.2 j u (by rw [← Array.getElem?_toList]; exact h2)
    rw [List.getElem?_map] at h1
    cases hkv : kvs[j]? with
    | none => rw [hkv] at h1; cases h1
    | some pr =>
      obtain ⟨k, v⟩ := pr
      rw [hkv] at h1
      cases (show some v = some x from h1)
      obtain ⟨en, hen, rk, rv⟩ := ent j k _ hkv
      rw [Array.getElem?_eq_getElem hi] at hen
      cases hen
      exact rv
  exact ⟨.ref _, upd H1 _ (.lst (kvs.map Prod.snd)), I2.laid (t' := tk) hk (Nat.le_refl _)
    (show ObjOk X.prog X.w _ _ _ (.lst (kvs.map Prod.snd)) from ⟨by rw [List.length_map]; exact hz, acc'.toList, c', hv, by rw [Array.toArray_toList]; exact hS⟩), rfl, q _ (I2.hok.fresh (Nat.le_refl _))⟩
/-! ### a key of another kind put into a dict of texts -/
section
variable {prog : Program} {w : World} {A : Around} {E : Value → Shared → Prop} {s : Shared}
theorem find_absent {d : Addr} {o : Obj} {es : Array DictEntry} {ep : Nat} {key : Value} {k : NestedKey} {hsh : Int} {Q : Option Nat → Shared → Prop} (hu : A.units + 0 < cLine) (ho : s.heap.get? d = some o) (hd : o.data = .dict es ep)
    (hs : ∀ e ∈ es, ∃ x t, e.key = .str x t) (hkey : NestedIs s.heap k key) (hk : (k = .none) ∨ ∃ ks, k = .tup ks) (hdep : k.depth ≤ 8) (hq : Q none s) :
    wpAny (model prog w) A (dictFind d key hsh) Q E s := by
  have hat : ∀ (x : Nat) (e : DictEntry), es[x]? = some e → ∀ Q' : Bool → Shared → Prop, Q' false s → wpAny (model prog w) A (eqBool e.key key) Q' E s := by
    intro x e he Q' hq'
    obtain ⟨y, t, ek⟩ := hs e (Array.mem_of_getElem? he)
    rw [ek]
    refine eqAt_key (.text y) k A s _ _ (.text y t) hkey (by simp only [NestedKey.depth]; omega) _ _ _ _ ?_
    rcases hk with rfl | ⟨ks, rfl⟩ <;> exact hq'
  have hst : ∀ v ∈ (placesWithHash es.size (fun i => es[i]?.map (·.hash)) hsh).filterMap (fun i => es[i]?.map (·.key)), ∃ x t, v = .str x t := by
    intro v hv
    obtain ⟨i, _, hi⟩ := List.mem_filterMap.mp hv
    cases hei : es[i]? with
    | none => rw [hei] at hi; cases hi
    | some e =>
      rw [hei] at hi
      obtain rfl : e.key = v := by simpa using hi
      exact hs e (Array.mem_of_getElem? hei)
  unfold dictFind
  try with_reducible refine wpAny_holding ?_
  refine wpAny_bind (wpAny_dictEntries ho hd ?_)
  have mem : ∀ x ∈ placesWithHash es.size (fun i => es[i]?.map (·.hash)) hsh, ∃ e, es[x]? = some e := by
    intro x hx
    rw [placesWithHash] at hx
    obtain ⟨h1, _⟩ := List.mem_filter.mp hx
    exact ⟨es[x]'(List.mem_range.mp h1), Array.getElem?_eq_getElem _⟩
  cases hkey with
  | none =>
    dsimp only
    rw [if_pos (by
      rw [List.all_cons]
      show (true && _) = true
      rw [Bool.true_and, List.all_eq_true]
      intro v hv
      obtain ⟨x, t, rfl⟩ := hst v hv
      rfl)]
    unfold dictWalkPlain
    refine wpAny_bind ?_
    refine wpAny_forIn_list _ (fun rest b s' => s' = s ∧ b = (none, ()) ∧ ∀ x ∈ rest, ∃ e, es[x]? = some e) _ ?_ ?_ _ _ ⟨rfl, rfl, mem⟩
    · rintro x rest b s' ⟨rfl, rfl, hm⟩
      obtain ⟨e, he⟩ := hm x List.mem_cons_self
      have hm' : ∀ y ∈ rest, ∃ e, es[y]? = some e := fun y hy => hm y (List.mem_cons_of_mem _ hy)
      rw [he]
      dsimp only
      split
      · refine wpAny_bind (wpAny_dictEpoch ho hd (wpAny_bind (hat x e he _ (wpAny_bind (wpAny_dictEpoch ho hd ?_)))))
        show wpAny _ _ (if (ep != ep) = true then _ else _) _ E _
        rw [if_neg (by simp)]
        exact wpAny_bind (wpAny_rule (wpAny_pure ⟨rfl, rfl, hm'⟩))
      · exact wpAny_pure ⟨rfl, rfl, hm'⟩
    · rintro b s' ⟨rfl, rfl, _⟩
      exact wpAny_pure hq
  | bool e => rcases hk with h | ⟨ks, h⟩ <;> cases h
  | int i t => rcases hk with h | ⟨ks, h⟩ <;> cases h
  | text x t => rcases hk with h | ⟨ks, h⟩ <;> cases h
  | @tup a ob vs n ks hg hc hdd hall =>
    have hkey : NestedIs s.heap (.tup ks) (.ref a) := .tup hg hc hdd hall
    dsimp only
    rw [if_neg (show ¬ ((Value.ref a :: (placesWithHash es.size (fun i => es[i]?.map (·.hash)) hsh).filterMap (fun i => es[i]?.map (·.key))).all carriedByValue) = true by simp [carriedByValue])]
    rw [if_neg (by
      rw [← Array.any_toList, List.any_eq_true]
      rintro ⟨e, hin, hc⟩
      obtain ⟨x, t, ek⟩ := hs e (Array.mem_toList_iff.mp hin)
      rw [ek] at hc
      simp at hc)]
    rw [if_neg (by
      intro hc
      have hc' := eq_of_beq hc
      have : Value.ref a ∈ (placesWithHash es.size (fun i => es[i]?.map (·.hash)) hsh).filterMap (fun i => es[i]?.map (·.key)) := by rw [hc']; exact List.mem_singleton.mpr rfl
      obtain ⟨x, t, e⟩ := hst _ this
      cases e)]
    have quiet : ∀ Q' : Bool → Shared → Prop, Q' false s → wpAny (model prog w) A (tableMayTell (.ref a) ((placesWithHash es.size (fun i => es[i]?.map (·.hash)) hsh).filterMap (fun i => es[i]?.map (·.key)))) Q' E s := by
      intro Q' hq'
      unfold tableMayTell
      split
      · exact wpAny_pure hq'
      · refine wpAny_bind (quiet_key (.tup ks) _ 8 s hkey hdep A E _ ?_)
        simp only [Bool.not_true, Bool.false_eq_true, if_false]
        refine wpAny_bind ?_
        refine wpAny_forIn_list _ (fun rest r s' => s' = s ∧ r = (none, ()) ∧ ∀ v ∈ rest, ∃ x t, v = .str x t) _ ?_ ?_ _ _ ⟨rfl, rfl, hst⟩
        · rintro x rest r s' ⟨rfl, rfl, hr⟩
          obtain ⟨y, t, rfl⟩ := hr x List.mem_cons_self
          refine wpAny_bind (quiet_key (.text y) _ 8 s' (.text y t) (by simp [NestedKey.depth]) A E _ ?_)
          simp only [Bool.not_true, Bool.false_eq_true, if_false]
          exact wpAny_pure ⟨rfl, rfl, fun v hv => hr v (List.mem_cons_of_mem _ hv)⟩
        · rintro r s' ⟨rfl, rfl, _⟩
          exact wpAny_pure hq'
    refine wpAny_bind (quiet _ ?_)
    rw [if_neg (by simp)]
    refine wpAny_bind ?_
    refine wpAny_forIn_list _ (fun rest b s' => s' = s ∧ b = (none, none) ∧ ∀ x ∈ rest, ∃ e, es[x]? = some e) _ ?_ ?_ _ _ ⟨rfl, rfl, mem⟩
    · rintro x rest b s' ⟨rfl, rfl, hm⟩
      obtain ⟨e, he⟩ := hm x List.mem_cons_self
      have hm' : ∀ y ∈ rest, ∃ e, es[y]? = some e := fun y hy => hm y (List.mem_cons_of_mem _ hy)
      rw [he]
      dsimp only
      split
      · refine wpAny_bind (wpAny_dictEpoch ho hd (wpAny_bind (hat x e he _ (wpAny_bind (wpAny_dictEpoch ho hd ?_)))))
        show wpAny _ _ (if (ep != ep) = true then _ else _) _ E _
        rw [if_neg (by simp)]
        simp only [Bool.false_eq_true, if_false]
        refine wpAny_bind (wpAny_rule ?_)
        first | rw [if_neg (by simp)] | skip
        first
          | exact wpAny_pure ⟨rfl, rfl, hm'⟩
          | exact wpAny_bind (wpAny_pure (wpAny_pure ⟨rfl, rfl, hm'⟩))
      · exact wpAny_pure ⟨rfl, rfl, hm'⟩
    · rintro b s' ⟨rfl, rfl, _⟩
      exact wpAny_pure hq
theorem setItem_absent {d : Addr} {o : Obj} {es : Array DictEntry} {ep : Nat} {key v : Value} {k : NestedKey} {Q : Unit → Shared → Prop} (hu : A.units + 16 < cLine) (ho : s.heap.get? d = some o) (hx : o.ExactDict) (hd : o.data = .dict es ep)
    (hs : ∀ e ∈ es, ∃ x t, e.key = .str x t) (hkey : NestedIs s.heap k key) (hk : (k = .none) ∨ ∃ ks, k = .tup ks) (hdep : k.depth ≤ 8) (hsz : es.size ≤ sizeLine)
    (hq : ∀ h' ep' tk, h'.DictRaw d (es.push ⟨k.hash w, key, v⟩) ep' → Heap.SameBut d s.heap h' → Q () { s with heap := h', toks := tk }) :
    wpAny (model prog w) A (setItem (.ref d) key v) Q E s := by
  have hT : s.TypeIs (.ref d) "dict" := ⟨o, ho, hx.1⟩
  unfold setItem
  try with_reducible refine wpAny_holding ?_
  refine wpAny_bind (wpAny_sequenceKey hT (by decide) ?_)
  refine wpAny_bind (wpAny_callSpecial?_slot (name := Str.ofString "__setitem__") hT slot_dict_setitem
    (wpAny_call_entry slot_dict_setitem hT entry_dict_setitem ?_ (args_dict_setitem _ _ _)))
  show wpAny _ _ (Builtin.Dict.notOrdered "__setitem__" ⟨[.ref d, key, v], []⟩ >>= _) _ _ s
  refine wpAny_bind (wpAny_notOrdered_dict hT ?_)
  show wpAny _ _ (dictSet d key v >>= _) _ _ s
  refine wpAny_bind ?_
  unfold dictSet
  try with_reducible refine wpAny_holding ?_
  have hu' : A.in1.units + k.depth < cLine := by show A.units + 1 + k.depth < cLine; omega
  refine wpAny_bind (pyHash_key k key _ s _ hkey hu' ?_)
  unfold dictSetHashed
  try with_reducible refine wpAny_holding ?_
  refine wpAny_bind (find_absent (s := { s with toks := s.toks + k.draws }) (by show A.units + 1 + 0 < cLine; omega) ho hd hs hkey hk hdep ?_)
  refine wpAny_bind (wpAny_rule (wpAny_updateDictKeys (hz := by omega) (s := { s with toks := s.toks + k.draws }) ho hd ?_))
  refine wpAny_pure ⟨.none, rfl, wpAny_pure (hq _ (ep + 1) _ ⟨_, Heap.get?_update_self _ ho (Obj.isFreed_of_dict (Obj.data_mapDictKeys hd _)), hx.mapDictKeys _, Obj.data_mapDictKeys hd _⟩ (Heap.SameBut.update ..))⟩
end
/-- d[y] = v: a text or int; or None, or a tuple of one text, into a dict of texts -/
def rSetM : TSet := fun o i v H Q => ∃ a, o = .ref a ∧ ((∃ H', DPut H a i v H' ∧ Q H') ∨
  ∃ kvs : List (Key × V), H a = some (.dK kvs) ∧ (∀ p ∈ kvs, ∃ x, p.1 = Sum.inr x) ∧ kvs.length < sizeLine ∧ (i = .non ∨ ∃ b x, i = .ref b ∧ H b = some (.tup [.str x])) ∧
    Q (upd H a (MxO a (kvs.map (fun p => (kV p.1, p.2)) ++ [(i, v)]))))
theorem EntV.push {kvs : List (V × V)} {es : Array DictEntry} (e : EntV kvs es) {k v : V} {en : DictEntry} (rk : RelV k en.key) (rv : RelV v en.val) : EntV (kvs ++ [(k, v)]) (es.push en) := by
  refine ⟨by rw [Array.size_push, List.length_append, e.1]; rfl, fun i k' v' h => ?_⟩
  rcases Nat.lt_or_ge i kvs.length with hi | hi
  · rw [List.getElem?_append_left hi] at h
    obtain ⟨en', h1, h2⟩ := e.2 i k' v' h
    have hi' : i < es.size := by rw [e.1]; exact hi
    refine ⟨en', ?_, h2⟩
    rw [Array.getElem?_push_lt hi', ← Array.getElem?_eq_getElem hi']
    exact h1
  · rw [List.getElem?_append_right hi] at h
    have hz : i - kvs.length = 0 := by
      rcases Nat.eq_zero_or_pos (i - kvs.length) with z | z
      · exact z
      · rw [List.getElem?_eq_none (by simp; omega)] at h
        cases h
    rw [hz] at h
    cases (show some (k, v) = some (k', v') from h)
    have hi' : i = es.size := by rw [e.1]; omega
    subst hi'
    exact ⟨en, Array.getElem?_push_size, rk, rv⟩
theorem set_mix {X : Cx} (hu : X.A.units + 65 < cLine) : PSet X rSetM := by
  intro pins s σ H o i v ov iv u Q I ro ri rv h
  obtain ⟨a, eo, h⟩ := h
  subst eo
  cases (show ov = Value.ref a from ro)
  rcases h with ⟨H', g, q⟩ | ⟨kvs, e, ht, hl, hi, q⟩
  · exact d_setItem (by omega) I g ri rv fun s' I' => ⟨H', I', q⟩
  · obtain ⟨hs, hz, es, ep, hr, ent⟩ := (DM.dk kvs).raw (I.hok a _ e)
    obtain ⟨ob, ho, hx, hd⟩ := id hr
    have hstr : ∀ en ∈ es, ∃ x t, en.key = .str x t := by
      intro en hen
      obtain ⟨j, hj, rfl⟩ := Array.mem_iff_getElem.mp hen
      have hj' : j < kvs.length := by
        have := ent.1
        rw [List.length_map] at this
        omega
      obtain ⟨x, ex⟩ := ht kvs[j] (List.getElem_mem hj')
      obtain ⟨en', h1, h2, _⟩ := ent.2 j (kV kvs[j].1) kvs[j].2 (by rw [List.getElem?_map, List.getElem?_eq_getElem hj']; rfl)
      rw [Array.getElem?_eq_getElem hj] at h1
      cases h1
      rw [ex] at h2
      obtain ⟨t, h2⟩ := (show ∃ t, es[j].key = Value.str x t from h2)
      exact ⟨x, t, h2⟩
    have key : ∃ k : NestedKey, NestedIs s.heap k iv ∧ ((k = .none) ∨ ∃ ks, k = .tup ks) ∧ k.depth ≤ 8 := by
      rcases hi with rfl | ⟨b, x, rfl, hb⟩
      · cases (show iv = Value.none from ri)
        exact ⟨.none, .none, .inl rfl, by simp [NestedKey.depth]⟩
      · cases (show iv = Value.ref b from ri)
        obtain ⟨_, its, rt, o', h1, h2, n, h3⟩ := (show ObjOk X.prog X.w H s.heap b (.tup [.str x]) from I.hok b _ hb)
        refine ⟨.tup [.text x], .tup h1 h2 h3 ?_, .inr ⟨_, rfl⟩, by simp [NestedKey.depth, NestedKey.depthAll]⟩
        cases rt with
        | cons r1 r2 =>
          cases r2
          obtain ⟨t, rfl⟩ := r1
          exact .cons (.text x t) .nil
    obtain ⟨k, hk, hkk, hdep⟩ := key
    refine setItem_absent (by omega) ho hx hd hstr hk hkk hdep (by have := ent.1; rw [List.length_map] at this; omega) fun h' ep' tk hr' sb => ?_
    refine ⟨_, d_write I (by rw [e]; exact True.intro) sb (let ⟨q, hq, _⟩ := hr'; ⟨q, hq⟩) ?_, q⟩
    refine ⟨⟨hs, by rw [List.length_append, List.length_map]; show kvs.length + 1 ≤ sizeLine; omega, _, ep', hr', ent.push ri rv⟩, (let ⟨q, hq, _⟩ := hr'; ⟨q, hq⟩), fun h1 h2 p kk => ?_⟩
    obtain ⟨p1, p2, es1, ep1, r1, e1⟩ := p
    exact ⟨p1, p2, es1, ep1, r1.at kk, e1⟩
end Fn

set_option Elab.async false
set_option maxRecDepth 100000
set_option maxHeartbeats 4000000
/-! Sets of things that stand at addresses and are keys (tuples of ints and texts among them), fewer than 64: for any kind of such keys. The plan follows the library's sets of tuples of ints; the table's own theory is the library's. -/
namespace Fn
open PySem PySem.Spec PyProof.Rows L2
section
variable {κ : Type} [DecidableEq κ] {P : Program} {w : World}
/-- what a kind of keys must give so that a set of them can be searched -/
structure SetLike (knd : HeapKind P w κ) : Prop where
  byv : ∀ {A : Around} {E : Value → Shared → Prop} {s : Shared} {k : κ} {b : Addr} {Q : Bool → Shared → Prop}, knd.is s.heap k b → (∀ r, Q r s) → wpAny (model P w) A (hashByValue 8 (.ref b)) Q E s
  seen : ∀ {A : Around} {E : Value → Shared → Prop} {s : Shared} {k : κ} {b : Addr} {ys : List Value} {Q : Bool → Shared → Prop}, knd.is s.heap k b → (∀ y ∈ ys, ∃ k' c, y = Value.ref c ∧ knd.is s.heap k' c) → Q false s →
    wpAny (model P w) A (searchCouldBeSeen (.ref b) ys) Q E s
  apart : ∀ {h h' : Heap} {k : κ} {a b : Addr} {o : Obj} {es : Array (Int × Value)} {ep : Nat} {t : SetTable}, knd.is h k b → h.get? a = some o → o.data = .set es ep t → Heap.SameBut a h h' → knd.is h' k b
  keep : ∀ {h h' : Heap} {k : κ} {b : Addr}, knd.is h k b → (∀ c o, h.get? c = some o → h'.get? c = some o) → knd.is h' k b
variable {knd : HeapKind P w κ}
/-- the rows of the table for these members -/
def rowK (knd : HeapKind P w κ) (p : Addr × κ) : Int × Value := (knd.hash p.2, Value.ref p.1)
def hashK (knd : HeapKind P w κ) (p : Addr × κ) : Int := knd.hash p.2
/-- the set at a, its members L in the table's order; without what the members are -/
structure HSet (knd : HeapKind P w κ) (h : Heap) (a : Addr) (L : List (Addr × κ)) (es : Array (Int × Value)) (ep : Nat) (t : SetTable) : Prop where
  obj : ∃ o, h.get? a = some o ∧ o.ExactSet ∧ o.data = .set es ep t
  rows : es.toList = L.map (rowK knd)
  tab : TabOk t (L.map (hashK knd))
  diff : (L.map Prod.snd).Nodup
  led : w.params.followText "set-order" = true ∨ t.led = true
  room : L.length * 5 < t.mask * 3
  few : L.length < 64
variable {h : Heap} {a : Addr} {L : List (Addr × κ)} {es : Array (Int × Value)} {ep : Nat} {t : SetTable}
theorem rows_size {L : List (Addr × κ)} (e : es.toList = L.map (rowK knd)) : es.size = L.length := by
  rw [← Array.length_toList, e, List.length_map]
theorem rows_at {L : List (Addr × κ)} (e : es.toList = L.map (rowK knd)) {i : Nat} {p : Addr × κ} (hp : L[i]? = some p) : es[i]? = some (rowK knd p) := by
  rw [← Array.getElem?_toList, e, List.getElem?_map, hp]
  rfl
theorem HSet.places (R : HSet knd h a L es ep t) : t.place.size = L.length := by
  have := R.tab.sz
  rwa [List.length_map] at this
theorem fits_of (hd : t.dummies = #[]) (e : t.place.size = es.size) (l : es.size ≤ t.mask) : t.fits es.size = true := by
  unfold SetTable.fits SetTable.fill
  rw [hd, Bool.and_eq_true, beq_iff_eq, decide_eq_true_eq]
  show t.place.size = es.size ∧ t.place.size + 0 ≤ t.mask
  omega
theorem HSet.fits (R : HSet knd h a L es ep t) : t.fits es.size = true := by
  have h1 := R.places
  have h2 := rows_size R.rows
  have h3 := R.room
  exact fits_of R.tab.dm (by omega) (by omega)
theorem HSet.stays {h' : Heap} (R : HSet knd h a L es ep t) (k : ∀ o, h.get? a = some o → h'.get? a = some o) : HSet knd h' a L es ep t := by
  obtain ⟨o, ho, r⟩ := R.obj
  exact ⟨⟨o, k o ho, r⟩, R.rows, R.tab, R.diff, R.led, R.room, R.few⟩
theorem HSet.empty (ho : h.get? a = some { cls := .type "set", dict := none, data := .set #[] 0 (.fresh 0 0 (!w.params.followText "set-order")) }) : HSet knd h a [] #[] 0 (.fresh 0 0 (!w.params.followText "set-order")) := by
  refine ⟨⟨_, ho, ⟨rfl, rfl, rfl⟩, rfl⟩, rfl, ⟨List.Pairwise.nil, rfl, rfl, .inl rfl, fun x hx => (by cases hx), fun i h j hi => (by simp at hi)⟩, List.nodup_nil, ?_, by show 0 * 5 < 7 * 3; decide, by show 0 < 64; decide⟩
  show _ ∨ (!w.params.followText "set-order") = true
  cases w.params.followText "set-order" <;> simp
end
section
variable {κ : Type} [DecidableEq κ] {P : Program} {w : World} {knd : HeapKind P w κ} {A : Around} {E : Value → Shared → Prop} {s : Shared} {a : Addr} {L : List (Addr × κ)} {es : Array (Int × Value)} {ep : Nat} {t : SetTable}
/-- the probe that a search begins with -/
abbrev p0 (t : SetTable) (z : Int) : SetTable.Probe := runAt t.mask (SetTable.bits z % (t.mask + 1)) (SetTable.bits z)
theorem p0_clean (m : Nat) : ∀ (n : Nat) (p : SetTable.Probe), p.dummy = none → (nth m p n).dummy = none
  | 0, _, h => h
  | n + 1, p, h => by
    refine p0_clean m n (adv m p) ?_
    unfold adv
    split <;> exact h
/-- searching on from the c-th slot of the way; K is the first empty one -/
theorem look_from (SL : SetLike knd) (R : HSet knd s.heap a L es ep t) (mem : ∀ p ∈ L, knd.is s.heap p.2 p.1) {x : Addr} {k : κ} (hx : knd.is s.heap k x) (hu : knd.room A) {K : Nat} (kf : K < 10 * SetTable.turns t.mask)
    (kn : way t.mask (knd.hash k) K ∉ t.place.toList) (kb : ∀ c, c < K → way t.mask (knd.hash k) c ∈ t.place.toList) {Q : SetFound → Shared → Prop}
    (yes : k ∈ L.map Prod.snd → Q (.there none) s) (no : k ∉ L.map Prod.snd → Q (.free (way t.mask (knd.hash k) K) false) s) :
    ∀ (f c : Nat) (stand : Option SetTable.Probe), stand.getD (t.probeStart (knd.hash k)) = nth t.mask (p0 t (knd.hash k)) c → c ≤ K → K - c < f →
      (∀ (i : Nat) p, L[i]? = some p → p.2 = k → ∃ c', c ≤ c' ∧ c' < K ∧ t.place.toList[i]? = some (way t.mask (knd.hash k) c')) →
      wpAny (model P w) A (setSearchFrom a (.ref x) (knd.hash k) true f stand) Q E s := by
  intro f
  induction f with
  | zero => intro c stand _ _ hf _; exact absurd hf (Nat.not_lt_zero _)
  | succ f ih =>
    intro c stand hst hc hf left
    obtain ⟨o, ho, hex, hd⟩ := R.obj
    rw [setSearchFrom_succ]
    refine wpAny_bind (wpAny_setState_of ho hd R.fits ?_)
    dsimp only
    have gw : ¬ t.gaveWay = true := by
      unfold SetTable.gaveWay
      rw [mask_odd R.tab.mok]
      decide
    refine wp_if_neg gw ?_
    try refine wpAny_bind (wpAny_pure ?_)
    have shift : ∀ q, nth t.mask (nth t.mask (p0 t (knd.hash k)) c) q = nth t.mask (p0 t (knd.hash k)) (c + q) := fun q => (nth_add t.mask c _ q).symm
    have slotAt : ∀ q, (nth t.mask (nth t.mask (p0 t (knd.hash k)) c) q).j = way t.mask (knd.hash k) (c + q) := fun q => congrArg SetTable.Probe.j (shift q)
    have hK : c + (K - c) = K := by omega
    have spec := go_spec t R.tab.ris R.tab.dm (fun i => (es[i]?.map (·.1)).getD 0) (knd.hash k) (10 * SetTable.turns t.mask) (K - c) _ (p0_clean t.mask c (p0 t (knd.hash k)) rfl) (by omega)
      (fun q hq => by rw [slotAt]; exact kb (c + q) (by omega)) (by rw [slotAt, hK]; exact kn)
    have hashOf : ∀ (i : Nat) p, L[i]? = some p → (es[i]?.map (·.1)).getD 0 = knd.hash p.2 := fun i p hp => by
      rw [rows_at R.rows hp]
      rfl
    -- no member with this key has been passed
    have still : ∀ (i : Nat) p (q : Nat), L[i]? = some p → p.2 = k → (∀ (q' : Nat) (i' : Nat), q' < q → t.place.toList[i']? = some (way t.mask (knd.hash k) (c + q')) → ¬ (es[i']?.map (·.1)).getD 0 = knd.hash k) →
        ∃ c', c + q ≤ c' ∧ c' < K ∧ t.place.toList[i]? = some (way t.mask (knd.hash k) c') := by
      intro i p q hp hk hno
      obtain ⟨c', b1, b2, b3⟩ := left i p hp hk
      refine ⟨c', ?_, b2, b3⟩
      rcases Nat.lt_or_ge c' (c + q) with z | z
      · have e : c + (c' - c) = c' := by omega
        exact absurd ((hashOf i p hp).trans (congrArg knd.hash hk)) (hno (c' - c) i (by omega) (by rw [e]; exact b3))
      · exact z
    rcases spec with ⟨q, i, hq, hi, hh, hno, hpr⟩ | ⟨hno, hpr⟩
    · have hpr' : t.probe (fun i => (es[i]?.map (·.1)).getD 0) (knd.hash k) (stand.getD (t.probeStart (knd.hash k))) = some (.candidate (way t.mask (knd.hash k) (c + q)) i (nth t.mask (p0 t (knd.hash k)) (c + (q + 1)))) := by
        rw [hst, ← slotAt, ← shift]
        exact hpr
      rw [hpr']
      dsimp only
      rw [slotAt] at hi
      have hil : i < L.length := by
        have h1 := (List.getElem?_eq_some_iff.mp hi).1
        rw [Array.length_toList, R.places] at h1
        exact h1
      obtain ⟨p, hp⟩ : ∃ p, L[i]? = some p := ⟨L[i], List.getElem?_eq_getElem hil⟩
      have hpm : p ∈ L := List.mem_of_getElem? hp
      have on : wpAny (model P w) A (searchRest a (.ref x) (knd.hash k) true f es t (way t.mask (knd.hash k) (c + q)) i (nth t.mask (p0 t (knd.hash k)) (c + (q + 1)))) Q E s := by
        unfold searchRest
        rw [rows_at R.rows hp]
        dsimp only [rowK]
        refine wpAny_bind (wpAny_holding (knd.eqBool hu (mem p hpm) hx ?_))
        refine wpAny_bind (wpAny_setState_of ho hd R.fits ?_)
        dsimp only
        by_cases e : p.2 = k
        · refine wp_if_pos (by simp [e]) ?_
          exact wpAny_pure (yes (List.mem_map.mpr ⟨p, hpm, e⟩))
        · refine wp_if_neg (by simp [e]) ?_
          try refine wpAny_bind (wpAny_pure ?_)
          rw [sameMem]
          dsimp only
          have hsl := slot_live R.tab.ris hi
          simp only [if_true, hsl, rows_at R.rows hp, rowK]
          refine wpAny_bind (wpAny_isSame_ref_self (wpAny_bind (wpAny_pure ?_)))
          simp only [if_true]
          refine wp_if_neg (by simp [e]) ?_
          refine ih (c + (q + 1)) _ rfl (by omega) (by omega) fun i1 p1 h1 hk1 => ?_
          obtain ⟨c', b1, b2, b3⟩ := still i1 p1 q h1 hk1 (fun q' i' hq' hi' => hno q' i' hq' (by rw [slotAt]; exact hi'))
          refine ⟨c', ?_, b2, b3⟩
          rcases Nat.lt_or_ge (c + q) c' with y | y
          · omega
          · have ec : c' = c + q := by omega
            subst ec
            have s1 := slot_live R.tab.ris b3
            rw [hsl] at s1
            injection s1 with s1
            rw [← s1, hp] at h1
            exact absurd ((congrArg Prod.snd (Option.some.inj h1)).trans hk1) e
      by_cases hl : t.led = true
      · refine wp_if_neg (by simp [hl]) ?_
        try refine wpAny_bind (wpAny_pure ?_)
        exact on
      · refine wp_if_pos (by simp [hl]) ?_
        refine wpAny_bind (SL.seen hx (fun y hy => ?_) ?_)
        · obtain ⟨e, he, ee⟩ := List.mem_map.mp hy
          have he2 : e ∈ es ∧ e.1 = knd.hash k := by simpa using he
          have he3 : e ∈ es.toList := by simpa using he2.1
          rw [R.rows] at he3
          obtain ⟨p2, hp2, e2⟩ := List.mem_map.mp he3
          exact ⟨p2.2, p2.1, by rw [← ee, ← e2]; rfl, mem p2 hp2⟩
        · refine wp_if_neg (by decide) ?_
          try refine wpAny_bind (wpAny_pure ?_)
          exact on
    · have hpr' : t.probe (fun i => (es[i]?.map (·.1)).getD 0) (knd.hash k) (stand.getD (t.probeStart (knd.hash k))) = some (.empty (way t.mask (knd.hash k) K) none) := by
        have e2 : way t.mask (knd.hash k) K = (nth t.mask (nth t.mask (p0 t (knd.hash k)) c) (K - c)).j := by rw [slotAt, hK]
        rw [hst, e2]
        exact hpr
      rw [hpr']
      dsimp only
      refine wpAny_pure (no fun hm => ?_)
      obtain ⟨p1, h1, hk1⟩ := List.mem_map.mp hm
      obtain ⟨i1, hi1⟩ := List.mem_iff_getElem?.mp h1
      obtain ⟨c', b1, b2, b3⟩ := still i1 p1 (K - c) hi1 hk1 (fun q' i' hq' hi' => hno q' i' hq' (by rw [slotAt]; exact hi'))
      omega
/-- searching for a key that is to be added -/
theorem look (SL : SetLike knd) (R : HSet knd s.heap a L es ep t) (mem : ∀ p ∈ L, knd.is s.heap p.2 p.1) {x : Addr} {k : κ} (hx : knd.is s.heap k x) (hu : knd.room A) {Q : SetFound → Shared → Prop}
    (yes : k ∈ L.map Prod.snd → Q (.there none) s)
    (no : ∀ K, k ∉ L.map Prod.snd → way t.mask (knd.hash k) K ∉ t.place.toList → (∀ c, c < K → way t.mask (knd.hash k) c ∈ t.place.toList) → Q (.free (way t.mask (knd.hash k) K) false) s) :
    wpAny (model P w) A (setSearch a (.ref x) (knd.hash k) true) Q E s := by
  have hroom := R.room
  obtain ⟨K, kf, kn, kb⟩ := R.tab.first (by rw [List.length_map]; omega) (knd.hash k)
  have small : K < 100000 := by
    have b : 10 * SetTable.turns t.mask ≤ 1420 := by
      unfold SetTable.turns
      rcases R.tab.mok with e | e | e <;> omega
    omega
  unfold setSearch
  refine look_from SL R mem hx hu kf kn kb yes (fun hn => no K hn kn kb) 100000 0 none rfl (Nat.zero_le _) (by omega) fun i p hp hk => ?_
  have hi : (L.map (hashK knd))[i]? = some (knd.hash k) := by
    rw [List.getElem?_map, hp, ← hk]
    rfl
  have hil : i < t.place.toList.length := by
    rw [Array.length_toList, R.places]
    exact (List.getElem?_eq_some_iff.mp hp).1
  obtain ⟨c, hc, e⟩ := R.tab.before kn hi (List.getElem?_eq_getElem hil)
  exact ⟨c, Nat.zero_le _, hc, by rw [List.getElem?_eq_getElem hil, e]⟩
/-- the rows in another order -/
theorem rows_order {es : Array (Int × Value)} (hr : es.toList = L.map (rowK knd)) {order : Array Nat} (hp : order.toList.Perm (List.range L.length)) :
    ∃ L2 : List (Addr × κ), (order.filterMap (es[·]?)).toList = L2.map (rowK knd) ∧ L2.Perm L ∧ L2.map (hashK knd) = order.toList.map fun i => (es.map (·.1)).getD i 0 := by
  have inR : ∀ i ∈ order.toList, i < L.length := fun i hi => List.mem_range.mp (hp.mem_iff.mp hi)
  refine ⟨order.toList.filterMap fun i => L[i]?, ?_, ?_, ?_⟩
  · have key : ∀ l : List Nat, l.filterMap (fun i => es[i]?) = (l.filterMap fun i => L[i]?).map (rowK knd) := by
      intro l
      induction l with
      | nil => rfl
      | cons i l ih =>
        cases hl : L[i]? with
        | none =>
          have : es[i]? = none := by
            rw [Array.getElem?_eq_none_iff, rows_size hr]
            exact List.getElem?_eq_none_iff.mp hl
          rw [List.filterMap_cons_none this, List.filterMap_cons_none hl, ih]
        | some p => rw [List.filterMap_cons_some (rows_at hr hl), List.filterMap_cons_some hl, List.map_cons, ih]
    have := key order.toList
    first | (rw [Array.toList_filterMap]; exact this) | simpa using this
  · have all : (List.range L.length).filterMap (fun i => L[i]?) = L := by
      have key : ∀ n, n ≤ L.length → (List.range n).filterMap (fun i => L[i]?) = L.take n := by
        intro n
        induction n with
        | zero => intro _; rfl
        | succ n ih =>
          intro hn
          have e : L[n]? = some (L[n]'hn) := List.getElem?_eq_getElem hn
          rw [List.range_succ, List.filterMap_append, ih (Nat.le_of_lt hn), List.take_succ, e, List.filterMap_cons_some e]
          rfl
      rw [key L.length (Nat.le_refl _), List.take_length]
    have h2 := hp.filterMap fun i => L[i]?
    rwa [all] at h2
  · have key : ∀ l : List Nat, (∀ i ∈ l, i < L.length) → (l.filterMap fun i => L[i]?).map (hashK knd) = l.map fun i => (es.map (·.1)).getD i 0 := by
      intro l
      induction l with
      | nil => intro _; rfl
      | cons i l ih =>
        intro hl
        have e : L[i]? = some (L[i]'(hl i List.mem_cons_self)) := List.getElem?_eq_getElem _
        have e2 : (es.map (·.1)).getD i 0 = knd.hash (L[i]'(hl i List.mem_cons_self)).2 := by
          rw [Array.getD_eq_getD_getElem?, Array.getElem?_map, rows_at hr e]
          rfl
        rw [List.filterMap_cons_some e, List.map_cons, List.map_cons, ih fun j hj => hl j (List.mem_cons_of_mem _ hj), e2]
        rfl
    exact key _ inR
/-- a larger table -/
theorem larger {o : Obj} (ho : s.heap.get? a = some o) (hex : o.ExactSet) (hd : o.data = .set es ep t) (hrows : es.toList = L.map (rowK knd)) (hsz : t.place.size = es.size) (hdm : t.dummies = #[]) (hfl : es.size ≤ t.mask)
    (nd : (L.map Prod.snd).Nodup) (ld : w.params.followText "set-order" = true ∨ t.led = true) (few : L.length < 64) {wanted M : Nat}
    (hw : SetTable.sizeAbove wanted - 1 = M) (hM : MaskOk M) (hw2 : SetTable.sizeAbove wanted ≤ 128) (hn : L.length * 5 < M * 3) {Q : Unit → Shared → Prop}
    (hQ : ∀ h' L' es' ep' t', Heap.SameBut a s.heap h' → HSet knd h' a L' es' ep' t' → L'.Perm L → Q () { s with heap := h' }) : wpAny (model P w) A (setRelay a wanted) Q E s := by
  have hsl := rows_size hrows
  obtain ⟨t', order, e, hp, T, em, el, ep', ed⟩ := relaid_ok t (hs := es.map (·.1)) (wanted := wanted) hw hM (by rw [Array.size_map, hsl]; omega)
  rw [Array.size_map, hsl] at hp
  obtain ⟨L2, r1, r2, r3⟩ := rows_order hrows hp
  rw [← r3] at T
  have hs2 : (order.filterMap (es[·]?)).size = es.size := by rw [rows_size r1, r2.length_eq, hsl]
  rw [setRelay_eq]
  refine wpAny_bind (wpAny_setState_of ho hd (fits_of hdm hsz hfl) ?_)
  dsimp only
  refine wp_if_neg (by rw [sizeLine_eq]; omega) ?_
  try refine wpAny_bind (wpAny_pure ?_)
  rw [e]
  dsimp only
  refine wpAny_bind ?_
  refine wp_if_neg (by rw [hs2]; simp) ?_
  try refine wpAny_bind (wpAny_pure ?_)
  refine wpAny_pure ?_
  dsimp only
  refine wpAny_storeSet_of ho hd ?_ (by rw [hs2, hsl, sizeLine_eq]; omega)
  refine hQ _ L2 (order.filterMap (es[·]?)) (ep + 1) t' (Heap.SameBut.update ..) ?_ r2
  exact ⟨⟨_, store_at ho hd, ⟨hex.1, hex.2.1, hex.2.2⟩, rfl⟩, r1, T, (r2.map Prod.snd).nodup_iff.mpr nd, by rw [el]; exact ld, by rw [r2.length_eq, em]; exact hn, by rw [r2.length_eq]; exact few⟩
/-- set.add of such a key -/
theorem add_key (SL : SetLike knd) (R : HSet knd s.heap a L es ep t) (mem : ∀ p ∈ L, knd.is s.heap p.2 p.1) {x : Addr} {k : κ} (hx : knd.is s.heap k x) (hu : knd.room A) (hfew : L.length + 1 < 64) {Q : Bool → Shared → Prop}
    (hQ : ∀ b h' L' es' ep' t', Heap.SameBut a s.heap h' → HSet knd h' a L' es' ep' t' → (k ∈ L.map Prod.snd → L' = L) → (k ∉ L.map Prod.snd → L'.Perm ((x, k) :: L)) → Q b { s with heap := h' }) :
    wpAny (model P w) A (setAddHashed a (.ref x) (knd.hash k)) Q E s := by
  obtain ⟨o, ho, hex, hd⟩ := R.obj
  have hsl := rows_size R.rows
  have hroom := R.room
  unfold setAddHashed
  refine wpAny_holding ?_
  rw [show (100000 : Nat) = 99999 + 1 from rfl, setAddHashedIn_succ]
  refine wpAny_bind (wpAny_setState_of ho hd R.fits ?_)
  dsimp only
  refine wp_if_neg (by simp [byScan, Value.scannable]) ?_
  try refine wpAny_bind (wpAny_pure ?_)
  refine wpAny_bind (look SL R mem hx hu (fun hm => ?_) fun K hm kn kb => ?_)
  · dsimp only
    exact wpAny_pure (hQ false s.heap L es ep t (Heap.SameBut.refl a s.heap) R (fun _ => rfl) fun z => absurd hm z)
  · dsimp only
    refine wpAny_bind (wpAny_setState_of ho hd R.fits ?_)
    dsimp only
    obtain ⟨q1, q2, q3, q4, q5, q6, q7, q8, q9⟩ := R.tab.put kn kb
    generalize t.put (way t.mask (knd.hash k) K) = pt at q1 q3 q4 q5 q6 q7 q8 q9 ⊢
    obtain ⟨t1, p⟩ := pt
    dsimp only at q1 q3 q4 q5 q6 q7 q8 q9 ⊢
    subst q1
    generalize SetTable.below t.place (way t.mask (knd.hash k) K) = p at q2 q3 ⊢
    have hin : (SetTable.insertAt es p (knd.hash k, Value.ref x)).toList = (L.take p ++ (x, k) :: L.drop p).map (rowK knd) := by
      rw [SetTable.toList_insertAt, R.rows, List.map_append, List.map_cons, List.map_take, List.map_drop]
      rfl
    have pm := put_perm L p (x, k)
    have hhs : (L.take p ++ (x, k) :: L.drop p).map (hashK knd) = (L.map (hashK knd)).take p ++ knd.hash k :: (L.map (hashK knd)).drop p := by
      rw [List.map_append, List.map_cons, List.map_take, List.map_drop]
      rfl
    rw [← hhs] at q3
    generalize SetTable.insertAt es p (knd.hash k, Value.ref x) = es1 at hin ⊢
    generalize L.take p ++ (x, k) :: L.drop p = L1 at pm q3 hin
    have hlen : L1.length = L.length + 1 := pm.length_eq
    have hes : es1.size = L.length + 1 := by rw [rows_size hin, hlen]
    have nd1 : (L1.map Prod.snd).Nodup := by
      refine (pm.map Prod.snd).nodup_iff.mpr ?_
      rw [List.map_cons]
      exact List.nodup_cons.mpr ⟨hm, R.diff⟩
    have ld1 : w.params.followText "set-order" = true ∨ t1.led = true := by rw [q5]; exact R.led
    have pz : t1.place.size = L.length + 1 := by
      have := q3.sz
      rw [List.length_map] at this
      omega
    have dz := q3.dm
    have cont : ∀ t2 : SetTable, TabOk t2 (L1.map (hashK knd)) → t2.mask = t.mask → (w.params.followText "set-order" = true ∨ t2.led = true) → t2.place.size = L.length + 1 → t2.dummies = #[] → t2.tooFull = t1.tooFull →
        wpAny (model P w) A (do
          storeSet a es1 t2
          if (!false && t2.tooFull) = true then do
            setRelay a (SetTable.grown (es.size + 1))
            pure true
          else pure true) Q E s := by
      intro t2 T2 m2 l2 z2 d2 f2
      refine wpAny_bind (wpAny_storeSet_of ho hd ?_ (by rw [hes, sizeLine_eq]; omega))
      have sb : Heap.SameBut a s.heap (s.heap.update a (Obj.putSet es1 t2)) := Heap.SameBut.update ..
      have ho1 := store_at (es' := es1) (t' := t2) ho hd
      generalize s.heap.update a (Obj.putSet es1 t2) = h1 at sb ho1 ⊢
      have fullAt : t2.tooFull = decide ((L.length + 1) * 5 ≥ t.mask * 3) := by
        rw [f2]
        unfold SetTable.tooFull
        rw [q9, List.length_map, q4]
      by_cases hf : t2.tooFull = true
      · refine wp_if_pos (by simp [hf]) ?_
        refine wpAny_bind ?_
        have hfull : (L.length + 1) * 5 ≥ t.mask * 3 := of_decide_eq_true (fullAt.symm.trans hf)
        rw [hsl]
        have go : ∀ M, SetTable.sizeAbove (SetTable.grown (L.length + 1)) - 1 = M → MaskOk M → SetTable.sizeAbove (SetTable.grown (L.length + 1)) ≤ 128 → (L.length + 1) * 5 < M * 3 → L.length + 1 ≤ t2.mask →
            wpAny (model P w) A (setRelay a (SetTable.grown (L.length + 1))) (fun _ s' => wpAny (model P w) A (pure true) Q E s') E { s with heap := h1 } := fun M b1 b2 b3 b4 b5 => by
          refine larger (s := { s with heap := h1 }) (L := L1) ho1 ⟨hex.1, hex.2.1, hex.2.2⟩ rfl hin (by rw [z2, hes]) d2 (by rw [hes]; exact b5) nd1 l2 (by omega) b1 b2 b3 (by omega) ?_
          intro h2 L2 es2 ep2 t2 sb2 R2 pm2
          exact wpAny_pure (hQ true h2 L2 es2 ep2 t2 (sb.trans sb2) R2 (fun z => absurd z hm) fun _ => pm2.trans pm)
        rcases R.tab.mok with e | e | e <;> rw [e] at hroom <;> rw [e] at hfull
        · have e2 : L.length = 4 := by omega
          exact go 31 (by rw [e2, size_20]) (.inr (.inl rfl)) (by rw [e2, size_20]; decide) (by omega) (by rw [m2, e]; omega)
        · have e2 : L.length = 18 := by omega
          exact go 127 (by rw [e2, size_76]) (.inr (.inr rfl)) (by rw [e2, size_76]; decide) (by omega) (by rw [m2, e]; omega)
        · omega
      · refine wp_if_neg (by simp [hf]) ?_
        have hroom1 : ¬ (L.length + 1) * 5 ≥ t.mask * 3 := fun z => hf (fullAt.trans (decide_eq_true z))
        exact wpAny_pure (hQ true h1 L1 es1 (ep + 1) t2 sb ⟨⟨_, ho1, ⟨hex.1, hex.2.1, hex.2.2⟩, rfl⟩, hin, T2, nd1, l2, by rw [m2]; omega, by omega⟩ (fun z => absurd z hm) fun _ => pm)
    have both : ∀ r : Bool, wpAny (model P w) A (do
          storeSet a es1 (if r = true then t1 else { t1 with plain := false })
          if (!false && (if r = true then t1 else { t1 with plain := false }).tooFull) = true then do
            setRelay a (SetTable.grown (es.size + 1))
            pure true
          else pure true) Q E s := by
      intro r
      cases r with
      | true => exact cont t1 q3 q4 ld1 pz dz rfl
      | false => exact cont { t1 with plain := false } ⟨q3.ris, q3.dm, q3.sz, q3.mok, q3.bd, q3.reach⟩ q4 ld1 pz dz rfl
    by_cases hpl : t1.plain = true
    · first
        | (refine wpAny_bind ?_; refine wp_if_pos hpl ?_; refine SL.byv hx fun r => both r)
        | (refine wp_if_pos hpl (wpAny_bind (SL.byv hx fun r => both r)))
    · first
        | (refine wpAny_bind ?_; refine wp_if_neg hpl ?_; refine wpAny_pure (both true))
        | (refine wp_if_neg hpl ?_; exact both true)
end
end Fn

set_option Elab.async false
set_option maxRecDepth 100000
set_option maxHeartbeats 4000000
/-! Sets of pairs of a text and an int; sorted of such a set; a set comprehension of tuples. -/
namespace Fn
open PySem PySem.Spec PyProof.Rows L2
/-! ### tuples of ints and texts as members -/
section
variable {P : Program} {w : World} {A : Around} {E : Value → Shared → Prop} {s : Shared}
abbrev KT2 (P : Program) (w : World) : HeapKind P w (List Key) := tupleKind (mixKind P w)
theorem items_plain {k : List Key} {vs : List Value} (h : ItemsAre (mixKind P w) k vs) : ∀ v ∈ vs, (∃ i t, v = Value.int i t) ∨ ∃ x t, v = Value.str x t := by
  induction h with
  | nil => intro v hv; cases hv
  | @cons k0 v' ks vs h1 _ ih =>
    intro v hv
    rcases List.mem_cons.mp hv with rfl | hv
    · rcases keyIs_shape (show keyIs k0 v = true from h1) with ⟨i, t, _, e⟩ | ⟨x, t, _, e⟩
      · exact .inl ⟨i, t, e⟩
      · exact .inr ⟨x, t, e⟩
    · exact ih v hv
theorem plain_class {v : Value} (h : (∃ i t, v = Value.int i t) ∨ ∃ x t, v = Value.str x t) (n : Nat) : ofAClassStatement n v = pure false := by
  rcases h with ⟨i, t, rfl⟩ | ⟨x, t, rfl⟩ <;> cases n <;> rfl
theorem plain_hash {v : Value} (h : (∃ i t, v = Value.int i t) ∨ ∃ x t, v = Value.str x t) (n : Nat) : ∃ b, hashByValue n v = pure b := by
  rcases h with ⟨i, t, rfl⟩ | ⟨x, t, rfl⟩ <;> cases n <;> exact ⟨_, rfl⟩
theorem tup_class {k : List Key} {b : Addr} {Q : Bool → Shared → Prop} (hk : IsTupleKey (mixKind P w) s.heap k b) (h : Q false s) : wpAny (model P w) A (ofAClassStatement 8 (.ref b)) Q E s := by
  have hT := hk.typeIs
  obtain ⟨o, items, n, ho, _, hd, hi⟩ := hk
  unfold ofAClassStatement
  refine wpAny_bind (wpAny_typeOf hT ?_)
  dsimp only
  have e : (("tuple" : String) == "tuple") = true := by decide
  simp only [e, if_true, Bool.not_true, Bool.false_eq_true, if_false]
  try refine wpAny_bind (wpAny_pure ?_)
  try simp only [Bool.not_true, Bool.false_eq_true, if_false]
  show wpAny _ _ (seqItems? (.ref b) >>= _) _ _ s
  refine wpAny_bind (wpAny_seqItems ho hd ?_)
  dsimp only
  refine wpAny_bind ?_
  show wpAny _ _ (forIn items _ _) _ _ s
  rw [← Array.forIn_toList]
  refine wpAny_forIn_list _ (fun rest r s' => r.1 = none ∧ s' = s ∧ ∀ v ∈ rest, (∃ i t, v = Value.int i t) ∨ ∃ x t, v = Value.str x t) _ ?_ ?_ _ _ ⟨rfl, rfl, items_plain hi⟩
  · rintro v rest r s' ⟨hr, rfl, hall⟩
    rw [plain_class (hall v List.mem_cons_self)]
    refine wpAny_bind (wpAny_pure ?_)
    simp only [Bool.false_eq_true, if_false]
    exact wpAny_pure ⟨rfl, rfl, fun u hu' => hall u (List.mem_cons_of_mem _ hu')⟩
  · rintro ⟨r1, r2⟩ s' ⟨hr, rfl, _⟩
    simp only at hr
    subst hr
    exact wpAny_pure h
theorem setLike_pairs : SetLike (KT2 P w) where
  byv := fun {A E s k b Q} hk h => by
    have hT := IsTupleKey.typeIs hk
    obtain ⟨o, items, n, ho, _, hd, hi⟩ := hk
    unfold hashByValue
    refine wpAny_bind (wpAny_specialOf hT F.slot_tuple_hash.lookup ?_)
    show wpAny _ _ (seqItems? (.ref b) >>= _) _ _ s
    refine wpAny_bind (wpAny_seqItems ho hd ?_)
    refine wpAny_bind ?_
    show wpAny _ _ (forIn items _ _) _ _ s
    rw [← Array.forIn_toList]
    refine wpAny_forIn_list _ (fun rest r s' => s' = s ∧ ∀ v ∈ rest, (∃ i t, v = Value.int i t) ∨ ∃ x t, v = Value.str x t) _ ?_ ?_ _ _ ⟨rfl, items_plain hi⟩
    · rintro v rest r s' ⟨rfl, hall⟩
      obtain ⟨bb, eb⟩ := plain_hash (hall v List.mem_cons_self) 7
      rw [eb]
      refine wpAny_bind (wpAny_pure ?_)
      cases bb
      · simp only [Bool.not_false, if_true]
        exact wpAny_pure (wpAny_pure (h _))
      · simp only [Bool.not_true, Bool.false_eq_true, if_false]
        exact wpAny_pure ⟨rfl, fun u hu' => hall u (List.mem_cons_of_mem _ hu')⟩
    · rintro ⟨r1, r2⟩ s' ⟨rfl, _⟩
      cases r1 with
      | none => exact wpAny_pure (h _)
      | some b => exact wpAny_pure (h _)
  seen := fun {A E s k b ys Q} hk hy h => by
    unfold searchCouldBeSeen
    refine wpAny_bind ?_
    refine wpAny_forIn_list _ (fun rest r s' => r.1 = none ∧ s' = s ∧ ∀ y ∈ rest, ∃ k' c, y = Value.ref c ∧ (KT2 P w).is s.heap k' c) _ ?_ ?_ _ _ ⟨rfl, rfl, hy⟩
    · rintro v rest r s' ⟨hr, rfl, hall⟩
      obtain ⟨k', c, rfl, hc⟩ := hall v List.mem_cons_self
      have rest' : ∀ y ∈ rest, ∃ k' c, y = Value.ref c ∧ (KT2 P w).is s'.heap k' c := fun u hu' => hall u (List.mem_cons_of_mem _ hu')
      dsimp only
      by_cases hv : (b == c || (carriedByValue (.ref b) && carriedByValue (.ref c))) = true
      · refine wp_if_pos hv ?_
        exact wpAny_pure ⟨rfl, rfl, rest'⟩
      · refine wp_if_neg hv ?_
        refine wpAny_bind (wpAny_eqIsQuiet_tuple hk ?_)
        simp only [Bool.not_true, Bool.false_eq_true, if_false]
        refine wpAny_bind (wpAny_eqIsQuiet_tuple hc ?_)
        simp only [Bool.not_true, Bool.false_eq_true, if_false]
        refine wpAny_bind (tup_class hk ?_)
        simp only [Bool.false_eq_true, if_false]
        refine wpAny_bind (tup_class hc ?_)
        simp only [Bool.false_eq_true, if_false]
        exact wpAny_pure ⟨rfl, rfl, rest'⟩
    · rintro ⟨r1, r2⟩ s' ⟨hr, rfl, _⟩
      simp only at hr
      subst hr
      exact wpAny_pure h
  apart := fun {h h' k a b o es ep t} hb ho hd hs => by
    obtain ⟨o', items, n, ho', hc, hd', hi⟩ := hb
    have hne : b ≠ a := by
      rintro rfl
      obtain rfl : o' = o := Option.some.inj (ho'.symm.trans ho)
      rw [hd] at hd'
      exact nomatch hd'
    exact ⟨o', items, n, (hs.2 b hne).trans ho', hc, hd', hi⟩
  keep := fun {h h' k b} hb hk => by
    obtain ⟨o, items, n, ho, r⟩ := hb
    exact ⟨o, items, n, hk b o ho, r⟩
end
/-! ### the set as a tracked thing -/
def PSetO (P : Program) (w : World) (a : Addr) (L : List (Addr × List Key)) : HO := .ext fun h => ∃ es ep t, HSet (KT2 P w) h a L es ep t
theorem pset_ok {P : Program} {w : World} {H : Hp} {h : Heap} {a : Addr} {L : List (Addr × List Key)} {es : Array (Int × Value)} {ep : Nat} {t : SetTable} (R : HSet (KT2 P w) h a L es ep t) : ObjOk P w H h a (PSetO P w a L) := by
  obtain ⟨o, ho, r⟩ := id R.obj
  refine ⟨⟨es, ep, t, R⟩, ⟨o, ho⟩, fun h1 h2 p k => ?_⟩
  obtain ⟨es1, ep1, t1, R1⟩ := p
  exact ⟨es1, ep1, t1, R1.stays k⟩
/-- the members are tuples that stand there -/
def Members (H : Hp) (L : List (Addr × List Key)) : Prop := ∀ p ∈ L, H p.1 = some (.tup (p.2.map kV))
section
variable {X : Cx} {pins : List (Addr × Obj)} {σ : L2.St} {H : Hp} {s : Shared}
theorem setp_add {A : Around} {E : Value → Shared → Prop} {D b : Addr} {k : List Key} {L : List (Addr × List Key)} {Q : Value → Shared → Prop} (hu : A.units + 8 < cLine) (I : Inv X pins σ H s) (hD : H D = some (PSetO X.prog X.w D L)) (hm : Members H L) (hb : H b = some (.tup (k.map kV))) (few : L.length + 1 < 64)
    (h : ∀ s' L', (k ∈ L.map Prod.snd → L' = L) → (k ∉ L.map Prod.snd → L'.Perm ((b, k) :: L)) → Inv X pins σ (upd H D (PSetO X.prog X.w D L')) s' → Q .none s') :
    wpAny (model X.prog X.w) A (call (.builtin "set.add") [.ref D, .ref b]) Q E s := by
  obtain ⟨⟨es, ep, t, R⟩, _⟩ := I.hok D _ hD
  obtain ⟨o, ho, hex, hd⟩ := id R.obj
  have hT : s.TypeIs (.ref D) "set" := ⟨o, ho, hex.1⟩
  refine wpAny_call_entry F.slot_set_add hT F.entry_set_add ?_ (F.args_set_add_2 _ _)
  unfold Builtin.«set.add» Builtin.Frozenset.oneOther
  simp only [List.isEmpty_nil, bind_assoc]
  unfold Builtin.Frozenset.addrOf setAdd
  refine wpAny_bind (wpAny_pure ?_)
  try dsimp only
  refine wpAny_bind (wpAny_pure ?_)
  try dsimp only
  refine wpAny_bind ?_
  refine wpAny_holding ?_
  have hkb : (KT2 X.prog X.w).is s.heap k b := key_of I.hok hb
  refine wpAny_bind ((KT2 X.prog X.w).pyHash (show A.in1.units < cLine by show A.units + 1 < cLine; omega) hkb ?_)
  refine add_key (s := { s with toks := s.toks + (k.length + 1) }) setLike_pairs R (fun p hp => key_of I.hok (hm p hp)) hkb (show A.in1.units < cLine by show A.units + 1 < cLine; omega) few fun bb h' L' es' ep' t' sb R' c1 c2 => ?_
  show wpAny _ _ (ret Value.none) _ _ _
  obtain ⟨o', ho', _⟩ := id R'.obj
  exact wpAny_pure ⟨_, rfl, h _ L' c1 c2 (I.write (e := D) (t' := s.toks + (k.length + 1)) (by rw [hD]; trivial) (.inl rfl) (fun b u hb hu => (sb.2 b hb).trans hu) ⟨o', ho'⟩ (pset_ok R'))⟩
end
/-! ### the comprehension -/
def tScP (P : Program) (w : World) (wi : TI) (g : TG) (tt : TT) (te : TE) (vs : List Nat) : TE := fun σ H Q => wi σ H fun J H1 => ∀ D, H1 D = none → ∃ W : Nat → Nat → Hp → Prop, (∃ m, W 0 m (upd H1 D (PSetO P w D []))) ∧ ∀ i m H, W i m H →
  (J.stop i H ∧ Q (.ref D) H) ∨ (J.go i H ∧ ∃ Nx : Hp → Prop, (∀ H', Nx H' → ∃ m', m' < m ∧ W (i + 1) m' H') ∧ ∀ x H', J.yld i H x H' → g x (wipe σ vs) H' fun σ2 H2 => wipe σ2 vs = wipe σ vs ∧ tt σ2 H2 fun b H3 =>
    if b = true then te σ2 H3 fun y H4 => ∃ (c : Addr) (k : List Key) (L : List (Addr × List Key)), y = .ref c ∧ H4 c = some (.tup (k.map kV)) ∧ H4 D = some (PSetO P w D L) ∧ Members H4 L ∧ L.length + 1 < 64 ∧
      ∀ L', (k ∈ L.map Prod.snd → L' = L) → (k ∉ L.map Prod.snd → L'.Perm ((c, k) :: L)) → Nx (upd H4 D (PSetO P w D L')) else Nx H3)
section
variable {X : Cx}
theorem pe_scP {elt tg iter : Expr} {ifs : List Expr} {scope : Scope} {own : List (PySem.Str × Nat)} {pos : Pos} {wi : TI} {g : TG} {tt : TT} {te : TE} (hu : X.A.units + 64 < cLine) (hc : X.calm = true) (hN : X.N.Nodup) (hi : PI X tg iter wi) (ok : BlkOk X.N X.env.scope scope own)
    (hg : ∀ (s : Shared) (H : Hp) (C : Addr) (cl : List (PySem.Str × Addr)) (fp : List Addr), PG (X.blk s H scope (compEnvC scope cl C X.env) fp) tg g) (ht : ∀ (s : Shared) (H : Hp) (C : Addr) (cl : List (PySem.Str × Addr)) (fp : List Addr), PTs (X.blk s H scope (compEnvC scope cl C X.env) fp) ifs tt)
    (he : ∀ (s : Shared) (H : Hp) (C : Addr) (cl : List (PySem.Str × Addr)) (fp : List Addr), PE (X.blk s H scope (compEnvC scope cl C X.env) fp) elt te) (hs : ∀ x, foldedSetIterable iter X.env x = pure x := by intro _; rfl) :
    PE X (.SetComp elt [⟨tg, iter, ifs, 0⟩] scope pos) (tScP X.prog X.w wi g tt te (own.map (·.2))) := by
  refine ⟨fun pins s σ H Q I h => ?_⟩
  rw [PpSet.eval_SetComp]
  have hfree : ∀ y ∈ scope.names, y.2 = .free → ∃ c, X.env.cells.lookup y.1 = some c := fun y hy e => by
    rcases ok.free y hy e with k | k
    · exact I.ok.has _ (.inl k)
    · exact I.ok.has _ (.inr k)
  refine wpAny_comprehension_free (use := none) rfl hs (closure_ok hfree) ok.kind (fun y hy e => by rw [ok.uniq y hy, e])
    (thn (hi.run pins s σ H _ I h) fun xv s1 hx => thn hx fun itv s2 h2 => ?_)
  obtain ⟨it, fp, tn, J, H2, e, I2, T, st2, f2, q⟩ := h2
  subst e
  refine PpSet.newSet_ok (newEnv_comp ?_)
  generalize hD : s2.heap.objs.size = D
  have hDn : H2 D = none := I2.hok.fresh (Nat.le_of_eq hD)
  obtain ⟨W, ⟨m0, w0⟩, turn⟩ := q D hDn
  generalize hs3 : ({ s2 with heap := s2.heap.push { cls := .type "set", dict := none, data := .set #[] 0 (.fresh 0 0 (!X.w.params.followText "set-order")) } } : Shared) = s3
  have I3 : Inv X pins σ (upd H2 D (PSetO X.prog X.w D [])) s3 := by
    rw [← hs3]
    refine I2.laid (t' := s2.toks) (fun b o e => Heap.get?_push_of_some _ e) (Nat.le_of_eq hD) ?_
    rw [← hD]
    exact pset_ok (HSet.empty (Heap.get?_push_size _ rfl))
  have h3 : s3.heap = s2.heap.push { cls := .type "set", dict := none, data := .set #[] 0 (.fresh 0 0 (!X.w.params.followText "set-order")) } := by rw [← hs3]
  have f3 : ∀ b ∈ fp, FpOk X pins (upd H2 D (PSetO X.prog X.w D [])) b ∧ b < s3.heap.objs.size := fun b hb => by
    obtain ⟨o, e, _⟩ := T.obj _ _ st2 b hb
    have hlt := Heap.lt_size e
    refine ⟨⟨?_, (f2 b hb).2⟩, by rw [h3, Heap.size_push]; exact Nat.lt_succ_of_lt hlt⟩
    rw [upd_ne (by rw [← hD]; exact Nat.ne_of_lt hlt)]
    exact (f2 b hb).1
  have st3 : tn 0 s3.heap := T.keep _ _ _ st2 fun b _ o e => by rw [h3]; exact Heap.get?_push_of_some _ e
  have I4 := block_start I3 ok hN f3
  have pg := hg s3 (upd H2 D (PSetO X.prog X.w D [])) s3.heap.objs.size (cellsFrom (s3.heap.objs.size + 1) scope.names (cloFrom X.env.cells scope.names [])) fp
  have pt := ht s3 (upd H2 D (PSetO X.prog X.w D [])) s3.heap.objs.size (cellsFrom (s3.heap.objs.size + 1) scope.names (cloFrom X.env.cells scope.names [])) fp
  have pe := he s3 (upd H2 D (PSetO X.prog X.w D [])) s3.heap.objs.size (cellsFrom (s3.heap.objs.size + 1) scope.names (cloFrom X.env.cells scope.names [])) fp
  show codeAny _ _ (.compStart (.SetComp elt [⟨tg, iter, ifs, 0⟩] scope pos) 0 (.ref it) (.ref D) (compEnvC scope (cellsFrom (s3.heap.objs.size + 1) scope.names (cloFrom X.env.cells scope.names [])) s3.heap.objs.size X.env)) (compPost (model X.prog X.w) X.A X.xe none (EP X pins σ Q) (.ref D) s3.heap.objs.size) { s3 with heap := pushCells (s3.heap.push { cls := .type "dict", data := .dict #[] }) scope.names }
  have nfp : ∀ b ∈ fp, (upd H2 D (PSetO X.prog X.w D [])) b = none := fun b hb => (f3 b hb).1.1
  generalize hce : compEnvC scope (cellsFrom (s3.heap.objs.size + 1) scope.names (cloFrom X.env.cells scope.names [])) s3.heap.objs.size X.env = ce at I4 pg pt pe ⊢
  have cL : ce.locals = s3.heap.objs.size := by subst hce; rfl
  generalize hH3 : upd H2 D (PSetO X.prog X.w D []) = H3 at I3 I4 pg pt pe w0 nfp f3
  generalize hs4 : ({ s3 with heap := pushCells (s3.heap.push { cls := .type "dict", data := .dict #[] }) scope.names } : Shared) = s4 at I4 ⊢
  have st4 : tn 0 s4.heap := T.keep _ _ _ st3 fun b _ o e => by rw [← hs4]; exact pushCells_keeps _ _ _ _ (Heap.get?_push_of_some _ e)
  have stat : ∀ {σ' : L2.St} {H' : Hp} {s' : Shared}, Inv (X.blk s3 H3 scope ce fp) [] σ' H' s' → (∀ b ∈ fp, H' b = none) → ∀ b ∈ fp, FpOk (X.blk s3 H3 scope ce fp) [] H' b := fun {σ' H' s'} I' hn b hb =>
    ⟨hn b hb, (I'.ok.exf b hb).1, I'.ok.exfs b hb, .inl hb, fun x c e => (I'.ok.exf b hb).2 x c e, fun p hp => absurd (show p ∈ ([] : List (Addr × Obj)) ++ [] from hp) (by simp)⟩
  have loop : codeAny (model X.prog X.w) X.A (.compLoop (.SetComp elt [⟨tg, iter, ifs, 0⟩] scope pos) 0 (.ref it) (.ref D) ce) (compPost (model X.prog X.w) X.A X.xe none (EP X pins σ Q) (.ref D) s3.heap.objs.size) s4 := by
    refine PpSet.compLoopS_any (fun n s' => ∃ i H', Inv (X.blk s3 H3 scope ce fp) [] (wipe σ (own.map (·.2))) H' s' ∧ tn i s'.heap ∧ (∀ b ∈ fp, H' b = none) ∧ W i n H') ?_ m0 ⟨0, H3, I4, st4, nfp, w0⟩
    rintro n s5 ⟨i, H5, I5, st5, n5, w5⟩
    rcases turn i n H5 w5 with ⟨stop, qq⟩ | ⟨go, Nx, hNx, step⟩
    · have td := T.done (X.blk s3 H3 scope ce fp) rfl rfl rfl hc i [] s5 _ H5 (fun _ _ => False) I5 (stat I5 n5) st5 stop
      refine thnF td fun r s6 ⟨hr, I6⟩ => ?_
      subst hr
      have I7 : Inv X pins σ H5 s6 := I3.call' (ch := fp) I6.os I6.base I6.hok I6.bare fun b hb => ⟨(f3 b hb).1.2.2.2.1, (f3 b hb).1.2.1, (f3 b hb).1.2.2.2.2.1, (f3 b hb).1.2.2.2.2.2⟩
      have nC : H5 s3.heap.objs.size = none := by
        have z : H5 ce.locals = none := I6.free
        rw [cL] at z
        exact z
      obtain ⟨m, hn, _⟩ := I6.loc
      have hn : s6.heap.Ns ce.locals m := hn
      rw [cL] at hn
      obtain ⟨g0, g1, g2, g3, g4, g5⟩ := (I3.fpOk (Nat.le_refl _) nC)
      refine ⟨m, hn, fun h'' sb => ?_⟩
      exact ⟨.ref D, H5, I7.turned (t' := s6.toks) (fun b o hb e => (sb.2 b hb).trans e) nC g1 g3 g4 g5, rfl, qq⟩
    · have ti := T.item (X.blk s3 H3 scope ce fp) rfl rfl rfl hc i [] s5 _ H5 (fun _ _ => False) I5 (stat I5 n5) st5 go
      refine thnF ti fun r s6 ⟨u, hr, h6⟩ => ?_
      subst hr
      refine thnF h6 fun _ s7 ⟨x, H7, I7, r7, y7, st7, n7⟩ => ?_
      have I7' := I7.pinned (stat I7 n7) (T.obj _ _ st7)
      refine thnF (pg.run _ s7 _ H7 x u _ I7' r7 (step x H7 y7)) fun _ s8 ⟨σ8, H8, I8, hw8, q8⟩ => ?_
      refine thnF (pt.run _ s8 σ8 H8 _ I8 q8) fun b s9 ⟨H9, I9, q9⟩ => ?_
      have fin : ∀ {s' : Shared} {H' : Hp}, Inv (X.blk s3 H3 scope ce fp) ([] ++ pinsAt fp s7.heap) σ8 H' s' → Nx H' → ∃ m, m < n ∧ ∃ i H', Inv (X.blk s3 H3 scope ce fp) [] (wipe σ (own.map (·.2))) H' s' ∧ tn i s'.heap ∧ (∀ b ∈ fp, H' b = none) ∧ W i m H' := fun {s' H'} I' nx => by
        obtain ⟨m', hm, w'⟩ := hNx H' nx
        have pin' : ∀ b ∈ fp, ∀ o, s7.heap.get? b = some o → s'.heap.get? b = some o ∧ H' b = none := fun b hb o e =>
          let z := I'.pin (b, o) (List.mem_append_right _ (List.mem_append_right _ (mem_pinsAt hb e)))
          ⟨z.1, z.2.1⟩
        have hl : (wipe σ (own.map (·.2))).length = σ8.length := by rw [← hw8, wipe_length]
        refine ⟨m', hm, i + 1, H', (I'.unpinned (pins := [])).weak hl (fun j v e => ?_), T.keep _ _ _ st7 fun b hb o e => (pin' b hb o e).1, fun b hb => ?_, w'⟩
        · rw [← hw8] at e
          exact (wipe_some e).1
        · obtain ⟨o, e, _⟩ := T.obj _ _ st7 b hb
          exact (pin' b hb o e).2
      cases b with
      | false =>
        simp only [Bool.false_eq_true, if_false] at q9 ⊢
        exact fin I9 q9
      | true =>
        simp only [if_true] at q9 ⊢
        refine thnF (pe.run _ s9 σ8 H9 _ I9 q9) fun z s10 ⟨yv, H10, I10, r10, c, k, L, ey, hc10, hD10, hm10, few, nx⟩ => ?_
        subst ey
        cases (show z = Value.ref c from r10)
        exact setp_add (X := X.blk s3 H3 scope ce fp) (A := X.A) (by omega) I10 hD10 hm10 hc10 few fun s11 L' c1 c2 I11 => fin I11 (nx L' c1 c2)
  exact PpSet.codeAny_compStart_set loop (T.self X.A 0 _ _ _ st4 loop)
end
/-! ### sorted of such a set -/
def lexS (p q : Str × Int) : Bool := if p.1 = q.1 then decide (p.2 < q.2) else decide (p.1.cps.toList < q.1.cps.toList)
theorem str_ne {x y : Str} (h : x ≠ y) : x.cps.toList ≠ y.cps.toList := by
  obtain ⟨x⟩ := x
  obtain ⟨y⟩ := y
  intro e
  exact h (by rw [show x = y from Array.toList_inj.mp e])
theorem lexS_iff {p q : Str × Int} : lexS p q = true ↔ p.1.cps.toList < q.1.cps.toList ∨ (p.1 = q.1 ∧ p.2 < q.2) := by
  unfold lexS
  by_cases e : p.1 = q.1
  · rw [if_pos e, decide_eq_true_eq, e]
    constructor
    · exact fun h => .inr ⟨rfl, h⟩
    · rintro (h | h)
      · exact absurd h (List.lt_irrefl _)
      · exact h.2
  · rw [if_neg e, decide_eq_true_eq]
    constructor
    · exact .inl
    · rintro (h | h)
      · exact h
      · exact absurd h.1 e
theorem lexS_tot {p q : Str × Int} (h : lexS q p = false) : lexS p q = true ∨ p = q := by
  by_cases e : p.1 = q.1
  · have h2 : ¬ q.2 < p.2 := fun z => by
      rw [lexS_iff.mpr (.inr ⟨e.symm, z⟩)] at h
      cases h
    rcases Int.lt_trichotomy p.2 q.2 with c | c | c
    · exact .inl (lexS_iff.mpr (.inr ⟨e, c⟩))
    · exact .inr (Prod.ext e c)
    · exact absurd c h2
  · have h2 : ¬ q.1.cps.toList < p.1.cps.toList := fun z => by
      rw [lexS_iff.mpr (.inl z)] at h
      cases h
    rw [List.not_lt] at h2
    rcases List.le_iff_lt_or_eq.mp h2 with c | c
    · exact .inl (lexS_iff.mpr (.inl c))
    · exact absurd c (str_ne e)
theorem lexS_asym {p q : Str × Int} (h : lexS p q = true) : lexS q p = false := by
  cases h2 : lexS q p with
  | false => rfl
  | true =>
    rcases lexS_iff.mp h with a | ⟨a, b⟩
    · rcases lexS_iff.mp h2 with c | ⟨c, d⟩
      · exact absurd (List.lt_trans a c) (List.lt_irrefl _)
      · rw [c] at a
        exact absurd a (List.lt_irrefl _)
    · rcases lexS_iff.mp h2 with c | ⟨c, d⟩
      · rw [a] at c
        exact absurd c (List.lt_irrefl _)
      · omega
theorem lexS_trans {p q r : Str × Int} (h1 : lexS p q = true) (h2 : lexS q r = true) : lexS p r = true := by
  rcases lexS_iff.mp h1 with a | ⟨a, b⟩
  · rcases lexS_iff.mp h2 with c | ⟨c, d⟩
    · exact lexS_iff.mpr (.inl (List.lt_trans a c))
    · rw [c] at a
      exact lexS_iff.mpr (.inl a)
  · rcases lexS_iff.mp h2 with c | ⟨c, d⟩
    · rw [← a] at c
      exact lexS_iff.mpr (.inl c)
    · exact lexS_iff.mpr (.inr ⟨a.trans c, by omega⟩)
theorem swo_lexS {α : Type} (k : α → Str × Int) : SrtO.Swo fun v u => lexS (k v) (k u) := by
  refine ⟨fun x y h => lexS_asym h, fun x y z h1 h2 => ?_⟩
  rcases lexS_tot h1 with a | a
  · rcases lexS_tot h2 with b | b
    · exact lexS_asym (lexS_trans a b)
    · rw [← b]
      exact lexS_asym a
  · rw [a]
    exact h2
/-- a pair of a text and an int -/
def IsPairS (h : Heap) (v : Value) (p : Str × Int) : Prop := ∃ a o t u n, v = .ref a ∧ h.get? a = some o ∧ o.cls = .type "tuple" ∧ o.data = .seq #[.str p.1 t, .int p.2 u] n
section
variable {prog : Program} {w : World} {A : Around} {E : Value → Shared → Prop} {s : Shared}
theorem pairS_cmp {vs : List Value} {k : Value → Str × Int} (hp : ∀ v ∈ vs, IsPairS s.heap v (k v)) : SrtO.Cmp prog w A s (tuples' true) (fun p => p.1 ∈ vs) (SrtO.lt2 fun v u => lexS (k v) (k u)) := by
  intro p q hm hm'
  obtain ⟨a, o, t, u, n, e, ho, hc, hd⟩ := hp _ hm
  obtain ⟨a', o', t', u', n', e', ho', hc', hd'⟩ := hp _ hm'
  show wpAny (model prog w) A (keyLt' (tuples' true) p.1 q.1) (fun r s' => s' = s ∧ r = lexS (k p.1) (k q.1)) (fun _ _ => False) s
  unfold lexS
  generalize k p.1 = x at hd ⊢
  generalize k q.1 = y at hd' ⊢
  rw [e, e']
  refine PySem.W.kat_lt ho hd ho' hd' ?_
  show PySem.W.KatLex prog w A true (decide (2 < 2)) _ [(.str x.1 t, .str y.1 t'), (.int x.2 u, .int y.2 u')] 0 s
  refine PySem.W.kat_cons (SeqAt.EqAt.str_str x.1 t y.1 t' prog w _ _ ?_)
  refine PySem.W.kat_go (fun e1 => ?_) (fun e1 => ?_)
  · have ex : x.1 = y.1 := by simpa using e1
    refine PySem.W.kat_yes (PySem.W.kat_cons (SeqAt.EqAt.int_int x.2 u y.2 u' prog w _ _ ?_))
    refine PySem.W.kat_go (fun e2 => ?_) (fun e2 => ?_)
    · have ey : x.2 = y.2 := by simpa using e2
      refine PySem.W.kat_yes (PySem.W.kat_nil ⟨rfl, ?_⟩)
      rw [if_pos ex, ey]
      exact (decide_eq_false (Int.lt_irrefl _)).symm
    · refine PySem.W.kat_no (PySem.W.kat_one _ _ (PyProof.Rows.lt_int ?_))
      exact (show s = s ∧ decide (x.2 < y.2) = (if x.1 = y.1 then decide (x.2 < y.2) else decide (x.1.cps.toList < y.1.cps.toList)) from ⟨rfl, (if_pos ex).symm⟩)
  · have ex : ¬ x.1 = y.1 := by simpa using e1
    exact PySem.W.kat_no (oneLt_str ⟨rfl, (if_neg ex).symm⟩)
theorem firstsS {h : Heap} : ∀ {vs : List Value}, (∀ v ∈ vs, ∃ p, IsPairS h v p) → ∃ fs : List Value, PySem.W.KatTups h vs fs ∧ fs.length = vs.length ∧ ∀ f ∈ fs, ∃ x t, f = Value.str x t
  | [], _ => ⟨[], PySem.W.KatTups.nil, rfl, fun _ hm => by simp at hm⟩
  | v :: vs, hp => by
    obtain ⟨fs, h1, h2, h3⟩ := firstsS (vs := vs) fun v' hm => hp v' (List.mem_cons_of_mem _ hm)
    obtain ⟨p, a, o, t, u, n, rfl, ho, hc, hd⟩ := hp v List.mem_cons_self
    refine ⟨.str p.1 t :: fs, PySem.W.KatTups.cons ho hc hd rfl h1, by rw [List.length_cons, List.length_cons, h2], fun f hm => ?_⟩
    rcases List.mem_cons.mp hm with rfl | hm
    · exact ⟨p.1, t, rfl⟩
    · exact h3 f hm
theorem pairS_keeps {h h' : Heap} {v : Value} {p : Str × Int} (x : IsPairS h v p) (k : ∀ b o, h.get? b = some o → o.cls = .type "tuple" → h'.get? b = some o) : IsPairS h' v p := by
  obtain ⟨a, o, t, u, n, e, ho, hc, hd⟩ := x
  exact ⟨a, o, t, u, n, e, k _ _ ho hc, hc, hd⟩
theorem pairS_sortable {a : Addr} {vs : List Value} {k : Value → Str × Int} (h0 : 0 < vs.length) (hp : ∀ v ∈ vs, IsPairS s.heap v (k v)) (ha : ∀ o, s.heap.get? a = some o → o.cls ≠ .type "tuple") : SrtO.SortableO prog w A s a vs fun v u => lexS (k v) (k u) := by
  intro h' keep
  have hp' : ∀ v ∈ vs, IsPairS h' v (k v) := fun v hm => pairS_keeps (hp v hm) fun b o e c => keep b o (fun z => by subst z; exact ha o e c) e
  obtain ⟨fs, h1, h2, h3⟩ := firstsS fun v hm => ⟨_, hp' v hm⟩
  refine ⟨tuples' true, fun Q E hq => ?_, pairS_cmp hp'⟩
  refine PySem.W.kat_kind (T := .type "str") h1 (by omega) (fun f hm => ?_) (by rfl) ?_
  · obtain ⟨x, t, rfl⟩ := h3 f hm
    exact PySem.W.Looks.now
  · have e : (Value.type "str" != Value.type "tuple") = true := by first | decide +kernel | rfl | decide
    rw [e]
    exact hq
end
theorem perm_map_inv {α β : Type} {f : α → β} : ∀ {l m : List β}, l.Perm m → ∀ L : List α, m = L.map f → ∃ L' : List α, L'.Perm L ∧ l = L'.map f := by
  intro l m h
  induction h with
  | nil => intro L e; exact ⟨[], by rw [List.map_eq_nil_iff.mp e.symm], rfl⟩
  | @cons x l m h ih =>
    intro L e
    obtain ⟨y, L1, rfl, rfl, e1⟩ := List.map_eq_cons_iff.mp e.symm
    obtain ⟨L', p, rfl⟩ := ih L1 e1.symm
    exact ⟨y :: L', p.cons y, rfl⟩
  | swap x y l =>
    intro L e
    obtain ⟨a, L1, rfl, rfl, e1⟩ := List.map_eq_cons_iff.mp e.symm
    obtain ⟨b, L2, rfl, rfl, e2⟩ := List.map_eq_cons_iff.mp e1
    subst e2
    exact ⟨b :: a :: L2, List.Perm.swap .., rfl⟩
  | trans h1 h2 ih1 ih2 =>
    intro L e
    obtain ⟨L2, p2, e2⟩ := ih2 L e
    obtain ⟨L1, p1, e1⟩ := ih1 L2 e2
    exact ⟨L1, p1.trans p2, e1⟩
/-- the pair that stands at an address -/
def pairAt (H : Hp) (a : Addr) : Str × Int := match H a with
  | some (.tup [.str x, .int i]) => (x, i)
  | _ => ("", 0)
def PairsAt (H : Hp) (L : List (Addr × List Key)) : Prop := ∀ p ∈ L, ∃ x i, p.2 = [Sum.inr x, Sum.inl i] ∧ H p.1 = some (.tup [.str x, .int i])
def rSortP (P : Program) (w : World) : List V → Hp → VK → Prop := fun vs H Q => ∃ (a : Addr) (L : List (Addr × List Key)), vs = [V.ref a] ∧ H a = some (PSetO P w a L) ∧ PairsAt H L ∧ 
  ∀ (as : List Addr) (p : Addr), as.Perm (L.map Prod.fst) → as.Pairwise (fun b c => lexS (pairAt H c) (pairAt H b) = false) → H p = none → Q (.ref p) (upd H p (.lst (as.map V.ref)))
theorem cr_sortP {X : Cx} (hc : X.calm = true) : CallR X (.builtin "sorted") (rSortP X.prog X.w) := by
  intro pins s σ H vs us Q I r h
  obtain ⟨a, L, rfl, ha, hL, q⟩ := h
  obtain ⟨⟨es, ep, t, R⟩, _⟩ := I.hok a _ ha
  obtain ⟨o, ho, hex, hd⟩ := id R.obj
  have hsz := rows_size R.rows
  have hfew := R.few
  rw [Vals.ref1 r]
  let k : Value → Str × Int := fun v => match v with | .ref b => pairAt H b | _ => ("", 0)
  have pk : ∀ b ∈ L.map Prod.fst, IsPairS s.heap (.ref b) (k (.ref b)) := by
    intro b hb
    obtain ⟨p, hp, rfl⟩ := List.mem_map.mp hb
    obtain ⟨x, i, e, hx⟩ := hL p hp
    obtain ⟨_, its, rv, ob, h1, h2, n, h3⟩ := I.hok _ _ hx
    obtain ⟨u1, u2, rfl, ⟨t1, rfl⟩, t2, rfl⟩ := vals2 rv
    have ek : k (.ref p.1) = (x, i) := by
      show pairAt H p.1 = _
      unfold pairAt
      rw [hx]
    rw [ek]
    exact ⟨p.1, ob, t1, t2, n, rfl, h1, h2, h3⟩
  refine Calls.call_function_entry kind_sorted plain_sorted entry_sorted (args_sorted1 _) ?_
  unfold Builtin.«sorted»
  refine wpAny_bind (m := checkCount "sorted" 1 1 _) (wpAny_pure ?_)
  refine wpAny_bind (collect_set (P := X.prog) (w := X.w) (A := X.A.in1) (I.ok.hd hc) ⟨o, ho, hex.1, hd⟩ R.fits (by unfold scanBound; omega) R.tab.ris R.led fun s1 vs k1 hz g1 o1 pm => ?_)
  have hes : es.toList.map (·.2) = (L.map Prod.fst).map Value.ref := by
    rw [R.rows, List.map_map, List.map_map]
    rfl
  rw [hes] at pm
  obtain ⟨as0, pas0, rfl⟩ := perm_map_inv pm (L.map Prod.fst) rfl
  have hvl : (as0.map Value.ref).length < 64 := by rw [List.length_map, pas0.length_eq, List.length_map]; exact hfew
  refine wpAny_bind (wpAny_newList ?_ (by rw [sizeLine_eq]; omega))
  have hoL : (s1.heap.push (seqObj "list" (as0.map Value.ref).toArray 0)).get? s1.heap.objs.size = some (seqObj "list" (as0.map Value.ref).toArray 0) := Heap.get?_push_size _ rfl
  have pk1 : ∀ v ∈ as0.map Value.ref, IsPairS (s1.heap.push (seqObj "list" (as0.map Value.ref).toArray 0)) v (k v) := by
    intro v hv
    obtain ⟨b, hb, rfl⟩ := List.mem_map.mp hv
    exact pairS_keeps (pk b (pas0.mem_iff.mp hb)) fun c u e _ => Heap.get?_push_of_some _ (k1 c u e)
  refine wpAny_bind (wpAny_holding (wpAny_call_entry slot_list_sort ⟨_, hoL, rfl⟩ entry_list_sort (SrtO.list_sort_ord (s := { s1 with heap := s1.heap.push (seqObj "list" (as0.map Value.ref).toArray 0) }) (swo_lexS k) hoL (by rw [sizeLine_eq]; omega) (fun h2 => pairS_sortable (by omega) pk1 fun o2 e2 c2 => ?_) fun out hs hb => ⟨_, rfl, ?_⟩) (args_list_sort _)))
  · have e3 : some o2 = some (seqObj "list" (as0.map Value.ref).toArray 0) := e2.symm.trans hoL
    cases e3
    exact absurd (Value.type.inj c2) (by decide)
  · obtain ⟨as, pas, rfl⟩ := perm_map_inv hb.perm as0 rfl
    obtain ⟨c, hcl⟩ := sortedHeap_at (vs := as0.map Value.ref) (out := (as.map Value.ref).toArray) hoL
    have keep : ∀ b u, s.heap.get? b = some u → (sortedHeap (s1.heap.push (seqObj "list" (as0.map Value.ref).toArray 0)) s1.heap.objs.size (as0.map Value.ref) (as.map Value.ref).toArray).get? b = some u := fun b u e => by
      have q := k1 b u e
      have hlt := Heap.lt_size q
      rw [sortedHeap_old (Nat.ne_of_lt hlt) (by rw [size_push']; exact Nat.lt_succ_of_lt hlt)]
      exact Heap.get?_push_of_some _ q
    have hn : H s1.heap.objs.size = none := I.hok.fresh hz
    have hlen : (as.map V.ref).length ≤ sizeLine := by rw [List.length_map, pas.length_eq, sizeLine_eq]; rw [List.length_map] at hvl; omega
    have vr : ∀ l : List Addr, Vals (l.map V.ref) (l.map Value.ref) := fun l => by
      induction l with
      | nil => exact .nil
      | cons b l ih => exact .cons rfl ih
    have J : Inv X pins σ (upd H s1.heap.objs.size (.lst (as.map V.ref))) { s with heap := sortedHeap (s1.heap.push (seqObj "list" (as0.map Value.ref).toArray 0)) s1.heap.objs.size (as0.map Value.ref) (as.map Value.ref).toArray, gens := s1.gens, drawn := s1.drawn, toks := s1.toks } :=
      I.call (ch := []) (Un.laid keep hz hn) (I.hok.laid keep hz ⟨hlen, as.map Value.ref, c, vr as, hcl⟩) (by rw [g1]; exact I.bare) (fun _ z => nomatch z)
    refine wpAny_pure ⟨_, rfl, ?_⟩
    have e : ({ s1 with heap := sortedHeap (s1.heap.push (seqObj "list" (as0.map Value.ref).toArray 0)) s1.heap.objs.size (as0.map Value.ref) (as.map Value.ref).toArray } : Shared) = { s with heap := sortedHeap (s1.heap.push (seqObj "list" (as0.map Value.ref).toArray 0)) s1.heap.objs.size (as0.map Value.ref) (as.map Value.ref).toArray, gens := s1.gens, drawn := s1.drawn, toks := s1.toks } := by
      cases s1
      cases s
      cases o1
      rfl
    refine ⟨.ref s1.heap.objs.size, _, by rw [← e] at J; exact J, rfl, q as _ (pas.trans pas0) ?_ hn⟩
    exact List.pairwise_map.mp hs
end Fn

set_option Elab.async false
set_option maxRecDepth 100000
set_option maxHeartbeats 2000000
/-! Instances that are made by a def which may raise, within a try or not; a class held by a local; a classmethod; len of an instance. -/
namespace Fn
open PySem PySem.Spec PyProof.Rows L2
section
variable {X : Cx} {CX : CXT} {k : Nat} {f C : Addr} {fd : FuncData} {ps : List Str} {sp : Sp} {E : L2.St → XK}
theorem run_rawS {pins : List (Addr × Obj)} {σ : L2.St} {H : Hp} {s : Shared} {Q : VK} {us : List Value} {vs : List V} (F : FnR X.prog X.w X.K X.mg X.base CX k f sp) (hr : Room k X.A) (hx : PassesAt CX X σ (E σ)) (I : Inv X pins σ H s) (r : Vals vs us) (h : sp vs H Q (E σ)) :
    codeAny (model X.prog X.w) X.A (.call (.ref f) ⟨us, []⟩) (fun r s' => match r with | .ok (.ret v) => EP X pins σ Q v s' | .ok _ => False | .error e => X.xe e s') s := by
  refine codeAny_mono (F X.A X.stack s H us vs Q (E σ) hr I.env0 r h) fun r s' hq => ?_
  cases r with
  | error e => exact hx pins H s e s' I hq
  | ok fl =>
    cases fl with
    | ret u => exact I.after hq
    | next => exact False.elim hq
    | brk => exact False.elim hq
    | cont => exact False.elim hq
theorem raw0 {P : Program} {w : World} {K : PySem.W.Frag} {mg : PySem.Str → Option Value} {base : Heap} {CX : CXT} (F : FnOk P w K mg base CX k f fd ps sp) (hb : Binds K fd ps []) : FnR P w K mg base CX k f sp :=
  (F.raw hb .nil).imp fun vs H Q E h => by
    show sp (vs ++ []) H Q E
    rw [List.append_nil]
    exact h
/-- C(e, ..); what the caller wishes of an exception may hang on the slots -/
def tMakeS (C : Addr) (sp : Sp) (E : L2.St → XK) (t : TA) : TE := fun σ H Q => t σ H fun vs H1 => ∀ x dx, H1 x = Option.none → H1 dx = Option.none → dx ≠ x →
  sp (V.ref x :: vs) (upd (upd H1 dx (.own x)) x (.ins C dx [])) (fun v H2 => v = .non ∧ Q (.ref x) H2) (E σ)
theorem run_makeS {pins : List (Addr × Obj)} {σ : L2.St} {H : Hp} {s : Shared} {Q : VK} {us : List Value} {vs : List V} (M : Mk X.K C f) (F : FnOk X.prog X.w X.K X.mg X.base CX k f fd ps sp) (hb : Binds X.K fd ps []) (hr : Room (k + 1) X.A) (hx : PassesAt CX X σ (E σ)) (I : Inv X pins σ H s) (r : Vals vs us)
    (h : ∀ x dx, H x = Option.none → H dx = Option.none → dx ≠ x → sp (V.ref x :: vs) (upd (upd H dx (.own x)) x (.ins C dx [])) (fun v H2 => v = .non ∧ Q (.ref x) H2) (E σ)) :
    wpAny (model X.prog X.w) X.A (call (.ref C) us) (EP X pins σ Q) X.xe s := by
  have hq := h (s.heap.objs.size + 1) s.heap.objs.size (I.hok.fresh (Nat.le_succ _)) (I.hok.fresh (Nat.le_refl _)) (Nat.ne_of_lt (Nat.lt_succ_self _))
  have I2 := Inv.made (C := C) I
  have r2 : Vals (V.ref (s.heap.objs.size + 1) :: vs) (Value.ref (s.heap.objs.size + 1) :: us) := .cons rfl r
  have F' := raw0 F hb
  refine wpAny_call (make_map (f := f) I.kIn M.makes M.init (beq_iff_eq.mp M.fn) (codeAny_mono (F' _ X.stack _ _ (Value.ref (s.heap.objs.size + 1) :: us) _ _ (E σ) (hr.make C us []) (I2.env0.make C us []) r2 hq) fun r s' hq' => ?_))
  cases r with
  | error e => exact hx pins _ _ e s' I2 hq'
  | ok fl =>
    cases fl with
    | ret u =>
      obtain ⟨v, H', I3, rv, ev, q3⟩ := I2.after hq'
      subst ev
      exact ⟨rv, ⟨V.ref (s.heap.objs.size + 1), H', I3, rfl, q3⟩⟩
    | next => exact False.elim hq'
    | brk => exact False.elim hq'
    | cont => exact False.elim hq'
variable {x m : Str} {e o : Expr} {es : List Expr} {t : TA} {ta : TE} {p pos apos : Pos}
theorem pe_makeS (M : Mk X.K C f) (F : FnOk X.prog X.w X.K X.mg X.base CX k f fd ps sp) (hb : Binds X.K fd ps []) (hr : Room (k + 1) X.A) (hg : Gl X x) (hm : X.mg x = some (.ref C)) (hx : ∀ σ, PassesAt CX X σ (E σ)) (ha : PA X (e :: es) t) (hdb : (x == ("__debug__" : Str)) = false := by decide)
    (he : starEach (e :: es) X.env = (false, eval e X.env) :: starEach es X.env := by rfl) (hpl : (backTo pos (starEach es X.env)).any (·.1) = false := by rfl) : PE X (.Call (.Name x p) (e :: es) [] pos) (tMakeS C sp E t) := by
  refine ⟨fun pins s σ H Q I h => ?_⟩
  refine wpAny_Call_Name_kw (ld_glob I hg hm ?_ hdb)
  refine PySem.W.callWith_K (h₀ := X.base) I.ok.mod.kin M.kp (thn (ha.run pos pins s σ H _ I h) fun us s1 ⟨vs, H1, I1, r, q⟩ => ⟨I1.kIn, ?_⟩) he hpl
  exact run_makeS M F hb hr (hx σ) I1 r q
/-- .. the class is held by a local -/
theorem pe_makeLS {i : Nat} (M : Mk X.K C f) (F : FnOk X.prog X.w X.K X.mg X.base CX k f fd ps sp) (hb : Binds X.K fd ps []) (hr : Room (k + 1) X.A) (hN : X.N[i]? = some x) (hv : Vis X.env.scope x) (hx : ∀ σ, PassesAt CX X σ (E σ)) (ha : PA X (e :: es) t) (hdb : (x == ("__debug__" : Str)) = false := by decide) (hcd : (x == ("__classdict__" : Str)) = false := by decide)
    (he : starEach (e :: es) X.env = (false, eval e X.env) :: starEach es X.env := by rfl) (hpl : (backTo pos (starEach es X.env)).any (·.1) = false := by rfl) : PE X (.Call (.Name x p) (e :: es) [] pos) (fun σ H Q => σ[i]? = some (some (.ref C)) ∧ tMakeS C sp E t σ H Q) := by
  refine ⟨fun pins s σ H Q I h => ?_⟩
  obtain ⟨hs, ht⟩ := h
  refine wpAny_Call_Name_kw (thn ((pe_var (pos := p) hN hv hdb hcd).run pins s σ H (fun v H1 => v = .ref C ∧ H1 = H) I ⟨.ref C, hs, rfl, rfl⟩) fun u s1 ⟨v, H1, I1, r1, q1⟩ => ?_)
  obtain ⟨rfl, rfl⟩ := q1
  cases r1
  refine PySem.W.callWith_K (h₀ := X.base) I.ok.mod.kin M.kp (thn (ha.run pos pins s1 σ _ _ I1 ht) fun us s2 ⟨vs, H2, I2, r, q⟩ => ⟨I2.kIn, ?_⟩) he hpl
  exact run_makeS M F hb hr (hx σ) I2 r q
/-- e.m(..), e the class at C, m a classmethod -/
def tCMethS (C : Addr) (sp : Sp) (E : L2.St → XK) (ta : TE) (t : TA) : TE := fun σ H Q => ta σ H fun x H1 => x = .ref C ∧ t σ H1 fun vs H2 => sp (.ref C :: vs) H2 Q (E σ)
theorem run_cmS {g q : Addr} {pins : List (Addr × Obj)} {σ : L2.St} {H : Hp} {s : Shared} {Q : VK} {us : List Value} {vs : List V} (F : FnR X.prog X.w X.K X.mg X.base CX k g sp) (hr : Room k X.A) (hx : PassesAt CX X σ (E σ)) (I : Inv X ((q, PySem.W.methodObj (.ref g) (.ref C)) :: pins) σ H s)
    (r : Vals vs us) (h : sp (.ref C :: vs) H Q (E σ)) : wpAny (model X.prog X.w) X.A (call (.ref q) us) (EP X pins σ Q) X.xe s := by
  have z : wpAny (model X.prog X.w) X.A (call (.ref q) us) (EP X ((q, PySem.W.methodObj (.ref g) (.ref C)) :: pins) σ Q) X.xe s :=
    wpAny_call (PySem.W.method_call (ClX.pin_at I) (run_rawS (us := .ref C :: us) (vs := .ref C :: vs) F hr hx I (.cons rfl r) h))
  exact thn z fun _ _ y => ClX.unpinE y
theorem pe_cmethS {g pa : Addr} {mc : Value} {pl : Sem Bool} (he : PE X o ta) (r : ClX.CRead X.K C mc) (c : ClX.CMet X.K C mc m pa g) (F : FnR X.prog X.w X.K X.mg X.base CX k g sp) (hr : Room k X.A) (hx : ∀ σ, PassesAt CX X σ (E σ)) (ha : PA X (e :: es) t)
    (hst : starEach (e :: es) X.env = (false, eval e X.env) :: starEach es X.env := by rfl) (hpl : (backTo pos (starEach es X.env)).any (·.1) = false := by rfl)
    (ht : eval (.Call (.Attribute o m apos) (e :: es) [] pos) X.env = (do
      let ov ← eval o X.env
      standAt apos.atName
      let (f, first) ← holding [ov] (getMethod ov m pl)
      callWith pos f first (backTo pos (starEach (e :: es) X.env)) (backToKw pos (keywordEach [] X.env))) := by rfl) :
    PE X (.Call (.Attribute o m apos) (e :: es) [] pos) (tCMethS C sp E ta t) := by
  refine ⟨fun pins s σ H Q I h => ?_⟩
  refine PySem.W.methodCall_KW (pl := pl) (thn (he.run pins s σ H _ I h) fun u s1 ⟨x, H1, I1, rx, ex, q⟩ => ?_) ht
  subst ex
  obtain rfl : u = Value.ref C := rx
  refine ClX.getmethcm_ok I1 r c fun s2 I2 => ?_
  refine ClX.callwith_cm I2 (ClX.base_none I1 (Nat.le_refl _)) c.fi (thn (ha.run pos _ s2 σ H1 _ I2 q) fun us s3 ⟨vs, H2, I3, rv, q2⟩ => ⟨⟨ClX.pin_at I3, I3.kIn⟩, ?_⟩) hst hpl
  exact run_cmS F hr (hx σ) I3 rv q2
/-- len(o), by the class's own __len__, which raises nothing -/
def rLenO (C : Addr) (sp : Sp) : List V → Hp → VK → Prop := fun xs H Q => ∃ (a dx : Addr) (fs : List (Str × V)), xs = [.ref a] ∧ H a = some (.ins C dx fs) ∧ sp [.ref a] H (fun v H' => ∃ n : Int, v = .int n ∧ 0 ≤ n ∧ n < 2 ^ 63 ∧ Q (.int n) H') E0
theorem call_lenO {g : Addr} (hs : PySem.W.findIn X.K (.ref C) "__len__" = some (some (.ref g))) (hf : PySem.W.isFn X.K (.ref g) = true) (F : FnOk X.prog X.w X.K X.mg X.base CX0 k g fd ps sp) (hb : Binds X.K fd ps []) (hr : Room (k + 1) X.A) : CallR X (.builtin "len") (rLenO C sp) := by
  intro pins s σ H xs us Q I r h
  obtain ⟨a, dx, fs, rfl, ea, q⟩ := h
  obtain ⟨u, rfl, ru⟩ := vals1 r
  obtain rfl : u = Value.ref a := ru
  obtain ⟨mA, O, _, _, _, _⟩ := ins_get I.hok ea
  obtain ⟨od, J, _⟩ := O.look
  refine Calls.call_function_entry kind_len plain_len entry_len (args_len1 _) ?_
  unfold Builtin.«len»
  refine wpAny_bind (m := oneArg "len" _) (wpAny_pure ?_)
  refine wpAny_bind (m := callSpecial? (.ref a) (Str.ofString "__len__")) (PySem.W.special_fn (args := []) I.kIn J hs (beq_iff_eq.mp hf) ?_)
  have F' := raw0 F hb
  refine wpAny_call (codeAny_mono (F' X.A.in1 X.stack s H [.ref a] [.ref a] _ E0 hr.in1 I.env0.in1 (.cons rfl .nil) q) fun r s' hq => ?_)
  cases r with
  | error e => exact False.elim hq
  | ok fl =>
    cases fl with
    | ret u =>
      obtain ⟨v, H', I3, rv, n, rfl, h0, h1, q3⟩ := I.after hq
      obtain ⟨tk, rfl⟩ : ∃ tk, u = Value.int n tk := rv
      refine wpAny_bind (wpAny_holding (wpAny_pure ?_))
      refine wpAny_bind (wpAny_letGo ?_)
      show wpAny _ _ (if n < 0 then _ else _) _ _ _
      rw [if_neg (by omega)]
      show wpAny _ _ (if n ≥ 2 ^ 63 then _ else _) _ _ _
      rw [if_neg (by omega)]
      exact wpAny_bind (wpAny_mkInt (wpAny_pure ⟨_, rfl, .int n, H', I3.tok _, ⟨_, rfl⟩, q3⟩))
    | next => exact False.elim hq
    | brk => exact False.elim hq
    | cont => exact False.elim hq
end
/-! ### what the written part says of the classes Term and InvalidTerm -/
structure Ta where
  (T X fi fl pn gn pb gb : Addr)
abbrev mcT : Value := .type "type"
abbrev tValE : List Value := [.type "ValueError", .type "Exception", .type "BaseException", .type "object"]
structure TermZ (K : PySem.W.Frag) (mg : PySem.Str → Option Value) (c : Ta) : Prop where
  g_T : mg "Term" = some (.ref c.T)
  g_X : mg "InvalidTerm" = some (.ref c.X)
  cls : Cls K c.T
  mkc : Mk K c.T c.fi
  no : NoAttr K c.T "_nodes"
  len : PySem.W.findIn K (.ref c.T) "__len__" = some (some (.ref c.fl))
  lenF : PySem.W.isFn K (.ref c.fl) = true
  prop : PropOf K c.T "nodes" c.pn c.gn
  read : ClX.CRead K c.T mcT
  met : ClX.CMet K c.T mcT "build" c.pb c.gb
  kit : ∀ n ∈ ["NoneType", "bool", "int", "str", "list", "tuple", "dict"], PySem.W.kitOne K (.type n) (.ref c.T) = some false
  kitT : PySem.W.kitOne K (.ref c.T) (.ref c.T) = some true
  c1 : PySem.W.findIn K (.ref c.T) "__class__" = some (some (.builtin "object.__class__"))
  c2 : PySem.W.specialIn K (.builtin "object.__class__") "__get__" = some (some (.builtin "getset_descriptor.__get__"))
  c3 : PySem.W.takesIn K (.builtin "object.__class__") = some true
  c4 : PySem.W.mroIn K c.T (.type "object") = some true
  exc : PySem.W.excIn K c.X tValE "ValueError.__new__" = true
  kX : PySem.W.keepIn K (.ref c.X) = true
  subX : PySem.W.subIn K (.ref c.X) (.type "BaseException") = some true
  tyX : PySem.W.typeIn K (.ref c.X) = some (.type "type")
  exm : PySem.W.exmOne K (.ref c.X) (.ref c.X) = some true
def termB (K : PySem.W.Frag) (c : Ta) : Bool :=
  PySem.W.plainGet K c.T Str.empty && (PySem.W.hasDictIn K c.T && (PySem.W.plainOver K c.T && (decide (PySem.W.findIn K (.ref c.T) "__setattr__" = some (some (.builtin "object.__setattr__"))) && (PySem.W.makesIn K c.T && (PySem.W.isFn K (.ref c.fi) && (PySem.W.keepIn K (.ref c.T) &&
    (decide (PySem.W.findIn K (.ref c.T) "_nodes" = some none) && (PySem.W.isFn K (.ref c.fl) && (decide (PySem.W.specialIn K (.ref c.pn) "__get__" = some (some (.builtin "property.__get__"))) && (decide (PySem.W.takesIn K (.ref c.pn) = some true) &&
    (PySem.W.readsIn K c.T mcT && (decide (PySem.W.specialIn K (.ref c.T) "__getattribute__" = some (some (.builtin "type.__getattribute__"))) && (PySem.W.fnIn K c.gb && decide (PySem.W.kitOne K (.ref c.T) (.ref c.T) = some true))))))))))))))
def clB4 (K : PySem.W.Frag) (C : Addr) : Bool := decide (PySem.W.findIn K (.ref C) "__class__" = some (some (.builtin "object.__class__"))) && (decide (PySem.W.specialIn K (.builtin "object.__class__") "__get__" = some (some (.builtin "getset_descriptor.__get__"))) && (decide (PySem.W.takesIn K (.builtin "object.__class__") = some true) && decide (PySem.W.mroIn K C (.type "object") = some true)))
def kitsB (K : PySem.W.Frag) (C : Addr) : Bool := ["NoneType", "bool", "int", "str", "list", "tuple", "dict"].all fun n => decide (PySem.W.kitOne K (.type n) (.ref C) = some false)
def invB (K : PySem.W.Frag) (X : Addr) : Bool :=
  PySem.W.excIn K X tValE "ValueError.__new__" && (PySem.W.keepIn K (.ref X) && (decide (PySem.W.subIn K (.ref X) (.type "BaseException") = some true) && (decide (PySem.W.typeIn K (.ref X) = some (.type "type")) && decide (PySem.W.exmOne K (.ref X) (.ref X) = some true))))
theorem termZ {K : PySem.W.Frag} {mg : PySem.Str → Option Value} {c : Ta} {rp rb : List Value} (g1 : mg "Term" = some (.ref c.T)) (g2 : mg "InvalidTerm" = some (.ref c.X)) (hi : PySem.W.findIn K (.ref c.T) "__init__" = some (some (.ref c.fi))) (hl : PySem.W.findIn K (.ref c.T) "__len__" = some (some (.ref c.fl)))
    (hp : PySem.W.findIn K (.ref c.T) "nodes" = some (some (.ref c.pn))) (hg : PySem.W.recIn K c.pn "property" = some (.ref c.gn :: rp)) (hm : PySem.W.findCls K (.ref c.T) mcT "build" = some (.get (.builtin "classmethod.__get__") (.ref c.pb) .none (.ref c.T))) (hb : PySem.W.recIn K c.pb "classmethod" = some (.ref c.gb :: rb))
    (h1 : termB K c = true) (h2 : kitsB K c.T = true) (h4 : clB4 K c.T = true) (h3 : invB K c.X = true) : TermZ K mg c := by
  simp only [termB, Bool.and_eq_true, decide_eq_true_eq] at h1
  simp only [invB, Bool.and_eq_true, decide_eq_true_eq] at h3
  simp only [clB4, Bool.and_eq_true, decide_eq_true_eq] at h4
  obtain ⟨a1, a2, a3, a4, a5, a6, a7, a8, a9, a10, a11, a12, a13, a14, a15⟩ := h1
  obtain ⟨b1, b2, b3, b4, b5⟩ := h3
  exact ⟨g1, g2, ⟨a1, a2, a3, a4⟩, ⟨a5, hi, a6, a7⟩, a8, hl, a9, ⟨hp, a10, a11, _, hg⟩, ⟨a12, a13⟩, ⟨hm, ⟨_, hb⟩, a14⟩, fun n hn => of_decide_eq_true (List.all_eq_true.mp h2 n hn), a15, h4.1, h4.2.1, h4.2.2.1, h4.2.2.2, b1, b2, b3, b4, b5⟩
theorem TermZ.ty {K : PySem.W.Frag} {mg : PySem.Str → Option Value} {c : Ta} (Z : TermZ K mg c) {H : Hp} {a dx : Addr} {fs : List (PySem.Str × V)} (e : H a = some (.ins c.T dx fs)) : TyX K H (.ref a) (.ref c.T) := .base (.ins e Z.cls Z.c1 Z.c2 Z.c3 Z.c4)
/-- the statements of a class; the scope of a set comprehension -/
def clS : Stmt → List Stmt
  | .ClassDef _ _ _ body _ _ _ _ _ _ _ => body
  | _ => []
def scSc : Expr → Scope
  | .SetComp _ _ sc _ => sc
  | _ => { kind := .function, names := [], isGenerator := false, isCoroutine := false }
theorem hu64i {A : Around} {k : Nat} (hr : Room k A) : A.units + 64 < cLine := by
  have := hr.un
  omega
theorem passAt0 {X : Cx} (σ : L2.St) : PassesAt (L2.CX X.prog X.w) X σ E0 := fun pins H s e s' I c => passL pins σ H s e s' I c
abbrev WR (E : XK) : WX := fun cls d _ H => E cls d H
end Fn

set_option Elab.async false
set_option maxRecDepth 100000
set_option maxHeartbeats 2000000
/-! Nodes of terms as data; the set of the nodes with words; how long a dict of pairs is. -/
namespace Fn
open PySem PySem.Spec PyProof.Rows L2
/-- a set comprehension over a tuple, by what holds behind each item -/
theorem sc_over_tup {P : Program} {w : World} {K : PySem.W.Frag} {b : Addr} {ys : List V} {gr : TG} {cond : TT} {el : TE} {vs : List Nat} {σ : L2.St} {Hs : Hp} {D : Addr} {End : Hp → Prop} (G : Nat → Hp → Prop) (start : G 0 (upd Hs D (PSetO P w D []))) (there : ∀ i H, G i H → SqT K H b ys) (fin : ∀ H, G ys.length H → End H)
    (turn : ∀ i x H, ys[i]? = some x → G i H → gr x (wipe σ vs) H fun σ' H' => wipe σ' vs = wipe σ vs ∧ cond σ' H' fun t Ht =>
      if t = true then el σ' Ht fun y Hy => ∃ (c : Addr) (k : List Key) (L : List (Addr × List Key)), y = .ref c ∧ Hy c = some (.tup (k.map kV)) ∧ Hy D = some (PSetO P w D L) ∧ Members Hy L ∧ L.length + 1 < 64 ∧
        ∀ L', (k ∈ L.map Prod.snd → L' = L) → (k ∉ L.map Prod.snd → L'.Perm ((c, k) :: L)) → G (i + 1) (upd Hy D (PSetO P w D L')) else G (i + 1) Ht) :
    ∃ M : Nat → Nat → Hp → Prop, (∃ m, M 0 m (upd Hs D (PSetO P w D []))) ∧ ∀ i m H, M i m H → ((Itt K b).stop i H ∧ End H) ∨ ((Itt K b).go i H ∧ ∃ Nx : Hp → Prop, (∀ H', Nx H' → ∃ m', m' < m ∧ M (i + 1) m' H') ∧ ∀ x H', (Itt K b).yld i H x H' → gr x (wipe σ vs) H' fun σ2 H2 => wipe σ2 vs = wipe σ vs ∧ cond σ2 H2 fun t H3 =>
      if t = true then el σ2 H3 fun y H4 => ∃ (c : Addr) (k : List Key) (L : List (Addr × List Key)), y = .ref c ∧ H4 c = some (.tup (k.map kV)) ∧ H4 D = some (PSetO P w D L) ∧ Members H4 L ∧ L.length + 1 < 64 ∧
        ∀ L', (k ∈ L.map Prod.snd → L' = L) → (k ∉ L.map Prod.snd → L'.Perm ((c, k) :: L)) → Nx (upd H4 D (PSetO P w D L')) else Nx H3) := by
  refine ⟨fun i m H => m + i = ys.length ∧ G i H, ⟨_, Nat.add_zero _, start⟩, ?_⟩
  rintro i m H ⟨em, g⟩
  have sq := there i H g
  rcases Nat.lt_or_ge i ys.length with hi | hi
  · right
    have at_ : ys[i]? = some ys[i] := List.getElem?_eq_getElem hi
    refine ⟨⟨ys, ys[i], sq, at_⟩, G (i + 1), fun H' g' => ⟨m - 1, by omega, by omega, g'⟩, ?_⟩
    rintro x H' ⟨rfl, hy⟩
    exact turn i x _ (hy ys sq) g
  · left
    have e : i = ys.length := by omega
    rw [e] at g
    exact ⟨⟨ys, sq, hi⟩, fin H g⟩
/-- any walk over a tuple, by what holds behind each item -/
theorem over_tup {K : PySem.W.Frag} {b : Addr} {ys : List V} {End : Hp → Prop} {T : (Hp → Prop) → V → Hp → Prop} {S : Hp} (G : Nat → Hp → Prop) (start : G 0 S) (there : ∀ i H, G i H → SqT K H b ys) (fin : ∀ H, G ys.length H → End H)
    (turn : ∀ i x H, ys[i]? = some x → G i H → T (G (i + 1)) x H) : ∃ M : Nat → Nat → Hp → Prop, (∃ m, M 0 m S) ∧ ∀ i m H, M i m H → ((Itt K b).stop i H ∧ End H) ∨ ((Itt K b).go i H ∧ ∃ Nx : Hp → Prop, (∀ H', Nx H' → ∃ m', m' < m ∧ M (i + 1) m' H') ∧ ∀ x H', (Itt K b).yld i H x H' → T Nx x H') := by
  refine ⟨fun i m H => m + i = ys.length ∧ G i H, ⟨_, Nat.add_zero _, start⟩, ?_⟩
  rintro i m H ⟨em, g⟩
  have sq := there i H g
  rcases Nat.lt_or_ge i ys.length with hi | hi
  · right
    have at_ : ys[i]? = some ys[i] := List.getElem?_eq_getElem hi
    refine ⟨⟨ys, ys[i], sq, at_⟩, G (i + 1), fun H' g' => ⟨m - 1, by omega, by omega, g'⟩, ?_⟩
    rintro x H' ⟨rfl, hy⟩
    exact turn i x _ (hy ys sq) g
  · left
    have e : i = ys.length := by omega
    rw [e] at g
    exact ⟨⟨ys, sq, hi⟩, fin H g⟩
theorem merge_all : ∀ (kvs acc : List (Key × V)), ((acc ++ kvs).map Prod.fst).Nodup → (mergeK acc kvs).length = acc.length + kvs.length
  | [], acc, _ => rfl
  | p :: r, acc, h => by
    have nv : valV acc p.1 = none := by
      cases e : valV acc p.1 with
      | none => rfl
      | some v =>
        have a := valV_any p.1 acc
        rw [e] at a
        obtain ⟨q, hq, hd⟩ := List.any_eq_true.mp a
        rw [List.map_append, List.nodup_append] at h
        exact absurd (of_decide_eq_true hd) (h.2.2 _ (List.mem_map_of_mem (f := Prod.fst) hq) _ (by simp))
    show (mergeK (putK acc p.1 p.2) r).length = _
    rw [putK_new p.2 nv, merge_all r _ (by rw [List.append_assoc]; exact h), List.length_append, List.length_cons, List.length_cons]
    simp only [List.length_nil]
    omega
theorem merge_less : ∀ (kvs acc : List (Key × V)), (acc.map Prod.fst).Nodup → ¬ ((acc ++ kvs).map Prod.fst).Nodup → (mergeK acc kvs).length < acc.length + kvs.length
  | [], acc, ha, h => by
    rw [List.append_nil] at h
    exact absurd ha h
  | p :: r, acc, ha, h => by
    show (mergeK (putK acc p.1 p.2) r).length < _
    by_cases e : (valV acc p.1).isSome = true
    · have le := length_mergeK r (putK acc p.1 p.2)
      have eq : (putK acc p.1 p.2).length = acc.length := by
        unfold putK
        rw [if_pos (by rw [valV_any]; exact e), List.length_map]
      rw [List.length_cons]
      omega
    · have nv : valV acc p.1 = none := by simpa using e
      rw [putK_new p.2 nv]
      have nm : p.1 ∉ acc.map Prod.fst := fun hm => by
        obtain ⟨q, hq, eq⟩ := List.mem_map.mp hm
        have a := valV_any p.1 acc
        rw [nv, List.any_eq_true.mpr ⟨q, hq, decide_eq_true eq⟩] at a
        cases a
      have z := merge_less r (acc ++ [(p.1, p.2)]) (by
        rw [List.map_append, List.nodup_append]
        refine ⟨ha, by simp, fun a h1 b h2 e => ?_⟩
        rw [show b = p.1 by simpa using h2] at e
        exact nm (e ▸ h1)) (by rw [List.append_assoc]; exact h)
      rw [List.length_append, List.length_cons, List.length_nil] at z
      rw [List.length_cons]
      omega
/-- a dict of pairs is as long as the row exactly if the texts are different -/
def kvOf (p : Str × Int) : Key × V := (.inr p.1, .int p.2)
def OneEach (ps : List (Str × Int)) : Prop := ∀ p ∈ ps, ∀ q ∈ ps, p.1 = q.1 → p.2 = q.2
theorem one_pw : ∀ {ps : List (Str × Int)}, ps.Pairwise (fun p q => p.1 ≠ q.1) → OneEach ps
  | [], _, p, hp, _, _, _ => by cases hp
  | r :: rs, h, p, hp, q, hq, e => by
    rw [List.pairwise_cons] at h
    rcases List.mem_cons.mp hp with e1 | h1
    · rcases List.mem_cons.mp hq with e2 | h2
      · rw [e1, e2]
      · exact absurd (e1 ▸ e) (h.1 q h2)
    · rcases List.mem_cons.mp hq with e2 | h2
      · exact absurd (e2 ▸ e.symm) (h.1 p h1)
      · exact one_pw h.2 p h1 q h2 e
theorem pw_one {ps : List (Str × Int)} (n : ps.Nodup) (h : OneEach ps) : ps.Pairwise (fun p q => p.1 ≠ q.1) :=
  List.Pairwise.imp_of_mem (fun {a b} ha hb ne e => ne (Prod.ext e (h a ha b hb e))) n
theorem keys_nodup {ps : List (Str × Int)} : ((ps.map kvOf).map Prod.fst).Nodup ↔ ps.Pairwise (fun p q => p.1 ≠ q.1) := by
  rw [List.map_map, List.Nodup, List.pairwise_map]
  constructor
  · exact fun h => h.imp fun {a b} z e => z (by show Sum.inr a.1 = Sum.inr b.1; rw [e])
  · exact fun h => h.imp fun {a b} z e => z (Sum.inr.inj e)
instance {ps : List (Str × Int)} : Decidable (OneEach ps) := by
  unfold OneEach
  infer_instance
theorem dict_len {ps : List (Str × Int)} (n : ps.Nodup) : decide (((mergeK [] (ps.map kvOf)).length : Int) < (ps.length : Int)) = !decide (OneEach ps) := by
  by_cases h : OneEach ps
  · rw [decide_eq_true h, Bool.not_true, decide_eq_false]
    have e := merge_all (ps.map kvOf) [] (keys_nodup.mpr (pw_one n h))
    rw [List.length_map] at e
    simp only [List.length_nil] at e
    omega
  · rw [decide_eq_false h, Bool.not_false, decide_eq_true]
    have e := merge_less (ps.map kvOf) [] List.nodup_nil (fun z => h (one_pw (keys_nodup.mp z)))
    rw [List.length_map] at e
    simp only [List.length_nil] at e
    omega
theorem one_mem {ps qs : List (Str × Int)} (h : ∀ p, p ∈ ps ↔ p ∈ qs) : OneEach ps ↔ OneEach qs :=
  ⟨fun z p hp q hq => z p ((h p).mpr hp) q ((h q).mpr hq), fun z p hp q hq => z p ((h p).mp hp) q ((h q).mp hq)⟩
/-! ### the nodes with words -/
theorem node_shape {d : PyData} (h : isNodeD d = true) : ∃ (x : Str) (k : Int), d = .tuple [.str x, .int k] ∧ 0 ≤ k ∧ k ≤ 3 := by
  match d, h with
  | .tuple [s, m], h =>
    have h' : (if isLeafD s = true then (isArityD m && PyData.eqv m (.int 0)) else (isWordD s && isArityD m)) = true := h
    have hm : isArityD m = true := by
      split at h' <;> simp only [Bool.and_eq_true] at h'
      · exact h'.1
      · exact h'.2
    have hs : ∃ x, s = .str x := by
      split at h'
      · rename_i g
        have g' : isLeafD s = true := g
        cases s with
        | str x => exact ⟨x, rfl⟩
        | _ => cases g'
      · simp only [Bool.and_eq_true] at h'
        cases s with
        | str x => exact ⟨x, rfl⟩
        | _ => cases h'.1
    obtain ⟨x, rfl⟩ := hs
    match m, hm with
    | .int k, hm =>
      have hm' : (isIntD (.int k) && (decide (0 ≤ k) && decide (k ≤ 3))) = true := hm
      simp only [Bool.and_eq_true, decide_eq_true_eq] at hm'
      exact ⟨x, k, rfl, hm'.2.1, hm'.2.2⟩
/-- the pairs of the nodes with words -/
def prOf : PyData → List (Str × Int)
  | .tuple [.str x, .int k] => if isLeafD (.str x) = true then [] else [(x, k)]
  | _ => []
def prsOf (ds : List PyData) : List (Str × Int) := ds.flatMap prOf
def keyP (p : Str × Int) : List Key := [.inr p.1, .inl p.2]
theorem keyP_inj {p q : Str × Int} (h : keyP p = keyP q) : p = q := by
  obtain ⟨x, i⟩ := p
  obtain ⟨y, j⟩ := q
  simp only [keyP, List.cons.injEq, Sum.inr.injEq, Sum.inl.injEq, and_true] at h
  rw [h.1, h.2]
/-- what is in the set behind n nodes -/
structure SetIs (H : Hp) (ds : List PyData) (n : Nat) (L : List (Addr × List Key)) : Prop where
  at_ : ∀ p ∈ L, ∃ q ∈ prsOf (ds.take n), p.2 = keyP q ∧ H p.1 = some (.tup [.str q.1, .int q.2])
  all : ∀ q ∈ prsOf (ds.take n), keyP q ∈ L.map Prod.snd
  nod : (L.map Prod.snd).Nodup
  len : L.length ≤ n
theorem SetIs.pairs {H : Hp} {ds : List PyData} {n : Nat} {L : List (Addr × List Key)} (h : SetIs H ds n L) : PairsAt H L := fun p hp => by
  obtain ⟨q, _, e1, e2⟩ := h.at_ p hp
  exact ⟨q.1, q.2, e1, e2⟩
theorem SetIs.members {H : Hp} {ds : List PyData} {n : Nat} {L : List (Addr × List Key)} (h : SetIs H ds n L) : Members H L := fun p hp => by
  obtain ⟨q, _, e1, e2⟩ := h.at_ p hp
  rw [e1]
  exact e2
theorem SetIs.same {H H' : Hp} {ds : List PyData} {n : Nat} {L : List (Addr × List Key)} (h : SetIs H ds n L) (k : ∀ p ∈ L, H' p.1 = H p.1) : SetIs H' ds n L :=
  ⟨fun p hp => by
    obtain ⟨q, m, e1, e2⟩ := h.at_ p hp
    exact ⟨q, m, e1, by rw [k p hp]; exact e2⟩, h.all, h.nod, h.len⟩
theorem prs_take {ds : List PyData} {n : Nat} {d : PyData} (h : ds[n]? = some d) : prsOf (ds.take (n + 1)) = prsOf (ds.take n) ++ prOf d := by
  rw [prsOf, List.take_add_one, h, List.flatMap_append]
  simp [prsOf]
theorem SetIs.none {H : Hp} {ds : List PyData} : SetIs H ds 0 [] := ⟨fun p hp => (by cases hp), fun q hq => (by cases hq), List.nodup_nil, Nat.le_refl _⟩
theorem SetIs.skip {H : Hp} {ds : List PyData} {n : Nat} {L : List (Addr × List Key)} {d : PyData} (h : SetIs H ds n L) (hd : ds[n]? = some d) (e : prOf d = []) : SetIs H ds (n + 1) L := by
  have t : prsOf (ds.take (n + 1)) = prsOf (ds.take n) := by rw [prs_take hd, e, List.append_nil]
  exact ⟨by rw [t]; exact h.at_, by rw [t]; exact h.all, h.nod, Nat.le_succ_of_le h.len⟩
theorem SetIs.add {H : Hp} {ds : List PyData} {n : Nat} {L L' : List (Addr × List Key)} {d : PyData} {q : Str × Int} {c : Addr} (h : SetIs H ds n L) (hd : ds[n]? = some d) (e : prOf d = [q]) (hc : H c = some (.tup [.str q.1, .int q.2]))
    (h1 : keyP q ∈ L.map Prod.snd → L' = L) (h2 : keyP q ∉ L.map Prod.snd → L'.Perm ((c, keyP q) :: L)) : SetIs H ds (n + 1) L' := by
  have t : prsOf (ds.take (n + 1)) = prsOf (ds.take n) ++ [q] := by rw [prs_take hd, e]
  by_cases m : keyP q ∈ L.map Prod.snd
  · rw [h1 m]
    refine ⟨fun p hp => ?_, fun r hr => ?_, h.nod, Nat.le_succ_of_le h.len⟩
    · obtain ⟨r, hr, z⟩ := h.at_ p hp
      exact ⟨r, by rw [t]; exact List.mem_append_left _ hr, z⟩
    · rw [t] at hr
      rcases List.mem_append.mp hr with hr | hr
      · exact h.all r hr
      · rw [List.mem_singleton.mp hr]
        exact m
  · have pm := h2 m
    have pm2 := pm.map Prod.snd
    refine ⟨fun p hp => ?_, fun r hr => ?_, pm2.nodup_iff.mpr ?_, by rw [pm.length_eq, List.length_cons]; exact Nat.succ_le_succ h.len⟩
    · rcases List.mem_cons.mp (pm.mem_iff.mp hp) with rfl | hp
      · exact ⟨q, by rw [t]; exact List.mem_append_right _ (List.mem_singleton.mpr rfl), rfl, hc⟩
      · obtain ⟨r, hr, z⟩ := h.at_ p hp
        exact ⟨r, by rw [t]; exact List.mem_append_left _ hr, z⟩
    · rw [t] at hr
      refine pm2.mem_iff.mpr ?_
      rcases List.mem_append.mp hr with hr | hr
      · exact List.mem_cons_of_mem _ (h.all r hr)
      · rw [List.mem_singleton.mp hr]
        exact List.mem_cons_self
    · exact List.nodup_cons.mpr ⟨m, h.nod⟩
theorem paired_map {α β γ : Type} {R : β → γ → Prop} {f : α → β} {g : α → γ} : ∀ {l : List α}, (∀ x ∈ l, R (f x) (g x)) → Paired R (l.map f) (l.map g)
  | [], _ => .nil
  | x :: l, h => .cons (h x List.mem_cons_self) (paired_map fun y hy => h y (List.mem_cons_of_mem _ hy))
theorem paired_r {α β γ : Type} {R : α → β → Prop} {S : α → γ → Prop} {f : β → γ} (h : ∀ a b, R a b → S a (f b)) : ∀ {l : List α} {m : List β}, Paired R l m → Paired S l (m.map f)
  | _, _, .nil => .nil
  | _, _, .cons a t => .cons (h _ _ a) (paired_r h t)
theorem DxAll.app {H : Hp} : ∀ {xs ys : List V} {ds es : List PyData}, DxAll H xs ds → DxAll H ys es → DxAll H (xs ++ ys) (ds ++ es)
  | _, _, _, _, .nil, h => h
  | _, _, _, _, .cons a t, h => .cons a (DxAll.app t h)
theorem DxAll.take {H : Hp} : ∀ {xs : List V} {ds : List PyData} (n : Nat), DxAll H xs ds → DxAll H (xs.take n) (ds.take n)
  | _, _, 0, _ => by
    rw [List.take_zero, List.take_zero]
    exact .nil
  | _, _, n + 1, .nil => .nil
  | _, _, n + 1, .cons a t => .cons a (DxAll.take n t)
theorem SetIs.told {H : Hp} {ds : List PyData} {L : List (Addr × List Key)} {as : List Addr} (h : SetIs H ds ds.length L) (pa : as.Perm (L.map Prod.fst)) :
    ∃ ps : List (Str × Int), Paired (fun b q => H b = some (.tup [.str q.1, .int q.2])) as ps ∧ ps.Nodup ∧ ∀ q, q ∈ ps ↔ q ∈ prsOf ds := by
  obtain ⟨L', pL, rfl⟩ := perm_map_inv pa L rfl
  have get : ∀ p ∈ L', p.2 = keyP (pairAt H p.1) ∧ H p.1 = some (.tup [.str (pairAt H p.1).1, .int (pairAt H p.1).2]) ∧ pairAt H p.1 ∈ prsOf ds := fun p hp => by
    obtain ⟨q, hq, e1, e2⟩ := h.at_ p (pL.mem_iff.mp hp)
    rw [List.take_length] at hq
    have e : pairAt H p.1 = q := by
      unfold pairAt
      rw [e2]
    rw [e]
    exact ⟨e1, e2, hq⟩
  refine ⟨L'.map fun p => pairAt H p.1, paired_map fun p hp => (get p hp).2.1, ?_, fun q => ⟨fun hq => ?_, fun hq => ?_⟩⟩
  · have nd : (L'.map Prod.snd).Nodup := (pL.map Prod.snd).nodup_iff.mpr h.nod
    rw [List.Nodup, List.pairwise_map] at nd ⊢
    refine List.Pairwise.imp_of_mem (fun {a b} ha hb ne e => ne ?_) nd
    rw [(get a ha).1, (get b hb).1, e]
  · obtain ⟨p, hp, rfl⟩ := List.mem_map.mp hq
    exact (get p hp).2.2
  · have z := h.all q (by rw [List.take_length]; exact hq)
    obtain ⟨p, hp, e⟩ := List.mem_map.mp z
    have hp' := pL.mem_iff.mpr hp
    refine List.mem_map.mpr ⟨p, hp', keyP_inj ?_⟩
    rw [← (get p hp').1, e]
theorem prOf_leaf {x : Str} {k : Int} (h : isLeafD (.str x) = true) : prOf (.tuple [.str x, .int k]) = [] := if_pos h
theorem prOf_word {x : Str} {k : Int} (h : isLeafD (.str x) = false) : prOf (.tuple [.str x, .int k]) = [(x, k)] := if_neg (by rw [h]; decide)
/-- what stood ahead of the making of an instance stands behind it -/
theorem mk_same {H H' : Hp} {x dx C : Addr} {o : HO} (nx : H x = none) (ndx : H dx = none) (s' : Same (upd (upd H dx (.own x)) x (.ins C dx [])) H') : Same H (upd H' x o) := fun b u e => by
  have n1 := ne_of_none e nx
  rw [upd_ne n1]
  exact s' _ _ (by rw [upd_ne n1, upd_ne (ne_of_none e ndx)]; exact e)
theorem mk_new {H : Hp} {x dx C : Addr} (nx : H x = none) (ndx : H dx = none) : Same H (upd (upd H dx (.own x)) x (.ins C dx [])) := fun b u e => by
  rw [upd_ne (ne_of_none e nx), upd_ne (ne_of_none e ndx)]
  exact e
/-- the promises of a def that calls itself, at all depths -/
theorem fn_depth {P : Program} {w : World} {K : PySem.W.Frag} {mg : Str → Option Value} {base : Heap} {off : Nat} {f : Addr} {fd : FuncData} {ps : List Str} {sp : Nat → Sp} (G : ∀ n, FnOk P w K mg base CX0 (n + off) f fd ps (sp n)) :
    FnOk P w K mg base CX0 (4 + off) f fd ps (fun vs H Q E => ∃ n, n ≤ 4 ∧ sp n vs H Q E) :=
  ⟨fun vs H Q E ⟨n, _, h⟩ => (G n).len vs H Q E h, fun A outer s H args us vs Q E hr e0 b r ⟨n, hn, h⟩ => (G n).run A outer s H args us vs Q E (hr.mono (by omega)) e0 b r h⟩
/-! ### data without lists stands where its tuples stand -/
mutual
theorem dx_tk {H H' : Hp} (t : ∀ (b : Addr) (xs : List V), H b = some (.tup xs) → H' b = some (.tup xs)) : ∀ {d : PyData} {v : V}, Dx H v d → listfree d = true → dictfree d = true → Dx H' v d
  | .none, _, h, _, _ => by cases h; exact .non
  | .bool b, _, h, _, _ => by cases h; exact .bl b
  | .int i, _, h, _, _ => by cases h; exact .int i
  | .str x, _, h, _, _ => by cases h; exact .str x
  | .list ds, _, h, f, _ => by
    simp only [listfree] at f
    cases f
  | .tuple ds, _, h, f, g => by
    cases h with
    | tup h1 h2 => exact .tup (t _ _ h1) (dxAll_tk t h2 (by simpa only [listfree] using f) (by simpa only [dictfree] using g))
  | .dict kvs, _, h, _, g => by
    simp only [dictfree] at g
    cases g
theorem dxAll_tk {H H' : Hp} (t : ∀ (b : Addr) (xs : List V), H b = some (.tup xs) → H' b = some (.tup xs)) : ∀ {ds : List PyData} {vs : List V}, DxAll H vs ds → listfreeAll ds = true → dictfreeAll ds = true → DxAll H' vs ds
  | [], _, h, _, _ => by cases h; exact .nil
  | d :: ds, _, h, f, g => by
    simp only [listfreeAll, Bool.and_eq_true] at f
    simp only [dictfreeAll, Bool.and_eq_true] at g
    cases h with
    | cons h1 h2 => exact .cons (dx_tk t h1 f.1 g.1) (dxAll_tk t h2 f.2 g.2)
end
theorem paired_app {α β : Type} {R : α → β → Prop} : ∀ {a c : List α} {b d : List β}, Paired R a b → Paired R c d → Paired R (a ++ c) (b ++ d)
  | _, _, _, _, .nil, h => h
  | _, _, _, _, .cons x t, h => .cons x (paired_app t h)
theorem paired_memr {α β : Type} {R S : α → β → Prop} : ∀ {a : List α} {b : List β}, Paired R a b → (∀ x y, y ∈ b → R x y → S x y) → Paired S a b
  | _, _, .nil, _ => .nil
  | _, _, .cons x t, h => .cons (h _ _ List.mem_cons_self x) (paired_memr t fun x y hy => h x y (List.mem_cons_of_mem _ hy))
theorem paired_take {α β : Type} {R : α → β → Prop} : ∀ {a : List α} {b : List β} (n : Nat), Paired R a b → Paired R (a.take n) (b.take n)
  | _, _, 0, _ => by
    rw [List.take_zero, List.take_zero]
    exact .nil
  | _, _, _ + 1, .nil => .nil
  | _, _, n + 1, .cons x t => .cons x (paired_take n t)
end Fn

set_option Elab.async false
set_option maxRecDepth 100000
set_option maxHeartbeats 2000000
/-! Texts of rows of nodes, read from the right. -/
namespace Fn
open PySem PySem.Spec PyProof.Rows L2
/-- the texts that stand ahead when the nodes are read from the right -/
def textsF : List (Str × Int) → List Str
  | [] => []
  | (x, k) :: r => (if decide (k > 0) = true then x ++ "(" ++ Txt.join ", " ((textsF r).take k.toNat) ++ ")" else x) :: (textsF r).drop k.toNat
def sumL (l : List Str) : Nat := (l.map (·.length)).sum
theorem sumL_cut (n : Nat) (l : List Str) : sumL (l.take n) + sumL (l.drop n) = sumL l := by
  unfold sumL
  rw [← List.sum_append, ← List.map_append, List.take_append_drop]
def wOf (p : Str × Int) : Nat := p.1.length + 2 + 2 * p.2.toNat
theorem texts_sum : ∀ ps : List (Str × Int), sumL (textsF ps) ≤ (ps.map wOf).sum
  | [] => Nat.le_refl _
  | (x, k) :: r => by
    have ih := texts_sum r
    have cut := sumL_cut k.toNat (textsF r)
    have j := StrLaws.join_length_le (", " : Str) ((textsF r).take k.toNat)
    have tl : ((textsF r).take k.toNat).length ≤ k.toNat := by
      rw [List.length_take]
      omega
    have l2 : ((", " : Str)).length = 2 := by decide +kernel
    have l1 : (("(" : Str)).length = 1 := by decide +kernel
    have l1' : ((")" : Str)).length = 1 := by decide +kernel
    rw [l2] at j
    have first : (if decide (k > 0) = true then x ++ "(" ++ Txt.join ", " ((textsF r).take k.toNat) ++ ")" else x).length ≤ x.length + 2 + sumL ((textsF r).take k.toNat) + 2 * k.toNat := by
      split
      · rw [strLen_append, strLen_append, strLen_append, l1, l1']
        have j' : (Txt.join ", " ((textsF r).take k.toNat)).length ≤ sumL ((textsF r).take k.toNat) + ((textsF r).take k.toNat).length * 2 := by
          rw [show Txt.join (", " : Str) ((textsF r).take k.toNat) = Str.join (", " : Str) ((textsF r).take k.toNat) from TL.join_eq _ _]
          exact j
        omega
      · omega
    show sumL (_ :: (textsF r).drop k.toNat) ≤ wOf (x, k) + (r.map wOf).sum
    have e : sumL ((if decide (k > 0) = true then x ++ "(" ++ Txt.join ", " ((textsF r).take k.toNat) ++ ")" else x) :: (textsF r).drop k.toNat) = (if decide (k > 0) = true then x ++ "(" ++ Txt.join ", " ((textsF r).take k.toNat) ++ ")" else x).length + sumL ((textsF r).drop k.toNat) := by
      unfold sumL
      rw [List.map_cons, List.sum_cons]
    rw [e]
    show _ ≤ x.length + 2 + 2 * k.toNat + (r.map wOf).sum
    omega
theorem cut_head {xs : List V} {k : Int} (h : 0 ≤ k) : cutV xs none (some k) = xs.take k.toNat := by
  obtain ⟨n, rfl⟩ := Int.eq_ofNat_of_zero_le h
  have a : HT.sIx xs.length xs.length (some (n : Int)) = min n xs.length := HT.sIx_nat _ _ _
  have b : HT.sIx xs.length 0 (none : Option Int) = 0 := rfl
  unfold cutV
  rw [a, b, List.drop_zero, Nat.sub_zero, Int.toNat_natCast]
  rcases Nat.le_total n xs.length with h | h
  · rw [Nat.min_eq_left h]
  · rw [Nat.min_eq_right h, List.take_of_length_le (Nat.le_refl _), List.take_of_length_le h]
theorem cut_tail {xs : List V} {k : Int} (h : 0 ≤ k) : cutV xs (some k) none = xs.drop k.toNat := by
  obtain ⟨n, rfl⟩ := Int.eq_ofNat_of_zero_le h
  have a : HT.sIx xs.length 0 (some (n : Int)) = min n xs.length := HT.sIx_nat _ _ _
  have b : HT.sIx xs.length xs.length (none : Option Int) = xs.length := rfl
  unfold cutV
  rw [a, b, Int.toNat_natCast]
  rcases Nat.le_total n xs.length with h | h
  · rw [Nat.min_eq_left h, List.take_of_length_le (by rw [List.length_drop]; exact Nat.le_refl _)]
  · rw [Nat.min_eq_right h, List.drop_length, List.take_nil, List.drop_eq_nil_of_le h]
theorem texts_len : ∀ ps : List (Str × Int), (textsF ps).length ≤ ps.length
  | [] => Nat.le_refl _
  | (x, k) :: r => by
    have ih := texts_len r
    show (_ :: (textsF r).drop k.toNat).length ≤ r.length + 1
    rw [List.length_cons, List.length_drop]
    omega
theorem node_len {x : Str} {k : Int} (h : isNodeD (.tuple [.str x, .int k]) = true) : x.length ≤ 8 := by
  have h' : (if isLeafD (.str x) = true then (isArityD (.int k) && PyData.eqv (.int k) (.int 0)) else (isWordS x && isArityD (.int k))) = true := h
  split at h'
  · rename_i g
    have g' : ([.str "_", .str "#"] : List PyData).any (fun z => PyData.eqv z (.str x)) = true := g
    simp only [List.any_cons, List.any_nil, Bool.or_false, Bool.or_eq_true] at g'
    rcases g' with z | z
    · have e : ("_" : Str) = x := by simpa [PyData.eqv] using z
      rw [← e]
      decide +kernel
    · have e : ("#" : Str) = x := by simpa [PyData.eqv] using z
      rw [← e]
      decide +kernel
  · rw [Bool.and_eq_true] at h'
    have w := h'.1
    simp only [isWordS, Bool.and_eq_true, decide_eq_true_eq] at w
    exact w.1.2
end Fn

set_option Elab.async false
set_option maxRecDepth 100000
set_option maxHeartbeats 4000000
/-! Defs that call repr: a promise that is kept where no repr runs as yet. repr of data; text * int. -/
namespace Fn
open PySem PySem.Spec PyProof.Rows L2
/-- a def's promise, where no repr runs -/
structure FnG (P : Program) (w : World) (K : PySem.W.Frag) (mg : Str → Option Value) (base : Heap) (V : CXT) (k : Nat) (f : Addr) (fd : FuncData) (ps : List Str) (sp : Sp) : Prop where
  len : ∀ xs H Q E, sp xs H Q E → xs.length = ps.length
  go : ∀ (B : Around) (fr : List Env) (s : Shared) (H : Hp) (c : Args) (us : List Value) (xs : List L2.V) (Q : VK) (E : XK), B.guards = some [] → Room k B → Env0 P w K mg base B fr s H → BindsTo s fd c (ps.zip us) → Vals xs us → sp xs H Q E →
    codeAny (model P w) B (.call (.ref f) c) (CR V fr P w H s Q E) s
section
variable {P : Program} {w : World} {K : PySem.W.Frag} {mg : Str → Option Value} {base : Heap}
/-- a def by its body -/
theorem okG {x qual : Str} {st : Stmt} {f : Addr} {fd : FuncData} {N ps : List Str} {k : Nat} {sp : Sp} (F : Fun K x qual st f fd) (S : FnScope N ps (defScope st)) (len : ∀ xs H Q E, sp xs H Q E → xs.length = ps.length)
    (hb : ∀ (cdv : Value) (B : Around) (fr : List Env) (s : Shared) (H : Hp) (xs : List V) (Q : VK) (E : XK), B.guards = some [] → Room k (B.deeper (envOfC qual (defScope st) s.heap.objs.size f cdv)) → sp xs H Q E →
      ∃ t, PSs (cxOf CX0 P w K mg base N qual (defScope st) f cdv B fr s H E).nox (defBody st) t ∧ t { nx := fun _ H' => Q .non H', rt := Q } (start N xs) H) : FnG P w K mg base CX0 (k + 1) f fd ps sp := by
  obtain ⟨oc, od, kV, doc, pm, an, cdv, ct, osl, rfl, lk, hcd⟩ := F.ex
  refine ⟨len, fun B fr s H c us xs Q E hg hr e0 hbd rel hsp => ?_⟩
  have ll := len _ _ _ _ hsp
  have kin : K.In s.heap := e0.mod.kin.keeps fun b o e => (e0.bs b o e).1
  have nol : s.heap.NoLimit := e0.mod.nolimit.keeps fun b o e => (e0.bs b o e).1
  have kd : ∀ y ∈ ps.zip us, (defScope st).names.lookup y.1 = some .local ∨ ((defScope st).names.lookup y.1 = some .cell ∧ ((cellsFrom (s.heap.objs.size + 1) (defScope st).names []).lookup y.1).isSome = true) := by
    intro y hy
    refine (S.par y.1 (List.of_mem_zip hy).1).imp id fun q => ⟨q, PySem.W.cellsFrom_some _ _ _ (.inl q)⟩
  refine codeAny_call_function hr.depth (kin _ _ lk) rfl S.co S.gen rfl (PySem.W.codeRec_of kin hcd) (hbd _ _ _ _ (wpAny_newFunctionEnv_cells S.kind kd fun env he s1 y => ?_))
  subst he
  refine ⟨nol.keeps y.toInCall.keep, codeAny_func ?_⟩
  obtain ⟨t, ht, q⟩ := hb cdv B fr s H xs Q E hg (hr.deeper _) hsp
  have J : Inv (cxOf CX0 P w K mg base N qual (defScope st) f cdv B fr s H E) [] (start N xs) H s1 := inv_start S hr.hd e0 ll rel y
  have close : ∀ {σ' : L2.St} {H' : Hp} {v : V} {u : Value} {s' : Shared}, Inv (cxOf CX0 P w K mg base N qual (defScope st) f cdv B fr s H E) [] σ' H' s' → RelV v u → Q v H' → CE fr P w H s Q u s' :=
    fun j rv z => ⟨_, _, j.os, j.bare, j.base, j.hok, rv, z⟩
  refine wpAny_mono (ht.nox.run [] s1 (start N xs) H _ J q) (fun fl s' z => ?_) fun _ _ z => z
  rcases fl with _ | _ | _ | u
  all_goals first
    | (obtain ⟨v, σ', H', j, rv, z⟩ := z
       exact close j rv z)
    | (obtain ⟨_, _, _, z⟩ := z
       exact z.elim)
    | (obtain ⟨σ', H', j, z⟩ := z
       exact close (v := V.non) (u := Value.none) j rfl z)
end
section
variable {X : Cx} {V : CXT} {k : Nat} {f : Addr} {fd : FuncData} {ps : List Str} {sp : Sp} {dvs : List L2.V} {ds : List Value} {E : XK} {x : Str} {p pos : Pos} {e : Expr} {es : List Expr} {t : TA}
theorem pe_callG (F : FnG X.prog X.w X.K X.mg X.base V k f fd ps sp) (gr : X.A.guards = some []) (hr : Room k X.A) (hg : Gl X x) (hm : X.mg x = some (.ref f)) (hk : PySem.W.keepIn X.K (.ref f) = true) (hb : Binds X.K fd ps ds) (hd : Vals dvs ds) (hx : Passes V X E)
    (ha : PA X (e :: es) t) (ndb : (x == ("__debug__" : Str)) = false := by decide) (st : starEach (e :: es) X.env = (false, eval e X.env) :: starEach es X.env := by rfl) (pl : (backTo pos (starEach es X.env)).any (·.1) = false := by rfl) :
    PE X (.Call (.Name x p) (e :: es) [] pos) (tCall sp dvs E t) := by
  refine ⟨fun pins s σ H Q I h => wpAny_Call_Name_kw (ld_glob I hg hm ?_ ndb)⟩
  refine PySem.W.callWith_K (h₀ := X.base) I.ok.mod.kin hk (thn (ha.run pos pins s σ H _ I h) fun us s1 ⟨vs, H1, J, r, q⟩ => ⟨J.kIn, ?_⟩) st pl
  have r2 := r.append hd
  have ln : (us ++ ds).length = ps.length := r2.length.symm.trans (F.len _ _ _ _ q)
  refine wpAny_call (codeAny_mono (F.go X.A X.stack s1 H1 ⟨us, []⟩ (us ++ ds) (vs ++ dvs) Q E gr hr J.env0 (hb s1 us J.kIn ln) r2 q) fun r s' z => ?_)
  rcases r with er | (_ | _ | _ | u)
  all_goals first
    | exact hx pins σ H1 s1 er s' J z
    | exact J.after z
    | exact False.elim z
end
/-- at the outermost call no repr runs -/
theorem law_callG {P : Program} {w : World} {K : PySem.W.Frag} {mg mb : Str → Option Value} {k : Nat} {fa a : Addr} {fd : FuncData} {x : Str} {sp : Sp} {s : Shared} {vs : List Value} {ns : List Int}
    (KX : K.In s.heap) (gl : s.heap.Ns mainGlobals mg) (bl : s.heap.Ns builtinsNs mb) (bb : ∀ x : Str, x ≠ "__name__" → mb x = bootBuiltins x) (lim : s.heap.NoLimit) (gn : s.gens = #[])
    (ha : s.heap.get? a = some { cls := .type "list", data := .seq vs.toArray }) (hi : IntsAre vs ns) (hl : ns.length ≤ sizeLine) (hr : Room k callerA)
    (F : ∀ base : Heap, K.In base → base.Ns mainGlobals mg → FnG P w K mg base CX0 k fa fd [x] sp) (hbind : ∀ (s : Shared) (u : Value), BindsTo s fd ⟨[u], []⟩ [(x, u)])
    (hsp : ∀ H : Hp, Only H → SqL K H a (ns.map V.int) → sp [.ref a] H (fun v _ => v = .bl true) fun _ _ _ => False) :
    codeAny (model P w) callerA (.call (.ref fa) ⟨[.ref a], []⟩) (fun r s' => r = .ok (.ret (.bool true)) ∧ OldK s.heap s'.heap ∧ s'.os = s.os ∧ AllBare s'.gens) s := by
  have rel := vals_ints hi
  have step : ∀ H : Hp, Only H → SqL K H a (ns.map V.int) → HOk P w H s.heap → (∀ b, H b ≠ none → b = a ∧ K.lookup a = none) →
      codeAny (model P w) callerA (.call (.ref fa) ⟨[.ref a], []⟩) (fun r s' => r = .ok (.ret (.bool true)) ∧ OldK s.heap s'.heap ∧ s'.os = s.os ∧ AllBare s'.gens) s := by
    intro H hO hS ok only
    have none_of : ∀ {b : Addr}, (b = a → K.lookup a = none → False) → H b = none := fun {b} n => by
      cases z : H b with
      | none => rfl
      | some u => exact (n (only b (by rw [z]; exact Option.some_ne_none _)).1 (only b (by rw [z]; exact Option.some_ne_none _)).2).elim
    have dict : ∀ {b : Addr} {m : Str → Option Value}, s.heap.Ns b m → (hidT s.heap H).Ns b m := fun {b m} ⟨o, es, ep, e, d, r⟩ => ⟨o, es, ep, hidT_get e (none_of fun z _ => by
      subst z
      rw [ha] at e
      cases e
      cases d), d, r⟩
    have kb : K.In (hidT s.heap H) := fun b o e => hidT_get (KX b o e) (none_of fun z n => by
      subst z
      rw [n] at e
      cases e)
    have md : Mod K mg (hidT s.heap H) := ⟨kb, dict gl, ⟨mb, dict bl, bb⟩, let ⟨mc, h1, h2⟩ := lim; ⟨mc, dict h1, h2⟩⟩
    have e0 : Env0 P w K mg (hidT s.heap H) callerA [] s H := ⟨rfl, md, fun _ _ => of_hidT, Nat.le_of_eq (hidT_size _ _), trivial, fun b hb => absurd (show b ∈ ([] : List Addr) from hb) (by simp), ok, .of_eq gn⟩
    refine codeAny_mono ((F _ kb (dict gl)).go callerA [] s H ⟨[.ref a], []⟩ [.ref a] [.ref a] _ _ rfl hr e0 (hbind s (.ref a)) (.cons rfl .nil) (hsp H hO hS)) fun r s' z => ?_
    rcases r with er | (_ | _ | _ | u)
    all_goals first
      | exact False.elim z
      | skip
    obtain ⟨v, H', os, bare, un, ok', rv, rfl⟩ := z
    cases (show u = Value.bool true from rv)
    refine ⟨rfl, OldK.of_keep fun b o e => ?_, os, bare⟩
    rcases hO b with n | ⟨ob, xs, n⟩
    · exact un.keep b o e n (fun z => absurd (show b ∈ ([] : List Addr) from z) (by simp)) (by simp)
    · have z1 : s.heap.get? b = some ob := (ok b _ n).1
      have z2 : s'.heap.get? b = some ob := (ok' b _ (un.frzs b ob _ n)).1
      rw [z2, ← z1, e]
  cases hk : K.lookup a with
  | some o =>
    have e := KX a o hk
    rw [ha] at e
    cases e
    exact step (fun _ => none) (fun _ => .inl rfl) (.inr ⟨_, vs.toArray, _, hk, rfl, rfl, rfl, by rw [List.size_toArray, hi.length]; exact hl, by simpa using rel⟩) (fun _ _ z => nomatch z) fun _ z => absurd rfl z
  | none =>
    have same : ∀ b, (if b = a then some (HO.frz { cls := .type "list", data := .seq vs.toArray } (.lst (ns.map V.int))) else none) ≠ none → b = a := fun b n => by
      by_cases z : b = a
      · exact z
      · exact absurd (if_neg z) n
    refine step (fun b => if b = a then some (.frz { cls := .type "list", data := .seq vs.toArray } (.lst (ns.map V.int))) else none) (fun b => ?_) (.inl (.inr ⟨_, if_pos rfl⟩)) (fun b u z => ?_) fun b n => ⟨same b n, hk⟩
    · by_cases z : b = a
      · exact .inr ⟨_, _, if_pos z⟩
      · exact .inl (if_neg z)
    · have e := same b fun y => nomatch y.symm.trans z
      subst e
      cases (if_pos rfl).symm.trans z
      exact ⟨ha, by rw [List.length_map]; exact hl, vs, _, rel, ha⟩
theorem walkG {l : PySem.W.OpenLaw} {n k : Nat} {q : Program} {loose : List Str} {XP : (Str → Option Value) → Heap → Prop} {YP : World → Heap → Prop} {d : DefRec} {K : Params → PySem.W.Frag} {sp : World → Sp} {x : Str}
    (hn : l.most = some n) (hn2 : n ≤ sizeLine) (hdf : d.params.defaults = []) (hr : Room k callerA) (hY : ∀ (w : World) (h : Heap), YP w h → (K w.params).In h)
    (F : ∀ (w : World) (mg : Str → Option Value) (fa : Addr) (h : Heap), (K w.params).In h → h.Ns mainGlobals mg → mg d.name = some (.ref fa) →
      ∃ fd : FuncData, (∀ (s : Shared) (u : Value), BindsTo s fd ⟨[u], []⟩ [(x, u)]) ∧ ∀ base : Heap, (K w.params).In base → base.Ns mainGlobals mg → FnG l.prog w (K w.params) mg base CX0 k fa fd [x] (sp w))
    (hsp : ∀ (w : World) (H : Hp) (a : Addr) (ns : List Int), ns.length ≤ n → Only H → SqL (K w.params) H a (ns.map V.int) → sp w [.ref a] H (fun v _ => v = .bl true) fun _ _ _ => False) :
    PySem.W.WalkO q loose XP YP l.row.toRowW d [] (fun f vs => PySem.call f vs) := by
  refine Att.attach_call hn hdf fun w _ s mg mb fa o pm cd doc a vs ns G Y _ _ _ hm ho hi ll gn => ?_
  have kx := hY w _ Y
  obtain ⟨fd, b, f⟩ := F w mg fa _ kx G.T.g hm
  exact law_callG kx G.T.g G.T.b G.T.builtins G.T.nolimit gn ho hi (Nat.le_trans ll hn2) hr f b fun H h1 h2 => hsp w H a ns ll h1 h2

/-! ### repr of data; one datum many times in a list -/
/-- data that repr may be asked of -/
def Rr (K : PySem.W.Frag) (H : Hp) (v : V) (d : PyData) : Prop := (Dp K H v d ∧ d.hasDict = false) ∨ ∃ (a : Addr) (x : Str) (y : V), v = .ref a ∧ d = .dict [(.str x, .tuple [])] ∧ H a = some (.dK [(.inr x, y)]) ∧ Dp K H y (.tuple [])
section
variable {X : Cx} {pins : List (Addr × Obj)} {σ : L2.St} {H : Hp} {s : Shared} {v : V} {u : Value} {d : PyData}
theorem Rr.reads (I : Inv X pins σ H s) (h : Rr X.K H v d) (r : RelV v u) : ∃ as, Reads s.heap u d as ∧ (d.hasDict = true → sysModules ∉ as) := by
  rcases h with ⟨h, n⟩ | ⟨a, x, y, rfl, rfl, e, hy⟩
  · obtain ⟨as, q⟩ := Dp.reads I d v u h r
    exact ⟨as, q, PyData.noDict_hsm n⟩
  · cases r
    obtain ⟨_, ns, vs, kv, o, es, ep, ho, hx, hd, ks, pr, _⟩ := dk_of I.hok e
    cases kv with
    | @cons _ q _ _ k0 kr =>
      cases kr
      obtain ⟨qk, qv⟩ := q
      cases (show Sum.inr x = qk from k0.1)
      obtain ⟨el⟩ := es
      have pr' : Pairs (mixKind X.prog X.w) el [(Sum.inr x, qv)] := pr
      clear pr
      cases pr' with
      | @cons en _ rest _ p1 p2 p3 =>
        cases p3
        obtain ⟨bs, rb⟩ := Dp.reads I _ y qv hy k0.2
        have eb : bs = [] := by
          cases rb with
          | @tuple _ _ ws _ _ _ _ _ _ h4 =>
            generalize ws.toList = l4 at h4
            cases h4
            rfl
        subst eb
        have ek : ∃ t, en.key = Value.str x t := by
          rcases keyIs_shape (k := Sum.inr x) p1 with ⟨_, _, z, _⟩ | ⟨x', t, z, e'⟩
          · cases z
          · cases z
            exact ⟨t, e'⟩
        obtain ⟨t, ek⟩ := ek
        refine ⟨_, Reads.dict ho hx.1 hd (as := []) (bs := []) (ReadsAll.cons (as := []) (bs := []) (by show Reads s.heap en.key (.str x) []; rw [ek]; exact Reads.str x t) .nil) (ReadsAll.cons (as := []) (bs := []) (by show Reads s.heap en.val (.tuple []) []; rw [p2]; exact rb) .nil), fun _ m => ?_⟩
        simp only [List.append_nil, List.mem_singleton] at m
        subst m
        simp at ns
theorem readsAll_rep {h : Heap} {d : PyData} {S : Addr → Prop} : ∀ {n : Nat} {us : List Value}, (∀ z ∈ us, ∃ as, Reads h z d as ∧ ∀ b ∈ as, S b) → us.length = n → ∃ bs, ReadsAll h us (List.replicate n d) bs ∧ ∀ b ∈ bs, S b
  | 0, [], _, _ => ⟨[], .nil, fun _ z => nomatch z⟩
  | n + 1, z :: zs, k, l => by
    obtain ⟨bs, r, m⟩ := readsAll_rep (n := n) (us := zs) (fun y hy => k y (List.mem_cons_of_mem _ hy)) (by simpa using l)
    obtain ⟨as, r1, m1⟩ := k z List.mem_cons_self
    exact ⟨as ++ bs, .cons r1 r, fun b hb => (List.mem_append.mp hb).elim (m1 b) (m b)⟩
theorem rel_rep {v : V} : ∀ {n : Nat} {us : List Value}, Vals (List.replicate n v) us → ∀ z ∈ us, RelV v z
  | 0, _, r, z, h => by
    cases r
    cases h
  | n + 1, _, r, z, h => by
    cases r with
    | cons r1 r2 =>
      cases h with
      | head => exact r1
      | tail _ h => exact rel_rep r2 z h
end
section
variable {X : Cx}
/-- repr of one -/
def rRepr (K : PySem.W.Frag) : List V → Hp → VK → Prop := fun xs H Q => ∃ v d, xs = [v] ∧ Rr K H v d ∧ d.showable = true ∧ d.depth ≤ 40 ∧ d.shown.length ≤ sizeLine ∧ Q (.str d.shown) H
theorem call_reprD {K : PySem.W.Frag} (hg : X.A.guards = some []) (hu : X.A.units + 64 < cLine) (hK : X.K = K := by rfl) : CallR X (.builtin "repr") (rRepr K) := by
  subst hK
  intro pins s σ H xs us Q I r h
  obtain ⟨v, d, rfl, hr, sh, dp, sz, q⟩ := h
  obtain ⟨u, rfl, rv⟩ := vals1 r
  obtain ⟨as, rd, ns⟩ := hr.reads I rv
  have big : ∀ {a : Addr}, Reads s.heap (.ref a) d as → wpAny (model X.prog X.w) X.A (call (.builtin "repr") [.ref a]) (EP X pins σ Q) X.xe s := fun rd =>
    repr_of_reads' rd sh ns hg (by omega) (fun _ _ e => e) (fun h' u tk hk => ⟨.str _, H, I.kept (t' := tk) hk, ⟨_, rfl⟩, q⟩) sz
  cases rd with
  | none => exact PySem.P.repr_of_none ⟨.str _, H, I.tok _, ⟨_, rfl⟩, by simpa only [PyData.shown] using q⟩
  | bool b => exact PySem.P.repr_of_bool ⟨.str _, H, I.tok _, ⟨_, rfl⟩, by simpa only [PyData.shown] using q⟩
  | int i t => exact PySem.P.repr_of_int (by simpa only [PyData.showable, decide_eq_true_eq] using sh) ⟨.str _, H, I.tok _, ⟨_, rfl⟩, by simpa only [PyData.shown] using q⟩
  | str x t => exact PySem.P.repr_of_str ⟨.str _, H, I.tok _, ⟨_, rfl⟩, by simpa only [PyData.shown] using q⟩ (by simpa only [PyData.shown] using sz)
  | list h1 h2 h3 h4 => exact big (.list h1 h2 h3 h4)
  | tuple h1 h2 h3 h4 => exact big (.tuple h1 h2 h3 h4)
  | dict h1 h2 h3 h4 h5 => exact big (.dict h1 h2 h3 h4 h5)
/-- repr of a list that has one datum many times -/
def rReprN (K : PySem.W.Frag) : List V → Hp → VK → Prop := fun xs H Q => ∃ l n v d, xs = [.ref l] ∧ H l = some (.lst (List.replicate (n + 1) v)) ∧ Rr K H v d ∧ d.showable = true ∧ d.depth ≤ 40 ∧ (listText (PyData.shownAll (List.replicate (n + 1) d))).length ≤ sizeLine ∧
  Q (.str (listText (PyData.shownAll (List.replicate (n + 1) d)))) H
theorem all_rep {f : PyData → Bool} {fa : List PyData → Bool} (h0 : fa [] = true) (h1 : ∀ x xs, fa (x :: xs) = (f x && fa xs)) {d : PyData} (h : f d = true) : ∀ n, fa (List.replicate n d) = true
  | 0 => h0
  | n + 1 => by rw [List.replicate_succ, h1, h, all_rep h0 h1 h n]; rfl
theorem any_rep {d : PyData} : ∀ n, PyData.hasDictAll (List.replicate n d) = true → d.hasDict = true
  | 0, h => by simp [PyData.hasDictAll] at h
  | n + 1, h => by
    rw [List.replicate_succ] at h
    simp only [PyData.hasDictAll, Bool.or_eq_true] at h
    exact h.elim id (any_rep n)
theorem depth_rep {d : PyData} {m : Nat} (h : d.depth ≤ m) : ∀ n, PyData.depthAll (List.replicate n d) ≤ m
  | 0 => by simp [PyData.depthAll]
  | n + 1 => by
    rw [List.replicate_succ]
    have := depth_rep h n
    simp only [PyData.depthAll]
    omega
theorem call_reprN {K : PySem.W.Frag} (hg : X.A.guards = some []) (hu : X.A.units + 64 < cLine) (hK : X.K = K := by rfl) : CallR X (.builtin "repr") (rReprN K) := by
  subst hK
  intro pins s σ H xs us Q I r h
  obtain ⟨l, n, v, d, rfl, hl, hr, sh, dp, sz, q⟩ := h
  obtain ⟨u, rfl, rv⟩ := vals1 r
  cases rv
  obtain ⟨its, rl, ⟨o, m, ho, hc, _, hd⟩, hz⟩ := I.list (SqL.of hl)
  have ln : its.length = n + 1 := by rw [← rl.length, List.length_replicate]
  have item : ∀ z ∈ its, ∃ as, Reads s.heap z d as ∧ ∀ b ∈ as, d.hasDict = true → b ≠ sysModules := fun z hz => by
    obtain ⟨as, r1, m⟩ := hr.reads I (rel_rep rl z hz)
    exact ⟨as, r1, fun b hb k e => m k (e ▸ hb)⟩
  obtain ⟨as, h4, m⟩ := readsAll_rep item ln
  have hsh := all_rep (f := PyData.showable) (fa := PyData.showableAll) (by simp [PyData.showableAll]) (fun _ _ => by simp [PyData.showableAll]) sh (n + 1)
  have dpa := depth_rep dp (n + 1)
  obtain ⟨bs, hb, hk⟩ := ReprAllK.of_readsAll (prog := X.prog) (w := X.w) h4 hsh (fun k z => m _ z (any_rep _ k) rfl) (fun t ht => Nat.le_trans (listText_mem_le ht) sz)
  have na : l ∉ bs := not_mem_of_deeper (.list ho hc hd h4) (by simp only [PyData.depth]; omega) hb
  cases its with
  | nil => cases ln
  | cons z zs =>
    refine call_repr_slot (by omega) ⟨o, ho, hc⟩ F.slot_list_repr.toG ?_
    exact call_list_reprK ho hc hd na (by simpa using hk.length_eq) (fun i y e => hk.item i y (by simpa using e)) (by exact hg) (fun b _ => Clear.nil b) (by show X.A.units + 1 + _ < cLine; omega) (fun _ _ e => e)
      (fun h' u tk kp => ⟨_, _, rfl, .str _, H, I.kept (t' := tk) kp, ⟨_, rfl⟩, q⟩) sz
/-- text * n, one sign -/
def repS (a : Str) (n : Nat) : Str := ⟨(List.replicate n a.cps).foldl (· ++ ·) #[]⟩
theorem foldl_size (c : Array Nat) : ∀ (n : Nat) (acc : Array Nat), ((List.replicate n c).foldl (· ++ ·) acc).size = acc.size + n * c.size
  | 0, acc => by simp
  | n + 1, acc => by
    rw [List.replicate_succ, List.foldl_cons, foldl_size c n, Array.size_append, Nat.succ_mul]
    omega
theorem op_mulS : OpR X (binaryOp .Mult) (fun x y H Q => ∃ a k, x = .str a ∧ y = .int k ∧ a.length = 1 ∧ 0 ≤ k ∧ k ≤ 1000 ∧ Q (.str (repS a k.toNat)) H) := by
  intro pins s σ H x y v u Q I rx ry h
  obtain ⟨a, k, rfl, rfl, h1, h0, hk, q⟩ := h
  obtain ⟨t, rfl⟩ := rx
  obtain ⟨t', rfl⟩ := ry
  refine PySem.P.mul_str (by simp; omega) (fun n1 _ => ?_) (fun _ _ => ?_) ?_
  · rw [h1]
    have : (1 : Int) ≤ (2 ^ 63 - 1) / k := Int.le_ediv_of_mul_le (by omega) (by omega)
    omega
  · unfold Builtin.Str.tooLong
    rw [h1]
    exact decide_eq_false (by rw [sizeLine_eq]; omega)
  · have hs : (repS a k.toNat).length ≤ sizeLine := by
      have : (repS a k.toNat).length = 0 + k.toNat * a.length := foldl_size a.cps k.toNat #[]
      rw [this, h1, sizeLine_eq]
      omega
    split
    · rename_i n1
      have e : k = 0 := by omega
      subst e
      exact ⟨by decide, .str _, H, I.tok _, ⟨_, rfl⟩, q⟩
    · split
      · rename_i n1 n2
        have e : k = 1 := by
          rw [Bool.or_eq_true, beq_iff_eq, beq_iff_eq] at n2
          omega
        subst e
        have ea : repS a (1 : Int).toNat = a := by
          show (⟨#[] ++ a.cps⟩ : Str) = a
          rw [Array.empty_append]
        rw [ea] at q
        exact ⟨.str _, H, I, ⟨_, rfl⟩, q⟩
      · exact ⟨hs, .str _, H, I.tok _, ⟨_, rfl⟩, q⟩
end
end Fn

set_option Elab.async false
set_option maxRecDepth 100000
set_option maxHeartbeats 2000000
/-! An own class's __getitem__, __contains__, __eq__ (also behind !=) and __str__, where the objects have a dict. -/
namespace Fn
open PySem PySem.Spec PyProof.Rows L2
/-- own subscripts: what the parser's subscript does is known -/
def IxO (b : Expr) : Prop := ∀ v u, subscripted b true v u = runValue (.builtin "lifetime.subscript" ⟨[v, u], []⟩)
def rIxO (C : Addr) (sp : Sp) (E : XK) : R2 := fun x y H Q => ∃ (a dx : Addr) (fs : List (Str × V)), x = .ref a ∧ H a = some (.ins C dx fs) ∧ sp [x, y] H Q E
/-- x in o -/
def rInO (C : Addr) (sp : Sp) (E : XK) (neg : Bool) : R2 := fun x y H Q => ∃ (a dx : Addr) (fs : List (Str × V)), y = .ref a ∧ H a = some (.ins C dx fs) ∧ sp [y, x] H (fun v H' => ∃ b, v = .bl b ∧ Q (.bl (if neg then !b else b)) H') E
/-- o == y -/
def rEqO (K : PySem.W.Frag) (C : Addr) (sp : Sp) (E : XK) (neg : Bool) : R2 := fun x y H Q => ∃ (a dx : Addr) (fs : List (Str × V)) (tb : Value), x = .ref a ∧ H a = some (.ins C dx fs) ∧ TyX K H y tb ∧ PySem.W.notFirst K C tb = true ∧ sp [x, y] H (fun v H' => ∃ b, v = .bl b ∧ Q (.bl (if neg then !b else b)) H') E
section
variable {X : Cx} {CX : CXT} {pins : List (Addr × Obj)} {σ : L2.St} {H : Hp} {s : Shared} {C g : Addr} {k : Nat} {sp : Sp} {E : XK}
theorem pe_ixO {a b : Expr} {ta tb : TE} {pos : Pos} (hs : PySem.W.findIn X.K (.ref C) "__getitem__" = some (some (.ref g))) (hf : PySem.W.fnIn X.K g = true) (hfn : PySem.W.isFn X.K (.ref g) = true) (F : FnR X.prog X.w X.K X.mg X.base CX k g sp) (hr : Room (k + 1) X.A) (hx : Passes CX X E)
    (ha : PE X a ta) (hb : PE X b tb) (hsl : IxO b := by intro _ _; with_unfolding_all rfl) : PE X (.Subscript a b pos) (tOp (rIxO C sp E) ta tb) := by
  refine ⟨fun pins s σ H Q I h => ?_⟩
  refine Subscript_ (binT ha hb I h fun v u s2 x y H2 I2 rx ry q => ?_)
  obtain ⟨o, dx, fs, rfl, ea, q⟩ := q
  cases (show v = Value.ref o from rx)
  obtain ⟨mA, O, _, _, _, _⟩ := ins_get I2.hok ea
  obtain ⟨od, J, _⟩ := O.look
  obtain ⟨m, hF⟩ := I2.fr
  refine PySem.W.sub_K hF I2.ok.mod.kin J hs hf hfn (wpAny_call (SlX.run_at (us := [.ref o, u]) (ws := [.ref o, y]) F hr.in1 I2.env0.in1 hx I2 (.cons rfl (.cons ry .nil)) q)) (hsl _ _)
theorem op_inO (hs : PySem.W.findIn X.K (.ref C) "__contains__" = some (some (.ref g))) (hfn : PySem.W.isFn X.K (.ref g) = true) (F : FnR X.prog X.w X.K X.mg X.base CX k g sp) (hr : Room k X.A) (hx : Passes CX X E) : OpR X (compareOp .In) (rInO C sp E false) := by
  intro pins s σ H x y v u Q I rx ry h
  obtain ⟨o, dx, fs, rfl, ea, q⟩ := h
  cases (show u = Value.ref o from ry)
  obtain ⟨mA, O, _, _, _, _⟩ := ins_get I.hok ea
  obtain ⟨od, J, _⟩ := O.look
  obtain ⟨m, hF⟩ := I.fr
  refine PySem.W.in_K hF I.ok.mod.kin J hs hfn (wpAny_mono (wpAny_call (SlX.run_at (us := [.ref o, v]) (ws := [.ref o, x]) F hr I.env0 hx I (.cons rfl (.cons rx .nil)) q)) (fun r s' z => ?_) fun _ _ z => z)
  obtain ⟨z', H', I', rz, b, rfl, qz⟩ := z
  cases (show r = Value.bool b from rz)
  exact wpAny_truthy_bool ⟨.bl b, H', I', rfl, qz⟩
theorem op_notInO (hs : PySem.W.findIn X.K (.ref C) "__contains__" = some (some (.ref g))) (hfn : PySem.W.isFn X.K (.ref g) = true) (F : FnR X.prog X.w X.K X.mg X.base CX k g sp) (hr : Room k X.A) (hx : Passes CX X E) : OpR X (compareOp .NotIn) (rInO C sp E true) := by
  intro pins s σ H x y v u Q I rx ry h
  obtain ⟨o, dx, fs, rfl, ea, q⟩ := h
  cases (show u = Value.ref o from ry)
  obtain ⟨mA, O, _, _, _, _⟩ := ins_get I.hok ea
  obtain ⟨od, J, _⟩ := O.look
  obtain ⟨m, hF⟩ := I.fr
  refine PySem.W.notIn_K hF I.ok.mod.kin J hs hfn (wpAny_mono (wpAny_call (SlX.run_at (us := [.ref o, v]) (ws := [.ref o, x]) F hr I.env0 hx I (.cons rfl (.cons rx .nil)) q)) (fun r s' z => ?_) fun _ _ z => z)
  obtain ⟨z', H', I', rz, b, rfl, qz⟩ := z
  cases (show r = Value.bool b from rz)
  exact wpAny_truthy_bool ⟨.bl (!b), H', I', rfl, qz⟩
theorem op_eqO (hs : PySem.W.findIn X.K (.ref C) "__eq__" = some (some (.ref g))) (hfn : PySem.W.isFn X.K (.ref g) = true) (F : FnR X.prog X.w X.K X.mg X.base CX k g sp) (hr : Room k X.A) (hx : Passes CX X E) : OpR X (compareOp .Eq) (rEqO X.K C sp E false) := by
  intro pins s σ H x y v u Q I rx ry h
  obtain ⟨o, dx, fs, tb, rfl, ea, ty, hn, q⟩ := h
  cases (show v = Value.ref o from rx)
  obtain ⟨mA, O, _, _, _, _⟩ := ins_get I.hok ea
  obtain ⟨od, J, _⟩ := O.look
  obtain ⟨m, hF⟩ := I.fr
  obtain ⟨P, kx, hP, _⟩ := kit_of I ry ty
  refine PySem.W.cmp_ofEq (PySem.W.cmp_K (op := .Eq) (tb := tb) hr.units0 hF I.ok.mod.kin J (kx.ty _ _ I.kIn hP) hn hs hfn (wpAny_mono (wpAny_call (SlX.run_at (us := [.ref o, u]) (ws := [.ref o, y]) F hr I.env0 hx I (.cons rfl (.cons ry .nil)) q)) (fun r s' z => ?_) fun _ _ z => z))
  obtain ⟨z', H', I', rz, b, rfl, qz⟩ := z
  cases (show r = Value.bool b from rz)
  exact ⟨.bl b, H', I', rfl, qz⟩
theorem ne_bind (self : Value) : bindSpecial (.builtin "object.__ne__") self = pure (.builtin "object.__ne__", [self]) := PySem.F.cmp_object.ne.bind self
theorem neBound {M : Model} {A : Around} {E : Value → Shared → Prop} {s : Shared} {K : PySem.W.Frag} {x C : Addr} {ox : Obj} {od : Option Obj} {args : List Value} {Q : Option Value → Shared → Prop} (X : K.In s.heap) (I : PySem.W.InstAt s.heap x ox C od) (hs : PySem.W.findIn K (.ref C) "__ne__" = some (some (.builtin "object.__ne__")))
    (h : wpAny M A (call (.builtin "object.__ne__") (.ref x :: args)) (fun v => Q (some v)) E s) : wpAny M A (callSpecialIfBound? (.ref x) "__ne__" args) Q E s := by
  simp only [callSpecialIfBound?, bindSpecialIfBound?]
  refine wpAny_holding (wpAny_bind (wpAny_bind (wpAny_bind (I.type.here ((PySem.W.looks_findIn X hs).here ?_)))))
  refine wpAny_bind (wpAny_askSetting (wpAny_ite ?_))
  have fin : wpAny M A (call (.builtin "object.__ne__") ([.ref x] ++ args) >>= fun v => pure (some v)) Q E s := wpAny_bind (wpAny_mono h (fun v s' h' => wpAny_pure h') fun _ _ h' => h')
  split
  · exact wpAny_bind (wpAny_of_eq (ne_bind _) (wpAny_pure (by exact fin)))
  · exact wpAny_tryCatch (wpAny_bind (wpAny_of_eq (ne_bind _) (wpAny_pure (by exact fin))))
/-- o != y, by the class's own __eq__ -/
theorem op_neO (hne : PySem.W.findIn X.K (.ref C) "__ne__" = some (some (.builtin "object.__ne__"))) (hob : PySem.W.subIn X.K (.ref C) (.type "object") = some true) (hs : PySem.W.findIn X.K (.ref C) "__eq__" = some (some (.ref g))) (hfn : PySem.W.isFn X.K (.ref g) = true)
    (F : FnR X.prog X.w X.K X.mg X.base CX k g sp) (hr : Room (k + 1) X.A) (hx : Passes CX X E) : OpR X (compareOp .NotEq) (rEqO X.K C sp E true) := by
  intro pins s σ H x y v u Q I rx ry h
  obtain ⟨o, dx, fs, tb, rfl, ea, ty, hn, q⟩ := h
  cases (show v = Value.ref o from rx)
  obtain ⟨mA, O, _, _, _, _⟩ := ins_get I.hok ea
  obtain ⟨od, J, _⟩ := O.look
  obtain ⟨m, hF⟩ := I.fr
  obtain ⟨P, kx, hP, _⟩ := kit_of I ry ty
  have hb : PySem.W.Looks (model X.prog X.w) s.heap (typeOf u) tb := kx.ty _ _ I.kIn hP
  have X0 := I.kIn
  have fin : wpAny (model X.prog X.w) X.A.in1 (call (.ref g) [.ref o, u]) (fun r s' => ∃ b, r = .bool b ∧ EP X pins σ Q (.bool (!b)) s') X.xe s :=
    wpAny_mono (wpAny_call (SlX.run_at (us := [.ref o, u]) (ws := [.ref o, y]) F hr.in1 I.env0.in1 hx I (.cons rfl (.cons ry .nil)) q)) (fun r s' z => by
      obtain ⟨z', H', I', rz, b, rfl, qz⟩ := z
      cases (show r = Value.bool b from rz)
      exact ⟨b, rfl, .bl (!b), H', I', rfl, qz⟩) fun _ _ z => z
  have one : wpAny (model X.prog X.w) X.A (tryCompare (.ref o) "__ne__" u) (fun r s' => ∃ v, r = some v ∧ EP X pins σ Q v s') X.xe s := by
    unfold tryCompare
    refine wpAny_bind (neBound X0 J hne (wpAny_call ?_))
    refine codeAny_call_builtin PySem.F.cmp_object.ne.plain PySem.F.cmpEntry_ne (PySem.W.check_slot PySem.F.cmpKind_ne PySem.F.cmpSplit_ne (J.type.andThen (PySem.W.looks_subIn X0 hob)) (PySem.F.cmpArgs_ne _ _) ?_)
    unfold Builtin.«object.__ne__»
    refine wpAny_bind (wpAny_of_eq (a := (Value.ref o, [u])) (by first | rfl | kernel_rfl) ?_)
    refine wpAny_bind (m := cRoomFor _ _) (wpAny_cRoomFor hr.in1.units0 ?_)
    refine wpAny_bind (m := callSpecialIfBound? (.ref o) (Str.ofString "__eq__") [u]) (PySem.W.ifBound_K X0 J hs hfn (wpAny_mono fin (fun r s' z => ?_) fun _ _ z => z))
    obtain ⟨b, rfl, qz⟩ := z
    refine wpAny_bind (m := truthy (.bool b)) (wpAny_truthy_bool ?_)
    exact wpAny_pure (wpAny_pure ⟨_, rfl, qz⟩)
  refine PySem.W.cmp_ofNotEq ?_
  unfold richCompare
  simp only [oneThing_ref]
  refine wpAny_holding (wpAny_bind (wpAny_cRoomFor hr.units0 ?_))
  refine wpAny_bind (J.type.here (wpAny_bind (hb.here ?_)))
  split
  · rename_i q
    have e : PySem.W.subIn X.K tb (.ref C) = some false := by
      rcases Bool.or_eq_true_iff.mp hn with e | e
      · rw [beq_iff_eq.mp e] at q; simp at q
      · exact beq_iff_eq.mp e
    refine wpAny_bind ((PySem.W.looks_subIn X0 e).here ?_)
    simp only [Bool.false_eq_true, if_false]
    refine wpAny_bind (wpAny_mono one (fun r s' z => ?_) fun _ _ e => e)
    obtain ⟨v, rfl, hq⟩ := z
    exact wpAny_pure hq
  · refine wpAny_bind (wpAny_pure ?_)
    simp only [Bool.false_eq_true, if_false]
    refine wpAny_bind (wpAny_mono one (fun r s' z => ?_) fun _ _ e => e)
    obtain ⟨v, rfl, hq⟩ := z
    exact wpAny_pure hq
/-- str(o) by the class's own __str__ -/
def rStrO (C : Addr) (sp : Sp) (E : XK) : List V → Hp → VK → Prop := fun xs H Q => ∃ (a dx : Addr) (fs : List (Str × V)), xs = [.ref a] ∧ H a = some (.ins C dx fs) ∧ sp xs H (fun v H' => ∃ t, v = .str t ∧ Q (.str t) H') E
theorem call_strO (hs : PySem.W.findIn X.K (.ref C) "__str__" = some (some (.ref g))) (hfn : PySem.W.isFn X.K (.ref g) = true) (F : FnR X.prog X.w X.K X.mg X.base CX k g sp) (hr : Room (k + 2) X.A) (hx : Passes CX X E) : CallR X (.type "str") (rStrO C sp E) := by
  intro pins s σ H xs us Q I r h
  obtain ⟨a, dx, fs, rfl, ea, q⟩ := h
  obtain ⟨u, rfl, ru⟩ := vals1 r
  obtain rfl : u = Value.ref a := ru
  obtain ⟨mA, O, _, _, _, _⟩ := ins_get I.hok ea
  obtain ⟨od, J, _⟩ := O.look
  have hr2 : Room k X.A.in1.in1 := (show Room (k + 1) X.A.in1 from Room.in1 hr).in1
  refine PySem.W.kso_call hr2.units0 I.kIn J hs hfn (wpAny_mono (wpAny_call (SlX.run_at (us := [.ref a]) (ws := [.ref a]) F hr2 I.env0.in1.in1 hx I (.cons rfl .nil) q)) (fun r s' z => ?_) fun _ _ z => z)
  obtain ⟨z', H', I', rz, t, rfl, qz⟩ := z
  obtain ⟨tk, rfl⟩ : ∃ tk, r = Value.str t tk := rz
  exact ⟨.str t, H', I', ⟨tk, rfl⟩, qz⟩
end
end Fn

set_option Elab.async false
set_option maxRecDepth 100000
set_option maxHeartbeats 2000000
/-! enumerate over a tuple; max of a list of ints with a default. -/
namespace Fn
open PySem PySem.Spec PyProof.Rows L2
theorem meets_enum1 {v : Value} {o : Obj} {H : Heap → Prop} (B : Begins v o H) :
    Meets (Builtin.«enumerate.__new__» ⟨[.type "enumerate", v], []⟩) (fun _ R s => H s.heap ∧
      R (.ok (.ret (.ref (s.heap.push o).objs.size))) { s with heap := (s.heap.push o).push { cls := .type "enumerate", data := .fields #[.none, .bool false, .ref s.heap.objs.size, rawInt 0, .none, .none] } }) :=
  .of_wp fun prog w A R s h => by
    obtain ⟨hp, g, d, tk, os⟩ := s; obtain ⟨h1, h⟩ := h
    have hsub := sub_enumerate
    have q1 : ∀ {A' : Around} {E : Value → Shared → Prop} {Q : Value → Shared → Prop}, Q (.ref hp.objs.size) ⟨hp.push o, g, d, tk, os⟩ → wpAny (model prog w) A' (pyIter v) Q E ⟨hp, g, d, tk, os⟩ :=
      fun q => B.iter prog w _ _ ⟨hp, g, d, tk, os⟩ _ h1 q
    wp_walk using q1
    refine wpAny_stack_any fun st => wpAny_pure ?_
    split
    · rename_i c _ _ _ _ _
      cases (c == Value.type "enumerate")
      · wp_walk using q1
        exact ⟨_, rfl, h⟩
      · wp_walk using q1
        exact ⟨_, rfl, h⟩
    · wp_walk using q1
      exact ⟨_, rfl, h⟩
section
variable {prog : Program} {w : World} {A : Around} {E : Value → Shared → Prop} {s : Shared}
theorem enum_begins1 {v : Value} {o : Obj} {H : Heap → Prop} {Q : Value → Shared → Prop} (B : Begins v o H) (h1 : H s.heap)
    (h : ∀ h', IsEnum h' (s.heap.objs.size + 1) s.heap.objs.size 0 .none → h'.get? s.heap.objs.size = some o → h'.objs.size = s.heap.objs.size + 2 →
      (∀ b o, s.heap.get? b = some o → h'.get? b = some o) → Q (.ref (s.heap.objs.size + 1)) { s with heap := h' }) :
    wpAny (model prog w) A (call (.type "enumerate") [v]) Q E s := by
  refine callType_new F.called_enumerate (by decide) (F.typeCall_enumerate_1 _) (F.newCall_enumerate_1 _) (fun obj => F.args_object_init_2 obj _) F.entry_enumerate_new
    (meets_enum1 B) ⟨h1, ?_⟩
  have hz : (s.heap.push o).objs.size = s.heap.objs.size + 1 := Heap.size_push ..
  show _ ∧ _
  rw [hz]
  have he : IsEnum ((s.heap.push o).push { cls := .type "enumerate", data := .fields #[.none, .bool false, .ref s.heap.objs.size, rawInt 0, .none, .none] }) (s.heap.objs.size + 1) s.heap.objs.size 0 .none := by
    have := Heap.get?_push_size (s.heap.push o) (o := { cls := .type "enumerate", data := .fields #[.none, .bool false, .ref s.heap.objs.size, rawInt 0, .none, .none] }) rfl
    rw [hz] at this; exact this
  refine ⟨⟨_, he, rfl⟩, h _ he (Heap.get?_push_of_some _ (Heap.get?_push_size _ B.free)) (by rw [Heap.size_push, hz]) fun b o x => Heap.get?_push_of_some _ (Heap.get?_push_of_some _ x)⟩
end
/-- the tuple at a as it stands at each turn, each item in a new pair -/
def IteT (K : PySem.W.Frag) (a : Addr) : It :=
  ⟨fun i H => ∃ (xs : List V) (x : V), SqT K H a xs ∧ xs[i]? = some x, fun i H v H' => ∃ T x, v = .ref T ∧ H T = none ∧ H' = upd H T (.tup [.int (i : Nat), x]) ∧ ∀ xs, SqT K H a xs → xs[i]? = some x, fun i H => ∃ xs : List V, SqT K H a xs ∧ xs.length ≤ i⟩
theorem turn_enumT {P : Program} {w : World} {K : PySem.W.Frag} {elts : List Expr} {kk : Nat} {tpos : Pos} (a e it : Addr) :
    Turn P w K (.Tuple elts kk tpos) (IteT K a) [e, it] e (fun i h => (∃ old, IsEnum h e it ((i : Nat) : Int) old) ∧ h.IsTupleIter it a i ∧ e ≠ it) where
  mem := by simp
  obj := fun i h st b hb => by
    obtain ⟨⟨old, he⟩, ⟨o, ho, hc, hd⟩, _⟩ := st
    have e' : b = e ∨ b = it := by simpa using hb
    rcases e' with z | z
    · rw [z]; exact ⟨_, he, fun v q => nomatch q⟩
    · rw [z]; exact ⟨o, ho, fun v q => by rw [hd] at q; cases q⟩
  keep := fun i h h' st k => let ⟨⟨old, he⟩, hi, hne⟩ := st; ⟨⟨old, k e (by simp) _ he⟩, hi.at fun o q => k it (by simp) o q, hne⟩
  item := by
    intro X hP hw hK hc i pins s σ H E I hf st hg
    subst hP hw hK
    obtain ⟨⟨old, he⟩, hit, hne⟩ := st
    obtain ⟨xs, x, hq, hx⟩ := hg
    obtain ⟨its, rv, p, hz⟩ := I.tuple hq
    have pT : s.heap.IsTuple a its.toArray := p
    obtain ⟨u, hu, ru⟩ := rv.get hx
    have hel : e < s.heap.objs.size := Heap.lt_size he
    have hil : it < s.heap.objs.size := by obtain ⟨_, q, _⟩ := hit; exact Heap.lt_size q
    have hae : a ≠ it := fun z => by
      obtain ⟨o1, q1, c1, _⟩ := hit
      obtain ⟨o2, q2, c2, _⟩ := pT
      rw [z, q1] at q2
      cases q2
      rw [c1] at c2
      exact absurd (Value.type.inj c2) (by decide)
    have hea : e ≠ a := fun z => by
      obtain ⟨o2, q2, c2, _⟩ := pT
      rw [← z] at q2
      have h1 := Option.some.inj (he.symm.trans q2)
      rw [← h1] at c2
      exact absurd (Value.type.inj c2) (by decide)
    have hin : i < its.toArray.size := by
      rw [List.size_toArray]
      exact (List.getElem?_eq_some_iff.mp hu).1
    refine wpAny_pyNext_enum_itemD (Draws.tuple (A := X.A.in1) (show X.A.in1.handled = none from I.ok.hd hc) it a hae its.toArray) he ⟨hit, pT⟩ hin hne (by simp; exact ⟨hne, hea⟩) fun x' h' tk hx' ho hst' hT hsz hk => ?_
    obtain ⟨hit', pT'⟩ := hst'
    have ex : x' = u := by
      have z : its.toArray[i]? = some u := by simpa using hu
      exact Option.some.inj (hx'.symm.trans z)
    subst ex
    refine ⟨_, rfl, wpAny_letOwnedTupleGo_enum (s := { s with heap := h', toks := tk + 1 }) ho fun h'' he' sb => ?_⟩
    have hT2 : h''.get? s.heap.objs.size = some { cls := .type "tuple", data := .seq #[.int i tk, x'] } := (sb.2 _ (Nat.ne_of_gt hel)).trans hT
    have new : ObjOk X.prog X.w (upd H s.heap.objs.size (.tup [.int (i : Nat), x])) h'' s.heap.objs.size (.tup [.int (i : Nat), x]) :=
      ⟨by show 2 ≤ sizeLine; decide, [.int i tk, x'], .cons ⟨_, rfl⟩ (.cons ru .nil), ⟨_, hT2, rfl, _, rfl⟩⟩
    have I1 : Inv X pins σ (upd H s.heap.objs.size (.tup [.int (i : Nat), x])) { s with heap := h'', toks := tk + 1 } :=
      I.turnedNew (ch := [e, it]) (fun b ob hb q => (sb.2 b (fun z => hb (by simp [z]))).trans (hk b ob (fun z => hb (by simp [z])) (fun z => hb (by simp [z])) q)) hf (Nat.le_refl _) new
    refine ⟨.ref s.heap.objs.size, _, I1, rfl, ⟨_, x, rfl, I.hok.fresh (Nat.le_refl _), rfl, fun ys hy => by rw [I.tuple_inj hy hq]; exact hx⟩, ⟨⟨x', ?_⟩, hit'.at fun o q => (sb.2 it (Ne.symm hne)).trans q, hne⟩, fun b hb => ?_⟩
    · have e1 : ((i + 1 : Nat) : Int) = (i : Int) + 1 := by omega
      rw [e1]; exact he'
    · have hb' : b < s.heap.objs.size := by
        have e' : b = e ∨ b = it := by simpa using hb
        rcases e' with z | z
        · rw [z]; exact hel
        · rw [z]; exact hil
      rw [upd_ne (Nat.ne_of_lt hb')]
      exact (hf b hb).1
  done := by
    intro X hP hw hK hc i pins s σ H E I hf st hg
    subst hP hw hK
    obtain ⟨⟨old, he⟩, hit, hne⟩ := st
    obtain ⟨xs, hq, hx⟩ := hg
    obtain ⟨its, rv, p, hz⟩ := I.tuple hq
    have pT : s.heap.IsTuple a its.toArray := p
    obtain ⟨f0, f1, f2, f3, f4, f5⟩ := hf it (by simp)
    have hl := rv.length
    have hT : s.TypeIs (.ref e) "enumerate" := ⟨_, he, rfl⟩
    unfold pyNext
    refine wpAny_bind (wpAny_attempt (wpAny_callSpecial?_slot (name := Str.ofString "__next__") hT F.slot_enumerate_next
      (wpAny_call_entry F.slot_enumerate_next hT F.entry_enumerate_next ?_ (F.args_enumerate_next_1 _))))
    show wpAny _ _ (field (.ref e) 2 >>= _) _ _ _
    refine wpAny_bind (wpAny_field he rfl (x := .ref it) rfl ?_)
    refine wpAny_bind (wpAny_nextOf_tuple_end (I.ok.hd hc) hit pT (by simp; omega) fun h' x he' hx' => ?_)
    obtain ⟨o, ho, hc'⟩ := hx'
    refine wpAny_bind (wpAny_isInstance (T := "StopIteration") (b := true) ⟨o, ho, hc'⟩ isSubtype_stop ?_)
    exact wpAny_pure ⟨rfl, I.turned (t' := s.toks) (fun b o hb q => he' b o hb q) f0 f1 f3 f4 f5⟩
  self := fun A i s Q E st h => let ⟨⟨_, he⟩, _⟩ := st; wpAny_pyIter_enum he h
def iEnumT (K : PySem.W.Frag) (ta : TA) : TI := fun σ H R => ta σ H fun vs H1 => ∃ a xs, vs = [.ref a] ∧ SqT K H1 a xs ∧ R (IteT K a) H1
theorem pi_enumT {X : Cx} {e : Expr} {ta : TA} {p pos tpos : Pos} {elts : List Expr} {kk : Nat} (hg : Gl X "enumerate") (hm : X.mg "enumerate" = none) (ha : PA X [e] ta) (hs : starEach [e] X.env = [(false, eval e X.env)] := by rfl) :
    PI X (.Tuple elts kk tpos) (.Call (.Name "enumerate" p) [e] [] pos) (iEnumT X.K ta) := by
  refine ⟨fun pins s σ H R I h => ?_⟩
  refine Call_ (ld_blt I hg hm boot_enumerate (PyProof.Rows.callWith_type1 (thn (ha.run pos pins s σ H _ I h) fun us s1 ⟨vs, H1, I1, r1, q1⟩ => ?_) hs rfl))
  obtain ⟨a, xs, ex, hq, q⟩ := q1
  subst ex
  cases r1 with
  | cons r rr =>
    cases rr
    cases r
    obtain ⟨its, rv, p', hz⟩ := I1.tuple hq
    refine enum_begins1 (begins_tuple a its.toArray) (show s1.heap.IsTuple a its.toArray from p') fun h' he hit hsz hk => wpAny_pyIter_enum he ?_
    have I2 : Inv X pins σ H1 { s1 with heap := h' } := I1.kept (t' := s1.toks) hk
    refine ⟨s1.heap.objs.size + 1, [s1.heap.objs.size + 1, s1.heap.objs.size], _, _, H1, rfl, I2, turn_enumT a (s1.heap.objs.size + 1) s1.heap.objs.size, ⟨⟨.none, he⟩, ⟨_, hit, rfl, rfl⟩, Nat.succ_ne_self _⟩, fun b hb => ?_, q⟩
    have e' : b = s1.heap.objs.size + 1 ∨ b = s1.heap.objs.size := by simpa using hb
    have hle : s1.heap.objs.size ≤ b := by
      rcases e' with z | z
      · rw [z]; exact Nat.le_add_right _ _
      · rw [z]; exact Nat.le_refl _
    exact I1.fpOk hle (I1.hok.fresh hle)
theorem pi_enumT_k {X : Cx} {K : PySem.W.Frag} {e : Expr} {ta : TA} {p pos tpos : Pos} {elts : List Expr} {kk : Nat} (hg : Gl X "enumerate") (hm : X.mg "enumerate" = none) (ha : PA X [e] ta) (hs : starEach [e] X.env = [(false, eval e X.env)] := by rfl) (hK : X.K = K := by rfl) :
    PI X (.Tuple elts kk tpos) (.Call (.Name "enumerate" p) [e] [] pos) (iEnumT K ta) := by subst hK; exact pi_enumT hg hm ha hs
theorem walk_enumT {K : PySem.W.Frag} {a : Addr} {xs : List V} : Walk (IteT K a) xs.length (fun H => SqT K H a xs) (YPair (fun i => some (.int (i : Nat))) (fun i => xs[i]?)) := by
  refine ⟨fun i _ hi q => ⟨xs, xs[i], q, by simp [hi]⟩, fun _ q => ⟨xs, q, Nat.le_refl _⟩, fun i H v H' _ q y => ?_⟩
  obtain ⟨T, x, h1, h2, h3, h4⟩ := y
  exact ⟨T, .int (i : Nat), x, h1, h2, h3, rfl, h4 xs q⟩
/-! ### max(ns, default=d) -/
def maxI (d : Int) : List Int → Int
  | [] => d
  | n :: r => r.foldl max n
theorem reads_ints {h : Heap} : ∀ {us : List Value} {ns : List Int}, Vals (ns.map V.int) us → ReadsAll h us (ns.map PyData.int) []
  | _, [], r => by cases r; exact .nil
  | _, n :: ns, r => by
    cases r with
    | cons a b =>
      obtain ⟨t, rfl⟩ := (show ∃ t, _ = Value.int n t from a)
      exact .cons (.int _ _) (reads_ints b)
theorem ints_alike (ns : List Int) : PySem.W.AlikeAll (ns.map PyData.int) := by
  refine ⟨fun x hx y hy => ?_, fun x hx => ?_⟩
  · obtain ⟨a, _, rfl⟩ := List.mem_map.mp hx
    obtain ⟨b, _, rfl⟩ := List.mem_map.mp hy
    rfl
  · obtain ⟨a, _, rfl⟩ := List.mem_map.mp hx
    intro z
    cases z
theorem ints_depth : ∀ ns : List Int, PyData.depthAll (ns.map PyData.int) ≤ 1
  | [] => by decide
  | n :: ns => Nat.max_le.mpr ⟨Nat.zero_le _, ints_depth ns⟩
def rMaxDef (K : PySem.W.Frag) : List V → List V → Hp → VK → Prop := fun vs zs H Q => ∃ (a : Addr) (ns : List Int) (d : Int), vs = [.ref a] ∧ zs = [.int d] ∧ SqL K H a (ns.map V.int) ∧ Q (.int (maxI d ns)) H
theorem cr_maxDef {X : Cx} (hc : X.calm = true) (hu : X.A.units + 64 < cLine) : CallRK X (.builtin "max") [Str.ofString "default"] (rMaxDef X.K) := by
  intro pins s σ H xs zs us ws Q I r rz h
  obtain ⟨a, ns, d, rfl, rfl, hs, q⟩ := h
  obtain rfl := Vals.ref1 r
  obtain ⟨w1, rfl, e1⟩ := vals1 rz
  obtain ⟨t, rfl⟩ := (show ∃ t, w1 = Value.int d t from e1)
  obtain ⟨its, rv, hl, _⟩ := I.list hs
  have hd := ints_depth ns
  refine PySem.W.max_list_default (I.ok.hd hc) hl.isList (reads_ints rv) (ints_alike ns) (by omega) (fun e h' tk hk => ?_) fun y ys i v h' tk bs e hv hr hk => ?_
  · cases ns with
    | nil => exact ⟨.int d, H, I.kept hk, ⟨_, rfl⟩, q⟩
    | cons n ns => cases e
  · cases ns with
    | nil => cases e
    | cons n ns =>
      cases e
      rw [PySem.W.maxD_ints] at hr
      cases hr
      exact ⟨.int _, H, I.kept hk, ⟨_, rfl⟩, q⟩
end Fn

set_option Elab.async false
set_option maxRecDepth 100000
set_option maxHeartbeats 2000000
/-! sorted of a list of pairs (text, int). -/
namespace Fn
open PySem PySem.Spec PyProof.Rows L2
theorem refs_its {us : List Value} : ∀ {bs : List Addr}, Vals (bs.map V.ref) us → us = bs.map Value.ref := by
  induction us with
  | nil => intro bs r; cases bs with
    | nil => rfl
    | cons b bs => cases r
  | cons u us ih => intro bs r; cases bs with
    | nil => cases r
    | cons b bs =>
      cases r with
      | cons r1 r2 =>
        rw [ih r2]
        cases (show u = Value.ref b from r1)
        rfl
theorem refs_vals (l : List Addr) : Vals (l.map V.ref) (l.map Value.ref) := by
  induction l with
  | nil => exact .nil
  | cons b l ih => exact .cons rfl ih
def rSortPL (K : PySem.W.Frag) : List V → Hp → VK → Prop := fun vs H Q => ∃ (a : Addr) (bs : List Addr), vs = [V.ref a] ∧ SqL K H a (bs.map V.ref) ∧ (∀ b ∈ bs, ∃ x i, H b = some (.tup [.str x, .int i])) ∧
  ∀ (as : List Addr) (p : Addr), as.Perm bs → as.Pairwise (fun b c => lexS (pairAt H c) (pairAt H b) = false) → H p = none → Q (.ref p) (upd H p (.lst (as.map V.ref)))
theorem cr_sortPL {X : Cx} : CallR X (.builtin "sorted") (rSortPL X.K) := by
  intro pins s σ H vs us Q I r h
  obtain ⟨a, bs, rfl, hs, hL, q⟩ := h
  obtain ⟨its, rv, hl, hz⟩ := I.list hs
  obtain rfl := refs_its rv
  rw [Vals.ref1 r]
  rw [List.length_map] at hz
  let k : Value → Str × Int := fun v => match v with | .ref b => pairAt H b | _ => ("", 0)
  have pk : ∀ v ∈ bs.map Value.ref, IsPairS s.heap v (k v) := by
    intro v hv
    obtain ⟨b, hb, rfl⟩ := List.mem_map.mp hv
    obtain ⟨x, i, hx⟩ := hL b hb
    obtain ⟨_, its, rv, ob, h1, h2, n, h3⟩ := I.hok _ _ hx
    obtain ⟨u1, u2, rfl, ⟨t1, rfl⟩, t2, rfl⟩ := vals2 rv
    have ek : k (.ref b) = (x, i) := by
      show pairAt H b = _
      unfold pairAt
      rw [hx]
    rw [ek]
    exact ⟨b, ob, t1, t2, n, rfl, h1, h2, h3⟩
  refine SrtO.sorted_ord (swo_lexS k) hl.isList (by rw [List.length_map]; exact hz) (fun h2 h₁ a ha kk => pairS_sortable (s := { s with heap := h₁ }) (k := k) (by omega) (fun v hm => pairS_keeps (pk v hm) fun b o e _ => (kk b o e).2) fun o2 e2 c2 => ?_) fun out hs hb => ?_
  · have e3 : some o2 = some (seqObj "list" (bs.map Value.ref).toArray 0) := e2.symm.trans ha
    cases e3
    exact absurd (Value.type.inj c2) (by decide)
  · obtain ⟨as, pas, rfl⟩ := perm_map_inv hb.perm bs rfl
    have hn : H (s.heap.objs.size + 1) = none := I.hok.fresh (Nat.le_succ _)
    obtain ⟨n, ha⟩ := sortedAll_at s.heap (bs.map Value.ref) (as.map Value.ref).toArray
    refine ⟨.ref (s.heap.objs.size + 1), upd H (s.heap.objs.size + 1) (.lst (as.map V.ref)), I.laid (t' := s.toks) (fun _ _ => sortedAll_old) (Nat.le_succ _) ⟨by rw [List.length_map, pas.length_eq]; exact hz, as.map Value.ref, n, refs_vals as, ha⟩, rfl, q as _ pas ?_ hn⟩
    exact List.pairwise_map.mp hs
theorem paired_right {α β : Type} {R : α → β → Prop} : ∀ {l : List α} {m : List β} {i : Nat} {y : β}, Paired R l m → m[i]? = some y → ∃ x, l[i]? = some x ∧ R x y
  | _, _, _, _, .nil, h => by simp at h
  | _, _, 0, _, .cons a _, h => by
    cases (show some _ = some _ from h)
    exact ⟨_, rfl, a⟩
  | _, _, i + 1, _, .cons _ t, h => by
    obtain ⟨x, e, r⟩ := paired_right t (show _ = some _ from h)
    exact ⟨x, e, r⟩
/-- t + u of tuples of any length -/
def rCatB : R2 := fun x y H Q => ∃ (a b : Addr) (xs ys : List V), x = .ref a ∧ y = .ref b ∧ H a = some (.tup xs) ∧ H b = some (.tup ys) ∧ xs.length + ys.length ≤ sizeLine ∧ ∀ (p : Addr) (H' : Hp), Same H H' → H' p = some (.tup (xs ++ ys)) → Q (.ref p) H'
theorem op_catB {X : Cx} : OpR X (binaryOp .Add) rCatB := by
  intro pins s σ H x y v u Q I rx ry h
  obtain ⟨a, b, xs, ys, rfl, rfl, ha, hb, hz, q⟩ := h
  exact op_catA pins s σ H _ _ v u Q I rx ry ⟨a, b, xs, ys, rfl, rfl, SqT.of ha, SqT.of hb, hz, fun e => q b H (Same.refl _) (by rw [e, List.nil_append]; exact hb), fun _ e => q a H (Same.refl _) (by rw [e, List.append_nil]; exact ha), fun _ _ p hp => q p _ (fun c o e => by rw [upd_ne (ne_of_none e hp)]; exact e) upd_same⟩
/-- addresses and the pairs that stand there -/
theorem pairs_pw {H : Hp} : ∀ {as : List Addr} {ps : List (Str × Int)}, Paired (fun b q => H b = some (.tup [.str q.1, .int q.2])) as ps → as.Pairwise (fun b c => lexS (pairAt H c) (pairAt H b) = false) → ps.Pairwise (fun p q => lexS q p = false)
  | _, _, .nil, _ => .nil
  | _, _, .cons (a := a) (b := p) h t, w => by
    have at_ : ∀ {b : Addr} {q : Str × Int}, H b = some (.tup [.str q.1, .int q.2]) → pairAt H b = q := fun e => by
      unfold pairAt
      rw [e]
    obtain ⟨w1, w2⟩ := List.pairwise_cons.mp w
    refine List.pairwise_cons.mpr ⟨fun q hq => ?_, pairs_pw t w2⟩
    obtain ⟨i, hi⟩ := List.getElem?_of_mem hq
    obtain ⟨b, hb, e⟩ := paired_right t hi
    have z := w1 b (List.mem_of_getElem? hb)
    rw [at_ h, at_ e] at z
    exact z
/-- sorted rows of the same pairs, each once, are one row -/
theorem lex_uniq : ∀ {ps qs : List (Str × Int)}, ps.Nodup → qs.Nodup → ps.Pairwise (fun p q => lexS q p = false) → qs.Pairwise (fun p q => lexS q p = false) → (∀ p, p ∈ ps ↔ p ∈ qs) → ps = qs
  | [], [], _, _, _, _, _ => rfl
  | [], q :: qs, _, _, _, _, h => absurd ((h q).mpr List.mem_cons_self) (by simp)
  | p :: ps, [], _, _, _, _, h => absurd ((h p).mp List.mem_cons_self) (by simp)
  | p :: ps, q :: qs, n1, n2, w1, w2, h => by
    obtain ⟨a1, b1⟩ := List.pairwise_cons.mp w1
    obtain ⟨a2, b2⟩ := List.pairwise_cons.mp w2
    obtain ⟨c1, d1⟩ := List.nodup_cons.mp n1
    obtain ⟨c2, d2⟩ := List.nodup_cons.mp n2
    have e : p = q := by
      rcases List.mem_cons.mp ((h p).mp List.mem_cons_self) with e | m1
      · exact e
      · rcases List.mem_cons.mp ((h q).mpr List.mem_cons_self) with e | m2
        · exact e.symm
        · have z1 := a2 p m1
          have z2 := a1 q m2
          rcases lexS_tot z1 with z | z
          · rw [z2] at z
            cases z
          · exact z.symm
    subst e
    rw [lex_uniq d1 d2 b1 b2 fun r => ?_]
    constructor
    · intro m
      rcases List.mem_cons.mp ((h r).mp (List.mem_cons_of_mem _ m)) with rfl | z
      · exact absurd m c1
      · exact z
    · intro m
      rcases List.mem_cons.mp ((h r).mpr (List.mem_cons_of_mem _ m)) with rfl | z
      · exact absurd m c2
      · exact z
end Fn

set_option Elab.async false
set_option maxRecDepth 100000
/-! How long the shown data are. -/
namespace Fn
open PySem PySem.Spec PyProof.Rows L2
def smallT (t : Str) : Bool := t.cps.toList.all fun c => decide (c < 16 ^ 8)
theorem smallT.app {a b : Str} (ha : smallT a = true) (hb : smallT b = true) : smallT (a ++ b) = true := by
  have e : (a ++ b).cps.toList = a.cps.toList ++ b.cps.toList := by
    show (a.cps ++ b.cps).toList = _
    rw [Array.toList_append]
  unfold smallT at *
  rw [e, List.all_append, ha, hb]
  rfl
theorem smallT.join {y : Str} (hy : smallT y = true) : ∀ {ts : List Str}, (∀ t ∈ ts, smallT t = true) → smallT (Str.join y ts) = true
  | [], _ => rfl
  | [t], h => h t List.mem_cons_self
  | t :: u :: r, h => by
    show smallT (t ++ y ++ Str.join y (u :: r)) = true
    exact smallT.app (smallT.app (h t List.mem_cons_self) hy) (smallT.join hy fun x hx => h x (List.mem_cons_of_mem _ hx))
mutual
def bnd : PyData → Nat
  | .str x => 10 * x.length + 2
  | .list xs => bndAll xs + 2
  | .tuple xs => bndAll xs + 3
  | .dict _ => 0
  | _ => 22
def bndAll : List PyData → Nat
  | [] => 0
  | x :: xs => bnd x + 2 + bndAll xs
end
mutual
def okSh : PyData → Bool
  | .str x => smallT x
  | .list xs => okShAll xs
  | .tuple xs => okShAll xs
  | .int i => decide (i.natAbs < 10 ^ 20)
  | .dict _ => false
  | _ => true
def okShAll : List PyData → Bool
  | [] => true
  | x :: xs => okSh x && okShAll xs
end
theorem textFrom_le : ∀ (ts : List Str) (k : Nat) (acc : Str), (textFrom k acc ts).length ≤ acc.length + piled ts
  | [], k, acc => Nat.le_add_right _ _
  | t :: r, k, acc => by
    have h := textFrom_le r (k + 1) (acc ++ (if k > 0 then ", " else "" : String) ++ t)
    have e : (acc ++ (if k > 0 then ", " else "" : String) ++ t).length ≤ acc.length + 2 + t.length := by
      rw [strLen_append, strLen_append]
      split
      · show acc.length + 2 + t.length ≤ _
        omega
      · show acc.length + 0 + t.length ≤ _
        omega
    have p : piled (t :: r) = t.length + 2 + piled r := by
      unfold piled
      rw [List.map_cons, List.sum_cons]
    show (textFrom (k + 1) _ r).length ≤ _
    omega
theorem listText_le (ts : List Str) : (listText ts).length ≤ piled ts + 2 := by
  have h := textFrom_le ts 0 "["
  have e1 : (("[" : String) : Str).length = 1 := rfl
  have e2 : (("]" : String) : Str).length = 1 := rfl
  unfold listText
  rw [strLen_append, e2]
  omega
theorem tupleText_le (ts : List Str) : (tupleText ts).length ≤ piled ts + 3 := by
  have h : (Str.join ", " ts).length ≤ piled ts := by
    cases ts with
    | nil => exact Nat.zero_le _
    | cons t r =>
      have := join_length_add (t :: r) (by simp)
      omega
  have e1 : (("(" : String) : Str).length = 1 := rfl
  have e2 : ∀ b : Bool, (((if b = true then ",)" else ")" : String)) : Str).length ≤ 2 := fun b => by cases b <;> decide
  unfold tupleText
  rw [strLen_append, strLen_append, e1]
  have := e2 (ts.length == 1)
  omega
mutual
theorem shown_le : ∀ {d : PyData}, okSh d = true → d.shown.length ≤ bnd d
  | .none, _ => by simp only [PyData.shown]; decide
  | .bool b, _ => by cases b <;> (simp only [PyData.shown]; decide)
  | .int i, h => by
    have h' : i.natAbs < 10 ^ 20 := of_decide_eq_true h
    have := int_text_length_le10 (k := 20) (by decide) h'
    simp only [PyData.shown]
    have e : (Str.ofString (toString i)).length = (toString i).length := by
      rw [PySem.Str.ofString_eq_toList]
      show ((toString i).toList.map Char.toNat).toArray.size = _
      rw [List.size_toArray, List.length_map, String.length_toList]
    rw [e]
    show (toString i).length ≤ 22
    omega
  | .str x, h => by
    simp only [PyData.shown]
    exact StrLaws.reprText_len x fun c hc => of_decide_eq_true (List.all_eq_true.mp h c hc)
  | .list xs, h => by
    simp only [PyData.shown]
    have a := listText_le (PyData.shownAll xs)
    have b := shown_all (ds := xs) h
    show _ ≤ bndAll xs + 2
    omega
  | .tuple xs, h => by
    simp only [PyData.shown]
    have a := tupleText_le (PyData.shownAll xs)
    have b := shown_all (ds := xs) h
    show _ ≤ bndAll xs + 3
    omega
  | .dict _, h => by cases h
theorem shown_all : ∀ {ds : List PyData}, okShAll ds = true → piled (PyData.shownAll ds) ≤ bndAll ds
  | [], _ => Nat.le_refl _
  | d :: ds, h => by
    have h' := Bool.and_eq_true_iff.mp h
    have a := shown_le h'.1
    have b := shown_all h'.2
    simp only [PyData.shownAll]
    unfold piled at *
    rw [List.map_cons, List.sum_cons]
    show _ ≤ bnd d + 2 + bndAll ds
    omega
end
mutual
theorem okSh.nodict : ∀ {d : PyData}, okSh d = true → d.hasDict = false ∧ d.showable = true ∧ dictfree d = true
  | .none, _ => by simp [PyData.hasDict, PyData.showable, dictfree]
  | .bool _, _ => by simp [PyData.hasDict, PyData.showable, dictfree]
  | .str _, _ => by simp [PyData.hasDict, PyData.showable, dictfree]
  | .int i, h => by
    have h' : i.natAbs < 10 ^ 20 := of_decide_eq_true h
    refine ⟨by simp only [PyData.hasDict], ?_, rfl⟩
    simp only [PyData.showable]
    refine decide_eq_true ?_
    rcases Nat.eq_zero_or_pos i.natAbs with z | z
    · rw [z]
      decide
    · exact (Nat.log2_lt (Nat.ne_of_gt z)).mpr (Nat.lt_trans h' (by decide +kernel))
  | .list xs, h => by
    have := okShAll.nodict (ds := xs) h
    refine ⟨by simp only [PyData.hasDict]; exact this.1, by simp only [PyData.showable]; exact this.2.1, this.2.2⟩
  | .tuple xs, h => by
    have := okShAll.nodict (ds := xs) h
    refine ⟨by simp only [PyData.hasDict]; exact this.1, by simp only [PyData.showable]; exact this.2.1, this.2.2⟩
  | .dict _, h => by cases h
theorem okShAll.nodict : ∀ {ds : List PyData}, okShAll ds = true → PyData.hasDictAll ds = false ∧ PyData.showableAll ds = true ∧ dictfreeAll ds = true
  | [], _ => by simp [PyData.hasDictAll, PyData.showableAll, dictfreeAll]
  | d :: ds, h => by
    have h' := Bool.and_eq_true_iff.mp h
    have a := okSh.nodict h'.1
    have b := okShAll.nodict h'.2
    refine ⟨by simp only [PyData.hasDictAll, a.1, b.1, Bool.or_self], by simp only [PyData.showableAll, a.2.1, b.2.1, Bool.and_self], ?_⟩
    show (dictfree d && dictfreeAll ds) = true
    rw [a.2.2, b.2.2]
    rfl
end
end Fn

set_option Elab.async false
set_option maxRecDepth 100000
set_option maxHeartbeats 2000000
/-! A dict against the empty one. -/
namespace Fn
open PySem PySem.Spec PyProof.Rows L2
def rEqDE (neg : Bool) : R2 := fun x y H Q => ∃ (a b : Addr) (ks : List (Key × V)), x = .ref a ∧ y = .ref b ∧ H a = some (.dK ks) ∧ H b = some (.dK []) ∧ Q (.bl (if neg then !ks.isEmpty else ks.isEmpty)) H
theorem op_eqDE {X : Cx} (hu : X.A.units < cLine) : OpR X (compareOp .Eq) (rEqDE false) := by
  intro pins s σ H x y v u Q I rx ry h
  obtain ⟨a, b, ks, rfl, rfl, ea, eb, q⟩ := h
  obtain rfl : v = Value.ref a := rx
  obtain rfl : u = Value.ref b := ry
  obtain ⟨_, ya, va, ra, da⟩ := (show ObjOk X.prog X.w H s.heap a (.dK ks) from I.hok a _ ea)
  obtain ⟨_, yb, vb, rb, db⟩ := (show ObjOk X.prog X.w H s.heap b (.dK []) from I.hok b _ eb)
  have lb : vb.length = 0 := by rw [← rb.length]; rfl
  have la : va.length = ks.length := ra.length.symm
  cases ks with
  | nil =>
    have la' : va.length = 0 := la
    exact PySem.W.keq_eq (knd := mixKind X.prog X.w) (r := true) ya yb da db hu (fun _ => hits_all rb ra fun p hp => (by cases hp)) (fin_bl I q (by rw [la', lb]; rfl))
  | cons k ks =>
    have la' : va.length = ks.length + 1 := la
    exact PySem.W.keq_eq (knd := mixKind X.prog X.w) (r := true) ya yb da db hu (fun e => absurd e (by omega)) (fin_bl I q (by rw [la', lb]; rfl))
end Fn

set_option Elab.async false
set_option maxRecDepth 100000
set_option linter.unusedVariables false
set_option maxHeartbeats 4000000
namespace K05
open PySem PySem.Spec PyProof.Rows L2 Fn
local macro_rules | `(tactic| walk_at "ev") => `(tactic| first | exact Ev2.refl _ | assumption | (refine Ev2.trans (by assumption) ?_; walk_at "ev"))
local macro_rules | `(tactic| walk_at "sm") => `(tactic| first | exact Same.refl _ | assumption | (refine Same.trans (by assumption) ?_; walk_at "sm"))
local macro_rules | `(tactic| walk_at "dx") => `(tactic| first
  | exact DxAll.nil | exact Dx.str _ | exact Dx.int _ | exact Dx.bl _ | exact Dx.non
  | assumption
  | (refine DxAll.cons ?_ ?_ <;> walk_at "dx")
  | (refine Dx.same (by walk_at "sm") (by assumption))
  | (refine Dx.tup (Same.at (by assumption) (by walk_at "sm")) ?_; walk_at "dx")
  | (refine Dx.lst (Same.at (by assumption) (by walk_at "sm")) ?_; walk_at "dx")
  | (refine Dx.dct (Same.at (by assumption) (by walk_at "sm"))))

def top (i : Nat) : Stmt := PySem.Challenge.pw_firstneed_k05_terms_told.main.body.getD i (.Pass ⟨0, 0, 0, 0⟩)
abbrev s_is_integer : Stmt := top 16
abbrev N_is_integer : List Str := ["value"]
abbrev P_is_integer : List Str := ["value"]
theorem sc_is_integer : FnScope N_is_integer P_is_integer (defScope s_is_integer) := ⟨rfl, rfl, rfl, by decide +kernel, rfl, by decide +kernel, by decide +kernel⟩
abbrev s_is_index : Stmt := top 17
abbrev N_is_index : List Str := ["value", "count"]
abbrev P_is_index : List Str := ["value", "count"]
theorem sc_is_index : FnScope N_is_index P_is_index (defScope s_is_index) := ⟨rfl, rfl, rfl, by decide +kernel, rfl, by decide +kernel, by decide +kernel⟩
abbrev s_is_word : Stmt := top 18
abbrev N_is_word : List Str := ["value", "letter"]
abbrev P_is_word : List Str := ["value"]
theorem sc_is_word : FnScope N_is_word P_is_word (defScope s_is_word) := ⟨rfl, rfl, rfl, by decide +kernel, rfl, by decide +kernel, by decide +kernel⟩
abbrev s_is_arity : Stmt := top 19
abbrev N_is_arity : List Str := ["value"]
abbrev P_is_arity : List Str := ["value"]
theorem sc_is_arity : FnScope N_is_arity P_is_arity (defScope s_is_arity) := ⟨rfl, rfl, rfl, by decide +kernel, rfl, by decide +kernel, by decide +kernel⟩
abbrev s_is_leaf : Stmt := top 20
abbrev N_is_leaf : List Str := ["sign"]
abbrev P_is_leaf : List Str := ["sign"]
theorem sc_is_leaf : FnScope N_is_leaf P_is_leaf (defScope s_is_leaf) := ⟨rfl, rfl, rfl, by decide +kernel, rfl, by decide +kernel, by decide +kernel⟩
abbrev s_is_node : Stmt := top 21
abbrev N_is_node : List Str := ["value", "sign", "arity"]
abbrev P_is_node : List Str := ["value"]
theorem sc_is_node : FnScope N_is_node P_is_node (defScope s_is_node) := ⟨rfl, rfl, rfl, by decide +kernel, rfl, by decide +kernel, by decide +kernel⟩
abbrev s_makes_one_tree : Stmt := top 2
abbrev N_makes_one_tree : List Str := ["nodes", "missing", "_", "arity"]
abbrev P_makes_one_tree : List Str := ["nodes"]
theorem sc_makes_one_tree : FnScope N_makes_one_tree P_makes_one_tree (defScope s_makes_one_tree) := ⟨rfl, rfl, rfl, by decide +kernel, rfl, by decide +kernel, by decide +kernel⟩
abbrev s_is_tree : Stmt := top 33
abbrev N_is_tree : List Str := ["value", "node"]
abbrev P_is_tree : List Str := ["value"]
theorem sc_is_tree : FnScope N_is_tree P_is_tree (defScope s_is_tree) := ⟨rfl, rfl, rfl, by decide +kernel, rfl, by decide +kernel, by decide +kernel⟩
abbrev s_part_end : Stmt := top 3
abbrev N_part_end : List Str := ["nodes", "place", "missing", "at"]
abbrev P_part_end : List Str := ["nodes", "place"]
theorem sc_part_end : FnScope N_part_end P_part_end (defScope s_part_end) := ⟨rfl, rfl, rfl, by decide +kernel, rfl, by decide +kernel, by decide +kernel⟩
abbrev s_part_at : Stmt := top 4
abbrev N_part_at : List Str := ["nodes", "place"]
abbrev P_part_at : List Str := ["nodes", "place"]
theorem sc_part_at : FnScope N_part_at P_part_at (defScope s_part_at) := ⟨rfl, rfl, rfl, by decide +kernel, rfl, by decide +kernel, by decide +kernel⟩
abbrev s_arguments_at : Stmt := top 5
abbrev N_arguments_at : List Str := ["nodes", "place", "found", "at", "_"]
abbrev P_arguments_at : List Str := ["nodes", "place"]
theorem sc_arguments_at : FnScope N_arguments_at P_arguments_at (defScope s_arguments_at) := ⟨rfl, rfl, rfl, by decide +kernel, rfl, by decide +kernel, by decide +kernel⟩
abbrev s_places_above : Stmt := top 6
abbrev N_places_above : List Str := ["nodes", "place", "at"]
abbrev P_places_above : List Str := ["nodes", "place"]
theorem sc_places_above : FnScope N_places_above P_places_above (defScope s_places_above) := ⟨rfl, rfl, rfl, by decide +kernel, rfl, by decide +kernel, by decide +kernel⟩
abbrev s_places_of : Stmt := top 7
abbrev N_places_of : List Str := ["nodes", "sign", "at", "node"]
abbrev P_places_of : List Str := ["nodes", "sign"]
theorem sc_places_of : FnScope N_places_of P_places_of (defScope s_places_of) := ⟨rfl, rfl, rfl, by decide +kernel, rfl, by decide +kernel, by decide +kernel⟩
abbrev s_height_of : Stmt := top 8
abbrev N_height_of : List Str := ["nodes", "heights", "_", "arity", "highest"]
abbrev P_height_of : List Str := ["nodes"]
theorem sc_height_of : FnScope N_height_of P_height_of (defScope s_height_of) := ⟨rfl, rfl, rfl, by decide +kernel, rfl, by decide +kernel, by decide +kernel⟩
abbrev s_symbols_in : Stmt := top 34
abbrev N_symbols_in : List Str := ["nodes", "node"]
abbrev P_symbols_in : List Str := ["nodes"]
theorem sc_symbols_in : FnScope N_symbols_in P_symbols_in (defScope s_symbols_in) := ⟨rfl, rfl, rfl, by decide +kernel, rfl, by decide +kernel, by decide +kernel⟩
abbrev s_text_of : Stmt := top 9
abbrev N_text_of : List Str := ["nodes", "texts", "sign", "arity", "inner", "whole"]
abbrev P_text_of : List Str := ["nodes"]
theorem sc_text_of : FnScope N_text_of P_text_of (defScope s_text_of) := ⟨rfl, rfl, rfl, by decide +kernel, rfl, by decide +kernel, by decide +kernel⟩
abbrev s__law_dice : Stmt := top 37
abbrev N__law_dice : List Str := ["_law_script", "_law_spot", "_law_cell", "_law_great", "_law_blend"]
abbrev P__law_dice : List Str := ["_law_script", "_law_spot"]
theorem sc__law_dice : FnScope N__law_dice P__law_dice (defScope s__law_dice) := ⟨rfl, rfl, rfl, by decide +kernel, rfl, by decide +kernel, by decide +kernel⟩
abbrev s__law_roll : Stmt := top 38
abbrev N__law_roll : List Str := ["_law_dice_here", "_law_total", "_law_found", "_law_one", "_law_two"]
abbrev P__law_roll : List Str := ["_law_dice_here", "_law_total"]
theorem sc__law_roll : FnScope N__law_roll P__law_roll (defScope s__law_roll) := ⟨rfl, rfl, rfl, by decide +kernel, rfl, by decide +kernel, by decide +kernel⟩
abbrev s__law_pick : Stmt := top 39
abbrev N__law_pick : List Str := ["_law_dice_here", "_law_items"]
abbrev P__law_pick : List Str := ["_law_dice_here", "_law_items"]
theorem sc__law_pick : FnScope N__law_pick P__law_pick (defScope s__law_pick) := ⟨rfl, rfl, rfl, by decide +kernel, rfl, by decide +kernel, by decide +kernel⟩
abbrev s__law_nodes : Stmt := top 40
abbrev N__law_nodes : List Str := ["_law_term_here", "_law_found", "_law_one"]
abbrev P__law_nodes : List Str := ["_law_term_here"]
theorem sc__law_nodes : FnScope N__law_nodes P__law_nodes (defScope s__law_nodes) := ⟨rfl, rfl, rfl, by decide +kernel, rfl, by decide +kernel, by decide +kernel⟩
abbrev s__law_made_term : Stmt := top 44
abbrev N__law_made_term : List Str := ["_law_term_here"]
abbrev P__law_made_term : List Str := ["_law_term_here"]
theorem sc__law_made_term : FnScope N__law_made_term P__law_made_term (defScope s__law_made_term) := ⟨rfl, rfl, rfl, by decide +kernel, rfl, by decide +kernel, by decide +kernel⟩
abbrev s__law_term : Stmt := top 45
abbrev N__law_term : List Str := ["_law_dice_here", "_law_symbols", "_law_leaves_here", "_law_deep_here", "_law_bare", "_law_word", "_law_one", "_law_at"]
abbrev P__law_term : List Str := ["_law_dice_here", "_law_symbols", "_law_leaves_here", "_law_deep_here"]
theorem sc__law_term : FnScope N__law_term P__law_term (defScope s__law_term) := ⟨rfl, rfl, rfl, by decide +kernel, rfl, by decide +kernel, by decide +kernel⟩
abbrev s__law_small_term : Stmt := top 46
abbrev N__law_small_term : List Str := ["_law_dice_here", "_law_symbols", "_law_leaves_here", "_law_deep_here", "_law_most", "_law_found"]
abbrev P__law_small_term : List Str := ["_law_dice_here", "_law_symbols", "_law_leaves_here", "_law_deep_here", "_law_most"]
theorem sc__law_small_term : FnScope N__law_small_term P__law_small_term (defScope s__law_small_term) := ⟨rfl, rfl, rfl, by decide +kernel, rfl, by decide +kernel, by decide +kernel⟩
abbrev s__law_drawn_term : Stmt := top 47
abbrev N__law_drawn_term : List Str := ["_law_dice_here", "_law_deep_here", "_law_symbols"]
abbrev P__law_drawn_term : List Str := ["_law_dice_here", "_law_deep_here"]
theorem sc__law_drawn_term : FnScope N__law_drawn_term P__law_drawn_term (defScope s__law_drawn_term) := ⟨rfl, rfl, rfl, by decide +kernel, rfl, by decide +kernel, by decide +kernel⟩
abbrev s__law_text : Stmt := top 41
abbrev N__law_text : List Str := ["_law_term_here", "_law_one"]
abbrev P__law_text : List Str := ["_law_term_here"]
theorem sc__law_text : FnScope N__law_text P__law_text (defScope s__law_text) := ⟨rfl, rfl, rfl, by decide +kernel, rfl, by decide +kernel, by decide +kernel⟩
abbrev s__law_parts : Stmt := top 42
abbrev N__law_parts : List Str := ["_law_term_here", "_law_found", "_law_one"]
abbrev P__law_parts : List Str := ["_law_term_here"]
theorem sc__law_parts : FnScope N__law_parts P__law_parts (defScope s__law_parts) := ⟨rfl, rfl, rfl, by decide +kernel, rfl, by decide +kernel, by decide +kernel⟩
abbrev s__law_leaves : Stmt := top 43
abbrev N__law_leaves : List Str := ["_law_term_here", "_law_word", "_law_rows", "_law_at"]
abbrev P__law_leaves : List Str := ["_law_term_here", "_law_word"]
theorem sc__law_leaves : FnScope N__law_leaves P__law_leaves (defScope s__law_leaves) := ⟨rfl, rfl, rfl, by decide +kernel, rfl, by decide +kernel, by decide +kernel⟩
abbrev s__law_deep : Stmt := top 48
abbrev N__law_deep : List Str := ["_law_term_here", "_law_one"]
abbrev P__law_deep : List Str := ["_law_term_here"]
theorem sc__law_deep : FnScope N__law_deep P__law_deep (defScope s__law_deep) := ⟨rfl, rfl, rfl, by decide +kernel, rfl, by decide +kernel, by decide +kernel⟩
abbrev s__law_below : Stmt := top 49
abbrev N__law_below : List Str := ["_law_term_here", "_law_place", "_law_rows", "_law_found", "_law_at", "_law_one"]
abbrev P__law_below : List Str := ["_law_term_here", "_law_place"]
theorem sc__law_below : FnScope N__law_below P__law_below (defScope s__law_below) := ⟨rfl, rfl, rfl, by decide +kernel, rfl, by decide +kernel, by decide +kernel⟩
abbrev s__law_told_right : Stmt := top 50
abbrev N__law_told_right : List Str := ["_law_made", "_law_term_here", "_law_rows", "_law_nodes_here", "_law_words", "_law_word", "_law_many", "_law_told", "_law_due", "_law_unknown", "_law_lost", "_law_at", "_law_above", "_law_up", "_law_odd", "_law_one"]
abbrev P__law_told_right : List Str := ["_law_made", "_law_term_here"]
theorem sc__law_told_right : FnScope N__law_told_right P__law_told_right (defScope s__law_told_right) := ⟨rfl, rfl, rfl, by decide +kernel, rfl, by decide +kernel, by decide +kernel⟩
abbrev s__law_right : Stmt := top 51
abbrev N__law_right : List Str := ["_law_dice_here", "_law_term_here", "_law_other", "_law_made"]
abbrev P__law_right : List Str := ["_law_dice_here"]
theorem sc__law_right : FnScope N__law_right P__law_right (defScope s__law_right) := ⟨rfl, rfl, rfl, by decide +kernel, rfl, by decide +kernel, by decide +kernel⟩
abbrev s_law : Stmt := top 52
abbrev N_law : List Str := ["_law_script", "_law_spot", "_law_dice_here", "_law_turn", "_law_one", "_law_told"]
abbrev P_law : List Str := ["_law_script"]
theorem sc_law : FnScope N_law P_law (defScope s_law) := ⟨rfl, rfl, rfl, by decide +kernel, rfl, by decide +kernel, by decide +kernel⟩
abbrev s_T_init : Stmt := (clS (top 35)).getD 0 (.Pass ⟨0, 0, 0, 0⟩)
abbrev N_T_init : List Str := ["self", "nodes", "found"]
abbrev P_T_init : List Str := ["self", "nodes"]
theorem sc_T_init : FnScope N_T_init P_T_init (defScope s_T_init) := ⟨rfl, rfl, rfl, by decide +kernel, rfl, by decide +kernel, by decide +kernel⟩
abbrev s_T_len : Stmt := (clS (top 35)).getD 24 (.Pass ⟨0, 0, 0, 0⟩)
abbrev N_T_len : List Str := ["self"]
abbrev P_T_len : List Str := ["self"]
theorem sc_T_len : FnScope N_T_len P_T_len (defScope s_T_len) := ⟨rfl, rfl, rfl, by decide +kernel, rfl, by decide +kernel, by decide +kernel⟩
abbrev s_T_nodes : Stmt := (clS (top 35)).getD 3 (.Pass ⟨0, 0, 0, 0⟩)
abbrev N_T_nodes : List Str := ["self"]
abbrev P_T_nodes : List Str := ["self"]
theorem sc_T_nodes : FnScope N_T_nodes P_T_nodes (defScope s_T_nodes) := ⟨rfl, rfl, rfl, by decide +kernel, rfl, by decide +kernel, by decide +kernel⟩
abbrev s_T_build : Stmt := (clS (top 35)).getD 1 (.Pass ⟨0, 0, 0, 0⟩)
abbrev N_T_build : List Str := ["cls", "word", "terms", "term", "inner", "node"]
abbrev P_T_build : List Str := ["cls", "word", "terms"]
theorem sc_T_build : FnScope N_T_build P_T_build (defScope s_T_build) := ⟨rfl, rfl, rfl, by decide +kernel, rfl, by decide +kernel, by decide +kernel⟩
abbrev s_T_text : Stmt := (clS (top 35)).getD 4 (.Pass ⟨0, 0, 0, 0⟩)
abbrev N_T_text : List Str := ["self"]
abbrev P_T_text : List Str := ["self"]
theorem sc_T_text : FnScope N_T_text P_T_text (defScope s_T_text) := ⟨rfl, rfl, rfl, by decide +kernel, rfl, by decide +kernel, by decide +kernel⟩
abbrev s_T_symbols : Stmt := (clS (top 35)).getD 5 (.Pass ⟨0, 0, 0, 0⟩)
abbrev N_T_symbols : List Str := ["self"]
abbrev P_T_symbols : List Str := ["self"]
theorem sc_T_symbols : FnScope N_T_symbols P_T_symbols (defScope s_T_symbols) := ⟨rfl, rfl, rfl, by decide +kernel, rfl, by decide +kernel, by decide +kernel⟩
abbrev s_T_unknown : Stmt := (clS (top 35)).getD 6 (.Pass ⟨0, 0, 0, 0⟩)
abbrev N_T_unknown : List Str := ["self"]
abbrev P_T_unknown : List Str := ["self"]
theorem sc_T_unknown : FnScope N_T_unknown P_T_unknown (defScope s_T_unknown) := ⟨rfl, rfl, rfl, by decide +kernel, rfl, by decide +kernel, by decide +kernel⟩
abbrev s_T_lost : Stmt := (clS (top 35)).getD 7 (.Pass ⟨0, 0, 0, 0⟩)
abbrev N_T_lost : List Str := ["self"]
abbrev P_T_lost : List Str := ["self"]
theorem sc_T_lost : FnScope N_T_lost P_T_lost (defScope s_T_lost) := ⟨rfl, rfl, rfl, by decide +kernel, rfl, by decide +kernel, by decide +kernel⟩
abbrev s_T_is_ground : Stmt := (clS (top 35)).getD 8 (.Pass ⟨0, 0, 0, 0⟩)
abbrev N_T_is_ground : List Str := ["self", "sign", "_"]
abbrev P_T_is_ground : List Str := ["self"]
theorem sc_T_is_ground : FnScope N_T_is_ground P_T_is_ground (defScope s_T_is_ground) := ⟨rfl, rfl, rfl, by decide +kernel, rfl, by decide +kernel, by decide +kernel⟩
abbrev s_T_depth : Stmt := (clS (top 35)).getD 9 (.Pass ⟨0, 0, 0, 0⟩)
abbrev N_T_depth : List Str := ["self"]
abbrev P_T_depth : List Str := ["self"]
theorem sc_T_depth : FnScope N_T_depth P_T_depth (defScope s_T_depth) := ⟨rfl, rfl, rfl, by decide +kernel, rfl, by decide +kernel, by decide +kernel⟩
abbrev s_T_children : Stmt := (clS (top 35)).getD 10 (.Pass ⟨0, 0, 0, 0⟩)
abbrev N_T_children : List Str := ["self", "place"]
abbrev P_T_children : List Str := ["self", "place"]
theorem sc_T_children : FnScope N_T_children P_T_children (defScope s_T_children) := ⟨rfl, rfl, rfl, by decide +kernel, rfl, by decide +kernel, by decide +kernel⟩
abbrev s_T_part : Stmt := (clS (top 35)).getD 11 (.Pass ⟨0, 0, 0, 0⟩)
abbrev N_T_part : List Str := ["self", "place"]
abbrev P_T_part : List Str := ["self", "place"]
theorem sc_T_part : FnScope N_T_part P_T_part (defScope s_T_part) := ⟨rfl, rfl, rfl, by decide +kernel, rfl, by decide +kernel, by decide +kernel⟩
abbrev s_T_above : Stmt := (clS (top 35)).getD 12 (.Pass ⟨0, 0, 0, 0⟩)
abbrev N_T_above : List Str := ["self", "place"]
abbrev P_T_above : List Str := ["self", "place"]
theorem sc_T_above : FnScope N_T_above P_T_above (defScope s_T_above) := ⟨rfl, rfl, rfl, by decide +kernel, rfl, by decide +kernel, by decide +kernel⟩
abbrev s_T_check : Stmt := (clS (top 35)).getD 18 (.Pass ⟨0, 0, 0, 0⟩)
abbrev N_T_check : List Str := ["self", "place"]
abbrev P_T_check : List Str := ["self", "place"]
theorem sc_T_check : FnScope N_T_check P_T_check (defScope s_T_check) := ⟨rfl, rfl, rfl, by decide +kernel, rfl, by decide +kernel, by decide +kernel⟩
abbrev s_T_item : Stmt := (clS (top 35)).getD 23 (.Pass ⟨0, 0, 0, 0⟩)
abbrev N_T_item : List Str := ["self", "at"]
abbrev P_T_item : List Str := ["self", "at"]
theorem sc_T_item : FnScope N_T_item P_T_item (defScope s_T_item) := ⟨rfl, rfl, rfl, by decide +kernel, rfl, by decide +kernel, by decide +kernel⟩
abbrev s_T_in : Stmt := (clS (top 35)).getD 26 (.Pass ⟨0, 0, 0, 0⟩)
abbrev N_T_in : List Str := ["self", "x"]
abbrev P_T_in : List Str := ["self", "x"]
theorem sc_T_in : FnScope N_T_in P_T_in (defScope s_T_in) := ⟨rfl, rfl, rfl, by decide +kernel, rfl, by decide +kernel, by decide +kernel⟩
abbrev s_T_eq : Stmt := (clS (top 35)).getD 27 (.Pass ⟨0, 0, 0, 0⟩)
abbrev N_T_eq : List Str := ["self", "other"]
abbrev P_T_eq : List Str := ["self", "other"]
theorem sc_T_eq : FnScope N_T_eq P_T_eq (defScope s_T_eq) := ⟨rfl, rfl, rfl, by decide +kernel, rfl, by decide +kernel, by decide +kernel⟩
abbrev s_T_str : Stmt := (clS (top 35)).getD 28 (.Pass ⟨0, 0, 0, 0⟩)
abbrev N_T_str : List Str := ["self"]
abbrev P_T_str : List Str := ["self"]
theorem sc_T_str : FnScope N_T_str P_T_str (defScope s_T_str) := ⟨rfl, rfl, rfl, by decide +kernel, rfl, by decide +kernel, by decide +kernel⟩
structure Tb where
  (p_text f_text p_symbols f_symbols p_unknown f_unknown p_lost f_lost p_is_ground f_is_ground p_depth f_depth f_children f_part f_above f_check f_item f_in f_eq f_str : Addr)
structure TermY (K : PySem.W.Frag) (c : Ta) (b : Tb) : Prop where
  prop_text : PropOf K c.T "text" b.p_text b.f_text
  prop_symbols : PropOf K c.T "symbols" b.p_symbols b.f_symbols
  prop_unknown : PropOf K c.T "unknown" b.p_unknown b.f_unknown
  prop_lost : PropOf K c.T "lost" b.p_lost b.f_lost
  prop_is_ground : PropOf K c.T "is_ground" b.p_is_ground b.f_is_ground
  prop_depth : PropOf K c.T "depth" b.p_depth b.f_depth
  m_children : Meth K c.T "children" b.f_children
  m_part : Meth K c.T "part" b.f_part
  m_above : Meth K c.T "above" b.f_above
  m_check : Meth K c.T "_check_place" b.f_check
  s_item : PySem.W.findIn K (.ref c.T) "__getitem__" = some (some (.ref b.f_item))
  i_item : PySem.W.isFn K (.ref b.f_item) = true
  n_item : PySem.W.fnIn K b.f_item = true
  s_in : PySem.W.findIn K (.ref c.T) "__contains__" = some (some (.ref b.f_in))
  i_in : PySem.W.isFn K (.ref b.f_in) = true
  s_eq : PySem.W.findIn K (.ref c.T) "__eq__" = some (some (.ref b.f_eq))
  i_eq : PySem.W.isFn K (.ref b.f_eq) = true
  s_str : PySem.W.findIn K (.ref c.T) "__str__" = some (some (.ref b.f_str))
  i_str : PySem.W.isFn K (.ref b.f_str) = true
  ne : PySem.W.findIn K (.ref c.T) "__ne__" = some (some (.builtin "object.__ne__"))
  sub : PySem.W.subIn K (.ref c.T) (.type "object") = some true
  kt : PySem.W.kitOne K (.ref c.T) (.type "tuple") = some false
  nf : ∀ n ∈ ["NoneType", "bool", "int", "str", "list", "tuple", "dict"], PySem.W.notFirst K c.T (.type n) = true
def yL (K : PySem.W.Frag) (c : Ta) (b : Tb) : List Bool := [decide (PySem.W.specialIn K (.ref b.p_text) "__get__" = some (some (.builtin "property.__get__"))),
    decide (PySem.W.takesIn K (.ref b.p_text) = some true),
    decide (PySem.W.specialIn K (.ref b.p_symbols) "__get__" = some (some (.builtin "property.__get__"))),
    decide (PySem.W.takesIn K (.ref b.p_symbols) = some true),
    decide (PySem.W.specialIn K (.ref b.p_unknown) "__get__" = some (some (.builtin "property.__get__"))),
    decide (PySem.W.takesIn K (.ref b.p_unknown) = some true),
    decide (PySem.W.specialIn K (.ref b.p_lost) "__get__" = some (some (.builtin "property.__get__"))),
    decide (PySem.W.takesIn K (.ref b.p_lost) = some true),
    decide (PySem.W.specialIn K (.ref b.p_is_ground) "__get__" = some (some (.builtin "property.__get__"))),
    decide (PySem.W.takesIn K (.ref b.p_is_ground) = some true),
    decide (PySem.W.specialIn K (.ref b.p_depth) "__get__" = some (some (.builtin "property.__get__"))),
    decide (PySem.W.takesIn K (.ref b.p_depth) = some true),
    decide (PySem.W.isFn K (.ref b.f_children) = true),
    decide (PySem.W.keepIn K (.ref b.f_children) = true),
    decide (PySem.W.isFn K (.ref b.f_part) = true),
    decide (PySem.W.keepIn K (.ref b.f_part) = true),
    decide (PySem.W.isFn K (.ref b.f_above) = true),
    decide (PySem.W.keepIn K (.ref b.f_above) = true),
    decide (PySem.W.isFn K (.ref b.f_check) = true),
    decide (PySem.W.keepIn K (.ref b.f_check) = true),
    decide (PySem.W.isFn K (.ref b.f_item) = true),
    decide (PySem.W.fnIn K b.f_item = true),
    decide (PySem.W.isFn K (.ref b.f_in) = true),
    decide (PySem.W.isFn K (.ref b.f_eq) = true),
    decide (PySem.W.isFn K (.ref b.f_str) = true),
    decide (PySem.W.findIn K (.ref c.T) "__ne__" = some (some (.builtin "object.__ne__"))),
    decide (PySem.W.subIn K (.ref c.T) (.type "object") = some true),
    decide (PySem.W.kitOne K (.ref c.T) (.type "tuple") = some false)]
def yB (K : PySem.W.Frag) (c : Ta) (b : Tb) : Bool := (["NoneType", "bool", "int", "str", "list", "tuple", "dict"].all fun n => PySem.W.notFirst K c.T (.type n)) && (yL K c b).all id
theorem yAt {K : PySem.W.Frag} {c : Ta} {b : Tb} (h : (yL K c b).all id = true) (i : Nat) {p : Prop} [d : Decidable p] (e : (yL K c b)[i]? = some (decide p)) : p := of_decide_eq_true (List.all_eq_true.mp h _ (List.mem_of_getElem? e))
theorem termY {K : PySem.W.Frag} {c : Ta} {b : Tb} {rs_text rs_symbols rs_unknown rs_lost rs_is_ground rs_depth : List Value} (a_text : PySem.W.findIn K (.ref c.T) "text" = some (some (.ref b.p_text))) (r_text : PySem.W.recIn K b.p_text "property" = some (.ref b.f_text :: rs_text)) (a_symbols : PySem.W.findIn K (.ref c.T) "symbols" = some (some (.ref b.p_symbols))) (r_symbols : PySem.W.recIn K b.p_symbols "property" = some (.ref b.f_symbols :: rs_symbols)) (a_unknown : PySem.W.findIn K (.ref c.T) "unknown" = some (some (.ref b.p_unknown))) (r_unknown : PySem.W.recIn K b.p_unknown "property" = some (.ref b.f_unknown :: rs_unknown)) (a_lost : PySem.W.findIn K (.ref c.T) "lost" = some (some (.ref b.p_lost))) (r_lost : PySem.W.recIn K b.p_lost "property" = some (.ref b.f_lost :: rs_lost)) (a_is_ground : PySem.W.findIn K (.ref c.T) "is_ground" = some (some (.ref b.p_is_ground))) (r_is_ground : PySem.W.recIn K b.p_is_ground "property" = some (.ref b.f_is_ground :: rs_is_ground)) (a_depth : PySem.W.findIn K (.ref c.T) "depth" = some (some (.ref b.p_depth))) (r_depth : PySem.W.recIn K b.p_depth "property" = some (.ref b.f_depth :: rs_depth)) (a_children : PySem.W.findIn K (.ref c.T) "children" = some (some (.ref b.f_children))) (a_part : PySem.W.findIn K (.ref c.T) "part" = some (some (.ref b.f_part))) (a_above : PySem.W.findIn K (.ref c.T) "above" = some (some (.ref b.f_above))) (a_check : PySem.W.findIn K (.ref c.T) "_check_place" = some (some (.ref b.f_check))) (a_item : PySem.W.findIn K (.ref c.T) "__getitem__" = some (some (.ref b.f_item))) (a_in : PySem.W.findIn K (.ref c.T) "__contains__" = some (some (.ref b.f_in))) (a_eq : PySem.W.findIn K (.ref c.T) "__eq__" = some (some (.ref b.f_eq))) (a_str : PySem.W.findIn K (.ref c.T) "__str__" = some (some (.ref b.f_str))) (h : yB K c b = true) : TermY K c b := by
  have h := Bool.and_eq_true_iff.mp h
  have A := fun (i : Nat) {p : Prop} [d : Decidable p] (e : (yL K c b)[i]? = some (decide p)) => yAt h.2 i e
  exact { prop_text := ⟨a_text, A 0 rfl, A 1 rfl, _, r_text⟩, prop_symbols := ⟨a_symbols, A 2 rfl, A 3 rfl, _, r_symbols⟩, prop_unknown := ⟨a_unknown, A 4 rfl, A 5 rfl, _, r_unknown⟩, prop_lost := ⟨a_lost, A 6 rfl, A 7 rfl, _, r_lost⟩, prop_is_ground := ⟨a_is_ground, A 8 rfl, A 9 rfl, _, r_is_ground⟩, prop_depth := ⟨a_depth, A 10 rfl, A 11 rfl, _, r_depth⟩, m_children := ⟨a_children, A 12 rfl, A 13 rfl⟩, m_part := ⟨a_part, A 14 rfl, A 15 rfl⟩, m_above := ⟨a_above, A 16 rfl, A 17 rfl⟩, m_check := ⟨a_check, A 18 rfl, A 19 rfl⟩, s_item := a_item, i_item := A 20 rfl, n_item := A 21 rfl, s_in := a_in, i_in := A 22 rfl, s_eq := a_eq, i_eq := A 23 rfl, s_str := a_str, i_str := A 24 rfl, ne := A 25 rfl, sub := A 26 rfl, kt := A 27 rfl, nf := fun n hn => List.all_eq_true.mp h.1 n hn }
structure Txt (mg : Str → Option Value) : Prop where
  n_len : mg "len" = none
  n_int : mg "int" = none
  n_abs : mg "abs" = none
  n_isinstance : mg "isinstance" = none
  n_bool : mg "bool" = none
  n_all : mg "all" = none
  n_any : mg "any" = none
  n_str : mg "str" = none
  n_tuple : mg "tuple" = none
  n_dict : mg "dict" = none
  n_sorted : mg "sorted" = none
  n_list : mg "list" = none
  n_range : mg "range" = none
  n_max : mg "max" = none
  n_min : mg "min" = none
  n_reversed : mg "reversed" = none
  n_enumerate : mg "enumerate" = none
  n_repr : mg "repr" = none
  m_MAX_LETTERS : ∃ t, mg "MAX_LETTERS" = some (.int 8 t)
  m_MAX_ARITY : ∃ t, mg "MAX_ARITY" = some (.int 3 t)
  m_ANY : ∃ t, mg "ANY" = some (.str "_" t)
  m_LOST : ∃ t, mg "LOST" = some (.str "#" t)
  m_MAX_NODES : ∃ t, mg "MAX_NODES" = some (.int 40 t)
section
variable {P : Program} {w : World} {K : PySem.W.Frag} {mg : Str → Option Value} {base : Heap} {c : Ta} {b : Tb}
def spA (f : PyData → Bool) : Sp := fun vs H Q _ => ∃ v d, vs = [v] ∧ Dx H v d ∧ Q (.bl (f d)) H
abbrev spInt := spA isIntD
theorem ok_is_integer {f : Addr} {fd : FuncData} (F : Fun K "is_integer" "is_integer" s_is_integer f fd) (T : Txt mg) (Z : TermZ K mg c) (Y : TermY K c b) : FnOk P w K mg base CX0 1 f fd P_is_integer spInt := by
  refine F.ok sc_is_integer (fun vs H Q E h => ?_) (fun cdv A outer s H vs Q E hr h => ?_)
  · obtain ⟨v, d, rfl, _⟩ := h
    rfl
  · obtain ⟨v, d, rfl, hv, q⟩ := h
    refine ⟨_, (pss_one (ps_ret (pe_and (pe_callB call_isi (by rfl) T.n_isinstance (by decide +kernel) (pa_cons (pv 0) (pa_cons (pe_bltn (v := .ty "int") rfl T.n_int (by decide +kernel) rfl) pa_nil))) (pe_and (pe_not (pe_callB call_isi (by rfl) T.n_isinstance (by decide +kernel) (pa_cons (pv 0) (pa_cons (pe_bltn (v := .ty "bool") rfl T.n_bool (by decide +kernel) rfl) pa_nil)))) (pe_one (pe_cmpR op_lt (pe_callB call_abs (by rfl) T.n_abs (by decide +kernel) (pa_cons (pv 0) pa_nil)) (pe_op op_powW pe_int pe_int) (nomark _))))))), ?_⟩
    refine ⟨_, rfl, _, _, _, _, _, rfl, .ty _, hv.ty, kit_int d, _, rfl, ?_⟩
    cases hv with
    | int i =>
      refine iteT ?_
      refine ⟨_, rfl, _, _, _, _, false, rfl, .ty _, .base (.int i), (kit_ty (by decide +kernel)), _, rfl, _, rfl, ?_⟩
      refine iteT ?_
      refine ⟨_, rfl, _, rfl, _, _, rfl, rfl, (powOk (by decide +kernel)), _, _, rfl, rfl, ?_⟩
      exact q
    | bl b =>
      refine iteT ?_
      refine ⟨_, rfl, _, _, _, _, true, rfl, .ty _, .base (.bl b), (kit_ty (by decide +kernel)), _, rfl, _, rfl, ?_⟩
      refine iteF ?_
      exact q
    | _ => exact iteF q
def spWord : Sp := fun vs H Q _ => ∃ v d, vs = [v] ∧ Dx H v d ∧ (∀ x, d = .str x → x.length ≤ 100000) ∧ ∀ H', Same H H' → Q (.bl (isWordD d)) H'
theorem ok_is_word {f : Addr} {fd : FuncData} (F : Fun K "is_word" "is_word" s_is_word f fd) (T : Txt mg) (Z : TermZ K mg c) (Y : TermY K c b) : FnOk P w K mg base CX0 1 f fd P_is_word spWord := by
  refine F.ok sc_is_word (fun vs H Q E h => ?_) (fun cdv A outer s H vs Q E hr h => ?_)
  · obtain ⟨v, d, rfl, _⟩ := h
    rfl
  · obtain ⟨v, d, rfl, hv, hz, q⟩ := h
    refine ⟨_, (pss_cons (ps_if (PW.pt (pw_or (pt_not (pt_val (pe_callB call_isi (by rfl) T.n_isinstance (by decide +kernel) (pa_cons (pv 0) (pa_cons (pe_bltn (v := .ty "str") rfl T.n_str (by decide +kernel) rfl) pa_nil))))) (pw_or1 (pt_not (pt_chain op_le op_le pe_int (pe_callB call_len_str (by rfl) T.n_len (by decide +kernel) (pa_cons (pv 0) pa_nil)) (pe_glob (v := .int 8) rfl T.m_MAX_LETTERS.choose_spec ⟨_, rfl⟩)))))) (pss_one (ps_ret pe_bl)) pss_nil)
      (pss_one (ps_ret (pe_callB (cr_all rfl) (by rfl) T.n_all (by decide +kernel) (pa_cons (pe_lc (own := [("letter", 1)]) (g := gName 1) (tt := tYes) rfl sc_is_word.nd (pi_str (pv 0)) (blkOk_by (own := [("letter", 1)]) (N := ["value", "letter"]) (sc := (defScope s_is_word)) (by decide +kernel)) (fun _ _ _ _ _ => (pg_name (i := 1) sc_is_word.nd rfl (Or.inl rfl))) (fun _ _ _ _ _ => pts_nil) (fun _ _ _ _ _ => (pe_chain op_le_str op_le_str pe_str (pv 1) pe_str))) pa_nil))))), ?_⟩
    refine ⟨_, rfl, _, _, _, _, _, rfl, .ty _, hv.ty, kit_str d, _, rfl, ?_⟩
    cases hv with
    | str x =>
      have hx := hz x rfl
      refine iteF ?_
      refine ⟨_, rfl, _, rfl, Nat.le_trans hx (by decide), _, _, rfl, rfl, _, rfl, ?_⟩
      refine ite2 (fun h1 => ?_) (fun h1 => ?_)
      · refine ⟨_, _, rfl, rfl, _, rfl, ?_⟩
        have h1' := of_decide_eq_true h1
        by_cases h2 : (x.length : Int) ≤ 8
        · rw [decide_eq_true h2]
          refine iteF ?_
          have hl : isWordD (.str x) = ((x.cps.toList.map lowZ).all id) := by
            show ((decide (1 ≤ x.length) && decide (x.length ≤ 8)) && x.cps.toList.all lowZ) = _
            rw [decide_eq_true (show 1 ≤ x.length by omega), decide_eq_true (show x.length ≤ 8 by omega), List.all_map]
            rfl
          refine ⟨_, rfl, _, rfl, fun D hD => lc_it (walk_str (z := x)) (fun i H' => Same H H' ∧ H' D = some (.lst ((x.cps.toList.take i).map fun c => V.bl (lowZ c))))
            ⟨fun b o e => by rw [upd_ne (ne_of_none e hD)]; exact e, upd_same⟩ (fun _ _ _ _ => trivial) ?_ ?_⟩
          · rintro i v H1 H2 hi ⟨sm, hl1⟩ ⟨rfl, c, hc, rfl⟩
            refine ⟨rfl, ?_⟩
            have hlen : ((x.cps.toList.take i).map fun c => V.bl (lowZ c)).length < sizeLine := szlt (by
              have ecs : x.cps.size = x.length := rfl
              rw [List.length_map, List.length_take, Array.length_toList]
              omega)
            have hc2 : x.cps.toList[i]? = some c := by rw [Array.getElem?_toList]; exact hc
            have fin : Same H (upd H2 D (.lst (((x.cps.toList.take i).map fun c => V.bl (lowZ c)) ++ [V.bl (lowZ c)]))) ∧ (upd H2 D (.lst (((x.cps.toList.take i).map fun c => V.bl (lowZ c)) ++ [V.bl (lowZ c)]))) D = some (.lst ((x.cps.toList.take (i + 1)).map fun c => V.bl (lowZ c))) := by
              refine ⟨fun b o e => by rw [upd_ne (ne_of_none e hD)]; exact sm b o e, ?_⟩
              rw [upd_same, List.take_add_one, List.map_append, hc2]
              rfl
            have e : lowZ c = ((!decide ([c] < [97])) && (!decide ([122] < [c]))) := rfl
            refine ⟨_, rfl, _, _, rfl, rfl, _, rfl, ?_⟩
            refine ite2 (fun g1 => ?_) (fun g1 => ?_)
            · refine ⟨_, _, rfl, rfl, ?_⟩
              have g2 : lowZ c = !decide ([122] < [c]) := by
                rw [e, show (!decide ([c] < [97])) = true from g1, Bool.true_and]
              rw [g2] at fin
              exact ⟨_, hl1, hlen, fin⟩
            · have g2 : lowZ c = false := by
                rw [e, show (!decide ([c] < [97])) = false from Bool.eq_false_iff.mpr g1, Bool.false_and]
              rw [g2] at fin
              exact ⟨_, hl1, hlen, fin⟩
          · rintro H1 ⟨sm, hl1⟩
            rw [List.take_of_length_le (by rw [Array.length_toList] <;> exact Nat.le_refl _)] at hl1
            refine ⟨_, x.cps.toList.map lowZ, rfl, SqL.of (by rw [hl1, List.map_map]; rfl), ?_⟩
            rw [← hl]
            exact q H1 sm
        · rw [decide_eq_false h2]
          refine iteT ?_
          have hl : isWordD (.str x) = false := by
            show ((decide (1 ≤ x.length) && decide (x.length ≤ 8)) && x.cps.toList.all lowZ) = false
            rw [decide_eq_false (show ¬ x.length ≤ 8 by omega), Bool.and_false, Bool.false_and]
          rw [hl] at q
          exact q H (Same.refl H)
      · have h1' := of_decide_eq_false (Bool.eq_false_iff.mpr h1)
        refine ⟨_, rfl, ?_⟩
        refine iteT ?_
        have hl : isWordD (.str x) = false := by
          show ((decide (1 ≤ x.length) && decide (x.length ≤ 8)) && x.cps.toList.all lowZ) = false
          rw [decide_eq_false (show ¬ 1 ≤ x.length by omega), Bool.false_and, Bool.false_and]
        rw [hl] at q
        exact q H (Same.refl H)
    | _ => exact iteT (q H (Same.refl H))
def spD (f : PyData → Bool) : Sp := fun vs H Q _ => ∃ v d, vs = [v] ∧ Dx H v d ∧ (listfree d = true ∧ dictfree d = true ∧ SeqAt.shaped d = true) ∧ ∀ H', Same H H' → Q (.bl (f d)) H'
theorem ok_is_arity {f : Addr} {fd : FuncData} (F : Fun K "is_arity" "is_arity" s_is_arity f fd) (T : Txt mg) (Z : TermZ K mg c) (Y : TermY K c b) {f_is_integer : Addr} {fd_is_integer : FuncData} (G_is_integer : FnOk P w K mg base CX0 1 f_is_integer fd_is_integer P_is_integer spInt) (C_is_integer : Cal K mg "is_integer" f_is_integer fd_is_integer P_is_integer) : FnOk P w K mg base CX0 2 f fd P_is_arity (spA isArityD) := by
  refine F.ok sc_is_arity (fun vs H Q E h => ?_) (fun cdv A outer s H vs Q E hr h => ?_)
  · obtain ⟨v, d, rfl, _⟩ := h
    rfl
  · obtain ⟨v, d, rfl, hv, q⟩ := h
    refine ⟨_, (pss_one (ps_ret (pe_and (pe_call G_is_integer (hr.mono (by decide)) rfl C_is_integer.m C_is_integer.k C_is_integer.b .nil pass0 (pa_cons (pv 0) pa_nil)) (pe_one (pe_chain op_le op_le pe_int (pv 0) (pe_glob (v := .int 3) rfl T.m_MAX_ARITY.choose_spec ⟨_, rfl⟩)))))), ?_⟩
    refine ⟨_, rfl, _, _, rfl, hv, _, rfl, ?_⟩
    refine ite2 (fun g => ?_) (fun g => ?_)
    · cases hv with
      | int i =>
        refine ⟨_, rfl, _, _, rfl, rfl, _, rfl, ?_⟩
        refine ite2 (fun h1 => ?_) (fun h1 => ?_)
        · refine ⟨_, _, rfl, rfl, ?_⟩
          have e : isArityD (.int i) = decide (i ≤ 3) := by
            show (isIntD (.int i) && (decide (0 ≤ i) && decide (i ≤ 3))) = _
            rw [g, show decide (0 ≤ i) = true from h1, Bool.true_and, Bool.true_and]
          rw [e] at q
          exact q
        · have e : isArityD (.int i) = false := by
            show (isIntD (.int i) && (decide (0 ≤ i) && decide (i ≤ 3))) = _
            rw [show decide (0 ≤ i) = false from Bool.eq_false_iff.mpr h1, Bool.false_and, Bool.and_false]
          rw [e] at q
          exact q
      | _ => cases g
    · have e : isArityD d = false := by
        cases d with
        | int i =>
          show (isIntD (.int i) && (decide (0 ≤ i) && decide (i ≤ 3))) = _
          rw [Bool.eq_false_iff.mpr g, Bool.false_and]
        | _ => rfl
      rw [e] at q
      exact q
theorem ok_is_leaf {f : Addr} {fd : FuncData} (F : Fun K "is_leaf" "is_leaf" s_is_leaf f fd) (T : Txt mg) (Z : TermZ K mg c) (Y : TermY K c b) : FnOk P w K mg base CX0 1 f fd P_is_leaf (spD isLeafD) := by
  refine F.ok sc_is_leaf (fun vs H Q E h => ?_) (fun cdv A outer s H vs Q E hr h => ?_)
  · obtain ⟨v, d, rfl, _⟩ := h
    rfl
  · obtain ⟨v, d, rfl, hv, ⟨f1, f2, f3⟩, q⟩ := h
    refine ⟨_, (pss_one (ps_ret (pe_cmpR (op_inX (hu65 hr)) (pv 0) (pe_tup (pa_cons (pe_glob (v := .str "_") rfl T.m_ANY.choose_spec ⟨_, rfl⟩) (pa_cons (pe_glob (v := .str "#") rfl T.m_LOST.choose_spec ⟨_, rfl⟩) pa_nil))) (by first | rfl | with_unfolding_all rfl)))), ?_⟩
    refine ⟨_, rfl, (szr rfl), fun p1 n1 => ?_⟩
    generalize g1 : upd _ p1 _ = H1; obtain ⟨e1, o1, t1⟩ := made n1 g1; clear g1
    have sm := sameOf n1 o1
    refine ⟨_, _, _, (hv.same sm).dp f2, (Dx.tup t1 (.cons (.str _) (.cons (.str _) .nil))).dp rfl, (.inr rfl), f3, (by decide +kernel), ?_⟩
    exact q H1 sm

def okE (d : PyData) : Bool := (listfree d && dictfree d) && (SeqAt.shaped d && (match d with | .str x => decide (x.length ≤ 100000) | _ => true))
def okN : PyData → Bool
  | .tuple [s, m] => okE s && okE m
  | _ => true
theorem okE.d {d : PyData} (h : okE d = true) : listfree d = true ∧ dictfree d = true ∧ SeqAt.shaped d = true := by
  simp only [okE, Bool.and_eq_true] at h
  exact ⟨h.1.1, h.1.2, h.2.1⟩
theorem okE.s {d : PyData} (h : okE d = true) : ∀ x, d = .str x → x.length ≤ 100000 := by
  rintro x rfl
  simp only [okE, Bool.and_eq_true] at h
  exact of_decide_eq_true h.2.2
def spNode : Sp := fun vs H Q _ => ∃ v d, vs = [v] ∧ Dx H v d ∧ okN d = true ∧ ∀ H', Same H H' → Q (.bl (isNodeD d)) H'
theorem ok_is_node {f : Addr} {fd : FuncData} (F : Fun K "is_node" "is_node" s_is_node f fd) (T : Txt mg) (Z : TermZ K mg c) (Y : TermY K c b) {f_is_word : Addr} {fd_is_word : FuncData} (G_is_word : FnOk P w K mg base CX0 1 f_is_word fd_is_word P_is_word spWord) (C_is_word : Cal K mg "is_word" f_is_word fd_is_word P_is_word) {f_is_arity : Addr} {fd_is_arity : FuncData} (G_is_arity : FnOk P w K mg base CX0 2 f_is_arity fd_is_arity P_is_arity (spA isArityD)) (C_is_arity : Cal K mg "is_arity" f_is_arity fd_is_arity P_is_arity) {f_is_leaf : Addr} {fd_is_leaf : FuncData} (G_is_leaf : FnOk P w K mg base CX0 1 f_is_leaf fd_is_leaf P_is_leaf (spD isLeafD)) (C_is_leaf : Cal K mg "is_leaf" f_is_leaf fd_is_leaf P_is_leaf) : FnOk P w K mg base CX0 3 f fd P_is_node spNode := by
  refine F.ok sc_is_node (fun vs H Q E h => ?_) (fun cdv A outer s H vs Q E hr h => ?_)
  · obtain ⟨v, d, rfl, _⟩ := h
    rfl
  · obtain ⟨v, d, rfl, hv, ho, q⟩ := h
    refine ⟨_, (pss_cons (ps_if (PW.pt (pw_or (pt_not (pt_val (pe_callB call_isi (by rfl) T.n_isinstance (by decide +kernel) (pa_cons (pv 0) (pa_cons (pe_bltn (v := .ty "tuple") rfl T.n_tuple (by decide +kernel) rfl) pa_nil))))) (pw_or1 (pt_cmpR op_ne (pe_callB call_len_seq (by rfl) T.n_len (by decide +kernel) (pa_cons (pv 0) pa_nil)) pe_int (nomark _))))) (pss_one (ps_ret pe_bl)) pss_nil)
      (pss_cons (ps_asg (pv 0) (pg_tup rfl (pgs_cons (pg_name (i := 1) sc_is_node.nd rfl (Or.inl rfl)) (pgs_cons (pg_name (i := 2) sc_is_node.nd rfl (Or.inl rfl)) pgs_nil))))
      (pss_cons (ps_if (pt_val (pe_call G_is_leaf (hr.mono (by decide)) rfl C_is_leaf.m C_is_leaf.k C_is_leaf.b .nil pass0 (pa_cons (pv 1) pa_nil))) (pss_one (ps_ret (pe_and (pe_call G_is_arity (hr.mono (by decide)) rfl C_is_arity.m C_is_arity.k C_is_arity.b .nil pass0 (pa_cons (pv 2) pa_nil)) (pe_one (pe_cmpR op_eq (pv 2) pe_int (nomark _)))))) pss_nil)
      (pss_one (ps_ret (pe_and (pe_call G_is_word (hr.mono (by decide)) rfl C_is_word.m C_is_word.k C_is_word.b .nil pass0 (pa_cons (pv 1) pa_nil)) (pe_one (pe_call G_is_arity (hr.mono (by decide)) rfl C_is_arity.m C_is_arity.k C_is_arity.b .nil pass0 (pa_cons (pv 2) pa_nil))))))))), ?_⟩
    refine ⟨_, rfl, _, _, _, _, _, rfl, .ty _, hv.ty, kit_tuple d, _, rfl, ?_⟩
    cases hv with
    | @tup a xs ds ha hx =>
      refine iteF ?_
      refine ⟨_, rfl, _, _, rfl, .inr (SqT.of ha), rfl, _, rfl, ?_⟩
      refine ite2 (fun g => ?_) (fun g => ?_)
      · have g' : ¬ V.int (xs.length : Int) = V.int 2 := of_decide_eq_false (by simpa using g)
        have hl : ds.length ≠ 2 := fun e => g' (by rw [hx.len, e]; rfl)
        have e : isNodeD (.tuple ds) = false := by
          match ds, hl with
          | [], _ => rfl
          | [_], _ => rfl
          | _ :: _ :: _ :: _, _ => rfl
        rw [e] at q
        exact q H (Same.refl H)
      · have g' : V.int (xs.length : Int) = V.int 2 := by simpa using g
        have hl : ds.length = 2 := by
          have := V.int.inj g'
          rw [hx.len] at this
          omega
        obtain ⟨s, m, rfl⟩ : ∃ s m, ds = [s, m] := by
          match ds, hl with
          | [s, m], _ => exact ⟨s, m, rfl⟩
        cases hx with
        | @cons vs _ _ _ h1 h2 =>
          cases h2 with
          | @cons vm _ _ _ h2 h3 =>
            cases h3
            have ho' : okE s = true ∧ okE m = true := by
              have := ho
              simpa only [okN, Bool.and_eq_true] using this
            refine ⟨_, rfl, _, _, rfl, SqT.of ha, rfl, _, _, rfl, _, _, rfl, rfl, ?_⟩
            refine ⟨_, rfl, vs, s, rfl, h1, okE.d ho'.1, fun H1 s1 => ?_⟩
            refine ⟨_, rfl, ?_⟩
            refine ite2 (fun g => ?_) (fun g => ?_)
            · refine ⟨_, rfl, vm, m, rfl, h2.same s1, _, rfl, ?_⟩
              have e : isNodeD (.tuple [s, m]) = (isArityD m && PyData.eqv m (.int 0)) := by
                show (if isLeafD s = true then _ else _) = _
                rw [if_pos g]
              rw [e] at q
              refine ite2 (fun g2 => ?_) (fun g2 => ?_)
              · rw [g2, Bool.true_and] at q
                cases h2 with
                | int i =>
                  refine ⟨_, rfl, rfl, ?_⟩
                  have e2 : PyData.eqv (.int i) (.int 0) = decide (V.int i = V.int 0) := by
                    by_cases z : i = 0
                    · subst z
                      rfl
                    · rw [decide_eq_false (fun w => z (V.int.inj w))]
                      simp [PyData.eqv, z]
                  rw [e2] at q
                  exact q H1 s1
                | _ => cases g2
              · rw [Bool.eq_false_iff.mpr g2, Bool.false_and] at q
                exact q H1 s1
            · refine ⟨_, rfl, vs, s, rfl, h1.same s1, okE.s ho'.1, fun H2 s2 => ?_⟩
              have e : isNodeD (.tuple [s, m]) = (isWordD s && isArityD m) := by
                show (if isLeafD s = true then _ else _) = _
                rw [if_neg g]
              rw [e] at q
              refine ⟨_, rfl, ?_⟩
              refine ite2 (fun g2 => ?_) (fun g2 => ?_)
              · rw [g2, Bool.true_and] at q
                exact ⟨_, rfl, vm, m, rfl, h2.same (s1.trans s2), q H2 (s1.trans s2)⟩
              · rw [Bool.eq_false_iff.mpr g2, Bool.false_and] at q
                exact q H2 (s1.trans s2)
    | _ => exact iteT (q H (Same.refl H))

/-- the arities of a row of nodes make one tree: m nodes are still missing -/
def oneTree (m : Int) : List Int → Bool
  | [] => decide (V.int m = V.int 0)
  | k :: r => if decide (V.int m = V.int 0) = true then false else oneTree (m - 1 + k) r
/-- xs are tuples of two, the second an int -/
def RowsOf (H : Hp) (xs : List V) (ms : List Int) : Prop := xs.length = ms.length ∧ ∀ (i : Nat) (x : V) (m : Int), xs[i]? = some x → ms[i]? = some m → ∃ (t : Addr) (s : V), x = V.ref t ∧ H t = some (.tup [s, .int m])
def spOne (K : PySem.W.Frag) : Sp := fun vs H Q _ => ∃ (a : Addr) (xs : List V) (ms : List Int), vs = [.ref a] ∧ SqT K H a xs ∧ RowsOf H xs ms ∧ Q (.bl (oneTree 1 ms)) H
theorem ok_makes_one_tree {f : Addr} {fd : FuncData} (F : Fun K "makes_one_tree" "makes_one_tree" s_makes_one_tree f fd) (T : Txt mg) (Z : TermZ K mg c) (Y : TermY K c b) : FnOk P w K mg base CX0 1 f fd P_makes_one_tree (spOne K) := by
  refine F.ok sc_makes_one_tree (fun vs H Q E h => ?_) (fun cdv A outer s H vs Q E hr h => ?_)
  · obtain ⟨a, xs, ms, rfl, _⟩ := h
    rfl
  · obtain ⟨a, xs, ms, rfl, hS, hR, q⟩ := h
    refine ⟨_, (pss_cons (ps_set (i := 1) sc_makes_one_tree.nd rfl (Or.inl rfl) pe_int)
      (pss_cons (ps_for PassesOwn.never rfl (pi_tup (pv 0)) (pg_tup rfl (pgs_cons (pg_name (i := 2) sc_makes_one_tree.nd rfl (Or.inl rfl)) (pgs_cons (pg_name (i := 3) sc_makes_one_tree.nd rfl (Or.inl rfl)) pgs_nil))) (pss_cons (ps_if (pt_cmpR op_eq (pv 1) pe_int (nomark _)) (pss_one (ps_ret pe_bl)) pss_nil)
      (pss_one (ps_set (i := 1) sc_makes_one_tree.nd rfl (Or.inl rfl) (pe_op op_add (pe_op op_sub (pv 1) pe_int) (pv 3))))))
      (pss_one (ps_ret (pe_cmpR op_eq (pv 1) pe_int (nomark _)))))), ?_⟩
    refine ⟨_, rfl, _, rfl, ⟨_, hS⟩, ?_⟩
    refine for_tup (K := K) (xs := xs) (fun i σ H' => H' = H ∧ ∃ m a2 a3, σ = [some (.ref a), some (.int m), a2, a3] ∧ oneTree 1 ms = oneTree m (ms.drop i)) ⟨rfl, 1, none, none, rfl, rfl⟩ (fun i σ H' _ h => by rw [h.1]; exact hS) ?_ ?_
    · rintro i x σ H' hi ⟨rfl, m, a2, a3, rfl, e⟩
      have hlt : i < ms.length := by rw [← hR.1]; exact (List.getElem?_eq_some_iff.mp hi).1
      obtain ⟨t, s1, rfl, ht⟩ := hR.2 i x ms[i] hi (List.getElem?_eq_getElem hlt)
      refine ⟨_, _, rfl, SqT.of ht, rfl, _, _, rfl, _, _, rfl, rfl, ?_⟩
      refine ⟨_, rfl, rfl, _, rfl, ?_⟩
      rw [List.drop_eq_getElem_cons hlt] at e
      refine ite2 (fun g => ?_) (fun g => ?_)
      · have e' : oneTree 1 ms = false := by
          rw [e]
          exact if_pos g
        rw [e'] at q
        exact q
      · refine ⟨_, rfl, _, _, rfl, rfl, _, rfl, _, _, rfl, rfl, ?_⟩
        refine ⟨rfl, _, _, _, rfl, ?_⟩
        rw [e]
        exact if_neg g
    · rintro σ H' ⟨rfl, m, a2, a3, rfl, e⟩
      rw [hR.1, List.drop_length] at e
      refine ⟨_, rfl, rfl, ?_⟩
      rw [e] at q
      exact q
def arOf : PyData → Int
  | .tuple [_, .int m] => m
  | _ => 0
def isTreeD : PyData → Bool
  | .tuple ds => decide (ds.length ≤ 40) && (ds.all isNodeD && oneTree 1 (ds.map arOf))
  | _ => false
def okT : PyData → Bool
  | .tuple ds => ds.all okN
  | _ => true
def spTree : Sp := fun vs H Q _ => ∃ v d, vs = [v] ∧ Dx H v d ∧ okT d = true ∧ ∀ H', Same H H' → Q (.bl (isTreeD d)) H'
theorem isNode_rows {H : Hp} {xs : List V} {ds : List PyData} (hx : DxAll H xs ds) (hn : ds.all isNodeD = true) : RowsOf H xs (ds.map arOf) := by
  refine ⟨by rw [List.length_map]; exact hx.len, fun i x m hi hm => ?_⟩
  obtain ⟨d, hd, xd⟩ := hx.get hi
  rw [List.getElem?_map, hd] at hm
  have nd := List.all_eq_true.mp hn d (List.mem_of_getElem? hd)
  cases (show some (arOf d) = some m from hm)
  have shape : ∃ s k, d = .tuple [s, .int k] := by
    match d, nd with
    | .tuple [s, e], nd =>
      have na : isArityD e = true := by
        have nd' : (if isLeafD s = true then (isArityD e && PyData.eqv e (.int 0)) else (isWordD s && isArityD e)) = true := nd
        split at nd' <;> simp only [Bool.and_eq_true] at nd'
        · exact nd'.1
        · exact nd'.2
      match e, na with
      | .int k, _ => exact ⟨s, k, rfl⟩
  obtain ⟨s, k, rfl⟩ := shape
  cases xd with
  | tup h1 h2 =>
    cases h2 with
    | cons q1 h2 =>
      cases h2 with
      | cons q2 h2 =>
        cases h2
        cases q2
        exact ⟨_, _, rfl, h1⟩
theorem ok_is_tree {f : Addr} {fd : FuncData} (F : Fun K "is_tree" "is_tree" s_is_tree f fd) (T : Txt mg) (Z : TermZ K mg c) (Y : TermY K c b) {f_is_node : Addr} {fd_is_node : FuncData} (G_is_node : FnOk P w K mg base CX0 3 f_is_node fd_is_node P_is_node spNode) (C_is_node : Cal K mg "is_node" f_is_node fd_is_node P_is_node) {f_makes_one_tree : Addr} {fd_makes_one_tree : FuncData} (G_makes_one_tree : FnOk P w K mg base CX0 1 f_makes_one_tree fd_makes_one_tree P_makes_one_tree (spOne K)) (C_makes_one_tree : Cal K mg "makes_one_tree" f_makes_one_tree fd_makes_one_tree P_makes_one_tree) : FnOk P w K mg base CX0 4 f fd P_is_tree spTree := by
  refine F.ok sc_is_tree (fun vs H Q E h => ?_) (fun cdv A outer s H vs Q E hr h => ?_)
  · obtain ⟨v, d, rfl, _⟩ := h
    rfl
  · obtain ⟨v, d, rfl, hv, ho, q⟩ := h
    refine ⟨_, (pss_cons (ps_if (PW.pt (pw_or (pt_not (pt_val (pe_callB call_isi (by rfl) T.n_isinstance (by decide +kernel) (pa_cons (pv 0) (pa_cons (pe_bltn (v := .ty "tuple") rfl T.n_tuple (by decide +kernel) rfl) pa_nil))))) (pw_or1 (pt_cmpR op_gt (pe_callB call_len_seq (by rfl) T.n_len (by decide +kernel) (pa_cons (pv 0) pa_nil)) (pe_glob (v := .int 40) rfl T.m_MAX_NODES.choose_spec ⟨_, rfl⟩) (nomark _))))) (pss_one (ps_ret pe_bl)) pss_nil)
      (pss_one (ps_ret (pe_and (pe_callB (cr_all rfl) (by rfl) T.n_all (by decide +kernel) (pa_cons (pe_lc (own := [("node", 1)]) (g := gName 1) (tt := tYes) rfl sc_is_tree.nd (pi_tup (pv 0)) (blkOk_by (own := [("node", 1)]) (N := ["value", "node"]) (sc := (defScope s_is_tree)) (by decide +kernel)) (fun _ _ _ _ _ => (pg_name (i := 1) sc_is_tree.nd rfl (Or.inl rfl))) (fun _ _ _ _ _ => pts_nil) (fun _ _ _ _ _ => (pe_call G_is_node (hr.mono (by decide)) rfl C_is_node.m C_is_node.k C_is_node.b .nil pass0 (pa_cons (pv 1) pa_nil)))) pa_nil)) (pe_one (pe_call G_makes_one_tree (hr.mono (by decide)) rfl C_makes_one_tree.m C_makes_one_tree.k C_makes_one_tree.b .nil pass0 (pa_cons (pv 0) pa_nil))))))), ?_⟩
    refine ⟨_, rfl, _, _, _, _, _, rfl, .ty _, hv.ty, kit_tuple d, _, rfl, ?_⟩
    cases hv with
    | @tup a xs ds ha hx =>
      refine iteF ?_
      refine ⟨_, rfl, _, _, rfl, .inr (SqT.of ha), _, _, rfl, rfl, _, rfl, ?_⟩
      refine ite2 (fun g => ?_) (fun g => ?_)
      · have g' := of_decide_eq_true g
        have e : isTreeD (.tuple ds) = false := by
          show (decide (ds.length ≤ 40) && _) = false
          rw [decide_eq_false (by rw [← hx.len]; omega), Bool.false_and]
        rw [e] at q
        exact q H (Same.refl H)
      · have g' := of_decide_eq_false (Bool.eq_false_iff.mpr g)
        have hl : ds.length ≤ 40 := by rw [← hx.len]; omega
        have e : isTreeD (.tuple ds) = (ds.all isNodeD && oneTree 1 (ds.map arOf)) := by
          show (decide (ds.length ≤ 40) && _) = _
          rw [decide_eq_true hl, Bool.true_and]
        rw [e] at q
        refine ⟨_, rfl, _, rfl, ⟨_, SqT.of ha⟩, fun D hD => ?_⟩
        refine lc_tup (K := K) (xs := xs) (fun i H' => Same H H' ∧ H' D = some (.lst ((ds.take i).map fun d => V.bl (isNodeD d)))) ⟨sameOf hD (fun b hb => upd_ne hb), upd_same⟩ (fun i H' _ h => SqT.of (h.1 _ _ ha)) ?_ ?_
        · rintro i y H' hi ⟨sm, hl1⟩
          obtain ⟨d, hd, xd⟩ := hx.get hi
          have od := List.all_eq_true.mp ho d (List.mem_of_getElem? hd)
          have hi2 : i < 40 := Nat.lt_of_lt_of_le (List.getElem?_eq_some_iff.mp hd).1 hl
          refine ⟨rfl, ?_⟩
          refine ⟨_, rfl, y, d, rfl, xd.same sm, od, fun H9 s9 => ?_⟩
          refine ⟨_, s9 _ _ hl1, szlt (by rw [List.length_map, List.length_take]; omega), fun b o e => ?_, ?_⟩
          · rw [upd_ne (ne_of_none e hD)]
            exact s9 _ _ (sm _ _ e)
          · rw [upd_same, List.take_add_one, List.map_append, hd]
            rfl
        · rintro H9 ⟨sm, hl1⟩
          rw [hx.len, List.take_of_length_le (Nat.le_refl _)] at hl1
          refine ⟨_, ds.map isNodeD, rfl, SqL.of (by rw [hl1, List.map_map]; rfl), _, rfl, ?_⟩
          have ea : (ds.map isNodeD).all id = ds.all isNodeD := by
            rw [List.all_map]
            rfl
          refine ite2 (fun g2 => ?_) (fun g2 => ?_)
          · have g3 : ds.all isNodeD = true := by rw [← ea]; exact g2
            rw [g3, Bool.true_and] at q
            have rows := isNode_rows hx g3
            refine ⟨_, rfl, a, xs, ds.map arOf, rfl, SqT.of (sm _ _ ha), ⟨rows.1, fun i x m h1 h2 => ?_⟩, q H9 sm⟩
            obtain ⟨t, s, h3, h4⟩ := rows.2 i x m h1 h2
            exact ⟨t, s, h3, sm _ _ h4⟩
          · have g3 : ds.all isNodeD = false := by rw [← ea]; exact Bool.eq_false_iff.mpr g2
            rw [g3, Bool.false_and] at q
            exact q H9 sm
    | _ => exact iteT (q H (Same.refl H))
/-- how many of the nodes are needed until m trees are whole -/
def walkT : Nat → List Int → Option Nat
  | 0, _ => some 0
  | _ + 1, [] => none
  | m + 1, k :: r => (walkT (m + k.toNat) r).map (· + 1)
theorem walkT_zero (l : List Int) : walkT 0 l = some 0 := by cases l <;> rfl
theorem walkT_le : ∀ {l : List Int} {m n : Nat}, walkT m l = some n → n ≤ l.length
  | l, 0, n, h => by
    rw [walkT_zero] at h
    cases h
    exact Nat.zero_le _
  | [], m + 1, n, h => by cases h
  | k :: r, m + 1, n, h => by
    obtain ⟨n', e, rfl⟩ := Option.map_eq_some_iff.mp (show (walkT (m + k.toNat) r).map (· + 1) = some n from h)
    have := walkT_le e
    rw [List.length_cons]
    omega
def spEnd (K : PySem.W.Frag) : Sp := fun vs H Q _ => ∃ (a : Addr) (xs : List V) (ms : List Int) (p n : Nat), vs = [.ref a, .int (p : Int)] ∧ SqT K H a xs ∧ RowsOf H xs ms ∧ (∀ k ∈ ms, 0 ≤ k) ∧ walkT 1 (ms.drop p) = some n ∧ Q (.int ((p + n : Nat) : Int)) H
theorem ok_part_end {f : Addr} {fd : FuncData} (F : Fun K "part_end" "part_end" s_part_end f fd) (T : Txt mg) (Z : TermZ K mg c) (Y : TermY K c b) : FnOk P w K mg base CX0 1 f fd P_part_end (spEnd K) := by
  refine F.ok sc_part_end (fun vs H Q E h => ?_) (fun cdv A outer s H vs Q E hr h => ?_)
  · obtain ⟨a, xs, ms, p, n, rfl, _⟩ := h
    rfl
  · obtain ⟨a, xs, ms, p, n, rfl, hS, hR, h0, hw, q⟩ := h
    refine ⟨_, (pss_cons (ps_set (i := 2) sc_part_end.nd rfl (Or.inl rfl) pe_int)
      (pss_cons (ps_set (i := 3) sc_part_end.nd rfl (Or.inl rfl) (pv 1))
      (pss_cons (ps_while PassesOwn.never (pt_cmpR op_gt (pv 2) pe_int (nomark _)) (pss_cons (ps_set (i := 2) sc_part_end.nd rfl (Or.inl rfl) (pe_op op_add (pe_op op_sub (pv 2) pe_int) (pe_ix ix_tup (pe_ix ix_tup (pv 0) (pv 3) (fun _ _ => rfl)) pe_int (fun _ _ => rfl))))
      (pss_one (ps_aug (i := 3) sc_part_end.nd rfl (Or.inl rfl) pe_int ip_add))))
      (pss_one (ps_ret (pv 3)))))), ?_⟩
    refine ⟨_, rfl, ?_⟩
    refine ⟨fun m σ H' => H = H' ∧ ∃ (mi j : Nat), σ = [some (.ref a), some (.int (p : Int)), some (.int (mi : Int)), some (.int ((p + j : Nat) : Int))] ∧ walkT mi (ms.drop (p + j)) = some m ∧ j + m = n, ⟨n, rfl, 1, 0, rfl, hw, by omega⟩, ?_⟩
    rintro m σ H' ⟨rfl, mi, j, rfl, hm, hj⟩
    refine ⟨_, rfl, _, _, rfl, rfl, _, rfl, ?_⟩
    refine ite2 (fun g => ?_) (fun g => ?_)
    · have g' := of_decide_eq_true g
      obtain ⟨mi, rfl⟩ : ∃ k, mi = k + 1 := ⟨mi - 1, by omega⟩
      have hlt : p + j < ms.length := by
        rcases Nat.lt_or_ge (p + j) ms.length with h | h
        · exact h
        · rw [List.drop_eq_nil_of_le h] at hm
          cases hm
      rw [List.drop_eq_getElem_cons hlt] at hm
      obtain ⟨m', e1, rfl⟩ := Option.map_eq_some_iff.mp (show (walkT (mi + (ms[p + j]).toNat) (ms.drop (p + j + 1))).map (· + 1) = some m from hm)
      have hx : xs[p + j]? = some (xs[p + j]'(by rw [hR.1]; exact hlt)) := List.getElem?_eq_getElem _
      obtain ⟨t, s1, ex, ht⟩ := hR.2 (p + j) _ _ hx (List.getElem?_eq_getElem hlt)
      rw [ex] at hx
      have kp : 0 ≤ ms[p + j] := h0 _ (List.getElem_mem hlt)
      generalize ms[p + j] = k at ht e1 kp
      refine ⟨fun σ' H' => H = H' ∧ ∃ (mi j : Nat), σ' = [some (.ref a), some (.int (p : Int)), some (.int (mi : Int)), some (.int ((p + j : Nat) : Int))] ∧ walkT mi (ms.drop (p + j)) = some m' ∧ j + m' = n, fun σ' H' z => ⟨m', by omega, z⟩, ?_⟩
      refine ⟨_, rfl, _, _, rfl, rfl, _, rfl, _, rfl, _, _, _, _, rfl, rfl, hS, atI_nat hx, _, _, _, _, rfl, rfl, SqT.of ht, rfl, _, _, rfl, rfl, ?_⟩
      refine ⟨_, rfl, _, _, rfl, rfl, ?_⟩
      have e2 : ((mi + 1 : Nat) : Int) - 1 + k = ((mi + k.toNat : Nat) : Int) := by omega
      have e3 : ((p + j : Nat) : Int) + 1 = ((p + (j + 1) : Nat) : Int) := by omega
      refine ⟨rfl, mi + k.toNat, j + 1, ?_, e1, by omega⟩
      rw [← e2, ← e3]
      rfl
    · have g' := of_decide_eq_false (Bool.eq_false_iff.mpr g)
      obtain rfl : mi = 0 := by omega
      rw [walkT_zero] at hm
      cases hm
      refine ⟨_, rfl, ?_⟩
      obtain rfl : j = n := by omega
      exact q
def spPart (K : PySem.W.Frag) : Sp := fun vs H Q _ => ∃ (a : Addr) (xs : List V) (ms : List Int) (p n : Nat), vs = [.ref a, .int (p : Int)] ∧ H a = some (.tup xs) ∧ RowsOf H xs ms ∧ (∀ k ∈ ms, 0 ≤ k) ∧ walkT 1 (ms.drop p) = some n ∧ 
  ∀ (b : Addr) (H' : Hp), Same H H' → H' b = some (.tup ((xs.drop p).take n)) → Q (.ref b) H'
theorem ok_part_at {f : Addr} {fd : FuncData} (F : Fun K "part_at" "part_at" s_part_at f fd) (T : Txt mg) (Z : TermZ K mg c) (Y : TermY K c b) {f_part_end : Addr} {fd_part_end : FuncData} (G_part_end : FnOk P w K mg base CX0 1 f_part_end fd_part_end P_part_end (spEnd K)) (C_part_end : Cal K mg "part_end" f_part_end fd_part_end P_part_end) : FnOk P w K mg base CX0 2 f fd P_part_at (spPart K) := by
  refine F.ok sc_part_at (fun vs H Q E h => ?_) (fun cdv A outer s H vs Q E hr h => ?_)
  · obtain ⟨a, xs, ms, p, n, rfl, _⟩ := h
    rfl
  · obtain ⟨a, xs, ms, p, n, rfl, hT, hR, h0, hw, q⟩ := h
    have hS : SqT K H a xs := SqT.of hT
    refine ⟨_, (pss_one (ps_ret (pe_slice sl_tupA (pv 0) (po_some (pv 1)) (po_some (pe_call G_part_end (hr.mono (by decide)) rfl C_part_end.m C_part_end.k C_part_end.b .nil pass0 (pa_cons (pv 0) (pa_cons (pv 1) pa_nil))))))), ?_⟩
    refine ⟨_, rfl, _, rfl, _, rfl, _, rfl, _, rfl, ?_⟩
    refine ⟨a, xs, ms, p, n, rfl, hS, hR, h0, hw, ?_⟩
    have hn := walkT_le hw
    rw [List.length_drop] at hn
    have hp : p ≤ ms.length := by
      rcases Nat.le_total p ms.length with h | h
      · exact h
      · rw [List.drop_eq_nil_of_le h] at hw
        cases hw
    have e1 : HT.sIx xs.length 0 (some (p : Int)) = p := by rw [HT.sIx_nat, hR.1]; omega
    have e2 : HT.sIx xs.length xs.length (some ((p + n : Nat) : Int)) = p + n := by rw [HT.sIx_nat, hR.1]; omega
    refine ⟨_, rfl, a, xs, rfl, hS, fun z => ?_, fun z b hb => ?_⟩
    · rw [e1, e2] at z
      obtain ⟨rfl, z⟩ := z
      refine q a H (Same.refl H) ?_
      rw [List.drop_zero, List.take_of_length_le (by omega)]
      exact hT
    · refine q b _ (fun c o e => by rw [upd_ne (ne_of_none e hb)]; exact e) ?_
      rw [upd_same]
      unfold cutV
      rw [e1, e2, Nat.add_sub_cancel_left]

/-- the list of nodes with words that symbols_in gives: each once -/
def spSyms : Sp := fun vs H Q _ => ∃ (a : Addr) (xs : List V) (ds : List PyData), vs = [.ref a] ∧ H a = some (.tup xs) ∧ DxAll H xs ds ∧ ds.all isNodeD = true ∧ ds.all okN = true ∧ ds.length ≤ 40 ∧
  ∀ (as : List Addr) (ps : List (Str × Int)) (p : Addr) (H' : Hp), Same H H' → H p = none → H' p = some (.lst (as.map V.ref)) → Paired (fun b q => H' b = some (.tup [.str q.1, .int q.2])) as ps → ps.Nodup → (∀ q, q ∈ ps ↔ q ∈ prsOf ds) → ps.Pairwise (fun p q => lexS q p = false) → Q (.ref p) H'
theorem ok_symbols_in {f : Addr} {fd : FuncData} (F : Fun K "symbols_in" "symbols_in" s_symbols_in f fd) (T : Txt mg) (Z : TermZ K mg c) (Y : TermY K c b) {f_is_leaf : Addr} {fd_is_leaf : FuncData} (G_is_leaf : FnOk P w K mg base CX0 1 f_is_leaf fd_is_leaf P_is_leaf (spD isLeafD)) (C_is_leaf : Cal K mg "is_leaf" f_is_leaf fd_is_leaf P_is_leaf) : FnOk P w K mg base CX0 2 f fd P_symbols_in spSyms := by
  refine F.ok sc_symbols_in (fun vs H Q E h => ?_) (fun cdv A outer s H vs Q E hr h => ?_)
  · obtain ⟨a, xs, ds, rfl, _⟩ := h
    rfl
  · obtain ⟨a, xs, ds, rfl, ha, hx, hn, ho, hz, q⟩ := h
    refine ⟨_, (pss_one (ps_ret (pe_callB (cr_sortP rfl) (by rfl) T.n_sorted (by decide +kernel) (pa_cons (pe_scP (own := [("node", 1)]) (g := gName 1) (hu64i hr) rfl sc_symbols_in.nd (pi_tup (pv 0)) (blkOk_by (own := [("node", 1)]) (N := ["nodes", "node"]) (sc := (defScope s_symbols_in)) (by decide +kernel)) (fun _ _ _ _ _ => (pg_name (i := 1) sc_symbols_in.nd rfl (Or.inl rfl))) (fun _ _ _ _ _ => (pts_one (pt_not (pt_val (pe_call G_is_leaf (hr.mono (by decide)) rfl C_is_leaf.m C_is_leaf.k C_is_leaf.b .nil pass0 (pa_cons (pe_ix (ix_tup_k (K := K) ) (pv 1) pe_int (fun _ _ => rfl)) pa_nil)))))) (fun _ _ _ _ _ => (pv 1))) pa_nil)))), ?_⟩
    refine ⟨_, rfl, _, rfl, ⟨_, SqT.of ha⟩, fun D hD => ?_⟩
    refine sc_over_tup (K := K) (ys := xs) (fun i H' => (∀ b o, b ≠ D → H b = some o → H' b = some o) ∧ ∃ L, H' D = some (PSetO P w D L) ∧ SetIs H' ds i L ∧ ∀ p ∈ L, p.1 ≠ D)
      ⟨fun b o nb e => by rw [upd_ne nb]; exact e, [], upd_same, SetIs.none, fun p hp => by cases hp⟩ (fun i H' z => SqT.of (z.1 _ _ (ne_of_none ha hD) ha)) ?_ ?_
    · rintro H1 ⟨k1, L, hL, hs, nD⟩
      rw [hx.len] at hs
      refine ⟨_, _, rfl, hL, hs.pairs, fun as p pm pw np => ?_⟩
      obtain ⟨ps, h1, h2, h3⟩ := hs.told pm
      have sm : Same H H1 := fun b o e => k1 b o (ne_of_none e hD) e
      refine q as ps p _ (sm.trans (sameOf np fun b nb => upd_ne nb)) ?_ upd_same (L2.Paired.mapP h1 fun b q e => by rw [upd_ne (ne_of_none e np)]; exact e) h2 h3 (pairs_pw h1 pw)
      cases z : H p with
      | none => rfl
      | some o => exact absurd np (by rw [sm _ _ z]; exact fun z => nomatch z)
    · rintro i y H1 hi ⟨k1, L, hL, hs, nD⟩
      obtain ⟨d, hd, xd⟩ := hx.get hi
      obtain ⟨x, k, rfl, k0, k3⟩ := node_shape (List.all_eq_true.mp hn d (List.mem_of_getElem? hd))
      cases xd with
      | @tup c _ _ hc h2 =>
        cases h2 with
        | cons q1 h2 =>
          cases h2 with
          | cons q2 h2 =>
            cases h2
            cases q1
            cases q2
            have nc := ne_of_none hc hD
            have okx : okE (.str x) = true := by
              have z : (okE (.str x) && okE (.int k)) = true := List.all_eq_true.mp ho _ (List.mem_of_getElem? hd)
              rw [Bool.and_eq_true] at z
              exact z.1
            have hc1 := k1 _ _ nc hc
            refine ⟨rfl, ?_⟩
            refine ⟨_, rfl, _, _, _, _, rfl, rfl, SqT.of hc1, rfl, _, _, rfl, .str x, okE.d okx, fun H2 s2 => ?_⟩
            have hL2 := s2 _ _ hL
            have hs2 : SetIs H2 ds i L := hs.same fun p hp => by
              obtain ⟨r, _, _, e⟩ := hs.at_ p hp
              rw [e, s2 _ _ e]
            have k2 : ∀ b o, b ≠ D → H b = some o → H2 b = some o := fun b o nb e => s2 _ _ (k1 b o nb e)
            refine ⟨_, rfl, ?_⟩
            cases g : isLeafD (.str x) with
            | true =>
              refine iteF ?_
              exact ⟨k2, L, hL2, hs2.skip hd (prOf_leaf g), nD⟩
            | false =>
              refine iteT ?_
              have hc2 := s2 _ _ hc1
              have hi2 : i < 40 := Nat.lt_of_lt_of_le (List.getElem?_eq_some_iff.mp hd).1 hz
              refine ⟨_, rfl, c, keyP (x, k), L, rfl, hc2, hL2, hs2.members, by have := hs2.len; omega, fun L' h1 h2 => ?_⟩
              have nD' : ∀ p ∈ L', p.1 ≠ D := by
                by_cases m : keyP (x, k) ∈ L.map Prod.snd
                · rw [h1 m]
                  exact nD
                · intro p hp
                  rcases List.mem_cons.mp ((h2 m).mem_iff.mp hp) with rfl | hp
                  · exact nc
                  · exact nD p hp
              refine ⟨fun b o nb e => by rw [upd_ne nb]; exact k2 b o nb e, L', upd_same, ?_, nD'⟩
              exact (hs2.add hd (prOf_word g) hc2 h1 h2).same fun p hp => upd_ne (nD' p hp)
/-! ### the class -/
/-- data that is the nodes of a term -/
def isTermD (d : PyData) : Bool := isTreeD d && match d with
  | .tuple ds => decide (∀ p ∈ prsOf ds, ∀ q ∈ prsOf ds, p.1 = q.1 → p.2 = q.2)
  | _ => false
def spInit (c : Ta) : Sp := fun vs H Q E => ∃ (a dx : Addr) (v : V) (d : PyData), vs = [.ref a, v] ∧ H a = some (.ins c.T dx []) ∧ Dx H v d ∧ okT d = true ∧
  (isTermD d = true → ∀ H', Same H H' → Q .non (upd H' a (.ins c.T dx [("_nodes", v)]))) ∧ (isTermD d = false → ∀ H', Same H H' → E (.ref c.X) none H')
theorem ok_T_init {f : Addr} {fd : FuncData} (F : Fun K "__init__" "Term.__init__" s_T_init f fd) (T : Txt mg) (Z : TermZ K mg c) (Y : TermY K c b) {f_is_tree : Addr} {fd_is_tree : FuncData} (G_is_tree : FnOk P w K mg base CX0 4 f_is_tree fd_is_tree P_is_tree spTree) (C_is_tree : Cal K mg "is_tree" f_is_tree fd_is_tree P_is_tree) {f_symbols_in : Addr} {fd_symbols_in : FuncData} (G_symbols_in : FnOk P w K mg base CX0 2 f_symbols_in fd_symbols_in P_symbols_in spSyms) (C_symbols_in : Cal K mg "symbols_in" f_symbols_in fd_symbols_in P_symbols_in) : FnOk P w K mg base (L2.CX P w) 5 f fd P_T_init (spInit c) := by
  refine F.okX sc_T_init (fun vs H Q E h => ?_) (fun cdv A outer s H vs Q E hr h => ?_)
  · obtain ⟨a, dx, v, d, rfl, _⟩ := h
    rfl
  · obtain ⟨a, dx, v, d, rfl, ha, hv, ho, qt, qf⟩ := h
    refine ⟨_, (pss_cons (ps_if (pt_not (pt_val (pe_call G_is_tree (hr.mono (by decide)) rfl C_is_tree.m C_is_tree.k C_is_tree.b .nil pass0 (pa_cons (pv 1) pa_nil)))) (pss_one (ps_raise (W := WR E) rfl (takes_of rfl rfl rfl rfl) (pmk_own PySem.F.excBase_ValueError Z.exc Z.g_X Z.kX (raises_own Z.subX Z.tyX) rfl))) pss_nil)
      (pss_cons (ps_set (i := 2) sc_T_init.nd rfl (Or.inl rfl) (pe_call G_symbols_in (hr.mono (by decide)) rfl C_symbols_in.m C_symbols_in.k C_symbols_in.b .nil pass0 (pa_cons (pv 1) pa_nil)))
      (pss_cons (ps_if (pt_cmpR op_lt (pe_callB call_lenD (by rfl) T.n_len (by decide +kernel) (pa_cons (pe_callTy (call_dictP rfl) (by rfl) T.n_dict (by decide +kernel) (pa_cons (pv 2) pa_nil)) pa_nil)) (pe_callB call_len_seq (by rfl) T.n_len (by decide +kernel) (pa_cons (pv 2) pa_nil)) (nomark _)) (pss_one (ps_raise (W := WR E) rfl (takes_of rfl rfl rfl rfl) (pmk_own PySem.F.excBase_ValueError Z.exc Z.g_X Z.kX (raises_own Z.subX Z.tyX) rfl))) pss_nil)
      (pss_one (ps_fld (pv 0) (pv 1) rfl))))), ?_⟩
    refine ⟨_, rfl, v, d, rfl, hv, ho, fun H1 s1 => ⟨_, rfl, ?_⟩⟩
    refine ite2 (fun g => ?_) (fun g => ?_)
    · have e : isTermD d = false := by
        unfold isTermD
        rw [show isTreeD d = false by simpa using g, Bool.false_and]
      exact qf e H1 s1
    · have g' : isTreeD d = true := by simpa using g
      cases hv with
      | @tup p xs ds hp hx =>
        have g2 : (decide (ds.length ≤ 40) && (ds.all isNodeD && oneTree 1 (ds.map arOf))) = true := g'
        simp only [Bool.and_eq_true, decide_eq_true_eq] at g2
        have eT : isTermD (.tuple ds) = decide (OneEach (prsOf ds)) := by
          show (isTreeD (.tuple ds) && decide (OneEach (prsOf ds))) = _
          rw [g', Bool.true_and]
        rw [eT] at qt qf
        refine ⟨_, rfl, p, xs, ds, rfl, s1 _ _ hp, hx.same s1, g2.2.1, ho, g2.1, fun as ps l H2 s2 nl hl hps nd mem _ => ?_⟩
        refine ⟨_, rfl, l, as, ps.map kvOf, rfl, SqL.of hl, ?_, fun p1 n1 => ?_⟩
        · exact paired_r (f := kvOf) (S := fun b kv => SqT K H2 b [kV kv.1, kv.2]) (fun b q e => show SqT K H2 b [kV (kvOf q).1, (kvOf q).2] from SqT.of e) hps
        generalize g3 : upd _ p1 _ = H3; obtain ⟨e3, o3, t3⟩ := made n1 g3; clear g3
        have s3 := sameOf n1 o3
        refine ⟨_, _, rfl, t3, _, rfl, _, _, rfl, .inl (SqL.of (s3 _ _ hl)), _, _, rfl, rfl, _, rfl, ?_⟩
        have lenE : (as.map V.ref).length = ps.length := by rw [List.length_map]; exact hps.length
        have eD : decide (OneEach ps) = decide (OneEach (prsOf ds)) := by
          rw [decide_eq_decide]
          exact one_mem mem
        rw [lenE, dict_len nd, eD]
        have s13 := (s1.trans s2).trans s3
        refine ite2 (fun h => ?_) (fun h => ?_)
        · exact qf (by simpa using h) H3 s13
        · refine ⟨_, rfl, _, rfl, _, _, _, _, rfl, s13 _ _ ha, Z.cls, Z.no, by decide, ?_⟩
          exact qt (by simpa using h) H3 s13
      | _ => cases g'
def spLenT (c : Ta) : Sp := fun vs H Q _ => ∃ (a dx p : Addr) (xs : List V), vs = [.ref a] ∧ H a = some (.ins c.T dx [("_nodes", .ref p)]) ∧ H p = some (.tup xs) ∧ Q (.int xs.length) H
theorem ok_T_len {f : Addr} {fd : FuncData} (F : Fun K "__len__" "Term.__len__" s_T_len f fd) (T : Txt mg) (Z : TermZ K mg c) (Y : TermY K c b) : FnOk P w K mg base CX0 1 f fd P_T_len (spLenT c) := by
  refine F.ok sc_T_len (fun vs H Q E h => ?_) (fun cdv A outer s H vs Q E hr h => ?_)
  · obtain ⟨a, dx, p, xs, rfl, _⟩ := h
    rfl
  · obtain ⟨a, dx, p, xs, rfl, ha, hp, q⟩ := h
    refine ⟨_, (pss_one (ps_ret (pe_callB call_len_seq (by rfl) T.n_len (by decide +kernel) (pa_cons (pe_fld (pv 0) rfl) pa_nil)))), ?_⟩
    exact ⟨_, rfl, _, _, _, _, _, rfl, ha, Z.cls, Z.no, rfl, _, _, rfl, .inr (SqT.of hp), q⟩
def spNodesT (c : Ta) : Sp := fun vs H Q _ => ∃ (a dx : Addr) (v : V), vs = [.ref a] ∧ H a = some (.ins c.T dx [("_nodes", v)]) ∧ Q v H
theorem ok_T_nodes {f : Addr} {fd : FuncData} (F : Fun K "nodes" "Term.nodes" s_T_nodes f fd) (T : Txt mg) (Z : TermZ K mg c) (Y : TermY K c b) : FnOk P w K mg base CX0 1 f fd P_T_nodes (spNodesT c) := by
  refine F.ok sc_T_nodes (fun vs H Q E h => ?_) (fun cdv A outer s H vs Q E hr h => ?_)
  · obtain ⟨a, dx, v, rfl, _⟩ := h
    rfl
  · obtain ⟨a, dx, v, rfl, ha, q⟩ := h
    refine ⟨_, (pss_one (ps_ret (pe_fld (pv 0) rfl))), ?_⟩
    exact ⟨_, rfl, _, _, _, _, _, rfl, ha, Z.cls, Z.no, rfl, q⟩
/-! ### build -/
/-- a term that stands at v, with these nodes -/
def TermAt (c : Ta) (H : Hp) (v : V) (ds : List PyData) : Prop := ∃ (a dx q : Addr) (xs : List V), v = .ref a ∧ H a = some (.ins c.T dx [("_nodes", .ref q)]) ∧ H q = some (.tup xs) ∧ DxAll H xs ds
def ArgAt (c : Ta) (H : Hp) (v : V) : Option (List PyData) → Prop
  | some ds => TermAt c H v ds
  | none => ∃ d, Dx H v d
def spB0 (c : Ta) : Sp := fun vs H Q E => ∃ (u : V) (p : Addr) (rest : List V) (dw : PyData) (os : List (Option (List PyData))), vs = [.ref c.T, u, .ref p] ∧ H p = some (.tup rest) ∧ Dx H u dw ∧ okE dw = true ∧ rest.length ≤ 4 ∧ Paired (ArgAt c H) rest os ∧
  (∀ o ∈ os, ∀ ds, o = some ds → ds.all okN = true ∧ ds.length ≤ 40) ∧
  ((∀ o ∈ os, o.isSome = true) → isTermD (.tuple (.tuple [dw, .int rest.length] :: os.flatMap (·.getD []))) = true → ∀ (x dx q : Addr) (xs : List V) (H' : Hp), Same H H' → H' x = some (.ins c.T dx [("_nodes", .ref q)]) → H' q = some (.tup xs) → DxAll H' xs (.tuple [dw, .int rest.length] :: os.flatMap (·.getD [])) → Q (.ref x) H') ∧
  (¬ ((∀ o ∈ os, o.isSome = true) ∧ isTermD (.tuple (.tuple [dw, .int rest.length] :: os.flatMap (·.getD []))) = true) → ∀ H', Same H H' → E (.ref c.X) none H')
theorem ok_T_build {f : Addr} {fd : FuncData} (F : Fun K "build" "Term.build" s_T_build f fd) (T : Txt mg) (Z : TermZ K mg c) {fd_T_init : FuncData} (G_T_init : FnOk P w K mg base (L2.CX P w) 5 c.fi fd_T_init P_T_init (spInit c)) (B_T_init : Binds K fd_T_init P_T_init [])
    {fd_T_nodes : FuncData} (G_T_nodes : FnOk P w K mg base CX0 1 c.gn fd_T_nodes P_T_nodes (spNodesT c)) (B_T_nodes : Binds K fd_T_nodes P_T_nodes []) :
    FnR P w K mg base (L2.CX P w) 8 f (fun vs H Q E => ∃ ws rest, vs = ws ++ rest ∧ ws.length = ["cls", "word"].length ∧ rest.length ≤ sizeLine ∧ ∀ p, H p = Option.none → spB0 c (ws ++ [V.ref p]) (upd H p (.tup rest)) Q E) := by
  obtain ⟨oc, od, kV, doc, pm, an, cdv, ct, osl, rfl, lk, hcd⟩ := F.ex
  refine StX.fn_star (k := 7) (sp := spB0 c) (ps := ["cls", "word"]) (pv := "terms") lk hcd sc_T_build StX.cxUp (StX.bind_star2 (B := fun us => bindArgs _ ⟨us, []⟩) (fun a b => rfl) (fun a b r rs => rfl)) (fun A outer s H vs Q E hr h => ?_)
  obtain ⟨u, p, rest, dw, os, rfl, hp, hu, ho, hz, hos, oks, qt, qf⟩ := h
  refine ⟨_, (pss_cons (ps_if (pt_not (pt_val (pe_callB (cr_all rfl) (by rfl) T.n_all (by decide +kernel) (pa_cons (pe_lc (own := [("term", 3)]) (g := gName 3) (tt := tYes) rfl sc_T_build.nd (pi_tup (pv 2)) (blkOk_by (own := [("term", 3)]) (N := ["cls", "word", "terms", "term", "inner", "node"]) (sc := (defScope s_T_build)) (by decide +kernel)) (fun _ _ _ _ _ => (pg_name (i := 3) sc_T_build.nd rfl (Or.inl rfl))) (fun _ _ _ _ _ => pts_nil) (fun _ _ _ _ _ => (pe_callB (call_isi_k (K := K) ) (by rfl) T.n_isinstance (by decide +kernel) (pa_cons (pv 3) (pa_cons (pe_glob (v := .ref c.T) rfl Z.g_T rfl) pa_nil))))) pa_nil)))) (pss_one (ps_raise (W := WR E) rfl (takes_of rfl rfl rfl rfl) (pmk_own PySem.F.excBase_ValueError Z.exc Z.g_X Z.kX (raises_own Z.subX Z.tyX) rfl))) pss_nil)
      (pss_cons (ps_setLc2 (i := 4) (own := [("term", 3), ("node", 5)]) (vs1 := [5]) (g := gName 3) (g1 := gName 5) (tt := tYes) (tt1 := tYes) rfl sc_T_build.nd rfl rfl (sw_true rfl rfl rfl (by decide +kernel)) (pi_tup (pv 2)) (blkOk_by (own := [("term", 3), ("node", 5)]) (N := ["cls", "word", "terms", "term", "inner", "node"]) (sc := (defScope s_T_build)) (by decide +kernel)) (by decide) (fun _ _ _ _ _ => (pg_name (i := 3) sc_T_build.nd rfl (Or.inl rfl))) (fun _ _ _ _ _ => pts_nil) (fun _ _ _ _ _ => (pi_tup_k (K := K) (pe_prop (pv 3) Z.cls Z.prop G_T_nodes (hr.mono (by decide)) B_T_nodes .nil pass0 rfl))) (fun _ _ _ _ _ => (pg_name (i := 5) sc_T_build.nd rfl (Or.inl rfl))) (fun _ _ _ _ _ => pts_nil) (fun _ _ _ _ _ => (pv 5)))
      (pss_one (ps_ret (pe_makeLS (i := 0) (E := WE (WR E)) Z.mkc G_T_init B_T_init (hr.mono (by decide)) rfl (Or.inl rfl) (passAt (W := WR E) (takes_of rfl rfl rfl rfl)) (pa_cons (pe_tup (pa_cons (pe_tup (pa_cons (pv 1) (pa_cons (pe_callB call_len_seq (by rfl) T.n_len (by decide +kernel) (pa_cons (pv 2) pa_nil)) pa_nil))) (StX.pa_star (pv 4) pa_nil))) pa_nil)))))), ?_⟩
  have arg : ∀ {H1 : Hp} {v : V} {o : Option (List PyData)}, Same H H1 → ArgAt c H v o → ∃ t, TyX K H1 v t ∧ PySem.W.kitOne K t (.ref c.T) = some o.isSome := fun {H1 v o} sm ao => by
    cases o with
    | some ds =>
      obtain ⟨a, dx, q, xs, rfl, ha, _⟩ := ao
      exact ⟨_, Z.ty (sm _ _ ha), Z.kitT⟩
    | none =>
      obtain ⟨d, hd⟩ := ao
      exact ⟨_, (hd.same sm).ty, Z.kit _ (tyN_mem d)⟩
  refine ⟨_, rfl, _, rfl, ⟨_, SqT.of hp⟩, fun D hD => ?_⟩
  refine lc_tup (K := K) (xs := rest) (fun i H' => Same H H' ∧ H' D = some (.lst ((os.take i).map fun o => V.bl o.isSome))) ⟨sameOf hD (fun b hb => upd_ne hb), upd_same⟩ (fun i H' _ h => SqT.of (h.1 _ _ hp)) ?_ ?_
  · rintro i y H1 hi ⟨sm, hl1⟩
    obtain ⟨o, ho1, ao⟩ := paired_get hos hi
    obtain ⟨t, ty, kt⟩ := arg sm ao
    have hi2 : i < 4 := Nat.lt_of_lt_of_le (List.getElem?_eq_some_iff.mp hi).1 hz
    refine ⟨rfl, ?_⟩
    refine ⟨_, rfl, _, _, _, _, _, rfl, .own _, ty, kt, ?_⟩
    refine ⟨_, hl1, szlt (by rw [List.length_map, List.length_take]; omega), fun b o e => ?_, ?_⟩
    · rw [upd_ne (ne_of_none e hD)]
      exact sm _ _ e
    · rw [upd_same, List.take_add_one, List.map_append, ho1]
      rfl
  · rintro H1 ⟨s1, hl1⟩
    rw [hos.length, List.take_of_length_le (Nat.le_refl _)] at hl1
    refine ⟨_, os.map (·.isSome), rfl, SqL.of (by rw [hl1, List.map_map]; rfl), _, rfl, ?_⟩
    refine ite2 (fun g => ?_) (fun g => ?_)
    · refine qf (fun z => ?_) H1 s1
      have y : (os.map (·.isSome)).all id = true := by
        rw [List.all_map]
        exact List.all_eq_true.mpr z.1
      rw [y] at g
      cases g
    · have g2 : (os.map (·.isSome)).all id = true := by
        cases z : (os.map (·.isSome)).all id with
        | true => rfl
        | false => exact absurd (by rw [z]; rfl) g
      have hsome : ∀ o ∈ os, o.isSome = true := by
        rw [List.all_map] at g2
        exact List.all_eq_true.mp g2
      have qt2 := qt hsome
      refine ⟨_, rfl, _, rfl, ⟨_, SqT.of (s1 _ _ hp)⟩, fun D2 hD2 => ?_⟩
      refine over_tup (ys := rest) (fun i H' => Same H1 H' ∧ ∃ acc, H' D2 = some (.lst acc) ∧ DxAll H acc ((os.take i).flatMap (·.getD [])) ∧ acc.length ≤ 40 * i) ⟨sameOf hD2 (fun b hb => upd_ne hb), [], upd_same, .nil, Nat.zero_le _⟩ (fun i H' z => SqT.of (z.1 _ _ (s1 _ _ hp))) ?_ ?_
      · rintro H2 ⟨s2, acc, hacc, dacc, lacc⟩
        rw [hos.length, List.take_of_length_le (Nat.le_refl _)] at dacc
        have la : acc.length ≤ 160 := Nat.le_trans lacc (by omega)
        refine ⟨rfl, _, rfl, _, rfl, _, _, rfl, .inr (SqT.of (s2 _ _ (s1 _ _ hp))), (szr rfl), fun p1 n1 => ?_⟩
        generalize g3 : upd _ p1 _ = H3; obtain ⟨e3, o3, t3⟩ := made n1 g3; clear g3
        have s3 := sameOf n1 o3
        refine ⟨_, rfl, _, _, rfl, .inr (SqL.of (s3 _ _ hacc)), szl (by rw [List.append_nil, List.length_cons]; omega), fun p2 n2 => ?_⟩
        generalize g4 : upd _ p2 _ = H4; obtain ⟨e4, o4, t4⟩ := made n2 g4; clear g4
        have s4 := sameOf n2 o4
        have s14 := ((s1.trans s2).trans s3).trans s4
        intro x dx nx ndx nxd
        have s5 : Same H4 (upd (upd H4 dx (.own x)) x (.ins c.T dx [])) := fun b o e => by
          rw [upd_ne (ne_of_none e nx), upd_ne (ne_of_none e ndx)]
          exact e
        have okn : okT (.tuple (.tuple [dw, .int rest.length] :: os.flatMap (·.getD []))) = true := by
          show (okN (.tuple [dw, .int rest.length]) && (os.flatMap (·.getD [])).all okN) = true
          rw [Bool.and_eq_true]
          refine ⟨?_, List.all_eq_true.mpr fun d hd => ?_⟩
          · show (okE dw && okE (.int rest.length)) = true
            rw [ho]
            rfl
          · obtain ⟨o, om, hd⟩ := List.mem_flatMap.mp hd
            obtain ⟨ds, rfl⟩ := Option.isSome_iff_exists.mp (hsome o om)
            exact List.all_eq_true.mp (oks _ om ds rfl).1 d hd
        rw [List.append_nil] at t4
        have dall : DxAll H4 (.ref p1 :: acc) (.tuple [dw, .int rest.length] :: os.flatMap (·.getD [])) := .cons (.tup (s4 _ _ t3) (.cons (hu.same s14) (.cons (.int _) .nil))) (DxAll.same s14 dacc)
        have dxx : Dx H4 (.ref p2) (.tuple (.tuple [dw, .int rest.length] :: os.flatMap (·.getD []))) := .tup t4 dall
        refine ⟨x, dx, _, _, rfl, upd_same, dxx.same s5, okn, fun e H' s' => ⟨rfl, ?_⟩, fun e H' s' => qf (fun z => ?_) _ ((s14.trans s5).trans s')⟩
        · have s6 := mk_same (o := .ins c.T dx [("_nodes", .ref p2)]) nx ndx s'
          exact qt2 e x dx p2 _ _ (s14.trans s6) upd_same (s6 _ _ t4) (dall.same s6)
        · rw [z.2] at e
          cases e
      · rintro i y H2 hi ⟨s2, acc, hacc, dacc, lacc⟩
        obtain ⟨o, ho1, ao⟩ := paired_get hos hi
        have hi2 : i < 4 := Nat.lt_of_lt_of_le (List.getElem?_eq_some_iff.mp hi).1 hz
        have om := List.mem_of_getElem? ho1
        obtain ⟨ds, rfl⟩ := Option.isSome_iff_exists.mp (hsome o om)
        obtain ⟨a, dx, q, xs, rfl, ha, hq, hx⟩ := ao
        have sH2 := s1.trans s2
        have lx : xs.length ≤ 40 := by rw [hx.len]; exact (oks _ om ds rfl).2
        refine ⟨rfl, ?_⟩
        refine ⟨_, rfl, _, _, _, rfl, sH2 _ _ ha, ⟨a, dx, _, rfl, sH2 _ _ ha, _, rfl, ⟨_, SqT.of (sH2 _ _ hq)⟩, ?_⟩⟩
        refine over_tup (ys := xs) (fun j H' => Same H1 H' ∧ H' D2 = some (.lst (acc ++ xs.take j))) ⟨s2, by rw [List.take_zero, List.append_nil]; exact hacc⟩ (fun j H' z => SqT.of (z.1 _ _ (s1 _ _ hq))) ?_ ?_
        · rintro H3 ⟨s3, h3⟩
          rw [List.take_of_length_le (Nat.le_refl _)] at h3
          refine ⟨s3, _, h3, ?_, by rw [List.length_append]; omega⟩
          rw [List.take_add_one, ho1, List.flatMap_append]
          exact dacc.app (by simpa using hx)
        · rintro j z H3 hj ⟨s3, h3⟩
          refine ⟨rfl, ?_⟩
          refine ⟨_, rfl, _, h3, szlt (by rw [List.length_append, List.length_take]; omega), fun b o e => ?_, ?_⟩
          · rw [upd_ne (ne_of_none e hD2)]
            exact s3 _ _ e
          · rw [upd_same, List.take_add_one, hj, List.append_assoc]
            rfl

theorem ok__law_dice {f : Addr} {fd : FuncData} (F : Fun K "_law_dice" "_law_dice" s__law_dice f fd) (T : Txt mg) (Z : TermZ K mg c) (Y : TermY K c b) : FnOk P w K mg base CX0 1 f fd P__law_dice (spDice K) := by
  refine F.ok sc__law_dice (fun vs H Q E h => ?_) (fun cdv A outer s H vs Q E hr h => ?_)
  · obtain ⟨a, ns, k, rfl, _⟩ := h
    rfl
  · obtain ⟨a, ns, k, rfl, hS, hlen, h0, hk, q⟩ := h
    refine ⟨_, (pss_cons (ps_set (i := 2) sc__law_dice.nd rfl (Or.inl rfl) (pe_op op_add (pe_op op_mul pe_int (pv 1)) pe_int))
      (pss_cons (ps_if (pt_cmpR op_lt (pv 1) (pe_callB call_len_seq (by rfl) T.n_len (by decide +kernel) (pa_cons (pv 0) pa_nil)) (nomark _)) (pss_one (ps_set (i := 2) sc__law_dice.nd rfl (Or.inl rfl) (pe_ix ix_list (pv 0) (pv 1) (fun _ _ => rfl)))) pss_nil)
      (pss_cons (ps_set (i := 3) sc__law_dice.nd rfl (Or.inl rfl) (pe_op op_mod (pe_callTy call_int1 (by rfl) T.n_int (by decide +kernel) (pa_cons (pe_callB call_abs (by rfl) T.n_abs (by decide +kernel) (pa_cons (pv 2) pa_nil)) pa_nil)) (pe_op op_powW (pe_op op_powW pe_int pe_int) pe_int)))
      (pss_cons (ps_set (i := 4) sc__law_dice.nd rfl (Or.inl rfl) (pe_op op_add (pe_op op_add (pe_op op_add (pe_op op_mul (pe_op op_mod (pe_callTy call_int1 (by rfl) T.n_int (by decide +kernel) (pa_cons (pv 3) pa_nil)) pe_int) pe_int) (pe_op op_mul pe_int (pv 1))) (pe_op op_mul pe_int (pe_callTy call_int1 (by rfl) T.n_int (by decide +kernel) (pa_cons (pe_cmpR op_lt (pv 2) pe_int (nomark _)) pa_nil)))) pe_int))
      (pss_one (ps_ret (pe_lst (pa_cons (pe_callB (call_max2 rfl) (by rfl) T.n_max (by decide +kernel) (pa_cons pe_int (pa_cons (pe_op op_sub (pv 3) (pe_op op_powW pe_int pe_int)) pa_nil))) (pa_cons (pe_op op_mod (pe_callTy call_int1 (by rfl) T.n_int (by decide +kernel) (pa_cons (pv 4) pa_nil)) pe_int) (pa_cons pe_int pa_nil)))))))))), ?_⟩
    refine ⟨_, rfl, _, _, rfl, rfl, mulL (by decide), _, _, rfl, rfl, ?_⟩
    refine ⟨_, rfl, _, rfl, _, _, rfl, .inl hS, _, _, rfl, rfl, _, rfl, ?_⟩
    refine ite2 (fun hc => ?_) (fun hc => ?_)
    · have hc' := of_decide_eq_true hc
      rw [List.length_map] at hc'
      obtain ⟨c, hat⟩ := script_at h0 hc'
      refine ⟨_, rfl, _, rfl, _, _, _, _, rfl, rfl, hS, hat, ?_⟩
      refine ⟨_, rfl, _, rfl, .inl ⟨_, rfl, _, _, rfl, rfl, (powOk (by decide +kernel)), _, _, rfl, rfl, (powOk (by decide +kernel)), _, _, rfl, rfl, (modc (by decide +kernel)), ?_⟩⟩
      refine ⟨_, rfl, .inl ⟨_, rfl, _, _, rfl, rfl, (modc (by decide)), _, _, rfl, rfl, mulR (by decide), _, rfl, _, _, rfl, rfl, mulL (by decide), _, _, rfl, rfl, _, rfl, _, _, rfl, rfl, .inr ⟨_, rfl, _, _, rfl, rfl, mulL (by decide), _, _, rfl, rfl, _, _, rfl, rfl, ?_⟩⟩⟩
      refine ⟨_, rfl, _, _, rfl, rfl, (powOk (by decide +kernel)), _, _, rfl, rfl, _, _, rfl, _, rfl, .inl ⟨_, rfl, _, _, rfl, rfl, (modc (by decide)), (szr rfl), fun p hp => ?_⟩⟩
      exact q p _ hp (Ev2.new hp) (fun _ hb => upd_ne hb) ⟨_, _, _, upd_same⟩
    · generalize 53 * k + 29 = c
      refine ⟨_, rfl, _, rfl, .inl ⟨_, rfl, _, _, rfl, rfl, (powOk (by decide +kernel)), _, _, rfl, rfl, (powOk (by decide +kernel)), _, _, rfl, rfl, (modc (by decide +kernel)), ?_⟩⟩
      refine ⟨_, rfl, .inl ⟨_, rfl, _, _, rfl, rfl, (modc (by decide)), _, _, rfl, rfl, mulR (by decide), _, rfl, _, _, rfl, rfl, mulL (by decide), _, _, rfl, rfl, _, rfl, _, _, rfl, rfl, .inr ⟨_, rfl, _, _, rfl, rfl, mulL (by decide), _, _, rfl, rfl, _, _, rfl, rfl, ?_⟩⟩⟩
      refine ⟨_, rfl, _, _, rfl, rfl, (powOk (by decide +kernel)), _, _, rfl, rfl, _, _, rfl, _, rfl, .inl ⟨_, rfl, _, _, rfl, rfl, (modc (by decide)), (szr rfl), fun p hp => ?_⟩⟩
      exact q p _ hp (Ev2.new hp) (fun _ hb => upd_ne hb) ⟨_, _, _, upd_same⟩
theorem ok__law_roll {f : Addr} {fd : FuncData} (F : Fun K "_law_roll" "_law_roll" s__law_roll f fd) (T : Txt mg) (Z : TermZ K mg c) (Y : TermY K c b) : FnOk P w K mg base CX0 1 f fd P__law_roll spRoll := by
  refine F.ok sc__law_roll (fun vs H Q E h => ?_) (fun cdv A outer s H vs Q E hr h => ?_)
  · obtain ⟨p, n, rfl, _⟩ := h
    rfl
  · obtain ⟨p, n, rfl, hd, h0, hn, q⟩ := h
    obtain ⟨x, y, z, hp⟩ := id hd
    have a0 : ∀ x y z : Int, atI [V.int x, .int y, .int z] 0 = some (.int x) := fun _ _ _ => rfl
    have a1 : ∀ x y z : Int, atI [V.int x, .int y, .int z] 1 = some (.int y) := fun _ _ _ => rfl
    have a2 : ∀ x y z : Int, atI [V.int x, .int y, .int z] 2 = some (.int z) := fun _ _ _ => rfl
    refine ⟨_, (pss_cons (ps_if (pt_cmpR op_gt (pe_ix ix_list (pv 0) pe_int (fun _ _ => rfl)) pe_int (nomark _)) (pss_cons (ps_set (i := 2) sc__law_roll.nd rfl (Or.inl rfl) (pe_op op_mod (pe_callTy call_int1 (by rfl) T.n_int (by decide +kernel) (pa_cons (pe_ix ix_list (pv 0) pe_int (fun _ _ => rfl)) pa_nil)) (pv 1)))
      (pss_cons (ps_asg (pe_op op_fdiv (pe_ix ix_list (pv 0) pe_int (fun _ _ => rfl)) (pv 1)) (pg_sub (pv 0) pe_int set_list))
      (pss_one (ps_ret (pv 2))))) pss_nil)
      (pss_cons (ps_asg (pe_op op_add (pe_ix ix_list (pv 0) pe_int (fun _ _ => rfl)) pe_int) (pg_sub (pv 0) pe_int set_list))
      (pss_cons (ps_set (i := 3) sc__law_roll.nd rfl (Or.inl rfl) (pe_op op_mod (pe_callTy call_int1 (by rfl) T.n_int (by decide +kernel) (pa_cons (pe_op op_add (pe_ix ix_list (pv 0) pe_int (fun _ _ => rfl)) (pe_op op_mul pe_int (pe_ix ix_list (pv 0) pe_int (fun _ _ => rfl)))) pa_nil)) pe_int))
      (pss_cons (ps_set (i := 4) sc__law_roll.nd rfl (Or.inl rfl) (pe_op op_add (pe_op op_mul (pe_op op_mod (pe_callTy call_int1 (by rfl) T.n_int (by decide +kernel) (pa_cons (pe_op op_mul (pv 3) (pv 3)) pa_nil)) pe_int) (pv 3)) (pe_op op_mul pe_int (pe_ix ix_list (pv 0) pe_int (fun _ _ => rfl)))))
      (pss_cons (ps_set (i := 4) sc__law_roll.nd rfl (Or.inl rfl) (pe_op op_mod (pe_callTy call_int1 (by rfl) T.n_int (by decide +kernel) (pa_cons (pv 4) pa_nil)) pe_int))
      (pss_one (ps_ret (pe_op op_mod (pe_callTy call_int1 (by rfl) T.n_int (by decide +kernel) (pa_cons (pe_op op_fdiv (pv 4) pe_int) pa_nil)) (pv 1))))))))), ?_⟩
    refine ⟨_, rfl, _, _, _, _, rfl, rfl, SqL.of hp, a0 _ _ _, _, _, rfl, rfl, _, rfl, ?_⟩
    refine ite2 (fun hc => ?_) (fun hc => ?_)
    · refine ⟨_, rfl, _, _, _, _, rfl, rfl, SqL.of hp, a0 _ _ _, .inl ⟨_, rfl, _, rfl, _, _, rfl, rfl, (modc h0), ?_⟩⟩
      refine ⟨_, rfl, _, _, _, _, rfl, rfl, SqL.of hp, a0 _ _ _, _, rfl, _, _, rfl, rfl, ⟨h0, by omega⟩, _, rfl, _, _, _, _, rfl, rfl, hp, rfl, ?_⟩
      refine ⟨_, rfl, ?_⟩
      exact q _ _ (Int.emod_nonneg _ (by omega)) (Int.emod_lt_of_pos _ h0) (hd.set _ _ _).1 (hd.set _ _ _).2.1 (hd.set _ _ _).2.2
    · refine ⟨_, rfl, _, _, _, _, rfl, rfl, SqL.of hp, a2 _ _ _, _, _, rfl, rfl, _, rfl, _, _, _, _, rfl, rfl, hp, rfl, ?_⟩
      have hp2 : (upd H p (dl x y (z + 1))) p = some (dl x y (z + 1)) := upd_same
      refine ⟨_, rfl, _, _, _, _, rfl, rfl, SqL.of hp2, a1 _ _ _, _, rfl, _, _, _, _, rfl, rfl, SqL.of hp2, a2 _ _ _, _, _, rfl, rfl, mulL (by decide), _, _, rfl, rfl, .inl ⟨_, rfl, _, _, rfl, rfl, (modc (by decide)), ?_⟩⟩
      have b1 := Int.emod_nonneg (y + 998244341 * (z + 1)) (b := 2305843009213693951) (by decide)
      have b2 := Int.emod_lt_of_pos (y + 998244341 * (z + 1)) (b := 2305843009213693951) (by decide)
      generalize (y + 998244341 * (z + 1)) % 2305843009213693951 = one at b1 b2
      refine ⟨_, rfl, _, rfl, _, _, rfl, rfl, mulL (by omega), .inl ⟨_, rfl, _, _, rfl, rfl, (modc (by decide)), _, rfl, _, _, rfl, rfl, mulR (by omega), _, rfl, _, _, _, _, rfl, rfl, SqL.of hp2, a2 _ _ _, _, _, rfl, rfl, mulL (by decide), _, _, rfl, rfl, ?_⟩⟩
      refine ⟨_, rfl, .inl ⟨_, rfl, _, _, rfl, rfl, (modc (by decide)), ?_⟩⟩
      refine ⟨_, rfl, _, _, rfl, rfl, ⟨by decide, by decide⟩, .inl ⟨_, rfl, _, rfl, _, _, rfl, rfl, (modc h0), ?_⟩⟩
      exact q _ _ (Int.emod_nonneg _ (by omega)) (Int.emod_lt_of_pos _ h0) (hd.set _ _ _).1 (hd.set _ _ _).2.1 (hd.set _ _ _).2.2
theorem ok__law_pick {f : Addr} {fd : FuncData} (F : Fun K "_law_pick" "_law_pick" s__law_pick f fd) (T : Txt mg) (Z : TermZ K mg c) (Y : TermY K c b) {f__law_roll : Addr} {fd__law_roll : FuncData} (G__law_roll : FnOk P w K mg base CX0 1 f__law_roll fd__law_roll P__law_roll spRoll) (C__law_roll : Cal K mg "_law_roll" f__law_roll fd__law_roll P__law_roll) : FnOk P w K mg base CX0 2 f fd P__law_pick (spPick K) := by
  refine F.ok sc__law_pick (fun vs H Q E h => ?_) (fun cdv A outer s H vs Q E hr h => ?_)
  · obtain ⟨p, a, xs, rfl, _⟩ := h
    rfl
  · obtain ⟨p, a, xs, rfl, hp, hS, hS2, h0, hn, q⟩ := h
    refine ⟨_, (pss_one (ps_ret (pe_ix ix_list (pv 1) (pe_call G__law_roll (hr.mono (by decide)) rfl C__law_roll.m C__law_roll.k C__law_roll.b .nil pass0 (pa_cons (pv 0) (pa_cons (pe_callB call_len_seq (by rfl) T.n_len (by decide +kernel) (pa_cons (pv 1) pa_nil)) pa_nil))) (fun _ _ => rfl)))), ?_⟩
    refine ⟨_, rfl, _, rfl, _, rfl, _, _, rfl, .inl hS, ?_⟩
    refine ⟨p, _, rfl, hp, by omega, by omega, fun r H' r0 r1 e1 o1 d1 => ?_⟩
    have hlt : r.toNat < xs.length := by omega
    have hat : atI xs ((r.toNat : Nat) : Int) = some xs[r.toNat] := atI_nat (List.getElem?_eq_getElem hlt)
    rw [show ((r.toNat : Nat) : Int) = r by omega] at hat
    exact ⟨_, _, _, _, rfl, rfl, hS2 _ e1 o1, hat, q _ _ _ (List.getElem?_eq_getElem hlt) e1 o1 d1⟩

def pairD : PyData → Str × Int
  | .tuple [.str x, .int k] => (x, k)
  | _ => ("", 0)
/-! ### the text of a row of nodes -/
def spText (K : PySem.W.Frag) : Sp := fun vs H Q _ => ∃ (a : Addr) (xs : List V) (ds : List PyData), vs = [.ref a] ∧ H a = some (.tup xs) ∧ DxAll H xs ds ∧ (∀ d ∈ ds, isNodeD d = true) ∧ ds.length ≤ 40 ∧ ds ≠ [] ∧
  ∀ (t : Str) (H' : Hp), Same H H' → (textsF (ds.map pairD)).head? = some t → Q (.str t) H'
set_option hygiene false in
local macro_rules | `(tactic| walk_at "txtEnd") => `(tactic| (
  refine ⟨_, rfl, (szr rfl), fun p3 n3 => ?_⟩
  generalize g3 : L2.upd _ p3 _ = H5; obtain ⟨e3, o3, t3⟩ := made n3 g3; clear g3
  have s5 := sameOf n3 o3
  refine ⟨_, rfl, _, rfl, _, rfl, r, _, rfl, SqL.of (s5 _ _ (s4 _ _ hr)), fun c2 nc2 => ?_⟩
  generalize gc2 : L2.upd _ c2 _ = H6; obtain ⟨ec2, oc2, tc2⟩ := made nc2 gc2; clear gc2
  rw [cut_tail k0, ← List.map_drop] at tc2
  have s6 := sameOf nc2 oc2
  refine ⟨_, _, _, _, rfl, rfl, s6 _ _ t3, tc2, z1 (by rw [List.length_map, List.length_drop, List.length_singleton]; omega), fun p4 n4 => ?_⟩
  generalize g4 : L2.upd _ p4 _ = H7; obtain ⟨e4, o4, t4⟩ := made n4 g4; clear g4
  have s37 := ((s4.trans s5).trans s6).trans (sameOf n4 o4)
  refine ⟨s3.trans s37, s37 _ _ h3, p4, _, _, _, _, rfl, ?_⟩
  rw [nx]
  exact t4))
theorem ok_text_of {f : Addr} {fd : FuncData} (F : Fun K "text_of" "text_of" s_text_of f fd) (T : Txt mg) (Z : TermZ K mg c) (Y : TermY K c b) : FnOk P w K mg base CX0 1 f fd P_text_of (spText K) := by
  refine F.ok sc_text_of (fun vs H Q E h => ?_) (fun cdv A outer s H vs Q E hr h => ?_)
  · obtain ⟨a, xs, ds, rfl, _⟩ := h
    rfl
  · obtain ⟨a, xs, ds, rfl, ha, hx, hn, hz, h0, q⟩ := h
    refine ⟨_, (pss_cons (ps_set (i := 1) sc_text_of.nd rfl (Or.inl rfl) (pe_lst pa_nil))
      (pss_cons (ps_for PassesOwn.never rfl (pi_reversed (by rfl) T.n_reversed (pa_cons (pe_callTy call_list_of (by rfl) T.n_list (by decide +kernel) (pa_cons (pv 0) pa_nil)) pa_nil)) (pg_tup rfl (pgs_cons (pg_name (i := 2) sc_text_of.nd rfl (Or.inl rfl)) (pgs_cons (pg_name (i := 3) sc_text_of.nd rfl (Or.inl rfl)) pgs_nil))) (pss_cons (ps_set (i := 4) sc_text_of.nd rfl (Or.inl rfl) (pe_join pe_str (pe_slice sl_list (pv 1) po_none (po_some (pv 3)))))
      (pss_cons (ps_set (i := 5) sc_text_of.nd rfl (Or.inl rfl) (pe_ifExp (pt_cmpR op_gt (pv 3) pe_int (nomark _)) (pe_joined (PJ.cons (pe_fmt (pv 2)) (PJ.cons pe_str (PJ.cons (pe_fmt (pv 4)) (PJ.cons pe_str PJ.nil))))) (pv 2)))
      (pss_one (ps_set (i := 1) sc_text_of.nd rfl (Or.inl rfl) (pe_op op_cat (pe_lst (pa_cons (pv 5) pa_nil)) (pe_slice sl_list (pv 1) (po_some (pv 3)) po_none)))))))
      (pss_one (ps_ret (pe_ix ix_list (pv 1) pe_int (fun _ _ => rfl)))))), ?_⟩
    have lx : xs.length = ds.length := hx.len
    refine ⟨(szr rfl), fun p1 n1 => ?_⟩
    generalize g1 : L2.upd _ p1 _ = H1; obtain ⟨e1, o1, t1⟩ := made n1 g1; clear g1
    have s1 := sameOf n1 o1
    refine ⟨_, rfl, _, _, rfl, .inr (SqT.of (s1 _ _ ha)), fun p2 n2 => ?_⟩
    generalize g2 : L2.upd _ p2 _ = H2; obtain ⟨e2, o2, t2⟩ := made n2 g2; clear g2
    have s2 := s1.trans (sameOf n2 o2)
    have wb : ∀ d ∈ ds, wOf (pairD d) ≤ 16 := fun d hd => by
      have nd := hn d hd
      obtain ⟨x, k, rfl, k0, k3⟩ := node_shape nd
      have := node_len nd
      show x.length + 2 + 2 * k.toNat ≤ 16
      omega
    have wsum : ∀ es : List PyData, (∀ e ∈ es, e ∈ ds) → ((es.map pairD).map wOf).sum ≤ es.length * 16 := fun es he => by
      induction es with
      | nil => exact Nat.zero_le _
      | cons e es ih =>
        have a := wb e (he e List.mem_cons_self)
        have b := ih fun x hx => he x (List.mem_cons_of_mem _ hx)
        rw [List.map_cons, List.map_cons, List.sum_cons, List.length_cons, Nat.succ_mul]
        omega
    refine ⟨_, _, rfl, SqL.of t2, ?_⟩
    refine for_it (walk_rev (K := K) (a := p2) (xs := xs)) (fun i σ H' => Same H H' ∧ H' p2 = some (.lst xs) ∧ ∃ (r : Addr) (a2 a3 a4 a5 : Option V), σ = [some (.ref a), some (.ref r), a2, a3, a4, a5] ∧ H' r = some (.lst ((textsF ((ds.drop (ds.length - i)).map pairD)).map V.str)))
      ⟨s2, t2, p1, none, none, none, none, rfl, by rw [Nat.sub_zero, List.drop_length]; exact (sameOf n2 o2) _ _ t1⟩ (fun i σ H' _ z => SqL.of z.2.1) ?_ ?_
    · rintro i y σ H3 H3' hi ⟨s3, h3, r, a2, a3, a4, a5, rfl, hr⟩ ⟨rfl, hy⟩
      rw [lx] at hy hi
      have hi' : ds.length - 1 - i < ds.length := by omega
      obtain ⟨d, hd, xd⟩ := hx.get hy
      have dm := List.mem_of_getElem? hd
      obtain ⟨x, k, rfl, k0, k3⟩ := node_shape (hn d dm)
      have ed : ds.drop (ds.length - (i + 1)) = .tuple [.str x, .int k] :: ds.drop (ds.length - i) := by
        have e1 : ds.length - (i + 1) = ds.length - 1 - i := by omega
        rw [e1, List.drop_eq_getElem_cons hi', show ds.length - 1 - i + 1 = ds.length - i by omega]
        rw [List.getElem?_eq_getElem hi'] at hd
        rw [Option.some.inj hd]
      cases xd with
      | @tup cc _ _ hc h2 =>
        cases h2 with
        | cons b1 h2 =>
          cases h2 with
          | cons b2 h2 =>
            cases h2
            cases b1
            cases b2
            refine ⟨_, _, rfl, SqT.of (s3 _ _ hc), rfl, _, _, rfl, _, _, rfl, rfl, ?_⟩
            have bound : sumL (textsF ((ds.drop (ds.length - i)).map pairD)) ≤ 640 := by
              have a := texts_sum ((ds.drop (ds.length - i)).map pairD)
              have b := wsum (ds.drop (ds.length - i)) fun e he => List.mem_of_mem_drop he
              rw [List.length_drop] at b
              omega
            have cut := sumL_cut k.toNat (textsF ((ds.drop (ds.length - i)).map pairD))
            refine ⟨⟨_, rfl⟩, _, rfl, _, rfl, _, rfl, r, _, rfl, SqL.of hr, fun c1 nc1 => ?_⟩
            generalize gc1 : L2.upd _ c1 _ = H4; obtain ⟨ec1, oc1, tc1⟩ := made nc1 gc1; clear gc1
            rw [cut_head k0, ← List.map_take] at tc1
            have s4 := sameOf nc1 oc1
            have tkl : ((textsF ((ds.drop (ds.length - i)).map pairD)).take k.toNat).length ≤ 3 := by
              rw [List.length_take]
              omega
            have tkS : (((textsF ((ds.drop (ds.length - i)).map pairD)).take k.toNat).map (·.length)).sum ≤ 640 := by
              have : sumL ((textsF ((ds.drop (ds.length - i)).map pairD)).take k.toNat) ≤ 640 := by omega
              exact this
            have tlen : (textsF ((ds.drop (ds.length - i)).map pairD)).length ≤ 1000 := by
              have := texts_len ((ds.drop (ds.length - i)).map pairD)
              rw [List.length_map, List.length_drop] at this
              omega
            have xl : x.length ≤ 100 := by
              have := wb _ dm
              have e : wOf (pairD (.tuple [.str x, .int k])) = x.length + 2 + 2 * k.toNat := rfl
              omega
            have l2 : ((", " : Str)).length = 2 := by decide +kernel
            have jl : (Txt.join ", " ((textsF ((ds.drop (ds.length - i)).map pairD)).take k.toNat)).length ≤ 646 := by
              rw [TL.join_eq]
              have := StrLaws.join_length_le (", " : Str) ((textsF ((ds.drop (ds.length - i)).map pairD)).take k.toNat)
              rw [l2] at this
              omega
            refine ⟨_, _, _, rfl, rfl, (.inl (SqL.of tc1)), by rw [l2]; omega, ?_⟩
            refine ⟨_, rfl, _, _, rfl, rfl, _, rfl, ?_⟩
            have nx : textsF ((ds.drop (ds.length - (i + 1))).map pairD) = (if decide (k > 0) = true then x ++ "(" ++ Txt.join ", " ((textsF ((ds.drop (ds.length - i)).map pairD)).take k.toNat) ++ ")" else x) :: (textsF ((ds.drop (ds.length - i)).map pairD)).drop k.toNat := by
              rw [ed]
              rfl
            have lp : (("(" : Str)).length = 1 := by decide +kernel
            have lq : ((")" : Str)).length = 1 := by decide +kernel
            have z1 : ∀ {n : Nat}, n ≤ 100000 → n ≤ sizeLine := fun h => Nat.le_trans h (by decide)
            refine ite2 (fun g => ?_) (fun g => ?_)
            · rw [if_pos g] at nx
              refine ⟨_, rfl, .inl ⟨_, rfl, z1 (by omega), _, rfl, z1 (by rw [Str.empty_append]; omega), _, rfl, z1 (by rw [Str.empty_append, strLen_append, lp]; omega), _, rfl, .inl ⟨_, rfl, z1 (by omega), _, rfl, z1 (by rw [Str.empty_append, strLen_append, strLen_append, lp]; omega), _, rfl, z1 (by rw [Str.empty_append, strLen_append, strLen_append, strLen_append, lp, lq]; omega), ?_⟩⟩⟩
              rw [Str.empty_append]
              walk_at "txtEnd"
            · rw [if_neg g] at nx
              refine ⟨_, rfl, ?_⟩
              walk_at "txtEnd"
    · rintro σ H3 ⟨s3, h3, r, a2, a3, a4, a5, rfl, hr⟩
      rw [lx, Nat.sub_self, List.drop_zero] at hr
      obtain ⟨d, es, rfl⟩ : ∃ d es, ds = d :: es := by
        cases ds with
        | nil => exact absurd rfl h0
        | cons d es => exact ⟨d, es, rfl⟩
      obtain ⟨x, k, rfl, _⟩ := node_shape (hn d List.mem_cons_self)
      obtain ⟨t, ts, eT⟩ : ∃ t ts, textsF ((PyData.tuple [.str x, .int k] :: es).map pairD) = t :: ts := ⟨_, _, rfl⟩
      rw [eT] at hr
      refine ⟨_, rfl, _, _, _, _, rfl, rfl, SqL.of hr, (show atI (List.map V.str (t :: ts)) ((0 : Nat) : Int) = some (V.str t) from atI_nat rfl), ?_⟩
      exact q t H3 s3 (by rw [eT]; rfl)

/-! ### the places of the arguments, and those above -/
/-- where k parts begin, the first of them at a place -/
def argP (ms : List Int) : Nat → Nat → Option (List Nat)
  | 0, _ => some []
  | k + 1, at_ => (walkT 1 (ms.drop at_)).bind fun n => (argP ms k (at_ + n)).map (at_ :: ·)
def spArgs (K : PySem.W.Frag) : Sp := fun vs H Q _ => ∃ (a : Addr) (xs : List V) (ms : List Int) (p : Nat) (k : Int) (l : List Nat), vs = [.ref a, .int (p : Int)] ∧ SqT K H a xs ∧ (∀ H', Same H H' → SqT K H' a xs) ∧ RowsOf H xs ms ∧ (∀ k ∈ ms, 0 ≤ k) ∧ ms.length ≤ 1000 ∧ ms[p]? = some k ∧ k ≤ 1000 ∧ argP ms k.toNat (p + 1) = some l ∧
  ∀ (b : Addr) (H' : Hp), Same H H' → H b = none → H' b = some (.tup (l.map fun n => V.int (n : Nat))) → Q (.ref b) H'
theorem RowsOf.same {H H' : Hp} {xs : List V} {ms : List Int} (s : Same H H') (h : RowsOf H xs ms) : RowsOf H' xs ms := ⟨h.1, fun i x m h1 h2 => by
  obtain ⟨t, u, e, z⟩ := h.2 i x m h1 h2
  exact ⟨t, u, e, s _ _ z⟩⟩
theorem RowsOf.at_ {H : Hp} {xs : List V} {ms : List Int} {p : Nat} {k : Int} (h : RowsOf H xs ms) (e : ms[p]? = some k) : ∃ (t : Addr) (u : V), xs[p]? = some (.ref t) ∧ H t = some (.tup [u, .int k]) := by
  have hp : p < xs.length := by
    rw [h.1]
    exact (List.getElem?_eq_some_iff.mp e).1
  obtain ⟨t, u, e1, e2⟩ := h.2 p _ k (List.getElem?_eq_getElem hp) e
  exact ⟨t, u, by rw [List.getElem?_eq_getElem hp, e1], e2⟩
theorem ok_arguments_at {f : Addr} {fd : FuncData} (F : Fun K "arguments_at" "arguments_at" s_arguments_at f fd) (T : Txt mg) (Z : TermZ K mg c) (Y : TermY K c b) {f_part_end : Addr} {fd_part_end : FuncData} (G_part_end : FnOk P w K mg base CX0 1 f_part_end fd_part_end P_part_end (spEnd K)) (C_part_end : Cal K mg "part_end" f_part_end fd_part_end P_part_end) : FnOk P w K mg base CX0 2 f fd P_arguments_at (spArgs K) := by
  refine F.ok sc_arguments_at (fun vs H Q E h => ?_) (fun cdv A outer s H vs Q E hr h => ?_)
  · obtain ⟨a, xs, ms, p, k, l, rfl, _⟩ := h
    rfl
  · obtain ⟨a, xs, ms, p, k, l, rfl, hS, hS2, hR, h0, hz, hk, hk3, hl, q⟩ := h
    refine ⟨_, (pss_cons (ps_set (i := 2) sc_arguments_at.nd rfl (Or.inl rfl) (pe_lst pa_nil))
      (pss_cons (ps_set (i := 3) sc_arguments_at.nd rfl (Or.inl rfl) (pe_op op_add (pv 1) pe_int))
      (pss_cons (ps_for PassesOwn.never rfl (pi_range1 (by rfl) T.n_range (pa_cons (pe_ix ix_tup (pe_ix ix_tup (pv 0) (pv 1) (fun _ _ => rfl)) pe_int (fun _ _ => rfl)) pa_nil)) (pg_name (i := 4) sc_arguments_at.nd rfl (Or.inl rfl)) (pss_cons (ps_expr (pe_bm PySem.F.plainAttrs_list PySem.F.slot_list_append PySem.F.type_list_append mt_append (pv 2) (pa_cons (pv 3) pa_nil)))
      (pss_one (ps_set (i := 3) sc_arguments_at.nd rfl (Or.inl rfl) (pe_call G_part_end (hr.mono (by decide)) rfl C_part_end.m C_part_end.k C_part_end.b .nil pass0 (pa_cons (pv 0) (pa_cons (pv 3) pa_nil)))))))
      (pss_one (ps_ret (pe_callTy call_tuple_of (by rfl) T.n_tuple (by decide +kernel) (pa_cons (pv 2) pa_nil))))))), ?_⟩
    refine ⟨(szr rfl), fun p1 n1 => ?_⟩
    generalize g1 : L2.upd _ p1 _ = H1; obtain ⟨e1, o1, t1⟩ := made n1 g1; clear g1
    have s1 := sameOf n1 o1
    obtain ⟨t, u, ht, hut⟩ := hR.at_ hk
    refine ⟨_, rfl, _, _, rfl, rfl, ?_⟩
    refine ⟨_, rfl, _, rfl, _, _, _, _, rfl, rfl, hS2 _ s1, atI_nat ht, _, _, _, _, rfl, rfl, SqT.of (s1 _ _ hut), rfl, _, rfl, ?_⟩
    have k0 : 0 ≤ k := h0 k (List.mem_of_getElem? hk)
    refine ⟨by omega, by omega, ?_⟩
    refine for_range (lo := 0) (n := k.toNat) (fun j σ H' => (∀ b o, b ≠ p1 → H1 b = some o → H' b = some o) ∧ ∃ (at_ : Nat) (acc rest : List Nat) (a4 : Option V), σ = [some (.ref a), some (.int (p : Int)), some (.ref p1), some (.int (at_ : Int)), a4] ∧ H' p1 = some (.lst (acc.map fun n => V.int (n : Nat))) ∧ argP ms (k.toNat - j) at_ = some rest ∧ acc ++ rest = l ∧ acc.length = j)
      ⟨fun _ _ _ e => e, p + 1, [], l, none, rfl, t1, by rw [Nat.sub_zero]; exact hl, rfl, rfl⟩ ?_ ?_
    · rintro j σ H2 hj ⟨k2, at_, acc, rest, a4, rfl, h2, hA, hl2, lacc⟩
      have s2 : Same H H2 := fun b o e => k2 b o (ne_of_none e n1) (s1 _ _ e)
      have ek : k.toNat - j = (k.toNat - (j + 1)) + 1 := by omega
      rw [ek] at hA
      obtain ⟨n, hn, hA⟩ := Option.bind_eq_some_iff.mp (show (walkT 1 (ms.drop at_)).bind (fun n => (argP ms (k.toNat - (j + 1)) (at_ + n)).map (at_ :: ·)) = some rest from hA)
      obtain ⟨rest', hr', rfl⟩ := Option.map_eq_some_iff.mp hA
      refine ⟨_, rfl, (.inl ⟨rfl, _, SqL.of h2⟩), _, rfl, _, _, _, rfl, rfl, h2, szlt (by rw [List.length_map]; omega), ?_⟩
      generalize g3 : L2.upd H2 p1 _ = H3
      have h3 : H3 p1 = some (.lst ((acc.map fun n => V.int (n : Nat)) ++ [V.int (at_ : Nat)])) := by
        rw [← g3, upd_same]
      have k3 : ∀ b o, b ≠ p1 → H1 b = some o → H3 b = some o := fun b o nb e => by
        rw [← g3, upd_ne nb]
        exact k2 b o nb e
      have s3 : Same H H3 := fun b o e => k3 b o (ne_of_none e n1) (s1 _ _ e)
      refine ⟨_, rfl, _, rfl, ?_⟩
      refine ⟨a, xs, ms, at_, n, rfl, hS2 _ s3, hR.same s3, h0, hn, ?_⟩
      refine ⟨k3, at_ + n, acc ++ [at_], rest', _, rfl, by rw [List.map_append]; exact h3, hr', by rw [List.append_assoc]; exact hl2, by rw [List.length_append, lacc]; rfl⟩
    · rintro σ H2 ⟨k2, at_, acc, rest, a4, rfl, h2, hA, hl2, lacc⟩
      rw [Nat.sub_self] at hA
      cases (show some [] = some rest from hA)
      rw [List.append_nil] at hl2
      subst hl2
      have s2 : Same H H2 := fun b o e => k2 b o (ne_of_none e n1) (s1 _ _ e)
      refine ⟨_, rfl, _, _, rfl, .inl ⟨SqL.of h2, fun p2 n2 => ?_⟩⟩
      generalize g2 : L2.upd _ p2 _ = H3; obtain ⟨e3, o3, t3⟩ := made n2 g2; clear g2
      have s3 := s2.trans (sameOf n2 o3)
      refine q p2 H3 s3 ?_ t3
      cases z : H p2 with
      | none => rfl
      | some o => rw [s2 _ _ z] at n2; cases n2
def endT (ms : List Int) (i : Nat) : Nat := i + (walkT 1 (ms.drop i)).getD 0
def aboveT (ms : List Int) (p n : Nat) : List Nat := (List.range n).filter fun i => decide (endT ms i > p)
def spAbove (K : PySem.W.Frag) : Sp := fun vs H Q _ => ∃ (a : Addr) (xs : List V) (ms : List Int) (p : Nat), vs = [.ref a, .int (p : Int)] ∧ SqT K H a xs ∧ (∀ H', Same H H' → SqT K H' a xs) ∧ RowsOf H xs ms ∧ (∀ k ∈ ms, 0 ≤ k) ∧ p ≤ 1000 ∧ (∀ i, i ≤ p → ∃ n, walkT 1 (ms.drop i) = some n) ∧
  ∀ (b : Addr) (H' : Hp), Same H H' → H b = none → H' b = some (.tup ((aboveT ms p (p + 1)).map fun n => V.int (n : Nat))) → Q (.ref b) H'
theorem ok_places_above {f : Addr} {fd : FuncData} (F : Fun K "places_above" "places_above" s_places_above f fd) (T : Txt mg) (Z : TermZ K mg c) (Y : TermY K c b) {f_part_end : Addr} {fd_part_end : FuncData} (G_part_end : FnOk P w K mg base CX0 1 f_part_end fd_part_end P_part_end (spEnd K)) (C_part_end : Cal K mg "part_end" f_part_end fd_part_end P_part_end) : FnOk P w K mg base CX0 2 f fd P_places_above (spAbove K) := by
  refine F.ok sc_places_above (fun vs H Q E h => ?_) (fun cdv A outer s H vs Q E hr h => ?_)
  · obtain ⟨a, xs, ms, p, rfl, _⟩ := h
    rfl
  · obtain ⟨a, xs, ms, p, rfl, hS, hS2, hR, h0, hz, hw, q⟩ := h
    refine ⟨_, (pss_one (ps_ret (pe_callTy call_tuple_of (by rfl) T.n_tuple (by decide +kernel) (pa_cons (pe_lc (own := [("at", 2)]) (g := gName 2) rfl sc_places_above.nd (pi_range1 (by rfl) T.n_range (pa_cons (pe_op op_add (pv 1) pe_int) pa_nil)) (blkOk_by (own := [("at", 2)]) (N := ["nodes", "place", "at"]) (sc := (defScope s_places_above)) (by decide +kernel)) (fun _ _ _ _ _ => (pg_name (i := 2) sc_places_above.nd rfl (Or.inl rfl))) (fun _ _ _ _ _ => (pts_one (pt_cmpR op_gt (pe_call G_part_end (hr.mono (by decide)) rfl C_part_end.m C_part_end.k C_part_end.b .nil pass0 (pa_cons (pv 0) (pa_cons (pv 2) pa_nil))) (pv 1) (nomark _)))) (fun _ _ _ _ _ => (pv 2))) pa_nil)))), ?_⟩
    refine ⟨_, rfl, _, _, rfl, rfl, _, rfl, by omega, by omega, fun D hD => ?_⟩
    refine lc_range (lo := 0) (n := ((p : Int) + 1).toNat) (fun i H' => Same H H' ∧ H' D = some (.lst ((aboveT ms p i).map fun n => V.int (n : Nat)))) ⟨sameOf hD (fun b hb => upd_ne hb), upd_same⟩ ?_ ?_
    · rintro i H1 hi ⟨s1, h1⟩
      obtain ⟨n, hn⟩ := hw i (by omega)
      refine ⟨rfl, ?_⟩
      refine ⟨_, rfl, _, rfl, a, xs, ms, i, n, by rw [Int.zero_add]; rfl, hS2 _ s1, hR.same s1, h0, hn, ?_⟩
      have eE : endT ms i = i + n := by
        unfold endT
        rw [hn]
        rfl
      have tk : aboveT ms p (i + 1) = aboveT ms p i ++ [i].filter fun i => decide (endT ms i > p) := by
        unfold aboveT
        rw [List.range_succ, List.filter_append]
      have li : (aboveT ms p i).length ≤ 1001 := by
        have := List.length_filter_le (fun i => decide (endT ms i > p)) (List.range i)
        rw [List.length_range] at this
        show ((List.range i).filter fun i => decide (endT ms i > p)).length ≤ 1001
        omega
      refine ⟨_, rfl, _, _, rfl, rfl, _, rfl, ?_⟩
      refine ite2 (fun g => ?_) (fun g => ?_)
      · have g' := of_decide_eq_true g
        have y : decide (endT ms i > p) = true := decide_eq_true (by rw [eE]; omega)
        refine ⟨_, rfl, _, h1, szlt (by rw [List.length_map]; omega), fun b o e => ?_, ?_⟩
        · rw [upd_ne (ne_of_none e hD)]
          exact s1 _ _ e
        · rw [upd_same, tk, List.filter_cons_of_pos (p := fun i => decide (endT ms i > p)) y, List.filter_nil, List.map_append, Int.zero_add]
          rfl
      · have g' := of_decide_eq_false (Bool.eq_false_iff.mpr g)
        have y : ¬ decide (endT ms i > p) = true := fun z => g' (by have := of_decide_eq_true z; rw [eE] at this; omega)
        refine ⟨s1, ?_⟩
        rw [h1, tk, List.filter_cons_of_neg (p := fun i => decide (endT ms i > p)) y, List.filter_nil, List.append_nil]
    · rintro H1 ⟨s1, h1⟩
      have e : ((p : Int) + 1).toNat = p + 1 := by omega
      rw [e] at h1
      refine ⟨_, _, rfl, .inl ⟨SqL.of h1, fun p2 n2 => ?_⟩⟩
      generalize g2 : L2.upd _ p2 _ = H3; obtain ⟨e3, o3, t3⟩ := made n2 g2; clear g2
      refine q p2 H3 (s1.trans (sameOf n2 o3)) ?_ t3
      cases z : H p2 with
      | none => rfl
      | some o => rw [s1 _ _ z] at n2; cases n2

/-! ### places, heights, and what the class tells -/
def leavesP (w : Str) (ps : List (Str × Int)) (n : Nat) : List Nat := (List.range n).filter fun i => decide ((ps[i]?.map Prod.fst) = some w)
theorem leavesP_succ {w : Str} {ps : List (Str × Int)} {i : Nat} {x : Str} {k : Int} (h : ps[i]? = some (x, k)) : leavesP w ps (i + 1) = if x = w then leavesP w ps i ++ [i] else leavesP w ps i := by
  unfold leavesP
  rw [List.range_succ, List.filter_append, List.filter_cons, List.filter_nil, h]
  show _ ++ (if decide (some x = some w) = true then [i] else []) = _
  by_cases e : x = w
  · rw [if_pos (decide_eq_true (by rw [e])), if_pos e]
  · rw [if_neg (fun z => e (Option.some.inj (of_decide_eq_true z))), if_neg e, List.append_nil]
def NodesAt (H : Hp) (a : Addr) (ds : List PyData) : Prop := ∃ xs, H a = some (.tup xs) ∧ DxAll H xs ds ∧ (∀ d ∈ ds, isNodeD d = true) ∧ ds.length ≤ 40
theorem NodesAt.same {H H' : Hp} {a : Addr} {ds : List PyData} (s : Same H H') (h : NodesAt H a ds) : NodesAt H' a ds := by
  obtain ⟨xs, h1, h2, h3, h4⟩ := h
  exact ⟨xs, s _ _ h1, h2.same s, h3, h4⟩
def spPlaces : Sp := fun vs H Q _ => ∃ (a : Addr) (ds : List PyData) (w : Str), vs = [.ref a, .str w] ∧ NodesAt H a ds ∧
  ∀ (p : Addr) (H' : Hp), Same H H' → H p = none → H' p = some (.tup ((leavesP w (ds.map pairD) ds.length).map fun n => V.int (n : Nat))) → Q (.ref p) H'
theorem ok_places_of {f : Addr} {fd : FuncData} (F : Fun K "places_of" "places_of" s_places_of f fd) (T : Txt mg) (Z : TermZ K mg c) (Y : TermY K c b) : FnOk P w K mg base CX0 1 f fd P_places_of spPlaces := by
  refine F.ok sc_places_of (fun vs H Q E h => ?_) (fun cdv A outer s H vs Q E hr h => ?_)
  · obtain ⟨a, ds, w, rfl, _⟩ := h
    rfl
  · obtain ⟨a, ds, w, rfl, ⟨xs, ha, hx, hn, hz⟩, q⟩ := h
    refine ⟨_, (pss_one (ps_ret (pe_callTy call_tuple_of (by rfl) T.n_tuple (by decide +kernel) (pa_cons (pe_lc (own := [("at", 2), ("node", 3)]) (g := gTup K 2 (gCons (gName 2) (gCons (gName 3) gNil))) rfl sc_places_of.nd (pi_enumT (by rfl) T.n_enumerate (pa_cons (pv 0) pa_nil)) (blkOk_by (own := [("at", 2), ("node", 3)]) (N := ["nodes", "sign", "at", "node"]) (sc := (defScope s_places_of)) (by decide +kernel)) (fun _ _ _ _ _ => (pg_tup_k (K := K) rfl (pgs_cons (pg_name (i := 2) sc_places_of.nd rfl (Or.inl rfl)) (pgs_cons (pg_name (i := 3) sc_places_of.nd rfl (Or.inl rfl)) pgs_nil)))) (fun _ _ _ _ _ => (pts_one (pt_cmpR op_eq (pe_ix (ix_tup_k (K := K) ) (pv 3) pe_int (fun _ _ => rfl)) (pv 1) (nomark _)))) (fun _ _ _ _ _ => (pv 2))) pa_nil)))), ?_⟩
    refine ⟨_, rfl, _, _, rfl, SqT.of ha, fun D hD => ?_⟩
    have lx : xs.length = ds.length := hx.len
    refine lc_it (walk_enumT (K := K) (a := a) (xs := xs)) (fun i H' => Same H H' ∧ H' D = some (.lst ((leavesP w (ds.map pairD) i).map fun n => V.int (n : Nat)))) ⟨sameOf hD (fun b hb => upd_ne hb), upd_same⟩ (fun i H' _ z => SqT.of (z.1 _ _ ha)) ?_ ?_
    · rintro i v H1 H2 hi ⟨sm, hl1⟩ ⟨T0, n0, y, rfl, hT, rfl, e1, hy⟩
      cases (show some (V.int (i : Nat)) = some n0 from e1)
      obtain ⟨d, hd, xd⟩ := hx.get hy
      obtain ⟨x, k, rfl, k0, k3⟩ := node_shape (hn d (List.mem_of_getElem? hd))
      have hp : (ds.map pairD)[i]? = some (x, k) := by rw [List.getElem?_map, hd]; rfl
      cases xd with
      | @tup cc _ _ hc h2 =>
        cases h2 with
        | cons b1 h2 =>
          cases h2 with
          | cons b2 h2 =>
            cases h2
            cases b1
            cases b2
            have sT : Same H (upd H1 T0 (.tup [.int (i : Nat), .ref cc])) := sm.trans (sameOf hT (fun b hb => upd_ne hb))
            have hlT : (upd H1 T0 (.tup [.int (i : Nat), .ref cc])) D = some (.lst ((leavesP w (ds.map pairD) i).map fun n => V.int (n : Nat))) := keepAt hl1 hT (fun b hb => upd_ne hb)
            have li : (leavesP w (ds.map pairD) i).length ≤ 40 := by
              have := List.length_filter_le (fun j => decide (((ds.map pairD)[j]?.map Prod.fst) = some w)) (List.range i)
              rw [List.length_range] at this
              show ((List.range i).filter fun j => decide (((ds.map pairD)[j]?.map Prod.fst) = some w)).length ≤ 40
              omega
            refine ⟨T0, [.int (i : Nat), .ref cc], rfl, SqT.of upd_same, rfl, _, _, rfl, _, _, rfl, rfl, ?_⟩
            refine ⟨rfl, ?_⟩
            refine ⟨_, rfl, _, _, _, _, rfl, rfl, SqT.of (sT _ _ hc), rfl, _, rfl, rfl, _, rfl, ?_⟩
            have e2 := leavesP_succ (w := w) hp
            refine ite2 (fun g => ?_) (fun g => ?_)
            · have hw : x = w := V.str.inj (of_decide_eq_true g)
              rw [if_pos hw] at e2
              refine ⟨_, rfl, _, hlT, szlt (by rw [List.length_map]; omega), fun b o e => ?_, ?_⟩
              · rw [upd_ne (ne_of_none e hD)]
                exact sT _ _ e
              · rw [upd_same, e2, List.map_append]
                rfl
            · have hw : ¬ x = w := fun z => g (by rw [z]; exact decide_eq_true rfl)
              rw [if_neg hw] at e2
              exact ⟨sT, by rw [e2]; exact hlT⟩
    · rintro H1 ⟨sm, hl1⟩
      rw [lx] at hl1
      refine ⟨_, _, rfl, .inl ⟨SqL.of hl1, fun p2 n2 => ?_⟩⟩
      generalize g2 : L2.upd _ p2 _ = H3; obtain ⟨e3, o3, t3⟩ := made n2 g2; clear g2
      refine q p2 H3 (sm.trans (sameOf n2 o3)) ?_ t3
      cases z : H p2 with
      | none => rfl
      | some o => rw [sm _ _ z] at n2; cases n2
/-! ### heights, from the right -/
def heightsF : List Int → List Int
  | [] => []
  | k :: r => (1 + maxI 0 ((heightsF r).take k.toNat)) :: (heightsF r).drop k.toNat
theorem heights_len : ∀ ks : List Int, (heightsF ks).length ≤ ks.length
  | [] => Nat.le_refl _
  | k :: r => by
    have := heights_len r
    show ((heightsF r).drop k.toNat).length + 1 ≤ r.length + 1
    rw [List.length_drop]
    omega
def spHeight : Sp := fun vs H Q _ => ∃ (a : Addr) (ds : List PyData), vs = [.ref a] ∧ NodesAt H a ds ∧ ds ≠ [] ∧
  ∀ (n : Int) (H' : Hp), Same H H' → (heightsF (ds.map arOf)).head? = some n → Q (.int n) H'
theorem ok_height_of {f : Addr} {fd : FuncData} (F : Fun K "height_of" "height_of" s_height_of f fd) (T : Txt mg) (Z : TermZ K mg c) (Y : TermY K c b) : FnOk P w K mg base CX0 1 f fd P_height_of spHeight := by
  refine F.ok sc_height_of (fun vs H Q E h => ?_) (fun cdv A outer s H vs Q E hr h => ?_)
  · obtain ⟨a, ds, rfl, _⟩ := h
    rfl
  · obtain ⟨a, ds, rfl, ⟨xs, ha, hx, hn, hz⟩, h0, q⟩ := h
    refine ⟨_, (pss_cons (ps_set (i := 1) sc_height_of.nd rfl (Or.inl rfl) (pe_lst pa_nil))
      (pss_cons (ps_for PassesOwn.never rfl (pi_reversed (by rfl) T.n_reversed (pa_cons (pe_callTy call_list_of (by rfl) T.n_list (by decide +kernel) (pa_cons (pv 0) pa_nil)) pa_nil)) (pg_tup rfl (pgs_cons (pg_name (i := 2) sc_height_of.nd rfl (Or.inl rfl)) (pgs_cons (pg_name (i := 3) sc_height_of.nd rfl (Or.inl rfl)) pgs_nil))) (pss_cons (ps_set (i := 4) sc_height_of.nd rfl (Or.inl rfl) (pe_callBK (cr_maxDef rfl (hu64i hr)) (by rfl) T.n_max (by decide +kernel) (pa_cons (pe_slice sl_list (pv 1) po_none (po_some (pv 3))) pa_nil) (pk_cons pe_int pk_nil)))
      (pss_one (ps_set (i := 1) sc_height_of.nd rfl (Or.inl rfl) (pe_op op_cat (pe_lst (pa_cons (pe_op op_add pe_int (pv 4)) pa_nil)) (pe_slice sl_list (pv 1) (po_some (pv 3)) po_none))))))
      (pss_one (ps_ret (pe_ix ix_list (pv 1) pe_int (fun _ _ => rfl)))))), ?_⟩
    have lx : xs.length = ds.length := hx.len
    refine ⟨(szr rfl), fun p1 n1 => ?_⟩
    generalize g1 : L2.upd _ p1 _ = H1; obtain ⟨e1, o1, t1⟩ := made n1 g1; clear g1
    have s1 := sameOf n1 o1
    refine ⟨_, rfl, _, _, rfl, .inr (SqT.of (s1 _ _ ha)), fun p2 n2 => ?_⟩
    generalize g2 : L2.upd _ p2 _ = H2; obtain ⟨e2, o2, t2⟩ := made n2 g2; clear g2
    have s2 := s1.trans (sameOf n2 o2)
    refine ⟨_, _, rfl, SqL.of t2, ?_⟩
    refine for_it (walk_rev (K := K) (a := p2) (xs := xs)) (fun i σ H' => Same H H' ∧ H' p2 = some (.lst xs) ∧ ∃ (r : Addr) (a2 a3 a4 : Option V), σ = [some (.ref a), some (.ref r), a2, a3, a4] ∧ H' r = some (.lst ((heightsF ((ds.drop (ds.length - i)).map arOf)).map V.int)))
      ⟨s2, t2, p1, none, none, none, rfl, by rw [Nat.sub_zero, List.drop_length]; exact (sameOf n2 o2) _ _ t1⟩ (fun i σ H' _ z => SqL.of z.2.1) ?_ ?_
    · rintro i y σ H3 H3' hi ⟨s3, h3, r, a2, a3, a4, rfl, hr⟩ ⟨rfl, hy⟩
      rw [lx] at hy hi
      have hi' : ds.length - 1 - i < ds.length := by omega
      obtain ⟨d, hd, xd⟩ := hx.get hy
      have dm := List.mem_of_getElem? hd
      obtain ⟨x, k, rfl, k0, k3⟩ := node_shape (hn d dm)
      have ed : ds.drop (ds.length - (i + 1)) = .tuple [.str x, .int k] :: ds.drop (ds.length - i) := by
        have e1 : ds.length - (i + 1) = ds.length - 1 - i := by omega
        rw [e1, List.drop_eq_getElem_cons hi', show ds.length - 1 - i + 1 = ds.length - i by omega]
        rw [List.getElem?_eq_getElem hi'] at hd
        rw [Option.some.inj hd]
      cases xd with
      | @tup cc _ _ hc h2 =>
        cases h2 with
        | cons b1 h2 =>
          cases h2 with
          | cons b2 h2 =>
            cases h2
            cases b1
            cases b2
            refine ⟨_, _, rfl, SqT.of (s3 _ _ hc), rfl, _, _, rfl, _, _, rfl, rfl, ?_⟩
            refine ⟨_, rfl, _, rfl, _, rfl, r, _, rfl, SqL.of hr, fun c1 nc1 => ?_⟩
            generalize gc1 : L2.upd _ c1 _ = H4; obtain ⟨ec1, oc1, tc1⟩ := made nc1 gc1; clear gc1
            rw [cut_head k0, ← List.map_take] at tc1
            have s4 := sameOf nc1 oc1
            have tlen : (heightsF ((ds.drop (ds.length - i)).map arOf)).length ≤ 40 := by
              have := heights_len ((ds.drop (ds.length - i)).map arOf)
              rw [List.length_map, List.length_drop] at this
              omega
            refine ⟨_, _, _, rfl, rfl, SqL.of tc1, ?_⟩
            refine ⟨_, rfl, _, _, rfl, rfl, (szr rfl), fun p3 n3 => ?_⟩
            generalize g3 : L2.upd _ p3 _ = H5; obtain ⟨e3, o3, t3⟩ := made n3 g3; clear g3
            have s5 := sameOf n3 o3
            refine ⟨_, rfl, _, rfl, _, rfl, r, _, rfl, SqL.of (s5 _ _ (s4 _ _ hr)), fun c2 nc2 => ?_⟩
            generalize gc2 : L2.upd _ c2 _ = H6; obtain ⟨ec2, oc2, tc2⟩ := made nc2 gc2; clear gc2
            rw [cut_tail k0, ← List.map_drop] at tc2
            have s6 := sameOf nc2 oc2
            have z1 : ∀ {n : Nat}, n ≤ 100000 → n ≤ sizeLine := fun h => Nat.le_trans h (by decide)
            refine ⟨_, _, _, _, rfl, rfl, s6 _ _ t3, tc2, z1 (by rw [List.length_map, List.length_drop, List.length_singleton]; omega), fun p4 n4 => ?_⟩
            generalize g4 : L2.upd _ p4 _ = H7; obtain ⟨e4, o4, t4⟩ := made n4 g4; clear g4
            have s37 := ((s4.trans s5).trans s6).trans (sameOf n4 o4)
            refine ⟨s3.trans s37, s37 _ _ h3, p4, _, _, _, rfl, ?_⟩
            rw [ed]
            exact t4
    · rintro σ H3 ⟨s3, h3, r, a2, a3, a4, rfl, hr⟩
      rw [lx, Nat.sub_self, List.drop_zero] at hr
      obtain ⟨d, es, rfl⟩ : ∃ d es, ds = d :: es := by
        cases ds with
        | nil => exact absurd rfl h0
        | cons d es => exact ⟨d, es, rfl⟩
      obtain ⟨t, ts, eT⟩ : ∃ t ts, heightsF ((d :: es).map arOf) = t :: ts := ⟨_, _, rfl⟩
      rw [eT] at hr
      refine ⟨_, rfl, _, _, _, _, rfl, rfl, SqL.of hr, (show atI (List.map V.int (t :: ts)) ((0 : Nat) : Int) = some (V.int t) from atI_nat rfl), ?_⟩
      exact q t H3 s3 (by rw [eT]; rfl)
def spIdx : Sp := fun vs H Q _ => ∃ (p n : Nat), vs = [.int (p : Int), .int (n : Int)] ∧ p < n ∧ n ≤ 1000 ∧ Q (.bl true) H
theorem ok_is_index {f : Addr} {fd : FuncData} (F : Fun K "is_index" "is_index" s_is_index f fd) (T : Txt mg) (Z : TermZ K mg c) (Y : TermY K c b) {f_is_integer : Addr} {fd_is_integer : FuncData} (G_is_integer : FnOk P w K mg base CX0 1 f_is_integer fd_is_integer P_is_integer spInt) (C_is_integer : Cal K mg "is_integer" f_is_integer fd_is_integer P_is_integer) : FnOk P w K mg base CX0 2 f fd P_is_index spIdx := by
  refine F.ok sc_is_index (fun vs H Q E h => ?_) (fun cdv A outer s H vs Q E hr h => ?_)
  · obtain ⟨p, n, rfl, _⟩ := h
    rfl
  · obtain ⟨p, n, rfl, h1, h2, q⟩ := h
    refine ⟨_, (pss_one (ps_ret (pe_and (pe_call G_is_integer (hr.mono (by decide)) rfl C_is_integer.m C_is_integer.k C_is_integer.b .nil pass0 (pa_cons (pv 0) pa_nil)) (pe_one (pe_chain op_le op_lt pe_int (pv 0) (pv 1)))))), ?_⟩
    refine ⟨_, rfl, _, _, rfl, .int (p : Int), _, rfl, ?_⟩
    have e : isIntD (.int (p : Int)) = true := by
      show decide ((if (p : Int) < 0 then -(p : Int) else (p : Int)) < 10 ^ Int.toNat 60) = true
      rw [if_neg (by omega)]
      exact decide_eq_true (Int.lt_of_lt_of_le (show (p : Int) < 1000 by omega) (by decide +kernel))
    rw [e]
    refine iteT ?_
    refine ⟨_, rfl, _, _, rfl, rfl, _, rfl, ?_⟩
    rw [decide_eq_true (show (0 : Int) ≤ (p : Int) by omega)]
    refine iteT ?_
    refine ⟨_, rfl, _, _, rfl, rfl, ?_⟩
    show Q (.bl (decide ((p : Int) < (n : Int)))) H
    rw [decide_eq_true (show (p : Int) < (n : Int) by omega)]
    exact q
def InsT (c : Ta) (H : Hp) (a q : Addr) (ds : List PyData) : Prop := ∃ dx, H a = some (.ins c.T dx [("_nodes", .ref q)]) ∧ NodesAt H q ds ∧ ds ≠ [] ∧ ds.all okN = true
def spTx (c : Ta) : Sp := fun vs H Q _ => ∃ (a q : Addr) (ds : List PyData), vs = [.ref a] ∧ InsT c H a q ds ∧ ∀ (t : Str) (H' : Hp), Same H H' → (textsF (ds.map pairD)).head? = some t → Q (.str t) H'
theorem ok_T_text {f : Addr} {fd : FuncData} (F : Fun K "text" "Term.text" s_T_text f fd) (T : Txt mg) (Z : TermZ K mg c) (Y : TermY K c b) {f_text_of : Addr} {fd_text_of : FuncData} (G_text_of : FnOk P w K mg base CX0 1 f_text_of fd_text_of P_text_of (spText K)) (C_text_of : Cal K mg "text_of" f_text_of fd_text_of P_text_of) : FnOk P w K mg base CX0 2 f fd P_T_text (spTx c) := by
  refine F.ok sc_T_text (fun vs H Q E h => ?_) (fun cdv A outer s H vs Q E hr h => ?_)
  · obtain ⟨a, q0, ds, rfl, _⟩ := h
    rfl
  · obtain ⟨a, q0, ds, rfl, ⟨dx, ha, hN, h0, ho⟩, q⟩ := h
    refine ⟨_, (pss_one (ps_ret (pe_call G_text_of (hr.mono (by decide)) rfl C_text_of.m C_text_of.k C_text_of.b .nil pass0 (pa_cons (pe_fld (pv 0) rfl) pa_nil)))), ?_⟩
    obtain ⟨xs, h1, h2, h3, h4⟩ := hN
    exact ⟨_, rfl, _, _, _, _, _, rfl, ha, Z.cls, Z.no, rfl, q0, xs, ds, rfl, h1, h2, h3, h4, h0, q⟩
def spSy (c : Ta) : Sp := fun vs H Q _ => ∃ (a q : Addr) (ds : List PyData), vs = [.ref a] ∧ InsT c H a q ds ∧
  ∀ (ps : List (Str × Int)) (p : Addr) (H' : Hp), Same H H' → H p = none → H' p = some (.dK (mergeK [] (ps.map kvOf))) → ps.Nodup → (∀ q, q ∈ ps ↔ q ∈ prsOf ds) → ps.Pairwise (fun p q => lexS q p = false) → Q (.ref p) H'
theorem ok_T_symbols {f : Addr} {fd : FuncData} (F : Fun K "symbols" "Term.symbols" s_T_symbols f fd) (T : Txt mg) (Z : TermZ K mg c) (Y : TermY K c b) {f_symbols_in : Addr} {fd_symbols_in : FuncData} (G_symbols_in : FnOk P w K mg base CX0 2 f_symbols_in fd_symbols_in P_symbols_in spSyms) (C_symbols_in : Cal K mg "symbols_in" f_symbols_in fd_symbols_in P_symbols_in) : FnOk P w K mg base CX0 3 f fd P_T_symbols (spSy c) := by
  refine F.ok sc_T_symbols (fun vs H Q E h => ?_) (fun cdv A outer s H vs Q E hr h => ?_)
  · obtain ⟨a, q0, ds, rfl, _⟩ := h
    rfl
  · obtain ⟨a, q0, ds, rfl, ⟨dx, ha, hN, h0, ho⟩, q⟩ := h
    refine ⟨_, (pss_one (ps_ret (pe_callTy (call_dictP rfl) (by rfl) T.n_dict (by decide +kernel) (pa_cons (pe_call G_symbols_in (hr.mono (by decide)) rfl C_symbols_in.m C_symbols_in.k C_symbols_in.b .nil pass0 (pa_cons (pe_fld (pv 0) rfl) pa_nil)) pa_nil)))), ?_⟩
    obtain ⟨xs, h1, h2, h3, h4⟩ := hN
    refine ⟨_, rfl, _, _, _, _, _, rfl, ha, Z.cls, Z.no, rfl, q0, xs, ds, rfl, h1, h2, List.all_eq_true.mpr h3, ho, h4, fun as ps l H2 s2 nl hl hps nd mem pw => ?_⟩
    refine ⟨l, as, ps.map kvOf, rfl, SqL.of hl, ?_, fun p1 n1 => ?_⟩
    · exact paired_r (f := kvOf) (S := fun b kv => SqT K H2 b [kV kv.1, kv.2]) (fun b q e => show SqT K H2 b [kV (kvOf q).1, (kvOf q).2] from SqT.of e) hps
    generalize g3 : upd _ p1 _ = H3; obtain ⟨e3, o3, t3⟩ := made n1 g3; clear g3
    refine q ps p1 H3 (s2.trans (sameOf n1 o3)) ?_ t3 nd mem pw
    cases z : H p1 with
    | none => rfl
    | some o => rw [s2 _ _ z] at n1; cases n1
def spLv (c : Ta) (w : Str) : Sp := fun vs H Q _ => ∃ (a q : Addr) (ds : List PyData), vs = [.ref a] ∧ InsT c H a q ds ∧
  ∀ (p : Addr) (H' : Hp), Same H H' → H p = none → H' p = some (.tup ((leavesP w (ds.map pairD) ds.length).map fun n => V.int (n : Nat))) → Q (.ref p) H'
theorem ok_T_unknown {f : Addr} {fd : FuncData} (F : Fun K "unknown" "Term.unknown" s_T_unknown f fd) (T : Txt mg) (Z : TermZ K mg c) (Y : TermY K c b) {f_places_of : Addr} {fd_places_of : FuncData} (G_places_of : FnOk P w K mg base CX0 1 f_places_of fd_places_of P_places_of spPlaces) (C_places_of : Cal K mg "places_of" f_places_of fd_places_of P_places_of) : FnOk P w K mg base CX0 2 f fd P_T_unknown (spLv c "_") := by
  refine F.ok sc_T_unknown (fun vs H Q E h => ?_) (fun cdv A outer s H vs Q E hr h => ?_)
  · obtain ⟨a, q0, ds, rfl, _⟩ := h
    rfl
  · obtain ⟨a, q0, ds, rfl, ⟨dx, ha, hN, h0, ho⟩, q⟩ := h
    refine ⟨_, (pss_one (ps_ret (pe_call G_places_of (hr.mono (by decide)) rfl C_places_of.m C_places_of.k C_places_of.b .nil pass0 (pa_cons (pe_fld (pv 0) rfl) (pa_cons (pe_glob (v := .str "_") rfl T.m_ANY.choose_spec ⟨_, rfl⟩) pa_nil))))), ?_⟩
    exact ⟨_, rfl, _, _, _, _, _, rfl, ha, Z.cls, Z.no, rfl, q0, ds, _, rfl, hN, q⟩
theorem ok_T_lost {f : Addr} {fd : FuncData} (F : Fun K "lost" "Term.lost" s_T_lost f fd) (T : Txt mg) (Z : TermZ K mg c) (Y : TermY K c b) {f_places_of : Addr} {fd_places_of : FuncData} (G_places_of : FnOk P w K mg base CX0 1 f_places_of fd_places_of P_places_of spPlaces) (C_places_of : Cal K mg "places_of" f_places_of fd_places_of P_places_of) : FnOk P w K mg base CX0 2 f fd P_T_lost (spLv c "#") := by
  refine F.ok sc_T_lost (fun vs H Q E h => ?_) (fun cdv A outer s H vs Q E hr h => ?_)
  · obtain ⟨a, q0, ds, rfl, _⟩ := h
    rfl
  · obtain ⟨a, q0, ds, rfl, ⟨dx, ha, hN, h0, ho⟩, q⟩ := h
    refine ⟨_, (pss_one (ps_ret (pe_call G_places_of (hr.mono (by decide)) rfl C_places_of.m C_places_of.k C_places_of.b .nil pass0 (pa_cons (pe_fld (pv 0) rfl) (pa_cons (pe_glob (v := .str "#") rfl T.m_LOST.choose_spec ⟨_, rfl⟩) pa_nil))))), ?_⟩
    exact ⟨_, rfl, _, _, _, _, _, rfl, ha, Z.cls, Z.no, rfl, q0, ds, _, rfl, hN, q⟩
def spGr (c : Ta) : Sp := fun vs H Q _ => ∃ (a q : Addr) (ds : List PyData), vs = [.ref a] ∧ InsT c H a q ds ∧ ∀ H', Same H H' → Q (.bl (!(ds.any fun d => isLeafD (.str (pairD d).1)))) H'
theorem ok_T_is_ground {f : Addr} {fd : FuncData} (F : Fun K "is_ground" "Term.is_ground" s_T_is_ground f fd) (T : Txt mg) (Z : TermZ K mg c) (Y : TermY K c b) {f_is_leaf : Addr} {fd_is_leaf : FuncData} (G_is_leaf : FnOk P w K mg base CX0 1 f_is_leaf fd_is_leaf P_is_leaf (spD isLeafD)) (C_is_leaf : Cal K mg "is_leaf" f_is_leaf fd_is_leaf P_is_leaf) : FnOk P w K mg base CX0 2 f fd P_T_is_ground (spGr c) := by
  refine F.ok sc_T_is_ground (fun vs H Q E h => ?_) (fun cdv A outer s H vs Q E hr h => ?_)
  · obtain ⟨a, q0, ds, rfl, _⟩ := h
    rfl
  · obtain ⟨a, q0, ds, rfl, ⟨dx, ha, hN, h0, ho⟩, q⟩ := h
    refine ⟨_, (pss_one (ps_ret (pe_not (pe_callB (cr_any rfl) (by rfl) T.n_any (by decide +kernel) (pa_cons (pe_lc (own := [("sign", 1), ("_", 2)]) (g := gTup K 2 (gCons (gName 1) (gCons (gName 2) gNil))) (tt := tYes) rfl sc_T_is_ground.nd (pi_tup (pe_fld (pv 0) rfl)) (blkOk_by (own := [("sign", 1), ("_", 2)]) (N := ["self", "sign", "_"]) (sc := (defScope s_T_is_ground)) (by decide +kernel)) (fun _ _ _ _ _ => (pg_tup_k (K := K) rfl (pgs_cons (pg_name (i := 1) sc_T_is_ground.nd rfl (Or.inl rfl)) (pgs_cons (pg_name (i := 2) sc_T_is_ground.nd rfl (Or.inl rfl)) pgs_nil)))) (fun _ _ _ _ _ => pts_nil) (fun _ _ _ _ _ => (pe_call G_is_leaf (hr.mono (by decide)) rfl C_is_leaf.m C_is_leaf.k C_is_leaf.b .nil pass0 (pa_cons (pv 1) pa_nil)))) pa_nil))))), ?_⟩
    obtain ⟨xs, h1, hx, hn, hz⟩ := hN
    refine ⟨_, rfl, _, _, _, _, _, rfl, ha, Z.cls, Z.no, rfl, _, rfl, ⟨_, SqT.of h1⟩, fun D hD => ?_⟩
    refine lc_tup (K := K) (xs := xs) (fun i H' => Same H H' ∧ H' D = some (.lst ((ds.take i).map fun d => V.bl (isLeafD (.str (pairD d).1))))) ⟨sameOf hD (fun b hb => upd_ne hb), upd_same⟩ (fun i H' _ h => SqT.of (h.1 _ _ h1)) ?_ ?_
    · rintro i y H' hi ⟨sm, hl1⟩
      obtain ⟨d, hd, xd⟩ := hx.get hi
      have dm := List.mem_of_getElem? hd
      have od := List.all_eq_true.mp ho d dm
      obtain ⟨x, k, rfl, k0, k3⟩ := node_shape (hn d dm)
      have hi2 : i < 40 := Nat.lt_of_lt_of_le (List.getElem?_eq_some_iff.mp hd).1 hz
      have okx : okE (.str x) = true := by
        have z : (okE (.str x) && okE (.int k)) = true := od
        rw [Bool.and_eq_true] at z
        exact z.1
      cases xd with
      | @tup cc _ _ hc h2 =>
        cases h2 with
        | cons b1 h2 =>
          cases h2 with
          | cons b2 h2 =>
            cases h2
            cases b1
            cases b2
            refine ⟨cc, _, rfl, SqT.of (sm _ _ hc), rfl, _, _, rfl, _, _, rfl, rfl, ?_⟩
            refine ⟨rfl, ?_⟩
            refine ⟨_, rfl, _, .str x, rfl, .str x, okE.d okx, fun H9 s9 => ?_⟩
            refine ⟨_, s9 _ _ hl1, szlt (by rw [List.length_map, List.length_take]; omega), fun b o e => ?_, ?_⟩
            · rw [upd_ne (ne_of_none e hD)]
              exact s9 _ _ (sm _ _ e)
            · rw [upd_same, List.take_add_one, List.map_append, hd]
              rfl
    · rintro H9 ⟨sm, hl1⟩
      rw [hx.len, List.take_of_length_le (Nat.le_refl _)] at hl1
      refine ⟨_, ds.map (fun d => isLeafD (.str (pairD d).1)), rfl, SqL.of (by rw [hl1, List.map_map]; rfl), _, rfl, ?_⟩
      have ea : (ds.map (fun d => isLeafD (.str (pairD d).1))).any id = ds.any fun d => isLeafD (.str (pairD d).1) := by
        rw [List.any_map]
        rfl
      rw [ea]
      exact q H9 sm
def spDe (c : Ta) : Sp := fun vs H Q _ => ∃ (a q : Addr) (ds : List PyData), vs = [.ref a] ∧ InsT c H a q ds ∧ ∀ (n : Int) (H' : Hp), Same H H' → (heightsF (ds.map arOf)).head? = some n → Q (.int n) H'
theorem ok_T_depth {f : Addr} {fd : FuncData} (F : Fun K "depth" "Term.depth" s_T_depth f fd) (T : Txt mg) (Z : TermZ K mg c) (Y : TermY K c b) {f_height_of : Addr} {fd_height_of : FuncData} (G_height_of : FnOk P w K mg base CX0 1 f_height_of fd_height_of P_height_of spHeight) (C_height_of : Cal K mg "height_of" f_height_of fd_height_of P_height_of) : FnOk P w K mg base CX0 2 f fd P_T_depth (spDe c) := by
  refine F.ok sc_T_depth (fun vs H Q E h => ?_) (fun cdv A outer s H vs Q E hr h => ?_)
  · obtain ⟨a, q0, ds, rfl, _⟩ := h
    rfl
  · obtain ⟨a, q0, ds, rfl, ⟨dx, ha, hN, h0, ho⟩, q⟩ := h
    refine ⟨_, (pss_one (ps_ret (pe_call G_height_of (hr.mono (by decide)) rfl C_height_of.m C_height_of.k C_height_of.b .nil pass0 (pa_cons (pe_fld (pv 0) rfl) pa_nil)))), ?_⟩
    exact ⟨_, rfl, _, _, _, _, _, rfl, ha, Z.cls, Z.no, rfl, q0, ds, rfl, hN, h0, q⟩
def spChk (c : Ta) : Sp := fun vs H Q _ => ∃ (a q : Addr) (ds : List PyData) (p : Nat), vs = [.ref a, .int (p : Int)] ∧ InsT c H a q ds ∧ p < ds.length ∧ Q .non H
theorem ok_T_check {f : Addr} {fd : FuncData} (F : Fun K "_check_place" "Term._check_place" s_T_check f fd) (T : Txt mg) (Z : TermZ K mg c) (Y : TermY K c b) {f_is_index : Addr} {fd_is_index : FuncData} (G_is_index : FnOk P w K mg base CX0 2 f_is_index fd_is_index P_is_index spIdx) (C_is_index : Cal K mg "is_index" f_is_index fd_is_index P_is_index) : FnOk P w K mg base CX0 3 f fd P_T_check (spChk c) := by
  refine F.ok sc_T_check (fun vs H Q E h => ?_) (fun cdv A outer s H vs Q E hr h => ?_)
  · obtain ⟨a, q0, ds, p, rfl, _⟩ := h
    rfl
  · obtain ⟨a, q0, ds, p, rfl, ⟨dx, ha, hN, h0, ho⟩, hp, q⟩ := h
    refine ⟨_, (pss_one (ps_if (pt_not (pt_val (pe_call G_is_index (hr.mono (by decide)) rfl C_is_index.m C_is_index.k C_is_index.b .nil pass0 (pa_cons (pv 1) (pa_cons (pe_callB call_len_seq (by rfl) T.n_len (by decide +kernel) (pa_cons (pe_fld (pv 0) rfl) pa_nil)) pa_nil))))) (pss_one ps_never) pss_nil)), ?_⟩
    obtain ⟨xs, h1, hx, hn, hz⟩ := hN
    have lx : xs.length = ds.length := hx.len
    refine ⟨_, rfl, _, rfl, _, _, _, _, _, rfl, ha, Z.cls, Z.no, rfl, _, _, rfl, .inr (SqT.of h1), ?_⟩
    refine ⟨p, ds.length, by rw [lx]; rfl, hp, by omega, ?_⟩
    refine ⟨_, rfl, ?_⟩
    exact iteF q
theorem NodesAt.rows {H : Hp} {a : Addr} {ds : List PyData} (h : NodesAt H a ds) : ∃ xs, H a = some (.tup xs) ∧ DxAll H xs ds ∧ RowsOf H xs (ds.map arOf) ∧ (∀ k ∈ ds.map arOf, 0 ≤ k ∧ k ≤ 3) ∧ ds.length ≤ 40 := by
  obtain ⟨xs, h1, hx, hn, hz⟩ := h
  refine ⟨xs, h1, hx, isNode_rows hx (List.all_eq_true.mpr hn), fun k hk => ?_, hz⟩
  obtain ⟨d, hd, rfl⟩ := List.mem_map.mp hk
  obtain ⟨x, k, rfl, k0, k3⟩ := node_shape (hn d hd)
  exact ⟨k0, k3⟩
theorem dxDrop {H : Hp} : ∀ {xs : List V} {ds : List PyData} (n : Nat), DxAll H xs ds → DxAll H (xs.drop n) (ds.drop n)
  | _, _, 0, h => h
  | _, _, n + 1, .nil => .nil
  | _, _, n + 1, .cons a t => dxDrop n t
/-- where parts end -/
def Ends (ds : List PyData) : Prop := ∀ i, i < ds.length → ∃ n, walkT 1 ((ds.map arOf).drop i) = some n
def spCh (c : Ta) : Sp := fun vs H Q _ => ∃ (a q : Addr) (ds : List PyData) (p : Nat) (k : Int) (l : List Nat), vs = [.ref a, .int (p : Int)] ∧ InsT c H a q ds ∧ p < ds.length ∧ (ds.map arOf)[p]? = some k ∧ argP (ds.map arOf) k.toNat (p + 1) = some l ∧
  ∀ (b : Addr) (H' : Hp), Same H H' → H b = none → H' b = some (.tup (l.map fun n => V.int (n : Nat))) → Q (.ref b) H'
theorem ok_T_children {f : Addr} {fd : FuncData} (F : Fun K "children" "Term.children" s_T_children f fd) (T : Txt mg) (Z : TermZ K mg c) (Y : TermY K c b) {fd_T_check : FuncData} (G_T_check : FnOk P w K mg base CX0 3 b.f_check fd_T_check P_T_check (spChk c)) (B_T_check : Binds K fd_T_check P_T_check []) {f_arguments_at : Addr} {fd_arguments_at : FuncData} (G_arguments_at : FnOk P w K mg base CX0 2 f_arguments_at fd_arguments_at P_arguments_at (spArgs K)) (C_arguments_at : Cal K mg "arguments_at" f_arguments_at fd_arguments_at P_arguments_at) : FnOk P w K mg base CX0 4 f fd P_T_children (spCh c) := by
  refine F.ok sc_T_children (fun vs H Q E h => ?_) (fun cdv A outer s H vs Q E hr h => ?_)
  · obtain ⟨a, q0, ds, p, k, l, rfl, _⟩ := h
    rfl
  · obtain ⟨a, q0, ds, p, k, l, rfl, hI, hp, hk, hl, q⟩ := h
    refine ⟨_, (pss_cons (ps_expr (pe_meth (pv 0) Z.cls Y.m_check G_T_check (hr.mono (by decide)) B_T_check .nil pass0 (pa_cons (pv 1) pa_nil)))
      (pss_one (ps_ret (pe_call G_arguments_at (hr.mono (by decide)) rfl C_arguments_at.m C_arguments_at.k C_arguments_at.b .nil pass0 (pa_cons (pe_fld (pv 0) rfl) (pa_cons (pv 1) pa_nil)))))), ?_⟩
    obtain ⟨dx, ha, hN, h0, ho⟩ := id hI
    obtain ⟨xs, h1, hx, hR, hk0, hz⟩ := hN.rows
    refine ⟨_, rfl, _, _, _, rfl, ha, rfl, _, rfl, ⟨a, q0, ds, p, rfl, hI, hp, ?_⟩⟩
    refine ⟨_, rfl, _, _, _, _, _, rfl, ha, Z.cls, Z.no, rfl, _, rfl, ?_⟩
    exact ⟨q0, xs, ds.map arOf, p, k, l, rfl, SqT.of h1, fun H' s => SqT.of (s _ _ h1), hR, fun k hk => (hk0 k hk).1, by rw [List.length_map]; omega, hk, by have := (hk0 k (List.mem_of_getElem? hk)).2; omega, hl, q⟩
def spPt (c : Ta) : Sp := fun vs H Q _ => ∃ (a q : Addr) (ds : List PyData) (p n : Nat), vs = [.ref a, .int (p : Int)] ∧ InsT c H a q ds ∧ p < ds.length ∧ walkT 1 ((ds.map arOf).drop p) = some n ∧ isTermD (.tuple ((ds.drop p).take n)) = true ∧
  ∀ (x q' : Addr) (H' : Hp), Same H H' → InsT c H' x q' ((ds.drop p).take n) → Q (.ref x) H'
theorem ok_T_part {f : Addr} {fd : FuncData} (F : Fun K "part" "Term.part" s_T_part f fd) (T : Txt mg) (Z : TermZ K mg c) (Y : TermY K c b) {fd_T_check : FuncData} (G_T_check : FnOk P w K mg base CX0 3 b.f_check fd_T_check P_T_check (spChk c)) (B_T_check : Binds K fd_T_check P_T_check []) {f_part_at : Addr} {fd_part_at : FuncData} (G_part_at : FnOk P w K mg base CX0 2 f_part_at fd_part_at P_part_at (spPart K)) (C_part_at : Cal K mg "part_at" f_part_at fd_part_at P_part_at) {fd_T_init : FuncData} (G_T_init : FnOk P w K mg base (L2.CX P w) 5 c.fi fd_T_init P_T_init (spInit c)) (B_T_init : Binds K fd_T_init P_T_init []) : FnOk P w K mg base CX0 7 f fd P_T_part (spPt c) := by
  refine F.ok sc_T_part (fun vs H Q E h => ?_) (fun cdv A outer s H vs Q E hr h => ?_)
  · obtain ⟨a, q0, ds, p, n, rfl, _⟩ := h
    rfl
  · obtain ⟨a, q0, ds, p, n, rfl, hI, hp, hw, hT, q⟩ := h
    refine ⟨_, (pss_cons (ps_expr (pe_meth (pv 0) Z.cls Y.m_check G_T_check (hr.mono (by decide)) B_T_check .nil pass0 (pa_cons (pv 1) pa_nil)))
      (pss_one (ps_ret (pe_makeS (E := fun _ => E0) Z.mkc G_T_init B_T_init (hr.mono (by decide)) rfl Z.g_T passAt0 (pa_cons (pe_call G_part_at (hr.mono (by decide)) rfl C_part_at.m C_part_at.k C_part_at.b .nil pass0 (pa_cons (pe_fld (pv 0) rfl) (pa_cons (pv 1) pa_nil))) pa_nil))))), ?_⟩
    obtain ⟨dx, ha, hN, h0, ho⟩ := id hI
    obtain ⟨xs, h1, hx, hR, hk0, hz⟩ := hN.rows
    refine ⟨_, rfl, _, _, _, rfl, ha, rfl, _, rfl, ⟨a, q0, ds, p, rfl, hI, hp, ?_⟩⟩
    refine ⟨_, rfl, _, _, _, _, _, rfl, ha, Z.cls, Z.no, rfl, _, rfl, ?_⟩
    refine ⟨q0, xs, ds.map arOf, p, n, rfl, h1, hR, fun k hk => (hk0 k hk).1, hw, fun b H2 s2 hb => ?_⟩
    intro x dx' nx ndx nxd
    have s3 := mk_new (C := c.T) nx ndx
    have hxs : DxAll H ((xs.drop p).take n) ((ds.drop p).take n) := (dxDrop p hx).take n
    have hx2 : Dx H2 (.ref b) (.tuple ((ds.drop p).take n)) := .tup hb (hxs.same s2)
    have okk : ((ds.drop p).take n).all okN = true := List.all_eq_true.mpr fun d hd => List.all_eq_true.mp ho d (List.mem_of_mem_drop (List.mem_of_mem_take hd))
    refine ⟨x, dx', _, _, rfl, upd_same, hx2.same s3, okk, fun _ H3 s4 => ⟨rfl, ?_⟩, fun e => by rw [hT] at e; cases e⟩
    have s5 := mk_same (o := .ins c.T dx' [("_nodes", .ref b)]) nx ndx s4
    have hn1 : 1 ≤ n := by
      cases n with
      | zero =>
        cases e : (ds.map arOf).drop p with
        | nil => rw [e] at hw; cases hw
        | cons k r =>
          rw [e] at hw
          obtain ⟨m, _, e2⟩ := Option.map_eq_some_iff.mp (show (walkT (0 + k.toNat) r).map (· + 1) = some 0 from hw)
          omega
      | succ n => omega
    refine q x b _ (s2.trans s5) ⟨dx', upd_same, ⟨_, s5 _ _ hb, (hxs.same s2).same s5, fun d hd => ?_, ?_⟩, ?_, okk⟩
    · obtain ⟨_, _, _, hn, _⟩ := hN
      exact hn d (List.mem_of_mem_drop (List.mem_of_mem_take hd))
    · have := List.length_take_le n (ds.drop p)
      rw [List.length_take, List.length_drop]
      omega
    · intro z
      have := congrArg List.length z
      rw [List.length_take, List.length_drop] at this
      simp at this
      omega
def spAb (c : Ta) : Sp := fun vs H Q _ => ∃ (a q : Addr) (ds : List PyData) (p : Nat), vs = [.ref a, .int (p : Int)] ∧ InsT c H a q ds ∧ p < ds.length ∧ Ends ds ∧
  ∀ (b : Addr) (H' : Hp), Same H H' → H b = none → H' b = some (.tup ((aboveT (ds.map arOf) p (p + 1)).map fun n => V.int (n : Nat))) → Q (.ref b) H'
theorem ok_T_above {f : Addr} {fd : FuncData} (F : Fun K "above" "Term.above" s_T_above f fd) (T : Txt mg) (Z : TermZ K mg c) (Y : TermY K c b) {fd_T_check : FuncData} (G_T_check : FnOk P w K mg base CX0 3 b.f_check fd_T_check P_T_check (spChk c)) (B_T_check : Binds K fd_T_check P_T_check []) {f_places_above : Addr} {fd_places_above : FuncData} (G_places_above : FnOk P w K mg base CX0 2 f_places_above fd_places_above P_places_above (spAbove K)) (C_places_above : Cal K mg "places_above" f_places_above fd_places_above P_places_above) : FnOk P w K mg base CX0 4 f fd P_T_above (spAb c) := by
  refine F.ok sc_T_above (fun vs H Q E h => ?_) (fun cdv A outer s H vs Q E hr h => ?_)
  · obtain ⟨a, q0, ds, p, rfl, _⟩ := h
    rfl
  · obtain ⟨a, q0, ds, p, rfl, hI, hp, hE, q⟩ := h
    refine ⟨_, (pss_cons (ps_expr (pe_meth (pv 0) Z.cls Y.m_check G_T_check (hr.mono (by decide)) B_T_check .nil pass0 (pa_cons (pv 1) pa_nil)))
      (pss_one (ps_ret (pe_call G_places_above (hr.mono (by decide)) rfl C_places_above.m C_places_above.k C_places_above.b .nil pass0 (pa_cons (pe_fld (pv 0) rfl) (pa_cons (pv 1) pa_nil)))))), ?_⟩
    obtain ⟨dx, ha, hN, h0, ho⟩ := id hI
    obtain ⟨xs, h1, hx, hR, hk0, hz⟩ := hN.rows
    refine ⟨_, rfl, _, _, _, rfl, ha, rfl, _, rfl, ⟨a, q0, ds, p, rfl, hI, hp, ?_⟩⟩
    refine ⟨_, rfl, _, _, _, _, _, rfl, ha, Z.cls, Z.no, rfl, _, rfl, ?_⟩
    exact ⟨q0, xs, ds.map arOf, p, rfl, SqT.of h1, fun H' s => SqT.of (s _ _ h1), hR, fun k hk => (hk0 k hk).1, by omega, fun i hi => hE i (by omega), q⟩
def spIt (c : Ta) : Sp := fun vs H Q _ => ∃ (a q : Addr) (ds : List PyData) (p : Nat), vs = [.ref a, .int (p : Int)] ∧ InsT c H a q ds ∧ p < ds.length ∧ ∀ (xs : List V) (v : V), H q = some (.tup xs) → xs[p]? = some v → Q v H
theorem ok_T_item {f : Addr} {fd : FuncData} (F : Fun K "__getitem__" "Term.__getitem__" s_T_item f fd) (T : Txt mg) (Z : TermZ K mg c) (Y : TermY K c b) {fd_T_check : FuncData} (G_T_check : FnOk P w K mg base CX0 3 b.f_check fd_T_check P_T_check (spChk c)) (B_T_check : Binds K fd_T_check P_T_check []) : FnOk P w K mg base CX0 4 f fd P_T_item (spIt c) := by
  refine F.ok sc_T_item (fun vs H Q E h => ?_) (fun cdv A outer s H vs Q E hr h => ?_)
  · obtain ⟨a, q0, ds, p, rfl, _⟩ := h
    rfl
  · obtain ⟨a, q0, ds, p, rfl, hI, hp, q⟩ := h
    refine ⟨_, (pss_cons (ps_expr (pe_meth (pv 0) Z.cls Y.m_check G_T_check (hr.mono (by decide)) B_T_check .nil pass0 (pa_cons (pv 1) pa_nil)))
      (pss_one (ps_ret (pe_ix ix_tup (pe_fld (pv 0) rfl) (pv 1) (fun _ _ => rfl))))), ?_⟩
    obtain ⟨dx, ha, hN, h0, ho⟩ := id hI
    obtain ⟨xs, h1, hx, hn, hz⟩ := hN
    have hp' : p < xs.length := by rw [hx.len]; exact hp
    have hv := List.getElem?_eq_getElem hp'
    refine ⟨_, rfl, _, _, _, rfl, ha, rfl, _, rfl, ⟨a, q0, ds, p, rfl, hI, hp, ?_⟩⟩
    exact ⟨_, rfl, _, _, _, _, _, rfl, ha, Z.cls, Z.no, rfl, _, rfl, _, _, _, _, rfl, rfl, SqT.of h1, atI_nat hv, q _ _ h1 hv⟩
theorem shaped_tup {es : List PyData} (h : ∀ e ∈ es, e.canLay0 = true ∧ e.depth ≤ 60) : SeqAt.shaped (.tuple es) = true := by
  have a : PyData.canLayAll0 es = true ∧ PyData.depthAll es ≤ 60 := by
    induction es with
    | nil => exact ⟨rfl, Nat.zero_le _⟩
    | cons e es ih =>
      have r := ih fun x hx => h x (List.mem_cons_of_mem _ hx)
      have q := h e List.mem_cons_self
      refine ⟨?_, ?_⟩
      · simp only [PyData.canLayAll0, q.1, r.1, Bool.and_self]
      · simp only [PyData.depthAll]
        exact Nat.max_le.mpr ⟨q.2, r.2⟩
  have e1 : PyData.canLay0 (.tuple es) = PyData.canLayAll0 es := by simp only [PyData.canLay0]
  have e2 : PyData.depth (.tuple es) = PyData.depthAll es + 1 := by simp only [PyData.depth]
  show (PyData.canLay0 (.tuple es) && decide (PyData.depth (.tuple es) ≤ 64)) = true
  rw [e1, e2, a.1, Bool.true_and]
  exact decide_eq_true (by have := a.2; omega)
theorem node_lay {d : PyData} (h : isNodeD d = true) (o : okN d = true) : d.canLay0 = true ∧ d.depth ≤ 60 ∧ dictfree d = true := by
  obtain ⟨x, k, rfl, _, _⟩ := node_shape h
  have z : (okE (.str x) && okE (.int k)) = true := o
  rw [Bool.and_eq_true] at z
  have sx : (PyData.canLay0 (.str x) && decide (PyData.depth (.str x) ≤ 64)) = true := (okE.d z.1).2.2
  rw [Bool.and_eq_true] at sx
  refine ⟨?_, ?_, rfl⟩
  · simp only [PyData.canLay0, PyData.canLayAll0, Bool.and_true] at sx ⊢
    exact sx.1
  · simp only [PyData.depth, PyData.depthAll]
    decide
theorem nodes_shaped {ds : List PyData} (h : ∀ d ∈ ds, isNodeD d = true) (o : ds.all okN = true) : SeqAt.shaped (.tuple ds) = true := shaped_tup fun e he => ⟨(node_lay (h e he) (List.all_eq_true.mp o e he)).1, (node_lay (h e he) (List.all_eq_true.mp o e he)).2.1⟩
theorem nodes_free {ds : List PyData} (h : ∀ d ∈ ds, isNodeD d = true) : dictfreeAll ds = true := by
  induction ds with
  | nil => rfl
  | cons d ds ih =>
    obtain ⟨x, k, rfl, _, _⟩ := node_shape (h d List.mem_cons_self)
    show (true && dictfreeAll ds) = true
    rw [ih fun x hx => h x (List.mem_cons_of_mem _ hx), Bool.true_and]
def spNT (c : Ta) : Sp := fun vs H Q _ => ∃ (a dx : Addr) (fs : List (Str × V)), vs = [.ref a] ∧ H a = some (.ins c.T dx fs) ∧ Q (.bl false) H
theorem FnOk.or {P : Program} {w : World} {K : PySem.W.Frag} {mg : Str → Option Value} {base : Heap} {CX : CXT} {k : Nat} {f : Addr} {fd : FuncData} {ps : List Str} {sp sp' : Sp} (F : FnOk P w K mg base CX k f fd ps sp) (G : FnOk P w K mg base CX k f fd ps sp') : FnOk P w K mg base CX k f fd ps (fun vs H Q E => sp vs H Q E ∨ sp' vs H Q E) :=
  ⟨fun vs H Q E h => h.elim (F.len vs H Q E) (G.len vs H Q E), fun A outer s H args us vs Q E hr e b v h => h.elim (F.run A outer s H args us vs Q E hr e b v) (G.run A outer s H args us vs Q E hr e b v)⟩
theorem ok_is_nodeT {f : Addr} {fd : FuncData} (F : Fun K "is_node" "is_node" s_is_node f fd) (T : Txt mg) (Z : TermZ K mg c) (Y : TermY K c b) {f_is_word : Addr} {fd_is_word : FuncData} (G_is_word : FnOk P w K mg base CX0 1 f_is_word fd_is_word P_is_word spWord) (C_is_word : Cal K mg "is_word" f_is_word fd_is_word P_is_word) {f_is_arity : Addr} {fd_is_arity : FuncData} (G_is_arity : FnOk P w K mg base CX0 2 f_is_arity fd_is_arity P_is_arity (spA isArityD)) (C_is_arity : Cal K mg "is_arity" f_is_arity fd_is_arity P_is_arity) {f_is_leaf : Addr} {fd_is_leaf : FuncData} (G_is_leaf : FnOk P w K mg base CX0 1 f_is_leaf fd_is_leaf P_is_leaf (spD isLeafD)) (C_is_leaf : Cal K mg "is_leaf" f_is_leaf fd_is_leaf P_is_leaf) : FnOk P w K mg base CX0 3 f fd P_is_node (spNT c) := by
  refine F.ok sc_is_node (fun vs H Q E h => ?_) (fun cdv A outer s H vs Q E hr h => ?_)
  · obtain ⟨a, dx, fs, rfl, _⟩ := h
    rfl
  · obtain ⟨a, dx, fs, rfl, ha, q⟩ := h
    refine ⟨_, (pss_cons (ps_if (PW.pt (pw_or (pt_not (pt_val (pe_callB call_isi (by rfl) T.n_isinstance (by decide +kernel) (pa_cons (pv 0) (pa_cons (pe_bltn (v := .ty "tuple") rfl T.n_tuple (by decide +kernel) rfl) pa_nil))))) (pw_or1 (pt_cmpR op_ne (pe_callB call_len_seq (by rfl) T.n_len (by decide +kernel) (pa_cons (pv 0) pa_nil)) pe_int (nomark _))))) (pss_one (ps_ret pe_bl)) pss_nil)
      (pss_cons (ps_asg (pv 0) (pg_tup rfl (pgs_cons (pg_name (i := 1) sc_is_node.nd rfl (Or.inl rfl)) (pgs_cons (pg_name (i := 2) sc_is_node.nd rfl (Or.inl rfl)) pgs_nil))))
      (pss_cons (ps_if (pt_val (pe_call G_is_leaf (hr.mono (by decide)) rfl C_is_leaf.m C_is_leaf.k C_is_leaf.b .nil pass0 (pa_cons (pv 1) pa_nil))) (pss_one (ps_ret (pe_and (pe_call G_is_arity (hr.mono (by decide)) rfl C_is_arity.m C_is_arity.k C_is_arity.b .nil pass0 (pa_cons (pv 2) pa_nil)) (pe_one (pe_cmpR op_eq (pv 2) pe_int (nomark _)))))) pss_nil)
      (pss_one (ps_ret (pe_and (pe_call G_is_word (hr.mono (by decide)) rfl C_is_word.m C_is_word.k C_is_word.b .nil pass0 (pa_cons (pv 1) pa_nil)) (pe_one (pe_call G_is_arity (hr.mono (by decide)) rfl C_is_arity.m C_is_arity.k C_is_arity.b .nil pass0 (pa_cons (pv 2) pa_nil))))))))), ?_⟩
    refine ⟨_, rfl, _, _, _, _, _, rfl, .ty _, Z.ty ha, Y.kt, _, rfl, ?_⟩
    exact iteT q
def spIn (c : Ta) : Sp := fun vs H Q _ => ∃ (a q : Addr) (ds : List PyData) (v : V), vs = [.ref a, v] ∧ InsT c H a q ds ∧
  ((∃ d, Dx H v d ∧ okN d = true ∧ ∀ H', Same H H' → Q (.bl (isNodeD d && ds.any fun z => PyData.eqv z d)) H') ∨ (∃ a' dx' fs', v = .ref a' ∧ H a' = some (.ins c.T dx' fs') ∧ Q (.bl false) H))
theorem ok_T_in {f : Addr} {fd : FuncData} (F : Fun K "__contains__" "Term.__contains__" s_T_in f fd) (T : Txt mg) (Z : TermZ K mg c) (Y : TermY K c b) {f_is_node : Addr} {fd_is_node : FuncData} (G_is_node : FnOk P w K mg base CX0 3 f_is_node fd_is_node P_is_node (fun vs H Q E => spNode vs H Q E ∨ spNT c vs H Q E)) (C_is_node : Cal K mg "is_node" f_is_node fd_is_node P_is_node) : FnOk P w K mg base CX0 4 f fd P_T_in (spIn c) := by
  refine F.ok sc_T_in (fun vs H Q E h => ?_) (fun cdv A outer s H vs Q E hr h => ?_)
  · obtain ⟨a, q0, ds, v, rfl, _⟩ := h
    rfl
  · obtain ⟨a, q0, ds, v, rfl, ⟨dx, ha, hN, h0, ho⟩, h⟩ := h
    refine ⟨_, (pss_one (ps_ret (pe_and (pe_call G_is_node (hr.mono (by decide)) rfl C_is_node.m C_is_node.k C_is_node.b .nil pass0 (pa_cons (pv 1) pa_nil)) (pe_one (pe_cmpR (op_inX (hu65 hr)) (pv 1) (pe_fld (pv 0) rfl) (by first | rfl | with_unfolding_all rfl)))))), ?_⟩
    obtain ⟨xs, h1, hx, hn, hz⟩ := hN
    rcases h with ⟨d, hv, hd, q⟩ | ⟨a', dx', fs', rfl, ha', q⟩
    · refine ⟨_, rfl, .inl ⟨v, d, rfl, hv, hd, fun H2 s2 => ?_⟩⟩
      refine ⟨_, rfl, ?_⟩
      refine ite2 (fun g => ?_) (fun g => ?_)
      · rw [g, Bool.true_and] at q
        have sd : SeqAt.shaped d = true := by
          have := node_lay g hd
          show (d.canLay0 && decide (d.depth ≤ 64)) = true
          rw [this.1, Bool.true_and]
          exact decide_eq_true (by have := this.2.1; omega)
        refine ⟨_, rfl, _, rfl, _, _, _, _, _, rfl, s2 _ _ ha, Z.cls, Z.no, rfl, ?_⟩
        exact ⟨_, _, ds, (hv.same s2).dp (node_lay g hd).2.2, (Dx.tup (s2 _ _ h1) (hx.same s2)).dp (nodes_free hn), .inr rfl, sd, nodes_shaped hn ho, q H2 s2⟩
      · have g' : isNodeD d = false := by simpa using g
        rw [g', Bool.false_and] at q
        exact q H2 s2
    · refine ⟨_, rfl, .inr ⟨a', dx', fs', rfl, ha', ?_⟩⟩
      refine ⟨_, rfl, ?_⟩
      exact iteF q
def spEqT (K : PySem.W.Frag) (c : Ta) : Sp := fun vs H Q _ => ∃ (a q : Addr) (ds : List PyData) (v : V), vs = [.ref a, v] ∧ InsT c H a q ds ∧
  ((∃ b q' es, v = .ref b ∧ InsT c H b q' es ∧ Q (.bl (PyData.eqv (.tuple ds) (.tuple es))) H) ∨ (∃ t, TyX K H v (.type t) ∧ t ∈ ["NoneType", "bool", "int", "str", "list", "tuple", "dict"] ∧ Q (.bl false) H))
theorem ok_T_eq {f : Addr} {fd : FuncData} (F : Fun K "__eq__" "Term.__eq__" s_T_eq f fd) (T : Txt mg) (Z : TermZ K mg c) (Y : TermY K c b) : FnOk P w K mg base CX0 1 f fd P_T_eq (spEqT K c) := by
  refine F.ok sc_T_eq (fun vs H Q E h => ?_) (fun cdv A outer s H vs Q E hr h => ?_)
  · obtain ⟨a, q0, ds, v, rfl, _⟩ := h
    rfl
  · obtain ⟨a, q0, ds, v, rfl, ⟨dx, ha, hN, h0, ho⟩, h⟩ := h
    refine ⟨_, (pss_one (ps_ret (pe_and (pe_callB call_isi (by rfl) T.n_isinstance (by decide +kernel) (pa_cons (pv 1) (pa_cons (pe_glob (v := .ref c.T) rfl Z.g_T rfl) pa_nil))) (pe_one (pe_cmpR (op_eqD hr.units) (pe_fld (pv 0) rfl) (pe_fld (pv 1) rfl) (nomark _)))))), ?_⟩
    obtain ⟨xs, h1, hx, hn, hz⟩ := hN
    rcases h with ⟨b', q', es, rfl, ⟨dx', hb, ⟨ys, h1', hx', hn', hz'⟩, _, ho'⟩, q⟩ | ⟨t, ty, ht, q⟩
    · refine ⟨_, rfl, _, _, _, _, _, rfl, .own _, Z.ty hb, Z.kitT, _, rfl, ?_⟩
      refine iteT ?_
      refine ⟨_, rfl, _, _, _, _, _, rfl, ha, Z.cls, Z.no, rfl, _, rfl, _, _, _, _, _, rfl, hb, Z.cls, Z.no, rfl, ?_⟩
      exact ⟨_, _, (Dx.tup h1 hx).dp (nodes_free hn), (Dx.tup h1' hx').dp (nodes_free hn'), nodes_shaped hn ho, nodes_shaped hn' ho', q⟩
    · refine ⟨_, rfl, _, _, _, _, _, rfl, .own _, ty, Z.kit t ht, _, rfl, ?_⟩
      exact iteF q
theorem text_small {ds : List PyData} {t : Str} (hn : ∀ d ∈ ds, isNodeD d = true) (hz : ds.length ≤ 40) (h : (textsF (ds.map pairD)).head? = some t) : t.length ≤ 1000 := by
  have wb : ∀ es : List PyData, (∀ e ∈ es, e ∈ ds) → ((es.map pairD).map wOf).sum ≤ es.length * 16 := fun es he => by
    induction es with
    | nil => exact Nat.zero_le _
    | cons e es ih =>
      have nd := hn e (he e List.mem_cons_self)
      obtain ⟨x, k, rfl, k0, k3⟩ := node_shape nd
      have := node_len nd
      have a : wOf (pairD (.tuple [.str x, .int k])) ≤ 16 := by
        show x.length + 2 + 2 * k.toNat ≤ 16
        omega
      have b := ih fun x hx => he x (List.mem_cons_of_mem _ hx)
      rw [List.map_cons, List.map_cons, List.sum_cons, List.length_cons, Nat.succ_mul]
      omega
  have a := texts_sum (ds.map pairD)
  have b := wb ds fun _ h => h
  cases e : textsF (ds.map pairD) with
  | nil => rw [e] at h; cases h
  | cons u us =>
    rw [e] at h a
    cases (show some u = some t from h)
    have c : sumL (t :: us) = t.length + (us.map (·.length)).sum := by
      show ((t :: us).map (·.length)).sum = _
      rw [List.map_cons, List.sum_cons]
    omega
theorem ok_T_str {f : Addr} {fd : FuncData} (F : Fun K "__str__" "Term.__str__" s_T_str f fd) (T : Txt mg) (Z : TermZ K mg c) (Y : TermY K c b) {fd_T_text : FuncData} (G_T_text : FnOk P w K mg base CX0 2 b.f_text fd_T_text P_T_text (spTx c)) (B_T_text : Binds K fd_T_text P_T_text []) : FnOk P w K mg base CX0 4 f fd P_T_str (spTx c) := by
  refine F.ok sc_T_str (fun vs H Q E h => ?_) (fun cdv A outer s H vs Q E hr h => ?_)
  · obtain ⟨a, q0, ds, rfl, _⟩ := h
    rfl
  · obtain ⟨a, q0, ds, rfl, hI, q⟩ := h
    refine ⟨_, (pss_one (ps_ret (pe_joined1 (pe_fmt (pe_prop (pv 0) Z.cls Y.prop_text G_T_text (hr.mono (by decide)) B_T_text .nil pass0 rfl))))), ?_⟩
    obtain ⟨dx, ha, ⟨xs, h1, hx, hn, hz⟩, h0, ho⟩ := id hI
    refine ⟨_, rfl, _, _, _, rfl, ha, ⟨a, q0, ds, rfl, hI, fun t H2 s2 ht => ?_⟩⟩
    exact .inl ⟨_, rfl, Nat.le_trans (text_small hn hz ht) (by decide), q t H2 s2 ht⟩

theorem fn_depth5 {P : Program} {w : World} {K : PySem.W.Frag} {mg : Str → Option Value} {base : Heap} {off : Nat} {f : Addr} {fd : FuncData} {ps : List Str} {sp : Nat → Sp} (G : ∀ n, FnOk P w K mg base CX0 (n + off) f fd ps (sp n)) :
    FnOk P w K mg base CX0 (5 + off) f fd ps (fun vs H Q E => ∃ n, n ≤ 5 ∧ sp n vs H Q E) :=
  ⟨fun vs H Q E ⟨n, _, h⟩ => (G n).len vs H Q E h, fun A outer s H args us vs Q E hr e0 b r ⟨n, hn, h⟩ => (G n).run A outer s H args us vs Q E (hr.mono (by omega)) e0 b r h⟩
/-! ### plain terms, as data: a pair of a word and the tuple of the arguments; n: how many levels -/
def wordsT : List (String × Nat) := [("a", 0), ("bb", 0), ("_", 0), ("#", 0), ("k", 1), ("f", 2), ("cons", 3)]
def IsT : Nat → PyData → Prop
  | 0, _ => False
  | n + 1, d => ∃ (w : String) (ds : List PyData), d = .tuple [.str w, .tuple ds] ∧ (w, ds.length) ∈ wordsT ∧ ∀ e ∈ ds, IsT n e
def nodesT : Nat → PyData → List PyData
  | n + 1, .tuple [w, .tuple ds] => .tuple [w, .int ds.length] :: ds.flatMap (nodesT n)
  | _, _ => []
def szT : Nat → Nat
  | 0 => 0
  | n + 1 => 1 + 3 * szT n
theorem szT_mono : ∀ {m n : Nat}, m ≤ n → szT m ≤ szT n
  | 0, _, _ => Nat.zero_le _
  | m + 1, n + 1, h => by
    have := szT_mono (Nat.le_of_succ_le_succ h)
    show 1 + 3 * szT m ≤ 1 + 3 * szT n
    omega
theorem few_words {w : String} {k : Nat} (h : (w, k) ∈ wordsT) : k ≤ 3 := by
  have z : ∀ p ∈ wordsT, p.2 ≤ 3 := by decide
  exact z _ h
theorem flat_len {f : PyData → List PyData} {b : Nat} : ∀ {ds : List PyData}, (∀ d ∈ ds, (f d).length ≤ b) → (ds.flatMap f).length ≤ ds.length * b
  | [], _ => Nat.zero_le _
  | d :: ds, h => by
    have a := h d List.mem_cons_self
    have r := flat_len (ds := ds) fun e he => h e (List.mem_cons_of_mem _ he)
    rw [List.flatMap_cons, List.length_append, List.length_cons, Nat.succ_mul]
    omega
theorem nodes_len : ∀ {n : Nat} {d : PyData}, IsT n d → (nodesT n d).length ≤ szT n
  | 0, _, h => h.elim
  | n + 1, _, ⟨w, ds, rfl, hw, hds⟩ => by
    have a := few_words hw
    have r := flat_len (ds := ds) (f := nodesT n) (b := szT n) fun e he => nodes_len (hds e he)
    have b : ds.length * szT n ≤ 3 * szT n := Nat.mul_le_mul_right _ a
    show ((_ :: ds.flatMap (nodesT n)).length) ≤ 1 + 3 * szT n
    rw [List.length_cons]
    omega
def spNodesL (n : Nat) : Sp := fun vs H Q _ => ∃ (v : V) (d : PyData), vs = [v] ∧ Dx H v d ∧ IsT n d ∧ n ≤ 5 ∧ ∀ (p : Addr) (xs : List V) (H' : Hp), Same H H' → H p = none → H' p = some (.lst xs) → DxAll H' xs (nodesT n d) → Q (.ref p) H'
theorem ok__law_nodes {f : Addr} {fd : FuncData} (F : Fun K "_law_nodes" "_law_nodes" s__law_nodes f fd) (T : Txt mg) (Z : TermZ K mg c) (Y : TermY K c b) (C__law_nodes : Cal K mg "_law_nodes" f fd P__law_nodes) (nil0 : ∀ vs H Q E, ¬ spNodesL 0 vs H Q E) : ∀ n : Nat, FnOk P w K mg base CX0 (n + 1) f fd P__law_nodes (spNodesL n)
  | 0 => ⟨fun _ _ _ _ h => (nil0 _ _ _ _ h).elim, fun _ _ _ _ _ _ _ _ _ _ _ _ _ h => (nil0 _ _ _ _ h).elim⟩
  | n + 1 => by
    have G__law_nodes := ok__law_nodes F T Z Y C__law_nodes nil0 n
    refine FnOk.mono (j := (n + 1) + 1) (F.ok sc__law_nodes (fun vs H Q E h => ?_) (fun cdv A outer s H vs Q E hr h => ?_)) (by omega)
    · obtain ⟨v, d, rfl, _⟩ := h
      rfl
    · obtain ⟨v, d, rfl, hv, ⟨w, ds, rfl, hw, hds⟩, hn, q⟩ := h
      refine ⟨_, (pss_cons (ps_set (i := 1) sc__law_nodes.nd rfl (Or.inl rfl) (pe_lst (pa_cons (pe_tup (pa_cons (pe_ix ix_tup (pv 0) pe_int (fun _ _ => rfl)) (pa_cons (pe_callB call_len_seq (by rfl) T.n_len (by decide +kernel) (pa_cons (pe_ix ix_tup (pv 0) pe_int (fun _ _ => rfl)) pa_nil)) pa_nil))) pa_nil)))
      (pss_cons (ps_for PassesOwn.never rfl (pi_tup (pe_ix ix_tup (pv 0) pe_int (fun _ _ => rfl))) (pg_name (i := 2) sc__law_nodes.nd rfl (Or.inl rfl)) (pss_one (ps_set (i := 1) sc__law_nodes.nd rfl (Or.inl rfl) (pe_op op_cat (pv 1) (pe_call G__law_nodes hr rfl C__law_nodes.m C__law_nodes.k C__law_nodes.b .nil pass0 (pa_cons (pv 2) pa_nil))))))
      (pss_one (ps_ret (pv 1))))), ?_⟩
      have fw := few_words hw
      have hs4 : szT n ≤ 40 := Nat.le_trans (szT_mono (n := 4) (by omega)) (by decide)
      cases hv with
      | @tup a xs _ ha hx =>
        cases hx with
        | @cons v1 _ _ _ h1 hx =>
          cases hx with
          | @cons v2 _ _ _ h2 hx =>
            cases hx
            cases h1
            cases h2 with
            | @tup b ys _ hb hy =>
              refine ⟨_, rfl, _, _, _, _, rfl, rfl, SqT.of ha, rfl, _, rfl, _, _, _, _, rfl, rfl, SqT.of ha, rfl, _, _, rfl, .inr (SqT.of hb), (szr rfl), fun p1 n1 => ?_⟩
              generalize g1 : upd _ p1 _ = H1; obtain ⟨e1, o1, t1⟩ := made n1 g1; clear g1
              have s1 := sameOf n1 o1
              refine ⟨(szr rfl), fun p2 n2 => ?_⟩
              generalize g2 : upd _ p2 _ = H2; obtain ⟨e2, o2, t2⟩ := made n2 g2; clear g2
              have s2 := s1.trans (sameOf n2 o2)
              have old : ∀ {G : Hp} {r : Addr}, Same H G → G r = none → H r = none := fun {G r} sm nr => by
                cases z : H r with
                | none => rfl
                | some o => rw [sm _ _ z] at nr; cases nr
              refine ⟨_, rfl, _, _, _, _, rfl, rfl, SqT.of (s2 _ _ ha), rfl, _, rfl, ⟨_, SqT.of (s2 _ _ hb)⟩, ?_⟩
              refine for_tup (K := K) (xs := ys) (fun i σ H' => Same H H' ∧ ∃ (r : Addr) (zs : List V) (a3 : Option V), σ = [some (.ref a), some (.ref r), a3] ∧ H r = none ∧ H' r = some (.lst zs) ∧ DxAll H' zs (.tuple [.str w, .int ds.length] :: (ds.take i).flatMap (nodesT n)))
                ⟨s2, p2, _, none, rfl, old s1 n2, t2, .cons (.tup (by rw [o2 _ (ne_of_none t1 n2)]; exact t1) (.cons (.str _) (.cons (by rw [hy.len]; exact .int _) .nil))) .nil⟩ (fun i σ H' _ h => SqT.of (h.1 _ _ hb)) ?_ ?_
              · rintro i y σ H3 hi ⟨s3, r, zs, a3, rfl, nr, hr1, hz⟩
                obtain ⟨d, hd, xd⟩ := hy.get hi
                have dm := List.mem_of_getElem? hd
                have i3 : i < ds.length := (List.getElem?_eq_some_iff.mp hd).1
                refine ⟨_, rfl, _, rfl, ?_⟩
                refine ⟨y, d, rfl, xd.same s3, hds d dm, by omega, fun p4 us H4 s4 n4 h4 hu => ?_⟩
                have hz4 := hz.same s4
                have lz : zs.length ≤ 1 + 3 * 40 := by
                  rw [hz.len, List.length_cons]
                  have := flat_len (ds := ds.take i) (f := nodesT n) (b := szT n) fun e he => nodes_len (hds e (List.mem_of_mem_take he))
                  rw [List.length_take] at this
                  have m : min i ds.length * szT n ≤ 3 * 40 := Nat.mul_le_mul (by omega) hs4
                  omega
                have lu : us.length ≤ 40 := by
                  rw [hu.len]
                  exact Nat.le_trans (nodes_len (hds d dm)) hs4
                refine ⟨_, _, _, _, rfl, rfl, s4 _ _ hr1, h4, Nat.le_trans (show zs.length + us.length ≤ 100000 by omega) (by decide), fun p3 n3 => ?_⟩
                generalize g3 : upd _ p3 _ = H5; obtain ⟨e3, o3, t3⟩ := made n3 g3; clear g3
                have s5 := sameOf n3 o3
                refine ⟨(s3.trans s4).trans s5, p3, _, _, rfl, old (s3.trans s4) n3, t3, ?_⟩
                rw [List.take_add_one, hd, List.flatMap_append]
                have ap := (hz4.same s5).app (hu.same s5)
                simpa using ap
              · rintro σ H3 ⟨s3, r, zs, a3, rfl, nr, hr1, hz⟩
                rw [hy.len, List.take_length] at hz
                refine ⟨_, rfl, ?_⟩
                exact q r zs H3 s3 nr hr1 hz
theorem words_ok : ∀ p ∈ wordsT, isNodeD (.tuple [.str p.1, .int (p.2 : Nat)]) = true ∧ okN (.tuple [.str p.1, .int (p.2 : Nat)]) = true := by decide +kernel
theorem words_one : ∀ p ∈ wordsT, ∀ q ∈ wordsT, (p.1 : Str) = (q.1 : Str) → p.2 = q.2 := by decide +kernel
theorem nodes_mem : ∀ {n : Nat} {d : PyData}, IsT n d → ∀ e ∈ nodesT n d, ∃ p ∈ wordsT, e = .tuple [.str p.1, .int (p.2 : Nat)]
  | 0, _, h, _, _ => h.elim
  | n + 1, _, ⟨w, ds, rfl, hw, hds⟩, e, he => by
    rcases List.mem_cons.mp (show e ∈ _ :: ds.flatMap (nodesT n) from he) with rfl | he
    · exact ⟨_, hw, rfl⟩
    · obtain ⟨d, hd, he⟩ := List.mem_flatMap.mp he
      exact nodes_mem (hds d hd) e he
theorem one_step {m k : Int} {r : List Int} (h : 0 ≤ m) : oneTree (m + 1) (k :: r) = oneTree (m + k) r := by
  show (if decide (V.int (m + 1) = V.int 0) = true then false else oneTree (m + 1 - 1 + k) r) = _
  rw [if_neg (fun z => by have := V.int.inj (of_decide_eq_true z); omega), Int.add_sub_cancel]
theorem one_row {n : Nat} (ih : ∀ {d : PyData}, IsT n d → ∀ {m : Int} (l : List Int), 0 ≤ m → oneTree (m + 1) ((nodesT n d).map arOf ++ l) = oneTree m l) :
    ∀ {ds : List PyData}, (∀ e ∈ ds, IsT n e) → ∀ {m : Int} (l : List Int), 0 ≤ m → oneTree (m + (ds.length : Int)) ((ds.flatMap (nodesT n)).map arOf ++ l) = oneTree m l
  | [], _, m, l, _ => by
    show oneTree (m + ((0 : Nat) : Int)) ([] ++ l) = _
    rw [List.nil_append, Int.natCast_zero, Int.add_zero]
  | d :: ds, h, m, l, h0 => by
    rw [List.flatMap_cons, List.map_append, List.append_assoc, List.length_cons]
    have e : m + ((ds.length + 1 : Nat) : Int) = (m + ds.length) + 1 := by omega
    rw [e, ih (h d List.mem_cons_self) _ (by omega)]
    exact one_row ih (fun e he => h e (List.mem_cons_of_mem _ he)) l h0
theorem one_app : ∀ {n : Nat} {d : PyData}, IsT n d → ∀ {m : Int} (l : List Int), 0 ≤ m → oneTree (m + 1) ((nodesT n d).map arOf ++ l) = oneTree m l
  | 0, _, h, _, _, _ => h.elim
  | n + 1, _, ⟨w, ds, rfl, hw, hds⟩, m, l, h0 => by
    show oneTree (m + 1) ((ds.length : Int) :: ((ds.flatMap (nodesT n)).map arOf ++ l)) = _
    rw [one_step h0]
    exact one_row (fun h => one_app h) hds l h0
theorem prs_words {n : Nat} {d : PyData} (h : IsT n d) {q : Str × Int} (hq : q ∈ prsOf (nodesT n d)) : ∃ p ∈ wordsT, q = ((p.1 : Str), (p.2 : Int)) := by
  obtain ⟨e, he, hq⟩ := List.mem_flatMap.mp hq
  obtain ⟨p, hp, rfl⟩ := nodes_mem h e he
  have hq : q ∈ (if isLeafD (.str (p.1 : Str)) = true then [] else [((p.1 : Str), (p.2 : Int))]) := hq
  split at hq
  · cases hq
  · exact ⟨p, hp, List.mem_singleton.mp hq⟩
theorem term_ok {n : Nat} {d : PyData} (h : IsT n d) (len : (nodesT n d).length ≤ 40) : isTermD (.tuple (nodesT n d)) = true ∧ (nodesT n d).all okN = true ∧ (nodesT n d).length ≤ 40 := by
  refine ⟨?_, List.all_eq_true.mpr fun e he => ?_, len⟩
  · show (isTreeD (.tuple (nodesT n d)) && decide (OneEach (prsOf (nodesT n d)))) = true
    have a : (nodesT n d).all isNodeD = true := List.all_eq_true.mpr fun e he => by
      obtain ⟨p, hp, rfl⟩ := nodes_mem h e he
      exact (words_ok p hp).1
    have o := one_app h (m := 0) [] (Int.le_refl 0)
    rw [List.append_nil] at o
    have t : isTreeD (.tuple (nodesT n d)) = true := by
      show (decide ((nodesT n d).length ≤ 40) && ((nodesT n d).all isNodeD && oneTree 1 ((nodesT n d).map arOf))) = true
      rw [decide_eq_true len, a, show oneTree 1 ((nodesT n d).map arOf) = oneTree 0 [] from o]
      rfl
    rw [t, Bool.true_and, decide_eq_true_eq]
    intro p hp q hq e
    obtain ⟨p', hp', rfl⟩ := prs_words h hp
    obtain ⟨q', hq', rfl⟩ := prs_words h hq
    rw [words_one p' hp' q' hq' e]
  · obtain ⟨p, hp, rfl⟩ := nodes_mem h e he
    exact (words_ok p hp).2
theorem nodes_node {n : Nat} {d : PyData} (h : IsT n d) : ∀ e ∈ nodesT n d, isNodeD e = true := fun e he => by
  obtain ⟨p, hp, rfl⟩ := nodes_mem h e he
  exact (words_ok p hp).1
theorem nodes_ne {n : Nat} {d : PyData} (h : IsT n d) : nodesT n d ≠ [] := by
  cases n with
  | zero => exact h.elim
  | succ n =>
    obtain ⟨w, ds, rfl, _⟩ := h
    intro z
    cases z
/-! ### the term of a plain one -/
def spMade (c : Ta) : Sp := fun vs H Q _ => ∃ (v : V) (n : Nat) (d : PyData), vs = [v] ∧ Dx H v d ∧ IsT n d ∧ n ≤ 5 ∧ (nodesT n d).length ≤ 40 ∧ ∀ (a q : Addr) (H' : Hp), Same H H' → InsT c H' a q (nodesT n d) → Q (.ref a) H'
theorem ok__law_made_term {f : Addr} {fd : FuncData} (F : Fun K "_law_made_term" "_law_made_term" s__law_made_term f fd) (T : Txt mg) (Z : TermZ K mg c) (Y : TermY K c b) {f__law_nodes : Addr} {fd__law_nodes : FuncData} (G__law_nodes : FnOk P w K mg base CX0 6 f__law_nodes fd__law_nodes P__law_nodes (fun vs H Q E => ∃ n, n ≤ 5 ∧ spNodesL n vs H Q E)) (C__law_nodes : Cal K mg "_law_nodes" f__law_nodes fd__law_nodes P__law_nodes) {fd_T_init : FuncData} (G_T_init : FnOk P w K mg base (L2.CX P w) 5 c.fi fd_T_init P_T_init (spInit c)) (B_T_init : Binds K fd_T_init P_T_init []) : FnOk P w K mg base CX0 7 f fd P__law_made_term (spMade c) := by
  refine F.ok sc__law_made_term (fun vs H Q E h => ?_) (fun cdv A outer s H vs Q E hr h => ?_)
  · obtain ⟨v, n, d, rfl, _⟩ := h
    rfl
  · obtain ⟨v, n, d, rfl, hv, hT, hn, hlen, q⟩ := h
    refine ⟨_, (pss_one (ps_ret (pe_makeS (E := fun _ => E0) Z.mkc G_T_init B_T_init (hr.mono (by decide)) rfl Z.g_T passAt0 (pa_cons (pe_callTy call_tuple_of (by rfl) T.n_tuple (by decide +kernel) (pa_cons (pe_call G__law_nodes (hr.mono (by decide)) rfl C__law_nodes.m C__law_nodes.k C__law_nodes.b .nil pass0 (pa_cons (pv 0) pa_nil)) pa_nil)) pa_nil)))), ?_⟩
    have ok := term_ok hT hlen
    refine ⟨_, rfl, n, hn, v, d, rfl, hv, hT, hn, fun l xs H1 s1 nl hl hx => ?_⟩
    refine ⟨_, _, rfl, .inl ⟨SqL.of hl, fun p1 n1 => ?_⟩⟩
    generalize g1 : upd _ p1 _ = H2; obtain ⟨e1, o1, t1⟩ := made n1 g1; clear g1
    have s2 := sameOf n1 o1
    intro x dx nx ndx nxd
    have s3 := mk_new (C := c.T) nx ndx
    have hx2 : Dx H2 (.ref p1) (.tuple (nodesT n d)) := .tup t1 (hx.same s2)
    refine ⟨x, dx, _, _, rfl, upd_same, hx2.same s3, ok.2.1, fun _ H3 s4 => ⟨rfl, ?_⟩, fun e => by rw [ok.1] at e; cases e⟩
    have s5 := mk_same (o := .ins c.T dx [("_nodes", .ref p1)]) nx ndx s4
    exact q x p1 _ ((s1.trans s2).trans s5) ⟨dx, upd_same, ⟨xs, s5 _ _ t1, (hx.same s2).same s5, nodes_node hT, hlen⟩, nodes_ne hT, ok.2.1⟩
/-! ### drawn terms -/
def symsH : List (Key × V) := [(.inr "a", .int 0), (.inr "bb", .int 0), (.inr "f", .int 2), (.inr "k", .int 1), (.inr "cons", .int 3)]
def spTerm (n : Nat) : Sp := fun vs H Q _ => ∃ (p s l : Addr), vs = [.ref p, .ref s, .ref l, .int ((n : Int) - 1)] ∧ 1 ≤ n ∧ Dc H p ∧ H s = some (.dK symsH) ∧ H l = some (.lst [.str "_", .str "#"]) ∧
  ∀ (v : V) (d : PyData) (H' : Hp), But p H H' → Dc H' p → Dx H' v d → IsT n d → Q v H'
theorem syms_at : ∀ w ∈ (["a", "bb", "f", "k", "cons"] : List Str), ∃ (u : String) (k : Nat), w = (u : Str) ∧ valV symsH (.inr w) = some (.int k) ∧ (u, k) ∈ wordsT := by
  intro w hw
  simp only [List.mem_cons, List.not_mem_nil, or_false] at hw
  rcases hw with rfl | rfl | rfl | rfl | rfl
  · exact ⟨"a", 0, rfl, rfl, by decide⟩
  · exact ⟨"bb", 0, rfl, rfl, by decide⟩
  · exact ⟨"f", 2, rfl, rfl, by decide⟩
  · exact ⟨"k", 1, rfl, rfl, by decide⟩
  · exact ⟨"cons", 3, rfl, rfl, by decide⟩
theorem isT_nodice : ∀ {n : Nat} {d : PyData}, IsT n d → nodice d = true
  | 0, _, h => h.elim
  | n + 1, _, ⟨w, ds, rfl, hw, hds⟩ => by
    have r : nodiceAll ds = true := by
      have : ∀ {es : List PyData}, (∀ e ∈ es, IsT n e) → nodiceAll es = true := fun {es} he => by
        induction es with
        | nil => rfl
        | cons e es ih =>
          simp only [nodiceAll, Bool.and_eq_true]
          exact ⟨isT_nodice (he e List.mem_cons_self), ih fun x hx => he x (List.mem_cons_of_mem _ hx)⟩
      exact this hds
    simp [nodice, nodiceAll, r]
theorem dxT {H H' : Hp} (t : ∀ (b : Addr) (xs : List V), H b = some (.tup xs) → H' b = some (.tup xs)) : ∀ {n : Nat} {d : PyData} {v : V}, IsT n d → Dx H v d → Dx H' v d
  | 0, _, _, h, _ => h.elim
  | n + 1, _, v, ⟨w, ds, rfl, hw, hds⟩, h => by
    have row : ∀ {es : List PyData} {vs : List V}, (∀ e ∈ es, IsT n e) → DxAll H vs es → DxAll H' vs es := fun {es vs} he hx => by
      induction es generalizing vs with
      | nil =>
        cases hx
        exact .nil
      | cons e es ih =>
        cases hx with
        | cons a r => exact .cons (dxT t (he e List.mem_cons_self) a) (ih (fun x hx => he x (List.mem_cons_of_mem _ hx)) r)
    cases h with
    | tup h1 h2 =>
      cases h2 with
      | cons a h2 =>
        cases a
        cases h2 with
        | cons b h2 =>
          cases h2
          cases b with
          | tup h3 h4 => exact .tup (t _ _ h1) (.cons (.str _) (.cons (.tup (t _ _ h3) (row hds h4)) .nil))
theorem dxTs {H H' : Hp} (t : ∀ (b : Addr) (xs : List V), H b = some (.tup xs) → H' b = some (.tup xs)) {n : Nat} : ∀ {es : List PyData} {vs : List V}, (∀ e ∈ es, IsT n e) → DxAll H vs es → DxAll H' vs es
  | [], _, _, hx => by
    cases hx
    exact .nil
  | e :: es, _, he, hx => by
    cases hx with
    | cons a r => exact .cons (dxT t (he e List.mem_cons_self) a) (dxTs t (fun x hx => he x (List.mem_cons_of_mem _ hx)) r)
theorem But.tup {p : Addr} {H H' : Hp} (d : Dc H p) (k : But p H H') : ∀ (b : Addr) (xs : List V), H b = some (.tup xs) → H' b = some (.tup xs) := fun b xs e => k b _ (fun z => by
  subst z
  obtain ⟨_, _, _, z⟩ := d
  rw [z] at e
  cases e) e
theorem Dc.upd {H : Hp} {p D : Addr} {o : HO} (d : Dc H p) (n : p ≠ D) : Dc (upd H D o) p := by
  obtain ⟨x, y, z, h⟩ := d
  exact ⟨x, y, z, by rw [upd_ne n]; exact h⟩
/-- a leaf word -/
def LeafV (v : V) : Prop := ∃ u : String, v = .str (u : Str) ∧ (u, 0) ∈ wordsT
theorem LeafV.app {xs ys : List V} (a : ∀ v ∈ xs, LeafV v) (b : ∀ v ∈ ys, LeafV v) : ∀ v ∈ xs ++ ys, LeafV v := fun v hv => (List.mem_append.mp hv).elim (a v) (b v)
theorem leaves_v : ∀ v ∈ ([.str "_", .str "#"] : List V), LeafV v := fun v hv => by
  simp only [List.mem_cons, List.not_mem_nil, or_false] at hv
  rcases hv with rfl | rfl
  · exact ⟨"_", rfl, by decide⟩
  · exact ⟨"#", rfl, by decide⟩
set_option hygiene false in
local macro_rules | `(tactic| walk_at "leafEnd") => `(tactic| (
  refine ⟨_, rfl, _, rfl, _, rfl, _, _, _, _, rfl, rfl, hbk, hlk, Nat.le_trans (show acc.length + 2 ≤ 100000 by omega) (by decide), fun r1 m1 => ?_⟩
  generalize gg2 : upd _ r1 _ = H4; obtain ⟨eg2, og2, tg2⟩ := made m1 gg2; clear gg2
  have s4 := sameOf m1 og2
  refine ⟨_, rfl, _, _, _, _, rfl, rfl, tg2, s4 _ _ hlk, Nat.le_trans (show (acc ++ [V.str "_", V.str "#"]).length + 2 ≤ 100000 by rw [List.length_append]; show acc.length + 2 + 2 ≤ 100000; omega) (by decide), fun r2 m2 => ?_⟩
  generalize gg3 : upd _ r2 _ = H5; obtain ⟨eg3, og3, tg3⟩ := made m2 gg3; clear gg3
  have s5 := s4.trans (sameOf m2 og3)
  have d5 := dk.same s5
  have n2 : r2 ≠ p := fun z => (dk.same s4).ne m2 z.symm
  have lv : ∀ v ∈ (acc ++ [V.str "_", V.str "#"]) ++ [V.str "_", V.str "#"], LeafV v := (LeafV.app (LeafV.app lacc leaves_v) leaves_v)
  refine ⟨p, r2, _, rfl, d5, (pick_l tg3 n2).1, (pick_l tg3 n2).2, by rw [List.length_append, List.length_append]; show 0 < acc.length + 2 + 2; omega, by rw [List.length_append, List.length_append]; show acc.length + 2 + 2 < 1000000; omega, fun i v H6 hv e6 o6 d6 => ?_⟩
  obtain ⟨u, rfl, hu⟩ := lv v (List.mem_of_getElem? hv)
  refine ⟨(szr rfl), fun r3 m3 => ?_⟩
  generalize gg4 : upd _ r3 _ = H7; obtain ⟨eg4, og4, tg4⟩ := made m3 gg4; clear gg4
  refine ⟨(szr rfl), fun r4 m4 => ?_⟩
  generalize gg5 : upd _ r4 _ = H8; obtain ⟨eg5, og5, tg5⟩ := made m4 gg5; clear gg5
  have s8 := (sameOf m3 og4).trans (sameOf m4 og5)
  refine q (.ref r4) (.tuple [.str u, .tuple []]) H8 (((bk.trans (But.ofS s5)).trans (But.of1 o6)).trans (But.ofS s8)) (d6.same s8) (.tup tg5 (.cons (.str _) (.cons (.tup ((og5 _ (ne_of_none tg4 m4)).trans tg4) .nil) .nil))) ⟨u, [], rfl, hu, fun e he => by cases he⟩))
theorem ok__law_term {f : Addr} {fd : FuncData} (F : Fun K "_law_term" "_law_term" s__law_term f fd) (T : Txt mg) (Z : TermZ K mg c) (Y : TermY K c b) (C__law_term : Cal K mg "_law_term" f fd P__law_term) {f__law_roll : Addr} {fd__law_roll : FuncData} (G__law_roll : FnOk P w K mg base CX0 1 f__law_roll fd__law_roll P__law_roll spRoll) (C__law_roll : Cal K mg "_law_roll" f__law_roll fd__law_roll P__law_roll) {f__law_pick : Addr} {fd__law_pick : FuncData} (G__law_pick : FnOk P w K mg base CX0 2 f__law_pick fd__law_pick P__law_pick (spPick K)) (C__law_pick : Cal K mg "_law_pick" f__law_pick fd__law_pick P__law_pick) (nil0 : ∀ vs H Q E, ¬ spTerm 0 vs H Q E) : ∀ n : Nat, FnOk P w K mg base CX0 (n + 2) f fd P__law_term (spTerm n)
  | 0 => ⟨fun _ _ _ _ h => (nil0 _ _ _ _ h).elim, fun _ _ _ _ _ _ _ _ _ _ _ _ _ h => (nil0 _ _ _ _ h).elim⟩
  | n + 1 => by
    have G__law_term := ok__law_term F T Z Y C__law_term G__law_roll C__law_roll G__law_pick C__law_pick nil0 n
    refine FnOk.mono (j := (n + 2) + 1) (F.ok sc__law_term (fun vs H Q E h => ?_) (fun cdv A outer s H vs Q E hr h => ?_)) (by omega)
    · obtain ⟨p, s, l, rfl, _⟩ := h
      rfl
    · obtain ⟨p, s, l, rfl, _, hd, hs, hl, q⟩ := h
      have ps : s ≠ p := fun z => by
        subst z
        obtain ⟨_, _, _, z⟩ := hd
        rw [hs] at z
        cases z
      have pl : l ≠ p := hd.neOf hl (fun x y z e => by cases e)
      refine ⟨_, (pss_cons (ps_setLc (i := 4) (own := [("_law_word", 5)]) (g := gName 5) rfl sc__law_term.nd rfl rfl (sw_true rfl rfl rfl (by decide +kernel)) (pi_list (pe_callB (call_sortedD rfl) (by rfl) T.n_sorted (by decide +kernel) (pa_cons (pv 1) pa_nil))) (blkOk_by (own := [("_law_word", 5)]) (N := ["_law_dice_here", "_law_symbols", "_law_leaves_here", "_law_deep_here", "_law_bare", "_law_word", "_law_one", "_law_at"]) (sc := (defScope s__law_term)) (by decide +kernel)) (fun _ _ _ _ _ => (pg_name (i := 5) sc__law_term.nd rfl (Or.inl rfl))) (fun _ _ _ _ _ => (pts_one (pt_cmpR op_eq (pe_dget (hu_of hr) (pv 1) (pv 5) (fun _ _ => rfl)) pe_int (nomark _)))) (fun _ _ _ _ _ => (pv 5)))
      (pss_cons (ps_if (PW.pt (pw_or (pt_cmpR op_eq (pv 3) pe_int (nomark _)) (pw_or1 (pt_cmpR op_eq (pe_call G__law_roll (hr.mono (by omega)) rfl C__law_roll.m C__law_roll.k C__law_roll.b .nil pass0 (pa_cons (pv 0) (pa_cons pe_int pa_nil))) pe_int (nomark _))))) (pss_one (ps_ret (pe_tup (pa_cons (pe_call G__law_pick (hr.mono (by omega)) rfl C__law_pick.m C__law_pick.k C__law_pick.b .nil pass0 (pa_cons (pv 0) (pa_cons (pe_op op_cat (pe_op op_cat (pv 4) (pv 2)) (pv 2)) pa_nil))) (pa_cons (pe_tup pa_nil) pa_nil))))) pss_nil)
      (pss_cons (ps_set (i := 5) sc__law_term.nd rfl (Or.inl rfl) (pe_call G__law_pick (hr.mono (by omega)) rfl C__law_pick.m C__law_pick.k C__law_pick.b .nil pass0 (pa_cons (pv 0) (pa_cons (pe_op op_cat (pe_callB (call_sortedD rfl) (by rfl) T.n_sorted (by decide +kernel) (pa_cons (pv 1) pa_nil)) (pe_lc (own := [("_law_one", 6)]) (g := gName 6) rfl sc__law_term.nd (pi_list (pe_callB (call_sortedD rfl) (by rfl) T.n_sorted (by decide +kernel) (pa_cons (pv 1) pa_nil))) (blkOk_by (own := [("_law_one", 6)]) (N := ["_law_dice_here", "_law_symbols", "_law_leaves_here", "_law_deep_here", "_law_bare", "_law_word", "_law_one", "_law_at"]) (sc := (defScope s__law_term)) (by decide +kernel)) (fun _ _ _ _ _ => (pg_name (i := 6) sc__law_term.nd rfl (Or.inl rfl))) (fun _ _ _ _ _ => (pts_one (pt_cmpR op_gt (pe_dget (hu_of hr) (pv 1) (pv 6) (fun _ _ => rfl)) pe_int (nomark _)))) (fun _ _ _ _ _ => (pv 6)))) pa_nil))))
      (pss_one (ps_ret (pe_tup (pa_cons (pv 5) (pa_cons (pe_callTy call_tuple_of (by rfl) T.n_tuple (by decide +kernel) (pa_cons (pe_lc (own := [("_law_at", 7)]) (g := gName 7) (tt := tYes) rfl sc__law_term.nd (pi_range1 (by rfl) T.n_range (pa_cons (pe_dget (hu_of hr) (pv 1) (pv 5) (fun _ _ => rfl)) pa_nil)) (blkOk_by (own := [("_law_at", 7)]) (N := ["_law_dice_here", "_law_symbols", "_law_leaves_here", "_law_deep_here", "_law_bare", "_law_word", "_law_one", "_law_at"]) (sc := (defScope s__law_term)) (by decide +kernel)) (fun _ _ _ _ _ => (pg_name (i := 7) sc__law_term.nd rfl (Or.inl rfl))) (fun _ _ _ _ _ => pts_nil) (fun _ _ _ _ _ => (pe_call G__law_term hr rfl C__law_term.m C__law_term.k C__law_term.b .nil pass0 (pa_cons (pv 0) (pa_cons (pv 1) (pa_cons (pv 2) (pa_cons (pe_op op_sub (pv 3) pe_int) pa_nil))))))) pa_nil)) pa_nil)))))))), ?_⟩
      refine ⟨_, rfl, s, symsH, ["a", "bb", "f", "k", "cons"], rfl, .inl hs, rfl, by decide, fun ys q1 pm so nq1 => ?_⟩
      generalize gg1 : upd _ q1 _ = H1; obtain ⟨eg1, og1, tg1⟩ := made nq1 gg1; clear gg1
      have s1 := sameOf nq1 og1
      refine ⟨_, rfl, ⟨_, SqL.of tg1⟩, fun D hD => ?_⟩
      refine lc_list (K := K) (xs := ys.map V.str) (fun i H' => Same H1 H' ∧ ∃ acc, H' D = some (.lst acc) ∧ (∀ v ∈ acc, LeafV v) ∧ acc.length ≤ i) ⟨sameOf hD (fun b hb => upd_ne hb), [], upd_same, (fun v hv => by cases hv), Nat.le_refl _⟩ (fun i H' _ z => SqL.of (z.1 _ _ tg1)) ?_ ?_
      · rintro i y H2 hi ⟨s2, acc, hacc, lacc, nacc⟩
        rw [List.getElem?_map] at hi
        obtain ⟨wd, hwd, rfl⟩ := Option.map_eq_some_iff.mp hi
        have hy := pm.mem_iff.mp (List.mem_of_getElem? hwd)
        have i5 : i < 5 := by
          have a := (List.getElem?_eq_some_iff.mp hwd).1
          rw [pm.length_eq] at a
          exact a
        obtain ⟨u, k, rfl, hv, hu⟩ := syms_at wd hy
        have hs2 := s2 _ _ (s1 _ _ hs)
        refine ⟨rfl, ?_⟩
        refine ⟨_, rfl, _, rfl, _, _, rfl, hv ▸ DGet.k hs2, rfl, _, rfl, ?_⟩
        refine ite2 (fun g => ?_) (fun g => ?_)
        · have k0 : k = 0 := by
            have := V.int.inj (of_decide_eq_true g)
            omega
          subst k0
          refine ⟨_, rfl, _, hacc, szlt (by omega), fun b o e => ?_, _, upd_same, LeafV.app lacc (fun v hv => ?_), by rw [List.length_append]; exact Nat.succ_le_succ nacc⟩
          · rw [upd_ne (ne_of_none e hD)]
            exact s2 _ _ e
          · rw [List.mem_singleton.mp hv]
            exact ⟨u, rfl, hu⟩
        · exact ⟨s2, acc, hacc, lacc, Nat.le_succ_of_le nacc⟩
      · rintro H2 ⟨s2, acc, hacc, lacc, nacc⟩
        have n5 : acc.length ≤ 5 := by
          rw [List.length_map, pm.length_eq] at nacc
          exact nacc
        have s02 := s1.trans s2
        have hbk : H2 D = some (.lst acc) := hacc
        have hlk := s02 _ _ hl
        have bk : But p H H2 := But.ofS s02
        have dk : Dc H2 p := hd.same s02
        refine ⟨_, rfl, rfl, _, rfl, ?_⟩
        refine ite2 (fun g => ?_) (fun g => ?_)
        · walk_at "leafEnd"
        · have n1 : 1 ≤ n := by
            rcases Nat.eq_zero_or_pos n with z | z
            · subst z
              exact absurd (decide_eq_true (show V.int (((0 + 1 : Nat) : Int) - 1) = V.int 0 from rfl)) g
            · exact z
          have ds : D ≠ p := fun z => by
            rw [z] at hD
            exact (hd.same s1).ne hD rfl
          have hs2 := s02 _ _ hs
          refine ⟨_, rfl, p, 4, rfl, dk, by decide, by decide, fun r H3 r0 r1 e3 o3 d3 => ⟨rfl, _, rfl, ?_⟩⟩
          have hbk := (o3 D ds).trans hbk
          have hlk := (o3 l pl).trans hlk
          have hsk := (o3 s ps).trans hs2
          have bk := bk.trans (But.of1 o3)
          have dk := d3
          refine ite2 (fun g => ?_) (fun g => ?_)
          · walk_at "leafEnd"
          · clear hacc hbk lacc nacc
            refine ⟨_, rfl, _, rfl, s, symsH, ["a", "bb", "f", "k", "cons"], rfl, .inl hsk, rfl, by decide, fun zs q2 pm2 so2 nq2 => ?_⟩
            generalize gg6 : upd _ q2 _ = H4; obtain ⟨eg6, og6, tg6⟩ := made nq2 gg6; clear gg6
            have s4 := sameOf nq2 og6
            refine ⟨_, rfl, s, symsH, ["a", "bb", "f", "k", "cons"], rfl, .inl (s4 _ _ hsk), rfl, by decide, fun zs3 q3 pm3 so3 nq3 => ?_⟩
            generalize gg7 : upd _ q3 _ = H5; obtain ⟨eg7, og7, tg7⟩ := made nq3 gg7; clear gg7
            have s5 := s4.trans (sameOf nq3 og7)
            refine ⟨_, rfl, ⟨_, SqL.of tg7⟩, fun D2 hD2 => ?_⟩
            refine lc_list (K := K) (xs := zs3.map V.str) (fun i H' => Same H5 H' ∧ ∃ acc, H' D2 = some (.lst acc) ∧ (∀ v ∈ acc, ∃ x ∈ zs3, v = V.str x) ∧ acc.length ≤ i) ⟨sameOf hD2 (fun b hb => upd_ne hb), [], upd_same, (fun v hv => by cases hv), Nat.le_refl _⟩ (fun i H' _ z => SqL.of (z.1 _ _ tg7)) ?_ ?_
            · rintro i y H6 hi ⟨s6, acc, hacc, lacc, nacc⟩
              rw [List.getElem?_map] at hi
              obtain ⟨wd, hwd, rfl⟩ := Option.map_eq_some_iff.mp hi
              have hy := pm3.mem_iff.mp (List.mem_of_getElem? hwd)
              have i5 : i < 5 := by
                have a := (List.getElem?_eq_some_iff.mp hwd).1
                rw [pm3.length_eq] at a
                exact a
              obtain ⟨u, k, rfl, hv, hu⟩ := syms_at wd hy
              refine ⟨rfl, ?_⟩
              refine ⟨_, rfl, _, rfl, _, _, rfl, hv ▸ DGet.k (s6 _ _ (s5 _ _ hsk)), _, _, rfl, rfl, _, rfl, ?_⟩
              refine ite2 (fun g => ?_) (fun g => ?_)
              · refine ⟨_, rfl, _, hacc, szlt (by omega), fun b o e => ?_, _, upd_same, fun v hv => ?_, by rw [List.length_append]; exact Nat.succ_le_succ nacc⟩
                · rw [upd_ne (ne_of_none e hD2)]
                  exact s6 _ _ e
                · rcases List.mem_append.mp hv with hv | hv
                  · exact lacc v hv
                  · exact ⟨_, List.mem_of_getElem? hwd, List.mem_singleton.mp hv⟩
              · exact ⟨s6, acc, hacc, lacc, Nat.le_succ_of_le nacc⟩
            · rintro H6 ⟨s6, acc, hacc, lacc, nacc⟩
              have n5 : acc.length ≤ 5 := by
                rw [List.length_map, pm3.length_eq] at nacc
                exact nacc
              have s7 := s5.trans s6
              refine ⟨_, _, _, _, rfl, rfl, s6 _ _ ((sameOf nq3 og7) _ _ tg6), hacc, Nat.le_trans (show (zs.map V.str).length + acc.length ≤ 100000 by rw [List.length_map, pm2.length_eq]; show 5 + acc.length ≤ 100000; omega) (by decide), fun q4 nq4 => ?_⟩
              generalize gg8 : upd _ q4 _ = H7; obtain ⟨eg8, og8, tg8⟩ := made nq4 gg8; clear gg8
              have s8 := s7.trans (sameOf nq4 og8)
              have d8 := dk.same s8
              have n4 : q4 ≠ p := fun z => (dk.same s7).ne nq4 z.symm
              have lv : ∀ v ∈ zs.map V.str ++ acc, ∃ x ∈ (["a", "bb", "f", "k", "cons"] : List Str), v = V.str x := fun v hv => by
                rcases List.mem_append.mp hv with hv | hv
                · obtain ⟨x, hx, rfl⟩ := List.mem_map.mp hv
                  exact ⟨x, pm2.mem_iff.mp hx, rfl⟩
                · obtain ⟨x, hx, rfl⟩ := lacc v hv
                  exact ⟨x, pm3.mem_iff.mp hx, rfl⟩
              have zl : (zs.map V.str).length = 5 := by
                rw [List.length_map, pm2.length_eq]
                rfl
              refine ⟨p, q4, _, rfl, d8, (pick_l tg8 n4).1, (pick_l tg8 n4).2, by rw [List.length_append, zl]; omega, by rw [List.length_append, zl]; omega, fun i v H8 hv e9 o9 d9 => ?_⟩
              obtain ⟨x, hx, rfl⟩ := lv v (List.mem_of_getElem? hv)
              obtain ⟨u, k, rfl, hvk, hu⟩ := syms_at x hx
              have bk9 := (bk.trans (But.ofS s8)).trans (But.of1 o9)
              have hs9 := But.at hs ps bk9
              have hl9 := But.at hl pl bk9
              refine ⟨_, rfl, _, rfl, _, rfl, _, _, rfl, hvk ▸ DGet.k hs9, _, rfl, ?_⟩
              have k3 := few_words hu
              refine ⟨by omega, by omega, fun D3 hD3 => ?_⟩
              have D3p : D3 ≠ p := fun z => by
                rw [z] at hD3
                exact d9.ne hD3 rfl
              refine lc_range (lo := 0) (n := (k : Int).toNat) (fun i H' => But p H8 H' ∧ Dc H' p ∧ ∃ ws ds, H' D3 = some (.lst ws) ∧ DxAll H' ws ds ∧ ds.length = i ∧ ∀ e ∈ ds, IsT n e) ⟨But.ofS (sameOf hD3 fun b hb => upd_ne hb), d9.same (sameOf hD3 fun b hb => upd_ne hb), [], [], upd_same, .nil, rfl, fun e he => by cases he⟩ ?_ ?_
              · rintro i H9 hi ⟨b9, d9', ws, ds, hws, hdx, len, hT⟩
                refine ⟨rfl, ?_⟩
                refine ⟨_, rfl, _, rfl, _, rfl, _, rfl, _, _, rfl, rfl, ?_⟩
                have b19 := bk9.trans b9
                refine ⟨p, s, l, by
                  show [V.ref p, V.ref s, V.ref l, V.int (((n + 1 : Nat) : Int) - 1 - 1)] = _
                  rw [show (((n + 1 : Nat) : Int) - 1 - 1) = (n : Int) - 1 by omega], n1, d9', But.at hs ps b19, But.at hl pl b19, fun v d H10 b10 d10 dx isT => ?_⟩
                have hw10 := But.at hws D3p b10
                have tk : ∀ (b : Addr) (xs : List V), H10 b = some (.tup xs) → (L2.upd H10 D3 (.lst (ws ++ [v]))) b = some (.tup xs) := fun b xs e => by
                  rw [upd_ne (fun z => by rw [z, hw10] at e; cases e)]
                  exact e
                refine ⟨_, hw10, szlt (by rw [hdx.len, len]; omega), ?_, Dc.upd d10 (Ne.symm D3p), ws ++ [v], ds ++ [d], upd_same, (dxTs tk hT (dxTs (But.tup d9' b10) hT hdx)).app (.cons (dxT tk isT dx) .nil), by rw [List.length_append, len]; rfl, fun e he => (List.mem_append.mp he).elim (hT e) (fun z => List.mem_singleton.mp z ▸ isT)⟩
                intro b o nb e
                rw [upd_ne (ne_of_none e hD3)]
                exact (b9.trans b10) b o nb e
              · rintro H9 ⟨b9, d9', ws, ds, hws, hdx, len, hT⟩
                refine ⟨_, _, rfl, .inl ⟨SqL.of hws, fun r6 m6 => ?_⟩⟩
                generalize gg9 : L2.upd _ r6 _ = G1; obtain ⟨ef1, of1, tf1⟩ := made m6 gg9; clear gg9
                refine ⟨(szr rfl), fun r7 m7 => ?_⟩
                generalize gg10 : L2.upd _ r7 _ = G2; obtain ⟨ef2, of2, tf2⟩ := made m7 gg10; clear gg10
                have s11 := (sameOf m6 of1).trans (sameOf m7 of2)
                have kk : ds.length = k := by rw [len]; omega
                exact q (.ref r7) (.tuple [.str u, .tuple ds]) G2 ((bk9.trans b9).trans (But.ofS s11)) (d9'.same s11) (.tup tf2 (.cons (.str _) (.cons (.tup ((of2 _ (ne_of_none tf1 m7)).trans tf1) (hdx.same s11)) .nil))) ⟨u, ds, rfl, by rw [kk]; exact hu, hT⟩
def spSmall : Sp := fun vs H Q _ => ∃ (p s l : Addr) (n : Nat), vs = [.ref p, .ref s, .ref l, .int ((n : Int) - 1), .int 40] ∧ 1 ≤ n ∧ n ≤ 5 ∧ Dc H p ∧ H s = some (.dK symsH) ∧ H l = some (.lst [.str "_", .str "#"]) ∧
  ∀ (v : V) (d : PyData) (m : Nat) (H' : Hp), But p H H' → Dc H' p → Dx H' v d → IsT m d → m ≤ 5 → (nodesT m d).length ≤ 40 → Q v H'
theorem ok__law_small_term {f : Addr} {fd : FuncData} (F : Fun K "_law_small_term" "_law_small_term" s__law_small_term f fd) (T : Txt mg) (Z : TermZ K mg c) (Y : TermY K c b) {f__law_term : Addr} {fd__law_term : FuncData} (G__law_term : FnOk P w K mg base CX0 7 f__law_term fd__law_term P__law_term (fun vs H Q E => ∃ n, n ≤ 5 ∧ spTerm n vs H Q E)) (C__law_term : Cal K mg "_law_term" f__law_term fd__law_term P__law_term) {f__law_nodes : Addr} {fd__law_nodes : FuncData} (G__law_nodes : FnOk P w K mg base CX0 6 f__law_nodes fd__law_nodes P__law_nodes (fun vs H Q E => ∃ n, n ≤ 5 ∧ spNodesL n vs H Q E)) (C__law_nodes : Cal K mg "_law_nodes" f__law_nodes fd__law_nodes P__law_nodes) {f__law_pick : Addr} {fd__law_pick : FuncData} (G__law_pick : FnOk P w K mg base CX0 2 f__law_pick fd__law_pick P__law_pick (spPick K)) (C__law_pick : Cal K mg "_law_pick" f__law_pick fd__law_pick P__law_pick) : FnOk P w K mg base CX0 8 f fd P__law_small_term spSmall := by
  refine F.ok sc__law_small_term (fun vs H Q E h => ?_) (fun cdv A outer s H vs Q E hr h => ?_)
  · obtain ⟨p, s, l, n, rfl, _⟩ := h
    rfl
  · obtain ⟨p, s, l, n, rfl, h1, h4, hd, hs, hl, q⟩ := h
    refine ⟨_, (pss_cons (ps_set (i := 5) sc__law_small_term.nd rfl (Or.inl rfl) (pe_call G__law_term (hr.mono (by decide)) rfl C__law_term.m C__law_term.k C__law_term.b .nil pass0 (pa_cons (pv 0) (pa_cons (pv 1) (pa_cons (pv 2) (pa_cons (pv 3) pa_nil))))))
      (pss_cons (ps_if (pt_cmpR op_le (pe_callB call_len_seq (by rfl) T.n_len (by decide +kernel) (pa_cons (pe_call G__law_nodes (hr.mono (by decide)) rfl C__law_nodes.m C__law_nodes.k C__law_nodes.b .nil pass0 (pa_cons (pv 5) pa_nil)) pa_nil)) (pv 4) (nomark _)) (pss_one (ps_ret (pv 5))) pss_nil)
      (pss_cons (ps_set (i := 5) sc__law_small_term.nd rfl (Or.inl rfl) (pe_call G__law_term (hr.mono (by decide)) rfl C__law_term.m C__law_term.k C__law_term.b .nil pass0 (pa_cons (pv 0) (pa_cons (pv 1) (pa_cons (pv 2) (pa_cons pe_int pa_nil))))))
      (pss_cons (ps_if (pt_cmpR op_le (pe_callB call_len_seq (by rfl) T.n_len (by decide +kernel) (pa_cons (pe_call G__law_nodes (hr.mono (by decide)) rfl C__law_nodes.m C__law_nodes.k C__law_nodes.b .nil pass0 (pa_cons (pv 5) pa_nil)) pa_nil)) (pv 4) (nomark _)) (pss_one (ps_ret (pv 5))) pss_nil)
      (pss_one (ps_ret (pe_tup (pa_cons (pe_call G__law_pick (hr.mono (by decide)) rfl C__law_pick.m C__law_pick.k C__law_pick.b .nil pass0 (pa_cons (pv 0) (pa_cons (pe_ifExp (pt_cmpR (op_neD hr.units) (pv 2) (pe_lst pa_nil) (nomark _)) (pv 2) (pe_lst (pa_cons pe_str pa_nil))) pa_nil))) (pa_cons (pe_tup pa_nil) pa_nil))))))))), ?_⟩
    refine ⟨_, rfl, _, rfl, _, rfl, _, rfl, n, h4, p, s, l, rfl, h1, hd, hs, hl, fun v d H1 b1 d1 dx isT => ?_⟩
    refine ⟨_, rfl, n, h4, v, d, rfl, dx, isT, h4, fun r xs H2 s2 nr hr1 hx => ?_⟩
    refine ⟨_, _, rfl, .inl (SqL.of hr1), _, rfl, _, _, rfl, rfl, _, rfl, ?_⟩
    have b2 := b1.trans (But.ofS s2)
    have d2 := d1.same s2
    refine ite2 (fun g => ⟨_, rfl, q v d n H2 b2 d2 (dx.same s2) isT h4 ?_⟩) (fun g => ?_)
    · have := of_decide_eq_true g
      have e := hx.len
      omega
    · refine ⟨_, rfl, _, rfl, _, rfl, 2, by decide, p, s, l, rfl, by decide, d2, ?_, ?_, fun v2 e H3 b3 d3 dx3 isT3 => ?_⟩
      · exact b2 _ _ (fun z => by rw [z] at hs; obtain ⟨x1, x2, x3, x4⟩ := hd; rw [x4] at hs; cases hs) hs
      · exact b2 _ _ (fun z => by rw [z] at hl; obtain ⟨x1, x2, x3, x4⟩ := hd; rw [x4] at hl; cases hl) hl
      refine ⟨_, rfl, 2, by decide, v2, e, rfl, dx3, isT3, by decide, fun r2 xs2 H4 s4 nr2 hr2 hx2 => ?_⟩
      refine ⟨_, _, rfl, .inl (SqL.of hr2), _, rfl, _, _, rfl, rfl, _, rfl, ?_⟩
      have len : (nodesT 2 e).length ≤ 40 := Nat.le_trans (nodes_len isT3) (by decide)
      have e2 := hx2.len
      refine ite2 (fun _ => ⟨_, rfl, q v2 e 2 H4 ((b2.trans b3).trans (But.ofS s4)) (d3.same s4) (dx3.same s4) isT3 (by decide) len⟩) (fun g => absurd (decide_eq_true (by omega)) g)
def spDrawn : Sp := fun vs H Q _ => ∃ (p : Addr) (n : Nat), vs = [.ref p, .int ((n : Int) - 1)] ∧ 1 ≤ n ∧ n ≤ 5 ∧ Dc H p ∧ ∀ (v : V) (d : PyData) (m : Nat) (H' : Hp), But p H H' → Dc H' p → Dx H' v d → IsT m d → m ≤ 5 → (nodesT m d).length ≤ 40 → Q v H'
theorem ok__law_drawn_term {f : Addr} {fd : FuncData} (F : Fun K "_law_drawn_term" "_law_drawn_term" s__law_drawn_term f fd) (T : Txt mg) (Z : TermZ K mg c) (Y : TermY K c b) {f__law_small_term : Addr} {fd__law_small_term : FuncData} (G__law_small_term : FnOk P w K mg base CX0 8 f__law_small_term fd__law_small_term P__law_small_term spSmall) (C__law_small_term : Cal K mg "_law_small_term" f__law_small_term fd__law_small_term P__law_small_term) : FnOk P w K mg base CX0 9 f fd P__law_drawn_term spDrawn := by
  refine F.ok sc__law_drawn_term (fun vs H Q E h => ?_) (fun cdv A outer s H vs Q E hr h => ?_)
  · obtain ⟨p, n, rfl, _⟩ := h
    rfl
  · obtain ⟨p, n, rfl, h1, h4, hd, q⟩ := h
    refine ⟨_, (pss_cons (ps_set (i := 2) sc__law_drawn_term.nd rfl (Or.inl rfl) (pe_disp (pps_cons pe_str pe_int (pps_cons pe_str pe_int (pps_cons pe_str pe_int (pps_cons pe_str pe_int (pps_cons pe_str pe_int pps_nil))))) rfl rfl (by simp) (by decide)))
      (pss_one (ps_ret (pe_call G__law_small_term (hr.mono (by decide)) rfl C__law_small_term.m C__law_small_term.k C__law_small_term.b .nil pass0 (pa_cons (pv 0) (pa_cons (pv 2) (pa_cons (pe_lst (pa_cons pe_str (pa_cons pe_str pa_nil))) (pa_cons (pv 1) (pa_cons pe_int pa_nil))))))))), ?_⟩
    refine fun s ns => ⟨upd_same, symsH, rfl, by decide, ?_⟩
    generalize g0 : L2.upd _ s (.dK (mergeK [] symsH)) = H0
    have s0 : Same H H0 := by
      subst g0
      intro b o e
      rw [upd_ne (ne_of_none e ns), upd_ne (ne_of_none e ns)]
      exact e
    have hs : H0 s = some (.dK symsH) := by
      subst g0
      rw [upd_same]
      rfl
    refine ⟨_, rfl, _, rfl, (szr rfl), fun p1 n1 => ?_⟩
    generalize g1 : upd _ p1 _ = H1; obtain ⟨e1, o1, t1⟩ := made n1 g1; clear g1
    have s1 := s0.trans (sameOf n1 o1)
    refine ⟨_, rfl, p, s, p1, n, rfl, h1, h4, hd.same s1, (o1 _ (ne_of_none hs n1)).trans hs, t1, fun v d m H2 b2 d2 dx isT hm hl => ?_⟩
    exact q v d m H2 ((But.ofS s1).trans b2) d2 dx isT hm hl

/-! ### plain terms: their parts, texts and depths, and what their rows of nodes tell -/
def partsT : Nat → PyData → List PyData
  | n + 1, .tuple [w, .tuple ds] => .tuple [w, .tuple ds] :: ds.flatMap (partsT n)
  | _, _ => []
theorem isT_up : ∀ {n : Nat} {d : PyData}, IsT n d → IsT (n + 1) d
  | 0, _, h => h.elim
  | n + 1, _, ⟨w, ds, rfl, hw, hds⟩ => ⟨w, ds, rfl, hw, fun e he => isT_up (hds e he)⟩
theorem flat_congr {f g : PyData → List PyData} : ∀ {ds : List PyData}, (∀ e ∈ ds, f e = g e) → ds.flatMap f = ds.flatMap g
  | [], _ => rfl
  | d :: ds, h => by
    rw [List.flatMap_cons, List.flatMap_cons, h d List.mem_cons_self, flat_congr fun e he => h e (List.mem_cons_of_mem _ he)]
theorem nodes_up : ∀ {n : Nat} {d : PyData}, IsT n d → nodesT (n + 1) d = nodesT n d
  | 0, _, h => h.elim
  | n + 1, _, ⟨w, ds, rfl, hw, hds⟩ => by
    show _ :: ds.flatMap (nodesT (n + 1)) = _ :: ds.flatMap (nodesT n)
    rw [flat_congr fun e he => nodes_up (hds e he)]
theorem parts_up : ∀ {n : Nat} {d : PyData}, IsT n d → partsT (n + 1) d = partsT n d
  | 0, _, h => h.elim
  | n + 1, _, ⟨w, ds, rfl, hw, hds⟩ => by
    show _ :: ds.flatMap (partsT (n + 1)) = _ :: ds.flatMap (partsT n)
    rw [flat_congr fun e he => parts_up (hds e he)]
theorem parts_is : ∀ {n : Nat} {d : PyData}, IsT n d → ∀ e ∈ partsT n d, IsT n e
  | 0, _, h, _, _ => h.elim
  | n + 1, _, ⟨w, ds, rfl, hw, hds⟩, e, he => by
    rcases List.mem_cons.mp he with rfl | he
    · exact ⟨w, ds, rfl, hw, hds⟩
    · obtain ⟨c, hc, he⟩ := List.mem_flatMap.mp he
      exact isT_up (parts_is (hds c hc) e he)
theorem flat_lens {f g : PyData → List PyData} : ∀ {ds : List PyData}, (∀ e ∈ ds, (f e).length = (g e).length) → (ds.flatMap f).length = (ds.flatMap g).length
  | [], _ => rfl
  | d :: ds, h => by
    rw [List.flatMap_cons, List.flatMap_cons, List.length_append, List.length_append, h d List.mem_cons_self, flat_lens fun e he => h e (List.mem_cons_of_mem _ he)]
theorem parts_len : ∀ {n : Nat} {d : PyData}, IsT n d → (partsT n d).length = (nodesT n d).length
  | 0, _, h => h.elim
  | n + 1, _, ⟨w, ds, rfl, hw, hds⟩ => by
    show (_ :: ds.flatMap (partsT n)).length = (_ :: ds.flatMap (nodesT n)).length
    rw [List.length_cons, List.length_cons, flat_lens fun e he => parts_len (hds e he)]
theorem parts_row {n : Nat} (ih : ∀ {d : PyData}, IsT n d → ∀ {i : Nat} {e : PyData}, (partsT n d)[i]? = some e → ∃ rest, (nodesT n d).drop i = nodesT n e ++ rest) :
    ∀ {ds : List PyData}, (∀ e ∈ ds, IsT n e) → ∀ {i : Nat} {e : PyData}, (ds.flatMap (partsT n))[i]? = some e → ∃ rest, (ds.flatMap (nodesT n)).drop i = nodesT n e ++ rest
  | [], _, i, e, h => by simp at h
  | d :: ds, hd, i, e, h => by
    have hdd := hd d List.mem_cons_self
    have L := parts_len hdd
    rw [List.flatMap_cons] at h ⊢
    by_cases hi : i < (partsT n d).length
    · rw [List.getElem?_append_left hi] at h
      obtain ⟨rest, e2⟩ := ih hdd h
      rw [List.drop_append_of_le_length (by omega), e2, List.append_assoc]
      exact ⟨_, rfl⟩
    · rw [List.getElem?_append_right (by omega)] at h
      obtain ⟨rest, e2⟩ := parts_row ih (fun x hx => hd x (List.mem_cons_of_mem _ hx)) h
      rw [List.drop_append, List.drop_eq_nil_of_le (by omega), List.nil_append, ← L, e2]
      exact ⟨_, rfl⟩
theorem parts_at : ∀ {n : Nat} {d : PyData}, IsT n d → ∀ {i : Nat} {e : PyData}, (partsT n d)[i]? = some e → ∃ rest, (nodesT n d).drop i = nodesT n e ++ rest
  | 0, _, h, _, _, _ => h.elim
  | n + 1, _, ⟨w, ds, rfl, hw, hds⟩, 0, e, h => by
    cases (show some _ = some e from h)
    exact ⟨[], by rw [List.append_nil]; rfl⟩
  | n + 1, _, ⟨w, ds, rfl, hw, hds⟩, i + 1, e, h => by
    obtain ⟨rest, e2⟩ := parts_row (fun h => parts_at h) hds (show (ds.flatMap (partsT n))[i]? = some e from h)
    obtain ⟨c, hc, he⟩ := List.mem_flatMap.mp (List.mem_of_getElem? (show (ds.flatMap (partsT n))[i]? = some e from h))
    refine ⟨rest, ?_⟩
    rw [nodes_up (parts_is (hds c hc) e he)]
    exact e2
theorem walk_row {n : Nat} (ih : ∀ {d : PyData}, IsT n d → ∀ (m : Nat) (l : List Int), walkT (m + 1) ((nodesT n d).map arOf ++ l) = (walkT m l).map (· + (nodesT n d).length)) :
    ∀ {ds : List PyData}, (∀ e ∈ ds, IsT n e) → ∀ (m : Nat) (l : List Int), walkT (m + ds.length) ((ds.flatMap (nodesT n)).map arOf ++ l) = (walkT m l).map (· + (ds.flatMap (nodesT n)).length)
  | [], _, m, l => by
    show walkT m l = (walkT m l).map (· + 0)
    cases walkT m l <;> rfl
  | d :: ds, h, m, l => by
    have r := walk_row ih (fun x hx => h x (List.mem_cons_of_mem _ hx)) m l
    have a := ih (h d List.mem_cons_self) (m + ds.length) ((ds.flatMap (nodesT n)).map arOf ++ l)
    rw [List.flatMap_cons, List.map_append, List.append_assoc, List.length_cons, ← Nat.add_assoc, a, r, Option.map_map, List.length_append]
    congr 1
    funext x
    show x + _ + _ = x + (_ + _)
    omega
theorem walk_app : ∀ {n : Nat} {d : PyData}, IsT n d → ∀ (m : Nat) (l : List Int), walkT (m + 1) ((nodesT n d).map arOf ++ l) = (walkT m l).map (· + (nodesT n d).length)
  | 0, _, h, _, _ => h.elim
  | n + 1, _, ⟨w, ds, rfl, hw, hds⟩, m, l => by
    show (walkT (m + (ds.length : Int).toNat) ((ds.flatMap (nodesT n)).map arOf ++ l)).map (· + 1) = _
    rw [Int.toNat_natCast, walk_row (fun h => walk_app h) hds m l, Option.map_map]
    congr 1
theorem walk_at {n : Nat} {d : PyData} (h : IsT n d) {i : Nat} {e : PyData} (he : (partsT n d)[i]? = some e) : walkT 1 (((nodesT n d).map arOf).drop i) = some (nodesT n e).length := by
  obtain ⟨rest, e2⟩ := parts_at h he
  rw [← List.map_drop, e2, List.map_append]
  have := walk_app (parts_is h e (List.mem_of_getElem? he)) 0 (rest.map arOf)
  rw [walkT_zero] at this
  rw [this]
  show some (0 + _) = _
  rw [Nat.zero_add]
/-! ### texts -/
def textT : Nat → PyData → Str
  | n + 1, .tuple [.str w, .tuple ds] => if ds.isEmpty then w else w ++ "(" ++ Str.join ", " (ds.map (textT n)) ++ ")"
  | _, _ => ""
theorem texts_row {n : Nat} (ih : ∀ {d : PyData}, IsT n d → ∀ (l : List (Str × Int)), textsF ((nodesT n d).map pairD ++ l) = textT n d :: textsF l) :
    ∀ {ds : List PyData}, (∀ e ∈ ds, IsT n e) → ∀ (l : List (Str × Int)), textsF ((ds.flatMap (nodesT n)).map pairD ++ l) = ds.map (textT n) ++ textsF l
  | [], _, l => rfl
  | d :: ds, h, l => by
    rw [List.flatMap_cons, List.map_append, List.append_assoc, ih (h d List.mem_cons_self), texts_row ih (fun x hx => h x (List.mem_cons_of_mem _ hx)) l]
    rfl
theorem texts_app : ∀ {n : Nat} {d : PyData}, IsT n d → ∀ (l : List (Str × Int)), textsF ((nodesT n d).map pairD ++ l) = textT n d :: textsF l
  | 0, _, h, _ => h.elim
  | n + 1, _, ⟨w, ds, rfl, hw, hds⟩, l => by
    have r := texts_row (fun h => texts_app h) hds l
    show (if decide ((ds.length : Int) > 0) = true then (w : Str) ++ "(" ++ Txt.join ", " ((textsF ((ds.flatMap (nodesT n)).map pairD ++ l)).take (ds.length : Int).toNat) ++ ")" else (w : Str)) :: (textsF ((ds.flatMap (nodesT n)).map pairD ++ l)).drop (ds.length : Int).toNat = _
    rw [r, Int.toNat_natCast, show ds.length = (ds.map (textT n)).length from (List.length_map _).symm, List.take_left', List.drop_left', TL.join_eq]
    · show _ = (if ds.isEmpty then (w : Str) else _) :: _
      cases ds with
      | nil => rfl
      | cons c cs =>
        rw [if_pos (decide_eq_true (by rw [List.length_map, List.length_cons]; omega))]
        rfl
    · rfl
    · rfl
theorem text_at {n : Nat} {d : PyData} (h : IsT n d) : (textsF ((nodesT n d).map pairD)).head? = some (textT n d) := by
  have := texts_app h []
  rw [List.append_nil] at this
  rw [this]
  rfl
/-! ### depths -/
def deepT : Nat → PyData → Int
  | n + 1, .tuple [_, .tuple ds] => 1 + maxI 0 (ds.map (deepT n))
  | _, _ => 0
theorem heights_row {n : Nat} (ih : ∀ {d : PyData}, IsT n d → ∀ (l : List Int), heightsF ((nodesT n d).map arOf ++ l) = deepT n d :: heightsF l) :
    ∀ {ds : List PyData}, (∀ e ∈ ds, IsT n e) → ∀ (l : List Int), heightsF ((ds.flatMap (nodesT n)).map arOf ++ l) = ds.map (deepT n) ++ heightsF l
  | [], _, l => rfl
  | d :: ds, h, l => by
    rw [List.flatMap_cons, List.map_append, List.append_assoc, ih (h d List.mem_cons_self), heights_row ih (fun x hx => h x (List.mem_cons_of_mem _ hx)) l]
    rfl
theorem heights_app : ∀ {n : Nat} {d : PyData}, IsT n d → ∀ (l : List Int), heightsF ((nodesT n d).map arOf ++ l) = deepT n d :: heightsF l
  | 0, _, h, _ => h.elim
  | n + 1, _, ⟨w, ds, rfl, hw, hds⟩, l => by
    have r := heights_row (fun h => heights_app h) hds l
    show (1 + maxI 0 ((heightsF ((ds.flatMap (nodesT n)).map arOf ++ l)).take (ds.length : Int).toNat)) :: (heightsF ((ds.flatMap (nodesT n)).map arOf ++ l)).drop (ds.length : Int).toNat = _
    rw [r, Int.toNat_natCast, show ds.length = (ds.map (deepT n)).length from (List.length_map _).symm, List.take_left', List.drop_left']
    · rfl
    · rfl
    · rfl
theorem deep_at {n : Nat} {d : PyData} (h : IsT n d) : (heightsF ((nodesT n d).map arOf)).head? = some (deepT n d) := by
  have := heights_app h []
  rw [List.append_nil] at this
  rw [this]
  rfl
/-! ### the places of the arguments -/
def belowL (n : Nat) : List PyData → Nat → List Nat
  | [], _ => []
  | c :: cs, a => a :: belowL n cs (a + (partsT n c).length)
theorem arg_below {n : Nat} {ms : List Int} : ∀ {cs : List PyData} {a : Nat} {l : List Int}, (∀ e ∈ cs, IsT n e) → ms.drop a = (cs.flatMap (nodesT n)).map arOf ++ l → argP ms cs.length a = some (belowL n cs a)
  | [], _, _, _, _ => rfl
  | c :: cs, a, l, h, e => by
    have hc := h c List.mem_cons_self
    have w : walkT 1 (ms.drop a) = some (nodesT n c).length := by
      rw [e, List.flatMap_cons, List.map_append, List.append_assoc, walk_app hc 0, walkT_zero]
      show some (0 + _) = _
      rw [Nat.zero_add]
    have r := arg_below (a := a + (nodesT n c).length) (l := l) (fun x hx => h x (List.mem_cons_of_mem _ hx)) (by
      rw [← List.drop_drop, e, List.flatMap_cons, List.map_append, List.append_assoc, List.drop_left' (by rw [List.length_map])])
    show (walkT 1 (ms.drop a)).bind (fun n => (argP ms cs.length (a + n)).map (a :: ·)) = _
    rw [w]
    show (argP ms cs.length (a + (nodesT n c).length)).map (a :: ·) = _
    rw [r]
    show some (a :: belowL n cs (a + (nodesT n c).length)) = some (a :: belowL n cs (a + (partsT n c).length))
    rw [parts_len hc]
theorem below_at {n : Nat} {d : PyData} (h : IsT n d) {i : Nat} {w : Str} {ds : List PyData} (he : (partsT n d)[i]? = some (.tuple [.str w, .tuple ds])) :
    ((nodesT n d).map arOf)[i]? = some (ds.length : Int) ∧ argP ((nodesT n d).map arOf) ds.length (i + 1) = some (belowL n ds (i + 1)) := by
  obtain ⟨rest, e2⟩ := parts_at h he
  have hp := parts_is h _ (List.mem_of_getElem? he)
  cases n with
  | zero => exact h.elim
  | succ n =>
    obtain ⟨w', ds', e3, hw, hds⟩ := id hp
    cases e3
    have e4 : (nodesT (n + 1) d).drop i = .tuple [.str w', .int ds.length] :: (ds.flatMap (nodesT n) ++ rest) := e2
    have up : ∀ e ∈ ds, IsT (n + 1) e := fun e he => isT_up (hds e he)
    have e5 : ds.flatMap (nodesT n) = ds.flatMap (nodesT (n + 1)) := flat_congr fun e he => (nodes_up (hds e he)).symm
    refine ⟨?_, arg_below (l := rest.map arOf) up ?_⟩
    · have z := congrArg (·[0]?) e4
      simp only [List.getElem?_drop, Nat.add_zero, List.getElem?_cons_zero] at z
      rw [List.getElem?_map, z]
      rfl
    · rw [← List.drop_drop, ← List.map_drop, e4, e5, ← List.map_append]
      rfl

/-! ### what the law reads of a plain term -/
theorem lay_row {n : Nat} (ih : ∀ {d : PyData}, IsT n d → d.canLay0 = true ∧ d.depth ≤ 2 * n ∧ dictfree d = true) : ∀ {ds : List PyData}, (∀ e ∈ ds, IsT n e) → PyData.canLayAll0 ds = true ∧ PyData.depthAll ds ≤ 2 * n ∧ dictfreeAll ds = true
  | [], _ => ⟨rfl, Nat.zero_le _, rfl⟩
  | e :: es, h => by
    have r := lay_row ih fun x hx => h x (List.mem_cons_of_mem _ hx)
    have a := ih (h e List.mem_cons_self)
    refine ⟨?_, ?_, ?_⟩
    · simp only [PyData.canLayAll0, a.1, r.1, Bool.and_self]
    · simp only [PyData.depthAll]
      exact Nat.max_le.mpr ⟨a.2.1, r.2.1⟩
    · show (dictfree e && dictfreeAll es) = true
      rw [a.2.2, r.2.2]
      rfl
theorem words_lay : ∀ p ∈ wordsT, PyData.canLay0 (.str (p.1 : Str)) = true := by decide +kernel
theorem isT_lay : ∀ {n : Nat} {d : PyData}, IsT n d → d.canLay0 = true ∧ d.depth ≤ 2 * n ∧ dictfree d = true
  | 0, _, h => h.elim
  | n + 1, _, ⟨w, ds, rfl, hw, hds⟩ => by
    have r := lay_row (fun h => isT_lay h) hds
    have a := words_lay _ hw
    refine ⟨?_, ?_, ?_⟩
    · simp only [PyData.canLay0, PyData.canLayAll0, r.1, Bool.and_true] at a ⊢
      exact a
    · simp only [PyData.depth, PyData.depthAll]
      omega
    · show (true && ((dictfreeAll ds) && true)) = true
      rw [r.2.2]
      rfl
theorem args_lay {n : Nat} {ds : List PyData} (h : ∀ e ∈ ds, IsT n e) (hn : n ≤ 5) : SeqAt.shaped (.tuple ds) = true ∧ dictfree (.tuple ds) = true := by
  have r := lay_row (fun h => isT_lay h) h
  refine ⟨?_, r.2.2⟩
  have e1 : PyData.canLay0 (.tuple ds) = PyData.canLayAll0 ds := by simp only [PyData.canLay0]
  have e2 : PyData.depth (.tuple ds) = PyData.depthAll ds + 1 := by simp only [PyData.depth]
  show (PyData.canLay0 (.tuple ds) && decide (PyData.depth (.tuple ds) ≤ 64)) = true
  rw [e1, e2, r.1, Bool.true_and]
  exact decide_eq_true (by have := r.2.1; omega)
theorem text_len {n : Nat} {d : PyData} (h : IsT n d) (hn : n ≤ 5) : (textT n d).length ≤ 2000 := by
  have e := texts_app h []
  rw [List.append_nil] at e
  have a := texts_sum ((nodesT n d).map pairD)
  rw [e] at a
  have wb : ∀ es : List PyData, (∀ e ∈ es, isNodeD e = true) → ((es.map pairD).map wOf).sum ≤ es.length * 16 := fun es he => by
    induction es with
    | nil => exact Nat.zero_le _
    | cons e es ih =>
      have nd := he e List.mem_cons_self
      obtain ⟨x, k, rfl, k0, k3⟩ := node_shape nd
      have := node_len nd
      have a : wOf (pairD (.tuple [.str x, .int k])) ≤ 16 := by
        show x.length + 2 + 2 * k.toNat ≤ 16
        omega
      have b := ih fun x hx => he x (List.mem_cons_of_mem _ hx)
      rw [List.map_cons, List.map_cons, List.sum_cons, List.length_cons, Nat.succ_mul]
      omega
  have b := wb (nodesT n d) (nodes_node h)
  have l := Nat.le_trans (nodes_len h) (szT_mono hn)
  have c : szT 5 = 121 := rfl
  have f : sumL [textT n d] = (textT n d).length + 0 := rfl
  show (textT n d).length ≤ 2000
  have f2 : sumL (textT n d :: textsF []) = (textT n d).length + 0 := rfl
  omega
theorem nil_eqv (ds : List PyData) : PyData.eqv (.tuple ds) (.tuple []) = ds.isEmpty := by
  cases ds <;> simp [PyData.eqv, PyData.eqvAll]
def spTextL (n : Nat) : Sp := fun vs H Q _ => ∃ (v : V) (d : PyData), vs = [v] ∧ Dx H v d ∧ IsT n d ∧ n ≤ 5 ∧ ∀ H', Same H H' → Q (.str (textT n d)) H'
theorem ok__law_text {f : Addr} {fd : FuncData} (F : Fun K "_law_text" "_law_text" s__law_text f fd) (T : Txt mg) (Z : TermZ K mg c) (Y : TermY K c b) (C__law_text : Cal K mg "_law_text" f fd P__law_text) (nil0 : ∀ vs H Q E, ¬ spTextL 0 vs H Q E) : ∀ n : Nat, FnOk P w K mg base CX0 (n + 1) f fd P__law_text (spTextL n)
  | 0 => ⟨fun _ _ _ _ h => (nil0 _ _ _ _ h).elim, fun _ _ _ _ _ _ _ _ _ _ _ _ _ h => (nil0 _ _ _ _ h).elim⟩
  | n + 1 => by
    have G__law_text := ok__law_text F T Z Y C__law_text nil0 n
    refine FnOk.mono (j := (n + 1) + 1) (F.ok sc__law_text (fun vs H Q E h => ?_) (fun cdv A outer s H vs Q E hr h => ?_)) (by omega)
    · obtain ⟨v, d, rfl, _⟩ := h
      rfl
    · obtain ⟨v, d, rfl, hv, ⟨w, ds, rfl, hw, hds⟩, hn, q⟩ := h
      refine ⟨_, (pss_cons (ps_if (pt_cmpR (op_eqD hr.units) (pe_ix ix_tup (pv 0) pe_int (fun _ _ => rfl)) (pe_tup pa_nil) (nomark _)) (pss_one (ps_ret (pe_ix ix_tup (pv 0) pe_int (fun _ _ => rfl)))) pss_nil)
      (pss_one (ps_ret (pe_op op_add_str (pe_op op_add_str (pe_op op_add_str (pe_ix ix_tup (pv 0) pe_int (fun _ _ => rfl)) pe_str) (pe_join pe_str (pe_lc (own := [("_law_one", 1)]) (g := gName 1) (tt := tYes) rfl sc__law_text.nd (pi_tup (pe_ix ix_tup (pv 0) pe_int (fun _ _ => rfl))) (blkOk_by (own := [("_law_one", 1)]) (N := ["_law_term_here", "_law_one"]) (sc := (defScope s__law_text)) (by decide +kernel)) (fun _ _ _ _ _ => (pg_name (i := 1) sc__law_text.nd rfl (Or.inl rfl))) (fun _ _ _ _ _ => pts_nil) (fun _ _ _ _ _ => (pe_call G__law_text hr rfl C__law_text.m C__law_text.k C__law_text.b .nil pass0 (pa_cons (pv 1) pa_nil)))))) pe_str)))), ?_⟩
      have fw := few_words hw
      have al := args_lay hds (by omega)
      have wl : (w : Str).length ≤ 100 := by
        have z : ∀ p ∈ wordsT, (p.1 : Str).length ≤ 100 := by decide +kernel
        exact z _ hw
      have l2 : ((", " : Str)).length = 2 := by decide +kernel
      have lp : (("(" : Str)).length = 1 := by decide +kernel
      have lq : ((")" : Str)).length = 1 := by decide +kernel
      have z1 : ∀ {n : Nat}, n ≤ 100000 → n ≤ sizeLine := fun h => Nat.le_trans h (by decide)
      cases hv with
      | @tup a xs _ ha hx =>
        cases hx with
        | @cons v1 _ _ _ h1 hx =>
          cases hx with
          | @cons v2 _ _ _ h2 hx =>
            cases hx
            cases h1
            cases h2 with
            | @tup bb ys _ hb hy =>
              refine ⟨_, rfl, _, _, _, _, rfl, rfl, SqT.of ha, rfl, (szr rfl), fun p1 n1 => ?_⟩
              generalize g1 : L2.upd _ p1 _ = H1; obtain ⟨e1, o1, t1⟩ := made n1 g1; clear g1
              have s1 := sameOf n1 o1
              refine ⟨.tuple ds, .tuple [], (Dx.tup (s1 _ _ hb) (hy.same s1)).dp al.2, (Dx.tup t1 .nil).dp rfl, al.1, by decide +kernel, _, rfl, ?_⟩
              rw [nil_eqv]
              refine ite2 (fun g => ?_) (fun g => ?_)
              · refine ⟨_, rfl, _, _, _, _, rfl, rfl, SqT.of (s1 _ _ ha), rfl, ?_⟩
                have e : textT (n + 1) (.tuple [.str w, .tuple ds]) = w := if_pos g
                rw [e] at q
                exact q H1 s1
              · have e : textT (n + 1) (.tuple [.str w, .tuple ds]) = (w : Str) ++ "(" ++ Str.join ", " (ds.map (textT n)) ++ ")" := if_neg g
                rw [e] at q
                refine ⟨_, rfl, _, _, _, _, rfl, rfl, SqT.of (s1 _ _ ha), rfl, _, _, rfl, rfl, z1 (by rw [lp]; omega), ⟨_, rfl⟩, _, rfl, _, _, _, _, rfl, rfl, SqT.of (s1 _ _ ha), rfl, _, rfl, ⟨_, SqT.of (s1 _ _ hb)⟩, fun D hD => ?_⟩
                refine lc_tup (K := K) (xs := ys) (fun i H' => Same H1 H' ∧ H' D = some (.lst ((ds.take i).map fun d => V.str (textT n d)))) ⟨sameOf hD (fun b hb => upd_ne hb), upd_same⟩ (fun i H' _ h => SqT.of (h.1 _ _ (s1 _ _ hb))) ?_ ?_
                · rintro i y H' hi ⟨sm, hl1⟩
                  obtain ⟨d, hd, xd⟩ := hy.get hi
                  have dm := List.mem_of_getElem? hd
                  have i3 : i < ds.length := (List.getElem?_eq_some_iff.mp hd).1
                  refine ⟨rfl, ?_⟩
                  refine ⟨_, rfl, y, d, rfl, xd.same (s1.trans sm), hds d dm, by omega, fun H9 s9 => ?_⟩
                  refine ⟨_, s9 _ _ hl1, szlt (by rw [List.length_map, List.length_take]; omega), fun b o e => ?_, ?_⟩
                  · rw [upd_ne (ne_of_none e hD)]
                    exact s9 _ _ (sm _ _ e)
                  · rw [upd_same, List.take_add_one, List.map_append, hd]
                    rfl
                · rintro H9 ⟨sm, hl1⟩
                  rw [hy.len, List.take_of_length_le (Nat.le_refl _)] at hl1
                  have sum : ((ds.map (textT n)).map (·.length)).sum ≤ ds.length * 2000 := by
                    clear hl1 hy hb al e q hw fw g
                    induction ds with
                    | nil => exact Nat.zero_le _
                    | cons c cs ih =>
                      have a := text_len (hds c List.mem_cons_self) (by omega)
                      have b := ih fun x hx => hds x (List.mem_cons_of_mem _ hx)
                      rw [List.map_cons, List.map_cons, List.sum_cons, List.length_cons, Nat.succ_mul]
                      omega
                  have jl := StrLaws.join_length_le (", " : Str) (ds.map (textT n))
                  rw [l2, List.length_map] at jl
                  have hl2 : H9 D = some (.lst ((ds.map (textT n)).map V.str)) := by rw [hl1, List.map_map]; rfl
                  refine ⟨_, _, ds.map (textT n), rfl, rfl, (.inl (SqL.of hl2)), z1 (by rw [l2, List.length_map]; omega), ?_⟩
                  rw [TL.join_eq]
                  refine ⟨_, _, rfl, rfl, z1 (by rw [strLen_append, lp]; omega), _, _, rfl, rfl, z1 (by rw [strLen_append, strLen_append, lp, lq]; omega), ?_⟩
                  exact q H9 (s1.trans sm)
def spPartsL (n : Nat) : Sp := fun vs H Q _ => ∃ (v : V) (d : PyData), vs = [v] ∧ Dx H v d ∧ IsT n d ∧ n ≤ 5 ∧ ∀ (p : Addr) (xs : List V) (H' : Hp), Same H H' → H p = none → H' p = some (.lst xs) → DxAll H' xs (partsT n d) → Q (.ref p) H'
theorem ok__law_parts {f : Addr} {fd : FuncData} (F : Fun K "_law_parts" "_law_parts" s__law_parts f fd) (T : Txt mg) (Z : TermZ K mg c) (Y : TermY K c b) (C__law_parts : Cal K mg "_law_parts" f fd P__law_parts) (nil0 : ∀ vs H Q E, ¬ spPartsL 0 vs H Q E) : ∀ n : Nat, FnOk P w K mg base CX0 (n + 1) f fd P__law_parts (spPartsL n)
  | 0 => ⟨fun _ _ _ _ h => (nil0 _ _ _ _ h).elim, fun _ _ _ _ _ _ _ _ _ _ _ _ _ h => (nil0 _ _ _ _ h).elim⟩
  | n + 1 => by
    have G__law_parts := ok__law_parts F T Z Y C__law_parts nil0 n
    refine FnOk.mono (j := (n + 1) + 1) (F.ok sc__law_parts (fun vs H Q E h => ?_) (fun cdv A outer s H vs Q E hr h => ?_)) (by omega)
    · obtain ⟨v, d, rfl, _⟩ := h
      rfl
    · obtain ⟨v, d, rfl, hv, ⟨w, ds, rfl, hw, hds⟩, hn, q⟩ := h
      refine ⟨_, (pss_cons (ps_set (i := 1) sc__law_parts.nd rfl (Or.inl rfl) (pe_lst (pa_cons (pv 0) pa_nil)))
      (pss_cons (ps_for PassesOwn.never rfl (pi_tup (pe_ix ix_tup (pv 0) pe_int (fun _ _ => rfl))) (pg_name (i := 2) sc__law_parts.nd rfl (Or.inl rfl)) (pss_one (ps_set (i := 1) sc__law_parts.nd rfl (Or.inl rfl) (pe_op op_cat (pv 1) (pe_call G__law_parts hr rfl C__law_parts.m C__law_parts.k C__law_parts.b .nil pass0 (pa_cons (pv 2) pa_nil))))))
      (pss_one (ps_ret (pv 1))))), ?_⟩
      have fw := few_words hw
      have hs4 : szT n ≤ 40 := Nat.le_trans (szT_mono (n := 4) (by omega)) (by decide)
      have hvv := hv
      cases hv with
      | @tup a xs _ ha hx =>
        cases hx with
        | @cons v1 _ _ _ h1 hx =>
          cases hx with
          | @cons v2 _ _ _ h2 hx =>
            cases hx
            cases h1
            cases h2 with
            | @tup bb ys _ hb hy =>
              refine ⟨_, rfl, (szr rfl), fun p2 n2 => ?_⟩
              generalize g2 : upd _ p2 _ = H2; obtain ⟨e2, o2, t2⟩ := made n2 g2; clear g2
              have s2 := sameOf n2 o2
              have old : ∀ {G : Hp} {r : Addr}, Same H G → G r = none → H r = none := fun {G r} sm nr => by
                cases z : H r with
                | none => rfl
                | some o => rw [sm _ _ z] at nr; cases nr
              refine ⟨_, rfl, _, _, _, _, rfl, rfl, SqT.of (s2 _ _ ha), rfl, _, rfl, ⟨_, SqT.of (s2 _ _ hb)⟩, ?_⟩
              refine for_tup (K := K) (xs := ys) (fun i σ H' => Same H H' ∧ ∃ (r : Addr) (zs : List V) (a3 : Option V), σ = [some (.ref a), some (.ref r), a3] ∧ H r = none ∧ H' r = some (.lst zs) ∧ DxAll H' zs (.tuple [.str w, .tuple ds] :: (ds.take i).flatMap (partsT n)))
                ⟨s2, p2, _, none, rfl, n2, t2, .cons (hvv.same s2) .nil⟩ (fun i σ H' _ h => SqT.of (h.1 _ _ hb)) ?_ ?_
              · rintro i y σ H3 hi ⟨s3, r, zs, a3, rfl, nr, hr1, hz⟩
                obtain ⟨d, hd, xd⟩ := hy.get hi
                have dm := List.mem_of_getElem? hd
                have i3 : i < ds.length := (List.getElem?_eq_some_iff.mp hd).1
                have pl : ∀ e ∈ ds, (partsT n e).length ≤ 40 := fun e he => by
                  rw [parts_len (hds e he)]
                  exact Nat.le_trans (nodes_len (hds e he)) hs4
                refine ⟨_, rfl, _, rfl, ?_⟩
                refine ⟨y, d, rfl, xd.same s3, hds d dm, by omega, fun p4 us H4 s4 n4 h4 hu => ?_⟩
                have hz4 := hz.same s4
                have lz : zs.length ≤ 1 + 3 * 40 := by
                  rw [hz.len, List.length_cons]
                  have := flat_len (ds := ds.take i) (f := partsT n) (b := 40) fun e he => pl e (List.mem_of_mem_take he)
                  rw [List.length_take] at this
                  have m : min i ds.length * 40 ≤ 3 * 40 := Nat.mul_le_mul_right _ (by omega)
                  omega
                have lu : us.length ≤ 40 := by
                  rw [hu.len]
                  exact pl d dm
                refine ⟨_, _, _, _, rfl, rfl, s4 _ _ hr1, h4, Nat.le_trans (show zs.length + us.length ≤ 100000 by omega) (by decide), fun p3 n3 => ?_⟩
                generalize g3 : upd _ p3 _ = H5; obtain ⟨e3, o3, t3⟩ := made n3 g3; clear g3
                have s5 := sameOf n3 o3
                refine ⟨(s3.trans s4).trans s5, p3, _, _, rfl, old (s3.trans s4) n3, t3, ?_⟩
                rw [List.take_add_one, hd, List.flatMap_append]
                have ap := (hz4.same s5).app (hu.same s5)
                simpa using ap
              · rintro σ H3 ⟨s3, r, zs, a3, rfl, nr, hr1, hz⟩
                rw [hy.len, List.take_length] at hz
                refine ⟨_, rfl, ?_⟩
                exact q r zs H3 s3 nr hr1 hz
def spDeepL (n : Nat) : Sp := fun vs H Q _ => ∃ (v : V) (d : PyData), vs = [v] ∧ Dx H v d ∧ IsT n d ∧ n ≤ 5 ∧ ∀ H', Same H H' → Q (.int (deepT n d)) H'
theorem ok__law_deep {f : Addr} {fd : FuncData} (F : Fun K "_law_deep" "_law_deep" s__law_deep f fd) (T : Txt mg) (Z : TermZ K mg c) (Y : TermY K c b) (C__law_deep : Cal K mg "_law_deep" f fd P__law_deep) (nil0 : ∀ vs H Q E, ¬ spDeepL 0 vs H Q E) : ∀ n : Nat, FnOk P w K mg base CX0 (n + 1) f fd P__law_deep (spDeepL n)
  | 0 => ⟨fun _ _ _ _ h => (nil0 _ _ _ _ h).elim, fun _ _ _ _ _ _ _ _ _ _ _ _ _ h => (nil0 _ _ _ _ h).elim⟩
  | n + 1 => by
    have G__law_deep := ok__law_deep F T Z Y C__law_deep nil0 n
    refine FnOk.mono (j := (n + 1) + 1) (F.ok sc__law_deep (fun vs H Q E h => ?_) (fun cdv A outer s H vs Q E hr h => ?_)) (by omega)
    · obtain ⟨v, d, rfl, _⟩ := h
      rfl
    · obtain ⟨v, d, rfl, hv, ⟨w, ds, rfl, hw, hds⟩, hn, q⟩ := h
      refine ⟨_, (pss_one (ps_ret (pe_op op_add pe_int (pe_callBK (cr_maxDef rfl (hu64i hr)) (by rfl) T.n_max (by decide +kernel) (pa_cons (pe_lc (own := [("_law_one", 1)]) (g := gName 1) (tt := tYes) rfl sc__law_deep.nd (pi_tup (pe_ix ix_tup (pv 0) pe_int (fun _ _ => rfl))) (blkOk_by (own := [("_law_one", 1)]) (N := ["_law_term_here", "_law_one"]) (sc := (defScope s__law_deep)) (by decide +kernel)) (fun _ _ _ _ _ => (pg_name (i := 1) sc__law_deep.nd rfl (Or.inl rfl))) (fun _ _ _ _ _ => pts_nil) (fun _ _ _ _ _ => (pe_call G__law_deep hr rfl C__law_deep.m C__law_deep.k C__law_deep.b .nil pass0 (pa_cons (pv 1) pa_nil)))) pa_nil) (pk_cons pe_int pk_nil))))), ?_⟩
      have fw := few_words hw
      cases hv with
      | @tup a xs _ ha hx =>
        cases hx with
        | @cons v1 _ _ _ h1 hx =>
          cases hx with
          | @cons v2 _ _ _ h2 hx =>
            cases hx
            cases h1
            cases h2 with
            | @tup bb ys _ hb hy =>
              refine ⟨_, rfl, _, _, _, _, rfl, rfl, SqT.of ha, rfl, _, rfl, ⟨_, SqT.of hb⟩, fun D hD => ?_⟩
              refine lc_tup (K := K) (xs := ys) (fun i H' => Same H H' ∧ H' D = some (.lst ((ds.take i).map fun d => V.int (deepT n d)))) ⟨sameOf hD (fun b hb => upd_ne hb), upd_same⟩ (fun i H' _ h => SqT.of (h.1 _ _ hb)) ?_ ?_
              · rintro i y H' hi ⟨sm, hl1⟩
                obtain ⟨d, hd, xd⟩ := hy.get hi
                have dm := List.mem_of_getElem? hd
                have i3 : i < ds.length := (List.getElem?_eq_some_iff.mp hd).1
                refine ⟨rfl, ?_⟩
                refine ⟨_, rfl, y, d, rfl, xd.same sm, hds d dm, by omega, fun H9 s9 => ?_⟩
                refine ⟨_, s9 _ _ hl1, szlt (by rw [List.length_map, List.length_take]; omega), fun b o e => ?_, ?_⟩
                · rw [upd_ne (ne_of_none e hD)]
                  exact s9 _ _ (sm _ _ e)
                · rw [upd_same, List.take_add_one, List.map_append, hd]
                  rfl
              · rintro H9 ⟨sm, hl1⟩
                rw [hy.len, List.take_of_length_le (Nat.le_refl _)] at hl1
                have hl2 : H9 D = some (.lst ((ds.map (deepT n)).map V.int)) := by rw [hl1, List.map_map]; rfl
                refine ⟨_, ds.map (deepT n), _, rfl, rfl, SqL.of hl2, _, _, rfl, rfl, ?_⟩
                exact q H9 sm
def spLeavesL (n : Nat) : Sp := fun vs H Q _ => ∃ (v : V) (d : PyData) (w : Str), vs = [v, .str w] ∧ (w = "_" ∨ w = "#") ∧ Dx H v d ∧ IsT n d ∧ n ≤ 5 ∧ (nodesT n d).length ≤ 40 ∧
  ∀ (p : Addr) (H' : Hp), Same H H' → H p = none → H' p = some (.lst ((leavesP w ((nodesT n d).map pairD) (nodesT n d).length).map fun k => V.int (k : Nat))) → Q (.ref p) H'
theorem leaf_eqv : ∀ p ∈ wordsT, ∀ w ∈ (["_", "#"] : List Str), PyData.eqv (.tuple [.str (p.1 : Str), .int (p.2 : Nat)]) (.tuple [.str w, .int 0]) = decide ((p.1 : Str) = w) := by decide +kernel
theorem leaf_shaped : ∀ w ∈ (["_", "#"] : List Str), SeqAt.shaped (.tuple [.str w, .int 0]) = true := by decide +kernel
theorem word_shaped : ∀ p ∈ wordsT, SeqAt.shaped (.tuple [.str (p.1 : Str), .int (p.2 : Nat)]) = true := by decide +kernel
theorem ok__law_leaves {f : Addr} {fd : FuncData} (F : Fun K "_law_leaves" "_law_leaves" s__law_leaves f fd) (T : Txt mg) (Z : TermZ K mg c) (Y : TermY K c b) {f__law_nodes : Addr} {fd__law_nodes : FuncData} (G__law_nodes : FnOk P w K mg base CX0 6 f__law_nodes fd__law_nodes P__law_nodes (fun vs H Q E => ∃ n, n ≤ 5 ∧ spNodesL n vs H Q E)) (C__law_nodes : Cal K mg "_law_nodes" f__law_nodes fd__law_nodes P__law_nodes) : FnOk P w K mg base CX0 7 f fd P__law_leaves (fun vs H Q E => ∃ n, spLeavesL n vs H Q E) := by
  refine F.ok sc__law_leaves (fun vs H Q E h => ?_) (fun cdv A outer s H vs Q E hr h => ?_)
  · obtain ⟨n, v, d, w, rfl, _⟩ := h
    rfl
  · obtain ⟨n, v, d, w, rfl, hw, hv, hT, hn, hz, q⟩ := h
    refine ⟨_, (pss_cons (ps_set (i := 2) sc__law_leaves.nd rfl (Or.inr rfl) (pe_call G__law_nodes (hr.mono (by decide)) rfl C__law_nodes.m C__law_nodes.k C__law_nodes.b .nil pass0 (pa_cons (pv 0) pa_nil)))
      (pss_one (ps_ret (pe_lc (own := [("_law_at", 3)]) (g := gName 3) rfl sc__law_leaves.nd (pi_range1 (by rfl) T.n_range (pa_cons (pe_callB call_len_seq (by rfl) T.n_len (by decide +kernel) (pa_cons (pv 2) pa_nil)) pa_nil)) (blkOk_by (own := [("_law_at", 3)]) (N := ["_law_term_here", "_law_word", "_law_rows", "_law_at"]) (sc := (defScope s__law_leaves)) (by decide +kernel)) (fun _ _ _ _ _ => (pg_name (i := 3) sc__law_leaves.nd rfl (Or.inl rfl))) (fun _ _ _ _ _ => (pts_one (pt_cmpR (op_eqD_k (K := K) hr.units) (pe_ix (ix_list_k (K := K) ) (pv 2) (pv 3) (fun _ _ => rfl)) (pe_tup (pa_cons (pv 1) (pa_cons pe_int pa_nil))) (nomark _)))) (fun _ _ _ _ _ => (pv 3)))))), ?_⟩
    refine ⟨_, rfl, n, hn, v, d, rfl, hv, hT, hn, fun r xs H1 s1 nr hr hx => ?_⟩
    have lx : xs.length = (nodesT n d).length := hx.len
    refine ⟨_, rfl, _, _, rfl, .inl (SqL.of hr), _, rfl, by omega, by omega, fun D hD => ?_⟩
    refine lc_range (lo := 0) (n := (xs.length : Int).toNat) (fun i H' => Same H1 H' ∧ H' D = some (.lst ((leavesP w ((nodesT n d).map pairD) i).map fun k => V.int (k : Nat)))) ⟨sameOf hD (fun b hb => upd_ne hb), upd_same⟩ ?_ ?_
    · rintro i H2 hi ⟨s2, h2⟩
      have hi' : i < (nodesT n d).length := by omega
      have hd := List.getElem?_eq_getElem hi'
      generalize (nodesT n d)[i] = e at hd
      obtain ⟨p, hp, rfl⟩ := nodes_mem hT e (List.mem_of_getElem? hd)
      have hxi : i < xs.length := by omega
      have hv2 := List.getElem?_eq_getElem hxi
      obtain ⟨e2, he2, xe⟩ := hx.get hv2
      cases Option.some.inj (hd.symm.trans he2)
      have hpr : ((nodesT n d).map pairD)[i]? = some ((p.1 : Str), ((p.2 : Nat) : Int)) := by rw [List.getElem?_map, hd]; rfl
      have hwm : w ∈ (["_", "#"] : List Str) := by rcases hw with rfl | rfl <;> simp
      refine ⟨rfl, ?_⟩
      refine ⟨_, rfl, _, rfl, _, _, _, _, rfl, rfl, SqL.of (s2 _ _ hr), by rw [Int.zero_add]; exact atI_nat hv2, _, rfl, (szr rfl), fun p2 n2 => ?_⟩
      generalize g2 : L2.upd _ p2 _ = H3; obtain ⟨e3, o3, t3⟩ := made n2 g2; clear g2
      have s3 := sameOf n2 o3
      refine ⟨_, .tuple [.str w, .int 0], (xe.same (s2.trans s3)).dp rfl, (Dx.tup t3 (.cons (.str _) (.cons (.int _) .nil))).dp rfl, word_shaped p hp, leaf_shaped w hwm, _, rfl, ?_⟩
      rw [leaf_eqv p hp w hwm]
      have sc := leavesP_succ (w := w) hpr
      have li : (leavesP w ((nodesT n d).map pairD) i).length ≤ 40 := by
        have := List.length_filter_le (fun j => decide ((((nodesT n d).map pairD)[j]?.map Prod.fst) = some w)) (List.range i)
        rw [List.length_range] at this
        show ((List.range i).filter fun j => decide ((((nodesT n d).map pairD)[j]?.map Prod.fst) = some w)).length ≤ 40
        omega
      have h3 := s3 _ _ h2
      refine ite2 (fun g => ?_) (fun g => ?_)
      · rw [if_pos (of_decide_eq_true g)] at sc
        refine ⟨_, rfl, _, h3, szlt (by rw [List.length_map]; omega), fun b o e => ?_, ?_⟩
        · rw [upd_ne (ne_of_none e hD)]
          exact s3 _ _ (s2 _ _ e)
        · rw [upd_same, sc, List.map_append, Int.zero_add]
          rfl
      · rw [if_neg (fun z => g (decide_eq_true z))] at sc
        exact ⟨s2.trans s3, by rw [sc]; exact h3⟩
    · rintro H2 ⟨s2, h2⟩
      rw [Int.toNat_natCast, lx] at h2
      refine q D H2 (s1.trans s2) ?_ h2
      cases z : H D with
      | none => rfl
      | some o => rw [s1 _ _ z] at hD; cases hD
def spBelowL : Sp := fun vs H Q _ => ∃ (v : V) (d : PyData) (n i : Nat) (w : Str) (ds : List PyData), vs = [v, .int (i : Int)] ∧ Dx H v d ∧ IsT n d ∧ n ≤ 5 ∧ (nodesT n d).length ≤ 40 ∧ (partsT n d)[i]? = some (.tuple [.str w, .tuple ds]) ∧
  ∀ (p : Addr) (H' : Hp), Same H H' → H p = none → H' p = some (.tup ((belowL n ds (i + 1)).map fun k => V.int (k : Nat))) → Q (.ref p) H'
theorem ok__law_below {f : Addr} {fd : FuncData} (F : Fun K "_law_below" "_law_below" s__law_below f fd) (T : Txt mg) (Z : TermZ K mg c) (Y : TermY K c b) {f__law_parts : Addr} {fd__law_parts : FuncData} (G__law_parts : FnOk P w K mg base CX0 6 f__law_parts fd__law_parts P__law_parts (fun vs H Q E => ∃ n, n ≤ 5 ∧ spPartsL n vs H Q E)) (C__law_parts : Cal K mg "_law_parts" f__law_parts fd__law_parts P__law_parts) : FnOk P w K mg base CX0 7 f fd P__law_below spBelowL := by
  refine F.ok sc__law_below (fun vs H Q E h => ?_) (fun cdv A outer s H vs Q E hr h => ?_)
  · obtain ⟨v, d, n, i, w, ds, rfl, _⟩ := h
    rfl
  · obtain ⟨v, d, n, i, w, ds, rfl, hv, hT, hn, hz, he, q⟩ := h
    refine ⟨_, (pss_cons (ps_par3 (i := 2) (j := 3) (l := 4) (by rfl) sc__law_below.nd rfl rfl rfl (by decide) (by decide) (by decide) rfl rfl rfl (pa_cons (pe_call G__law_parts (hr.mono (by decide)) rfl C__law_parts.m C__law_parts.k C__law_parts.b .nil pass0 (pa_cons (pv 0) pa_nil)) (pa_cons (pe_lst pa_nil) (pa_cons (pe_op op_add (pv 1) pe_int) pa_nil))) (by rfl))
      (pss_cons (ps_for PassesOwn.never rfl (pi_tup (pe_ix ix_tup (pe_ix ix_list (pv 2) (pv 1) (fun _ _ => rfl)) pe_int (fun _ _ => rfl))) (pg_name (i := 5) sc__law_below.nd rfl (Or.inl rfl)) (pss_cons (ps_expr (pe_bm PySem.F.plainAttrs_list PySem.F.slot_list_append PySem.F.type_list_append mt_append (pv 3) (pa_cons (pv 4) pa_nil)))
      (pss_one (ps_set (i := 4) sc__law_below.nd rfl (Or.inl rfl) (pe_op op_add (pv 4) (pe_callB call_len_seq (by rfl) T.n_len (by decide +kernel) (pa_cons (pe_call G__law_parts (hr.mono (by decide)) rfl C__law_parts.m C__law_parts.k C__law_parts.b .nil pass0 (pa_cons (pv 5) pa_nil)) pa_nil)))))))
      (pss_one (ps_ret (pe_callTy call_tuple_of (by rfl) T.n_tuple (by decide +kernel) (pa_cons (pv 3) pa_nil)))))), ?_⟩
    refine ⟨_, rfl, n, hn, v, d, rfl, hv, hT, hn, fun r xs H1 s1 nr hr hx => ?_⟩
    refine ⟨(szr rfl), fun p1 n1 => ?_⟩
    generalize g1 : upd _ p1 _ = H2; obtain ⟨e1, o1, t1⟩ := made n1 g1; clear g1
    have s2 := sameOf n1 o1
    refine ⟨_, rfl, _, _, rfl, rfl, _, _, _, rfl, ?_⟩
    have pis := parts_is hT _ (List.mem_of_getElem? he)
    obtain ⟨n', rfl⟩ : ∃ n', n = n' + 1 := by
      cases n with
      | zero => exact hT.elim
      | succ n => exact ⟨n, rfl⟩
    obtain ⟨w', ds', e3, hw, hds⟩ := id pis
    cases e3
    have fw := few_words hw
    have hi : i < xs.length := by
      rw [hx.len]
      exact (List.getElem?_eq_some_iff.mp he).1
    have hv2 := List.getElem?_eq_getElem hi
    obtain ⟨e2, he2, xe⟩ := hx.get hv2
    cases Option.some.inj (he.symm.trans he2)
    generalize xs[i] = y at hv2 xe
    cases xe with
    | @tup a ws _ ha hx2 =>
      cases hx2 with
      | @cons v1 _ _ _ h1 hx2 =>
        cases hx2 with
        | @cons v2 _ _ _ h2 hx2 =>
          cases hx2
          cases h1
          cases h2 with
          | @tup bb ys _ hb hy =>
            have s12 := s1.trans s2
            refine ⟨_, rfl, _, rfl, _, _, _, _, rfl, rfl, SqL.of (s2 _ _ hr), atI_nat hv2, _, _, _, _, rfl, rfl, SqT.of (s2 _ _ ha), rfl, _, rfl, ⟨_, SqT.of (s2 _ _ hb)⟩, ?_⟩
            refine for_tup (K := K) (xs := ys) (fun j σ H' => (∀ b o, b ≠ p1 → H1 b = some o → H' b = some o) ∧ ∃ (at_ : Nat) (acc : List Nat) (a5 : Option V), σ = [some v, some (.int (i : Int)), some (.ref r), some (.ref p1), some (.int (at_ : Int)), a5] ∧ H' p1 = some (.lst (acc.map fun n => V.int (n : Nat))) ∧ acc ++ belowL (n' + 1) (ds.drop j) at_ = belowL (n' + 1) ds (i + 1) ∧ acc.length = j)
              ⟨fun b o nb e => by rw [o1 b nb]; exact e, i + 1, [], none, rfl, t1, rfl, rfl⟩ (fun j σ H' _ h => SqT.of (h.1 _ _ (ne_of_none hb n1) hb)) ?_ ?_
            · rintro j y2 σ H3 hj ⟨k3, at_, acc, a5, rfl, h3, hA, lacc⟩
              obtain ⟨c, hc, xc⟩ := hy.get hj
              have cm := List.mem_of_getElem? hc
              have j3 : j < ds.length := (List.getElem?_eq_some_iff.mp hc).1
              have ed : ds.drop j = c :: ds.drop (j + 1) := by
                rw [List.drop_eq_getElem_cons j3]
                rw [List.getElem?_eq_getElem j3] at hc
                rw [Option.some.inj hc]
              rw [ed] at hA
              refine ⟨_, rfl, (.inl ⟨rfl, _, SqL.of h3⟩), _, rfl, _, _, _, rfl, rfl, h3, szlt (by rw [List.length_map]; omega), ?_⟩
              generalize g3 : L2.upd H3 p1 _ = H4
              have h4 : H4 p1 = some (.lst ((acc.map fun n => V.int (n : Nat)) ++ [V.int (at_ : Nat)])) := by
                rw [← g3, upd_same]
              have k4 : ∀ b o, b ≠ p1 → H1 b = some o → H4 b = some o := fun b o nb e => by
                rw [← g3, upd_ne nb]
                exact k3 b o nb e
              have sm4 : Same H1 H4 := fun b o e => k4 b o (ne_of_none e n1) e
              refine ⟨_, rfl, _, rfl, n' + 1, hn, y2, c, rfl, xc.same sm4, isT_up (hds c cm), hn, fun r5 us H5 s5 n5 h5 hu => ?_⟩
              refine ⟨_, _, rfl, .inl (SqL.of h5), _, _, rfl, rfl, ?_⟩
              refine ⟨fun b o nb e => s5 _ _ (k4 b o nb e), at_ + us.length, acc ++ [at_], some y2, ?_, by rw [List.map_append]; exact s5 _ _ h4, ?_, by rw [List.length_append, lacc]; rfl⟩
              · rw [Int.natCast_add]
                rfl
              · rw [List.append_assoc, hu.len]
                exact hA
            · rintro σ H3 ⟨k3, at_, acc, a5, rfl, h3, hA, lacc⟩
              rw [hy.len, List.drop_length] at hA
              have hA' : acc = belowL (n' + 1) ds (i + 1) := by
                rw [← hA]
                exact (List.append_nil _).symm
              subst hA'
              have s3 : Same H H3 := fun b o e => k3 b o (ne_of_none (s1 _ _ e) n1) (s1 _ _ e)
              refine ⟨_, rfl, _, _, rfl, .inl ⟨SqL.of h3, fun p2 n2 => ?_⟩⟩
              generalize g2 : L2.upd _ p2 _ = H4; obtain ⟨e4, o4, t4⟩ := made n2 g2; clear g2
              refine q p2 H4 (s3.trans (sameOf n2 o4)) ?_ t4
              cases z : H p2 with
              | none => rfl
              | some o => rw [s3 _ _ z] at n2; cases n2

/-! ### a term against a plain one -/
theorem InsT.same {c : Ta} {H H' : Hp} {a q : Addr} {ds : List PyData} (h : InsT c H a q ds) (s : Same H H') : InsT c H' a q ds := by
  obtain ⟨dx, h1, h2, h3, h4⟩ := h
  exact ⟨dx, s _ _ h1, h2.same s, h3, h4⟩
def dedupP : List (Str × Int) → List (Str × Int) → List (Str × Int)
  | acc, [] => acc
  | acc, q :: qs => dedupP (if q ∈ acc then acc else acc ++ [q]) qs
theorem merge_dedup : ∀ (qs acc : List (Str × Int)), OneEach (acc ++ qs) → mergeK (acc.map kvOf) (qs.map kvOf) = (dedupP acc qs).map kvOf
  | [], acc, _ => rfl
  | q :: qs, acc, h => by
    have one : ∀ r ∈ acc, r.1 = q.1 → r = q := fun r hr e => Prod.ext e (h r (List.mem_append_left _ hr) q (List.mem_append_right _ List.mem_cons_self) e)
    have st : putK (acc.map kvOf) (kvOf q).1 (kvOf q).2 = (if q ∈ acc then acc else acc ++ [q]).map kvOf := by
      unfold putK
      by_cases m : q ∈ acc
      · have y : ((acc.map kvOf).any fun kv => decide (kv.1 = (kvOf q).1)) = true := List.any_eq_true.mpr ⟨kvOf q, List.mem_map_of_mem m, decide_eq_true rfl⟩
        rw [if_pos y, if_pos m, List.map_map]
        refine List.map_congr_left fun r hr => ?_
        show (if (kvOf r).1 = (kvOf q).1 then ((kvOf r).1, (kvOf q).2) else kvOf r) = kvOf r
        split
        · rename_i e
          rw [one r hr (Sum.inr.inj e)]
        · rfl
      · have y : ¬ ((acc.map kvOf).any fun kv => decide (kv.1 = (kvOf q).1)) = true := fun z => by
          obtain ⟨kv, hk, e⟩ := List.any_eq_true.mp z
          obtain ⟨r, hr, rfl⟩ := List.mem_map.mp hk
          rw [one r hr (Sum.inr.inj (of_decide_eq_true e))] at hr
          exact m hr
        rw [if_neg y, if_neg m, List.map_append]
        rfl
    show mergeK (putK (acc.map kvOf) (kvOf q).1 (kvOf q).2) (qs.map kvOf) = _
    rw [st]
    refine merge_dedup qs _ ?_
    intro a ha b hb e
    have up : ∀ x, x ∈ (if q ∈ acc then acc else acc ++ [q]) ++ qs → x ∈ acc ++ q :: qs := fun x hx => by
      rcases List.mem_append.mp hx with z | z
      · split at z
        · exact List.mem_append_left _ z
        · rcases List.mem_append.mp z with z | z
          · exact List.mem_append_left _ z
          · rw [List.mem_singleton.mp z]
            exact List.mem_append_right _ List.mem_cons_self
      · exact List.mem_append_right _ (List.mem_cons_of_mem _ z)
    exact h a (up a ha) b (up b hb) e
theorem dedup_mem : ∀ (qs acc : List (Str × Int)) (p : Str × Int), p ∈ dedupP acc qs ↔ p ∈ acc ∨ p ∈ qs
  | [], acc, p => by simp [dedupP]
  | q :: qs, acc, p => by
    show p ∈ dedupP (if q ∈ acc then acc else acc ++ [q]) qs ↔ _
    rw [dedup_mem qs]
    by_cases m : q ∈ acc
    · rw [if_pos m]
      constructor
      · rintro (z | z)
        · exact .inl z
        · exact .inr (List.mem_cons_of_mem _ z)
      · rintro (z | z)
        · exact .inl z
        · rcases List.mem_cons.mp z with rfl | z
          · exact .inl m
          · exact .inr z
    · rw [if_neg m]
      simp only [List.mem_append, List.mem_cons, List.not_mem_nil, or_false]
      constructor
      · rintro ((z | z) | z)
        · exact .inl z
        · exact .inr (.inl z)
        · exact .inr (.inr z)
      · rintro (z | z | z)
        · exact .inl (.inl z)
        · exact .inl (.inr z)
        · exact .inr z
theorem dedup_nodup : ∀ (qs acc : List (Str × Int)), acc.Nodup → (dedupP acc qs).Nodup
  | [], acc, h => h
  | q :: qs, acc, h => by
    refine dedup_nodup qs _ ?_
    by_cases m : q ∈ acc
    · rw [if_pos m]
      exact h
    · rw [if_neg m]
      refine List.nodup_append.mpr ⟨h, by simp, fun a ha b hb e => ?_⟩
      rw [List.mem_singleton.mp hb] at e
      exact m (e ▸ ha)
def pairT (q : Str × Int) : PyData := .tuple [.str q.1, .int q.2]
theorem dx_pairs {H : Hp} : ∀ {as : List Addr} {ps : List (Str × Int)}, Paired (fun b q => H b = some (.tup [.str q.1, .int q.2])) as ps → DxAll H (as.map V.ref) (ps.map pairT)
  | _, _, .nil => .nil
  | _, _, .cons h t => .cons (.tup h (.cons (.str _) (.cons (.int _) .nil))) (dx_pairs t)
/-- the pairs of addresses in another order -/
theorem pairs_perm {H : Hp} {as bs : List Addr} {ms : List (Str × Int)} (hp : Paired (fun b q => H b = some (.tup [.str q.1, .int q.2])) bs ms) (pm : as.Perm bs) (nd : ms.Nodup) :
    Paired (fun b q => H b = some (.tup [.str q.1, .int q.2])) as (as.map (Fn.pairAt H)) ∧ (as.map (Fn.pairAt H)).Nodup ∧ ∀ p, p ∈ as.map (Fn.pairAt H) ↔ p ∈ ms := by
  have at_ : ∀ {b : Addr} {q : Str × Int}, H b = some (.tup [.str q.1, .int q.2]) → Fn.pairAt H b = q := fun e => by
    unfold Fn.pairAt
    rw [e]
  have em : bs.map (Fn.pairAt H) = ms := by
    clear pm nd
    induction hp with
    | nil => rfl
    | cons h t ih => rw [List.map_cons, ih, at_ h]
  have pp : (as.map (Fn.pairAt H)).Perm ms := by
    rw [← em]
    exact pm.map _
  refine ⟨?_, pp.nodup_iff.mpr nd, fun p => pp.mem_iff⟩
  have all : ∀ b ∈ as, H b = some (.tup [.str (Fn.pairAt H b).1, .int (Fn.pairAt H b).2]) := fun b hb => by
    obtain ⟨i, hi⟩ := List.getElem?_of_mem (pm.mem_iff.mp hb)
    have he := hp.length
    have hi2 : i < ms.length := by rw [← he]; exact (List.getElem?_eq_some_iff.mp hi).1
    obtain ⟨x, e1, e2⟩ := paired_right hp (List.getElem?_eq_getElem hi2)
    cases Option.some.inj (hi.symm.trans e1)
    rw [at_ e2]
    exact e2
  clear pp pm
  induction as with
  | nil => exact .nil
  | cons b bs ih => exact .cons (all b List.mem_cons_self) (ih fun x hx => all x (List.mem_cons_of_mem _ hx))
theorem rr {K : PySem.W.Frag} {H : Hp} {v : V} {D : PyData} (dx : Dx H v D) (o : okSh D = true) (bb : bnd D ≤ 1000000) (dd : D.depth ≤ 40) : Rr K H v D ∧ D.showable = true ∧ D.depth ≤ 40 ∧ D.shown.length ≤ sizeLine :=
  ⟨.inl ⟨dx.dp (okSh.nodict o).2.2, (okSh.nodict o).1⟩, (okSh.nodict o).2.1, dd, Nat.le_trans (shown_le o) (Nat.le_trans bb (by decide))⟩
theorem nodup_len {α : Type} [DecidableEq α] : ∀ {ps qs : List α}, ps.Nodup → (∀ p ∈ ps, p ∈ qs) → ps.length ≤ qs.length
  | [], _, _, _ => Nat.zero_le _
  | p :: ps, qs, n, h => by
    obtain ⟨n1, n2⟩ := List.nodup_cons.mp n
    have m := h p List.mem_cons_self
    have r := nodup_len (ps := ps) (qs := qs.erase p) n2 fun x hx => (List.mem_erase_of_ne (fun e => n1 (by rw [← e]; exact hx))).mpr (h x (List.mem_cons_of_mem _ hx))
    have e := List.length_erase_of_mem m
    have l := List.length_pos_of_mem m
    rw [List.length_cons]
    omega
theorem smallT_text : ∀ {n : Nat} {d : PyData}, IsT n d → smallT (textT n d) = true
  | 0, _, h => h.elim
  | n + 1, _, ⟨w, ds, rfl, hw, hds⟩ => by
    have ws : smallT (w : Str) = true := by
      have z : ∀ p ∈ wordsT, smallT (p.1 : Str) = true := by decide +kernel
      exact z _ hw
    show smallT (if ds.isEmpty then (w : Str) else (w : Str) ++ "(" ++ Str.join ", " (ds.map (textT n)) ++ ")") = true
    split
    · exact ws
    · refine smallT.app (smallT.app (smallT.app ws (by decide +kernel)) (smallT.join (by decide +kernel) fun t ht => ?_)) (by decide +kernel)
      obtain ⟨e, he, rfl⟩ := List.mem_map.mp ht
      exact smallT_text (hds e he)
theorem word_fit : ∀ p ∈ wordsT, okSh (.tuple [.str (p.1 : Str), .int (p.2 : Nat)]) = true ∧ bnd (.tuple [.str (p.1 : Str), .int (p.2 : Nat)]) ≤ 200 ∧ PyData.depth (.tuple [.str (p.1 : Str), .int (p.2 : Nat)]) ≤ 3 := by decide +kernel
theorem fit_all : ∀ {ds : List PyData}, (∀ e ∈ ds, okSh e = true ∧ bnd e ≤ 200 ∧ e.depth ≤ 3) → okShAll ds = true ∧ bndAll ds ≤ ds.length * 202 ∧ PyData.depthAll ds ≤ 3
  | [], _ => ⟨rfl, Nat.le_refl _, Nat.zero_le _⟩
  | d :: ds, h => by
    have a := h d List.mem_cons_self
    have b := fit_all fun x hx => h x (List.mem_cons_of_mem _ hx)
    refine ⟨?_, ?_, ?_⟩
    · show (okSh d && okShAll ds) = true
      rw [a.1, b.1]
      rfl
    · show bnd d + 2 + bndAll ds ≤ (ds.length + 1) * 202
      omega
    · simp only [PyData.depthAll]
      exact Nat.max_le.mpr ⟨a.2.2, b.2.2⟩
theorem nodes_fit {n : Nat} {d : PyData} (h : IsT n d) : ∀ e ∈ nodesT n d, okSh e = true ∧ bnd e ≤ 200 ∧ e.depth ≤ 3 := fun e he => by
  obtain ⟨p, hp, rfl⟩ := nodes_mem h e he
  exact word_fit p hp
theorem pairs_fit {n : Nat} {d : PyData} (h : IsT n d) {ps : List (Str × Int)} (hm : ∀ q ∈ ps, q ∈ prsOf (nodesT n d)) : ∀ e ∈ ps.map pairT, okSh e = true ∧ bnd e ≤ 200 ∧ e.depth ≤ 3 := fun e he => by
  obtain ⟨q, hq, rfl⟩ := List.mem_map.mp he
  obtain ⟨p, hp, rfl⟩ := prs_words h (hm q hq)
  exact word_fit p hp
theorem nat_fit {n : Nat} (h : n ≤ 1000) : okSh (.int (n : Int)) = true := decide_eq_true (Nat.lt_of_le_of_lt (show (n : Int).natAbs ≤ 1000 by omega) (by decide))
theorem nats_fit : ∀ {l : List Nat}, (∀ k ∈ l, k ≤ 1000) → okShAll (l.map fun k => PyData.int (k : Nat)) = true ∧ bndAll (l.map fun k => PyData.int (k : Nat)) = l.length * 24 ∧ PyData.depthAll (l.map fun k => PyData.int (k : Nat)) = 0
  | [], _ => ⟨rfl, rfl, rfl⟩
  | k :: l, h => by
    have b := nats_fit fun x hx => h x (List.mem_cons_of_mem _ hx)
    refine ⟨?_, ?_, ?_⟩
    · show (okSh (.int (k : Nat)) && okShAll _) = true
      rw [nat_fit (h k List.mem_cons_self), b.1]
      rfl
    · show 22 + 2 + bndAll _ = (l.length + 1) * 24
      rw [b.2.1]
      omega
    · simp only [List.map_cons, PyData.depthAll, b.2.2, PyData.depth]
      rfl
theorem dx_nats {H : Hp} : ∀ l : List Nat, DxAll H (l.map fun k => V.int (k : Nat)) (l.map fun k => PyData.int (k : Nat))
  | [] => .nil
  | k :: l => .cons (.int _) (dx_nats l)
theorem dedup_same : ∀ (qs acc : List (Str × Int)), (acc ++ qs).Nodup → dedupP acc qs = acc ++ qs
  | [], acc, _ => (List.append_nil _).symm
  | q :: qs, acc, hN => by
    have nm : q ∉ acc := fun m => (List.nodup_append.mp hN).2.2 q m q List.mem_cons_self rfl
    show dedupP (if q ∈ acc then acc else acc ++ [q]) qs = _
    rw [if_neg nm, dedup_same qs _ (by rw [List.append_assoc]; exact hN), List.append_assoc]
    rfl
theorem paired_kv {H : Hp} : ∀ {ts : List Addr} {ps : List (Str × Int)}, Paired (fun (t : Addr) (q : Key × V) => H t = some (.tup [kV q.1, q.2])) ts (ps.map kvOf) → Paired (fun b q => H b = some (.tup [.str q.1, .int q.2])) ts ps
  | _, [], h => by
    cases h
    exact .nil
  | _, p :: ps, h => by
    cases h with
    | cons a t => exact .cons a (paired_kv t)
theorem foldl_max_le {b : Int} : ∀ {l : List Int} {a : Int}, a ≤ b → (∀ x ∈ l, x ≤ b) → l.foldl max a ≤ b
  | [], _, h, _ => h
  | x :: l, a, h, hl => foldl_max_le (l := l) (a := max a x) (by have := hl x List.mem_cons_self; omega) fun y hy => hl y (List.mem_cons_of_mem _ hy)
theorem foldl_max_ge : ∀ {l : List Int} {a : Int}, a ≤ l.foldl max a
  | [], _ => Int.le_refl _
  | x :: l, a => Int.le_trans (show a ≤ max a x by omega) (foldl_max_ge (l := l) (a := max a x))
theorem deep_fit : ∀ {n : Nat} {d : PyData}, IsT n d → 0 ≤ deepT n d ∧ deepT n d ≤ n
  | 0, _, h => h.elim
  | n + 1, _, ⟨w, ds, rfl, hw, hds⟩ => by
    have z : 0 ≤ maxI 0 (ds.map (deepT n)) ∧ maxI 0 (ds.map (deepT n)) ≤ n := by
      cases ds with
      | nil => exact ⟨Int.le_refl _, Int.natCast_nonneg _⟩
      | cons c cs =>
        have a := deep_fit (hds c List.mem_cons_self)
        refine ⟨Int.le_trans a.1 foldl_max_ge, foldl_max_le a.2 fun x hx => ?_⟩
        obtain ⟨e, he, rfl⟩ := List.mem_map.mp hx
        exact (deep_fit (hds e (List.mem_cons_of_mem _ he))).2
    show 0 ≤ 1 + maxI 0 (ds.map (deepT n)) ∧ 1 + maxI 0 (ds.map (deepT n)) ≤ ((n + 1 : Nat) : Int)
    omega
theorem nats_shaped {l : List Nat} (h : ∀ k ∈ l, k ≤ 1000) : SeqAt.shaped (.tuple (l.map fun k => PyData.int (k : Nat))) = true := by
  refine shaped_tup fun e he => ?_
  obtain ⟨k, hk, rfl⟩ := List.mem_map.mp he
  exact ⟨by simp only [PyData.canLay0], by simp only [PyData.depth]; decide⟩
theorem leavesP_mem {w : Str} {ps : List (Str × Int)} {n i : Nat} : i ∈ leavesP w ps n ↔ i < n ∧ ps[i]?.map Prod.fst = some w := by
  unfold leavesP
  rw [List.mem_filter, List.mem_range, decide_eq_true_eq]
theorem leaf_str (x : Str) : isLeafD (.str x) = true ↔ x = "_" ∨ x = "#" := by
  have e : ∀ a b : Str, PyData.eqv (.str a) (.str b) = decide (a = b) := fun a b => by
    simp only [PyData.eqv]
    rw [Bool.eq_iff_iff, beq_iff_eq, decide_eq_true_eq]
  show ([PyData.str "_", .str "#"].any fun z => PyData.eqv z (.str x)) = true ↔ _
  rw [List.any_cons, List.any_cons, List.any_nil, e, e, Bool.or_false, Bool.or_eq_true, decide_eq_true_eq, decide_eq_true_eq]
  exact ⟨fun h => h.imp Eq.symm Eq.symm, fun h => h.imp Eq.symm Eq.symm⟩
theorem ground_eq (ds : List PyData) : (!(ds.any fun d => isLeafD (.str (pairD d).1))) = (leavesP "_" (ds.map pairD) ds.length ++ leavesP "#" (ds.map pairD) ds.length).isEmpty := by
  rw [Bool.eq_iff_iff]
  constructor
  · intro h
    rw [List.isEmpty_iff, List.append_eq_nil_iff]
    have no : ∀ d ∈ ds, isLeafD (.str (pairD d).1) = false := fun d hd => by
      have := List.any_eq_false.mp (by simpa using h) d hd
      simpa using this
    have emp : ∀ w : Str, (w = "_" ∨ w = "#") → leavesP w (ds.map pairD) ds.length = [] := fun w hw => by
      refine List.eq_nil_iff_forall_not_mem.mpr fun i hi => ?_
      obtain ⟨_, e⟩ := leavesP_mem.mp hi
      rw [List.getElem?_map, Option.map_map] at e
      obtain ⟨d, hd, e2⟩ := Option.map_eq_some_iff.mp e
      have z := no d (List.mem_of_getElem? hd)
      have y := (leaf_str (pairD d).1).mpr (by rw [show (pairD d).1 = w from e2]; exact hw)
      rw [z] at y
      cases y
    exact ⟨emp _ (.inl rfl), emp _ (.inr rfl)⟩
  · intro h
    rw [List.isEmpty_iff, List.append_eq_nil_iff] at h
    rw [Bool.not_eq_true', List.any_eq_false]
    intro d hd z
    obtain ⟨i, hi⟩ := List.getElem?_of_mem hd
    have hi2 := (List.getElem?_eq_some_iff.mp hi).1
    have e : (ds.map pairD)[i]?.map Prod.fst = some (pairD d).1 := by rw [List.getElem?_map, hi]; rfl
    rcases (leaf_str _).mp z with y | y
    · have m := leavesP_mem.mpr ⟨hi2, by rw [e, y]⟩
      rw [h.1] at m
      cases m
    · have m := leavesP_mem.mpr ⟨hi2, by rw [e, y]⟩
      rw [h.2] at m
      cases m
theorem words_self : ∀ p ∈ wordsT, PyData.eqv (.tuple [.str (p.1 : Str), .int (p.2 : Nat)]) (.tuple [.str (p.1 : Str), .int (p.2 : Nat)]) = true := by decide +kernel
theorem in_self {n : Nat} {d e : PyData} (h : IsT n d) (he : e ∈ nodesT n d) : (isNodeD e && (nodesT n d).any fun z => PyData.eqv z e) = true := by
  obtain ⟨p, hp, rfl⟩ := nodes_mem h e he
  rw [(words_ok p hp).1, Bool.true_and]
  exact List.any_eq_true.mpr ⟨_, he, words_self p hp⟩
theorem ends_all {n : Nat} {d : PyData} (h : IsT n d) : Ends (nodesT n d) := fun i hi => by
  have hi2 : i < (partsT n d).length := by rw [parts_len h]; exact hi
  exact ⟨_, walk_at h (List.getElem?_eq_getElem hi2)⟩
theorem belowL_small {n : Nat} : ∀ {cs : List PyData} {a b : Nat}, a + (cs.flatMap (partsT n)).length ≤ b → (∀ k ∈ belowL n cs a, k ≤ b) ∧ (belowL n cs a).length = cs.length
  | [], _, _, _ => ⟨fun _ h => (by cases h), rfl⟩
  | c :: cs, a, b, h => by
    rw [List.flatMap_cons, List.length_append] at h
    have r := belowL_small (n := n) (cs := cs) (a := a + (partsT n c).length) (b := b) (by omega)
    refine ⟨fun k hk => ?_, ?_⟩
    · rcases List.mem_cons.mp hk with rfl | hk
      · omega
      · exact r.1 k hk
    · show (belowL n cs (a + (partsT n c).length)).length + 1 = cs.length + 1
      rw [r.2]
theorem flat_len' {α : Type} {f : PyData → List α} {b : Nat} : ∀ {ds : List PyData}, (∀ d ∈ ds, (f d).length ≤ b) → (ds.flatMap f).length ≤ ds.length * b
  | [], _ => Nat.zero_le _
  | d :: ds, h => by
    have a := h d List.mem_cons_self
    have r := flat_len' (ds := ds) fun e he => h e (List.mem_cons_of_mem _ he)
    rw [List.flatMap_cons, List.length_append, List.length_cons, Nat.succ_mul]
    omega
theorem word_okE : ∀ p ∈ wordsT, okE (.tuple [.str (p.1 : Str), .int (p.2 : Nat)]) = true := by decide +kernel
theorem okN_nodes {n : Nat} {d : PyData} (h : IsT n d) : okN (.tuple (nodesT n d)) = true := by
  have al : ∀ e ∈ nodesT n d, okE e = true := fun e he => by
    obtain ⟨p, hp, rfl⟩ := nodes_mem h e he
    exact word_okE p hp
  match hE : nodesT n d with
  | [] => rfl
  | [_] => rfl
  | [x, y] =>
    show (okE x && okE y) = true
    rw [al x (by rw [hE]; simp), al y (by rw [hE]; simp)]
    rfl
  | _ :: _ :: _ :: _ => rfl
def spTR (c : Ta) : Sp := fun vs H Q _ => ∃ (a q0 : Addr) (v : V) (n : Nat) (d : PyData), vs = [.ref a, v] ∧ InsT c H a q0 (nodesT n d) ∧ Dx H v d ∧ IsT n d ∧ n ≤ 5 ∧ (nodesT n d).length ≤ 40 ∧ ∀ H', Same H H' → Q (.bl true) H'
theorem ok__law_told_right {f : Addr} {fd : FuncData} (F : Fun K "_law_told_right" "_law_told_right" s__law_told_right f fd) (T : Txt mg) (Z : TermZ K mg c) (Y : TermY K c b) {f__law_parts : Addr} {fd__law_parts : FuncData} (G__law_parts : FnOk P w K mg base CX0 6 f__law_parts fd__law_parts P__law_parts (fun vs H Q E => ∃ n, n ≤ 5 ∧ spPartsL n vs H Q E)) (C__law_parts : Cal K mg "_law_parts" f__law_parts fd__law_parts P__law_parts) {f__law_nodes : Addr} {fd__law_nodes : FuncData} (G__law_nodes : FnOk P w K mg base CX0 6 f__law_nodes fd__law_nodes P__law_nodes (fun vs H Q E => ∃ n, n ≤ 5 ∧ spNodesL n vs H Q E)) (C__law_nodes : Cal K mg "_law_nodes" f__law_nodes fd__law_nodes P__law_nodes) {f__law_text : Addr} {fd__law_text : FuncData} (G__law_text : FnOk P w K mg base CX0 6 f__law_text fd__law_text P__law_text (fun vs H Q E => ∃ n, n ≤ 5 ∧ spTextL n vs H Q E)) (C__law_text : Cal K mg "_law_text" f__law_text fd__law_text P__law_text) {f__law_deep : Addr} {fd__law_deep : FuncData} (G__law_deep : FnOk P w K mg base CX0 6 f__law_deep fd__law_deep P__law_deep (fun vs H Q E => ∃ n, n ≤ 5 ∧ spDeepL n vs H Q E)) (C__law_deep : Cal K mg "_law_deep" f__law_deep fd__law_deep P__law_deep) {f__law_leaves : Addr} {fd__law_leaves : FuncData} (G__law_leaves : FnOk P w K mg base CX0 7 f__law_leaves fd__law_leaves P__law_leaves (fun vs H Q E => ∃ n, spLeavesL n vs H Q E)) (C__law_leaves : Cal K mg "_law_leaves" f__law_leaves fd__law_leaves P__law_leaves) {f__law_below : Addr} {fd__law_below : FuncData} (G__law_below : FnOk P w K mg base CX0 7 f__law_below fd__law_below P__law_below spBelowL) (C__law_below : Cal K mg "_law_below" f__law_below fd__law_below P__law_below) {fd_T_nodes : FuncData} (G_T_nodes : FnOk P w K mg base CX0 1 c.gn fd_T_nodes P_T_nodes (spNodesT c)) (B_T_nodes : Binds K fd_T_nodes P_T_nodes []) {fd_T_text : FuncData} (G_T_text : FnOk P w K mg base CX0 2 b.f_text fd_T_text P_T_text (spTx c)) (B_T_text : Binds K fd_T_text P_T_text []) {fd_T_str : FuncData} (G_T_str : FnOk P w K mg base CX0 4 b.f_str fd_T_str P_T_str (spTx c)) (B_T_str : Binds K fd_T_str P_T_str []) {fd_T_len : FuncData} (G_T_len : FnOk P w K mg base CX0 1 c.fl fd_T_len P_T_len (spLenT c)) (B_T_len : Binds K fd_T_len P_T_len []) {fd_T_depth : FuncData} (G_T_depth : FnOk P w K mg base CX0 2 b.f_depth fd_T_depth P_T_depth (spDe c)) (B_T_depth : Binds K fd_T_depth P_T_depth []) {fd_T_symbols : FuncData} (G_T_symbols : FnOk P w K mg base CX0 3 b.f_symbols fd_T_symbols P_T_symbols (spSy c)) (B_T_symbols : Binds K fd_T_symbols P_T_symbols []) {fd_T_unknown : FuncData} (G_T_unknown : FnOk P w K mg base CX0 2 b.f_unknown fd_T_unknown P_T_unknown (spLv c "_")) (B_T_unknown : Binds K fd_T_unknown P_T_unknown []) {fd_T_lost : FuncData} (G_T_lost : FnOk P w K mg base CX0 2 b.f_lost fd_T_lost P_T_lost (spLv c "#")) (B_T_lost : Binds K fd_T_lost P_T_lost []) {fd_T_is_ground : FuncData} (G_T_is_ground : FnOk P w K mg base CX0 2 b.f_is_ground fd_T_is_ground P_T_is_ground (spGr c)) (B_T_is_ground : Binds K fd_T_is_ground P_T_is_ground []) {fd_T_item : FuncData} (G_T_item : FnOk P w K mg base CX0 4 b.f_item fd_T_item P_T_item (spIt c)) (B_T_item : Binds K fd_T_item P_T_item []) {fd_T_children : FuncData} (G_T_children : FnOk P w K mg base CX0 4 b.f_children fd_T_children P_T_children (spCh c)) (B_T_children : Binds K fd_T_children P_T_children []) {fd_T_part : FuncData} (G_T_part : FnOk P w K mg base CX0 7 b.f_part fd_T_part P_T_part (spPt c)) (B_T_part : Binds K fd_T_part P_T_part []) {fd_T_above : FuncData} (G_T_above : FnOk P w K mg base CX0 4 b.f_above fd_T_above P_T_above (spAb c)) (B_T_above : Binds K fd_T_above P_T_above []) {fd_T_in : FuncData} (G_T_in : FnOk P w K mg base CX0 4 b.f_in fd_T_in P_T_in (spIn c)) (B_T_in : Binds K fd_T_in P_T_in []) : FnG P w K mg base CX0 8 f fd P__law_told_right (spTR c) := by
  refine okG F sc__law_told_right (fun vs H Q E h => ?_) (fun cdv A outer s H vs Q E hg hr h => ?_)
  · obtain ⟨a, q0, v, n, d, rfl, _⟩ := h
    rfl
  · obtain ⟨a, q0, v, n, d, rfl, hI, hv, hT, hn, hz, q⟩ := h
    refine ⟨_, (pss_cons (ps_asg (pe_tup (pa_cons (pe_call G__law_parts (hr.mono (by decide)) rfl C__law_parts.m C__law_parts.k C__law_parts.b .nil pass0 (pa_cons (pv 1) pa_nil)) (pa_cons (pe_call G__law_nodes (hr.mono (by decide)) rfl C__law_nodes.m C__law_nodes.k C__law_nodes.b .nil pass0 (pa_cons (pv 1) pa_nil)) pa_nil))) (pg_tup rfl (pgs_cons (pg_name (i := 2) sc__law_told_right.nd rfl (Or.inr rfl)) (pgs_cons (pg_name (i := 3) sc__law_told_right.nd rfl (Or.inr rfl)) pgs_nil))))
      (pss_cons (ps_set (i := 4) sc__law_told_right.nd rfl (Or.inl rfl) (pe_callTy (call_dictP rfl) (by rfl) T.n_dict (by decide +kernel) (pa_cons (pe_lc (own := [("_law_word", 5), ("_law_many", 6)]) (g := gTup K 2 (gCons (gName 5) (gCons (gName 6) gNil))) rfl sc__law_told_right.nd (pi_list (pv 3)) (blkOk_by (own := [("_law_word", 5), ("_law_many", 6)]) (N := ["_law_made", "_law_term_here", "_law_rows", "_law_nodes_here", "_law_words", "_law_word", "_law_many", "_law_told", "_law_due", "_law_unknown", "_law_lost", "_law_at", "_law_above", "_law_up", "_law_odd", "_law_one"]) (sc := (defScope s__law_told_right)) (by decide +kernel)) (fun _ _ _ _ _ => (pg_tup_k (K := K) rfl (pgs_cons (pg_name (i := 5) sc__law_told_right.nd rfl (Or.inl rfl)) (pgs_cons (pg_name (i := 6) sc__law_told_right.nd rfl (Or.inl rfl)) pgs_nil)))) (fun _ _ _ _ _ => (pts_one (pt_cmpR (op_notInX_k (K := K) (hu65 hr)) (pv 5) (pe_lst (pa_cons pe_str (pa_cons pe_str pa_nil))) (by first | rfl | with_unfolding_all rfl)))) (fun _ _ _ _ _ => (pe_tup (pa_cons (pv 5) (pa_cons (pv 6) pa_nil))))) pa_nil)))
      (pss_cons (ps_set (i := 7) sc__law_told_right.nd rfl (Or.inl rfl) (pe_lst (pa_cons (pe_prop (pv 0) Z.cls Z.prop G_T_nodes (hr.mono (by decide)) B_T_nodes .nil pass0 rfl) (pa_cons (pe_prop (pv 0) Z.cls Y.prop_text G_T_text (hr.mono (by decide)) B_T_text .nil pass0 rfl) (pa_cons (pe_callTy (call_strO Y.s_str Y.i_str (raw0 G_T_str B_T_str) (hr.mono (by decide)) pass0) (by rfl) T.n_str (by decide +kernel) (pa_cons (pv 0) pa_nil)) (pa_cons (pe_callB (call_lenO Z.len Z.lenF G_T_len B_T_len (hr.mono (by decide))) (by rfl) T.n_len (by decide +kernel) (pa_cons (pv 0) pa_nil)) (pa_cons (pe_prop (pv 0) Z.cls Y.prop_depth G_T_depth (hr.mono (by decide)) B_T_depth .nil pass0 rfl) (pa_cons (LiI.pe_listItems rfl (pe_prop (pv 0) Z.cls Y.prop_symbols G_T_symbols (hr.mono (by decide)) B_T_symbols .nil pass0 rfl) (by rfl) T.n_list (by decide +kernel)) pa_nil))))))))
      (pss_cons (ps_set (i := 8) sc__law_told_right.nd rfl (Or.inl rfl) (pe_lst (pa_cons (pe_callTy call_tuple_of (by rfl) T.n_tuple (by decide +kernel) (pa_cons (pv 3) pa_nil)) (pa_cons (pe_call G__law_text (hr.mono (by decide)) rfl C__law_text.m C__law_text.k C__law_text.b .nil pass0 (pa_cons (pv 1) pa_nil)) (pa_cons (pe_call G__law_text (hr.mono (by decide)) rfl C__law_text.m C__law_text.k C__law_text.b .nil pass0 (pa_cons (pv 1) pa_nil)) (pa_cons (pe_callB call_len_seq (by rfl) T.n_len (by decide +kernel) (pa_cons (pv 3) pa_nil)) (pa_cons (pe_call G__law_deep (hr.mono (by decide)) rfl C__law_deep.m C__law_deep.k C__law_deep.b .nil pass0 (pa_cons (pv 1) pa_nil)) (pa_cons (pe_callB cr_sortPL (by rfl) T.n_sorted (by decide +kernel) (pa_cons (LiI.pe_listItems rfl (pv 4) (by rfl) T.n_list (by decide +kernel)) pa_nil)) pa_nil))))))))
      (pss_cons (ps_if (pt_cmpR op_ne (pe_callB (call_reprD (K := K) hg (hu64i hr)) (by rfl) T.n_repr (by decide +kernel) (pa_cons (pv 7) pa_nil)) (pe_callB (call_reprD (K := K) hg (hu64i hr)) (by rfl) T.n_repr (by decide +kernel) (pa_cons (pv 8) pa_nil)) (nomark _)) (pss_one (ps_ret pe_bl)) pss_nil)
      (pss_cons (ps_par (i := 9) (j := 10) (by rfl) sc__law_told_right.nd rfl rfl (by decide) rfl rfl (pa_cons (pe_callTy call_tuple_of (by rfl) T.n_tuple (by decide +kernel) (pa_cons (pe_call G__law_leaves (hr.mono (by decide)) rfl C__law_leaves.m C__law_leaves.k C__law_leaves.b .nil pass0 (pa_cons (pv 1) (pa_cons pe_str pa_nil))) pa_nil)) (pa_cons (pe_callTy call_tuple_of (by rfl) T.n_tuple (by decide +kernel) (pa_cons (pe_call G__law_leaves (hr.mono (by decide)) rfl C__law_leaves.m C__law_leaves.k C__law_leaves.b .nil pass0 (pa_cons (pv 1) (pa_cons pe_str pa_nil))) pa_nil)) pa_nil)) (by rfl))
      (pss_cons (ps_if (pt_cmpR op_ne (pe_callB (call_reprD (K := K) hg (hu64i hr)) (by rfl) T.n_repr (by decide +kernel) (pa_cons (pe_lst (pa_cons (pe_prop (pv 0) Z.cls Y.prop_unknown G_T_unknown (hr.mono (by decide)) B_T_unknown .nil pass0 rfl) (pa_cons (pe_prop (pv 0) Z.cls Y.prop_lost G_T_lost (hr.mono (by decide)) B_T_lost .nil pass0 rfl) (pa_cons (pe_prop (pv 0) Z.cls Y.prop_is_ground G_T_is_ground (hr.mono (by decide)) B_T_is_ground .nil pass0 rfl) pa_nil)))) pa_nil)) (pe_callB (call_reprD (K := K) hg (hu64i hr)) (by rfl) T.n_repr (by decide +kernel) (pa_cons (pe_lst (pa_cons (pv 9) (pa_cons (pv 10) (pa_cons (pe_cmpR (op_eqD hr.units) (pe_op op_catB (pv 9) (pv 10)) (pe_tup pa_nil) (nomark _)) pa_nil)))) pa_nil)) (nomark _)) (pss_one (ps_ret pe_bl)) pss_nil)
      (pss_cons (ps_for PassesOwn.never rfl (pi_range1 (by rfl) T.n_range (pa_cons (pe_callB call_len_seq (by rfl) T.n_len (by decide +kernel) (pa_cons (pv 3) pa_nil)) pa_nil)) (pg_name (i := 11) sc__law_told_right.nd rfl (Or.inr rfl)) (pss_cons (ps_setLc (i := 12) (own := [("_law_up", 13)]) (g := gName 13) rfl sc__law_told_right.nd rfl rfl (sw_true rfl rfl rfl (by decide +kernel)) (pi_range1 (by rfl) T.n_range (pa_cons (pe_op op_add (pv 11) pe_int) pa_nil)) (blkOk_by (own := [("_law_up", 13)]) (N := ["_law_made", "_law_term_here", "_law_rows", "_law_nodes_here", "_law_words", "_law_word", "_law_many", "_law_told", "_law_due", "_law_unknown", "_law_lost", "_law_at", "_law_above", "_law_up", "_law_odd", "_law_one"]) (sc := (defScope s__law_told_right)) (by decide +kernel)) (fun _ _ _ _ _ => (pg_name (i := 13) sc__law_told_right.nd rfl (Or.inl rfl))) (fun _ _ _ _ _ => (pts_one (pt_cmpR op_lt (pv 11) (pe_op op_add (pv 13) (pe_callB (call_len_k (K := K) ) (by rfl) T.n_len (by decide +kernel) (pa_cons (pe_call G__law_parts (hr.mono (by decide)) rfl C__law_parts.m C__law_parts.k C__law_parts.b .nil pass0 (pa_cons (pe_ix (ix_list_k (K := K) ) (pv 2) (pv 13) (fun _ _ => rfl)) pa_nil)) pa_nil))) (nomark _)))) (fun _ _ _ _ _ => (pv 13)))
      (pss_cons (ps_set (i := 7) sc__law_told_right.nd rfl (Or.inl rfl) (pe_lst (pa_cons (pe_ixO Y.s_item Y.n_item Y.i_item (raw0 G_T_item B_T_item) (hr.mono (by decide)) pass0 (pv 0) (pv 11)) (pa_cons (pe_meth (pv 0) Z.cls Y.m_children G_T_children (hr.mono (by decide)) B_T_children .nil pass0 (pa_cons (pv 11) pa_nil)) (pa_cons (pe_prop (pe_meth (pv 0) Z.cls Y.m_part G_T_part (hr.mono (by decide)) B_T_part .nil pass0 (pa_cons (pv 11) pa_nil)) Z.cls Y.prop_text G_T_text (hr.mono (by decide)) B_T_text .nil pass0 rfl) (pa_cons (pe_meth (pv 0) Z.cls Y.m_above G_T_above (hr.mono (by decide)) B_T_above .nil pass0 (pa_cons (pv 11) pa_nil)) pa_nil))))))
      (pss_cons (ps_if (pt_cmpR op_ne (pe_callB (call_reprD (K := K) hg (hu64i hr)) (by rfl) T.n_repr (by decide +kernel) (pa_cons (pv 7) pa_nil)) (pe_callB (call_reprD (K := K) hg (hu64i hr)) (by rfl) T.n_repr (by decide +kernel) (pa_cons (pe_lst (pa_cons (pe_ix ix_list (pv 3) (pv 11) (fun _ _ => rfl)) (pa_cons (pe_call G__law_below (hr.mono (by decide)) rfl C__law_below.m C__law_below.k C__law_below.b .nil pass0 (pa_cons (pv 1) (pa_cons (pv 11) pa_nil))) (pa_cons (pe_call G__law_text (hr.mono (by decide)) rfl C__law_text.m C__law_text.k C__law_text.b .nil pass0 (pa_cons (pe_ix ix_list (pv 2) (pv 11) (fun _ _ => rfl)) pa_nil)) (pa_cons (pe_callTy call_tuple_of (by rfl) T.n_tuple (by decide +kernel) (pa_cons (pv 12) pa_nil)) pa_nil))))) pa_nil)) (nomark _)) (pss_one (ps_ret pe_bl)) pss_nil)
      (pss_one (ps_if (pt_cmpR (op_notInO Y.s_in Y.i_in (raw0 G_T_in B_T_in) (hr.mono (by decide)) pass0) (pe_ix ix_list (pv 3) (pv 11) (fun _ _ => rfl)) (pv 0) (by first | rfl | with_unfolding_all rfl)) (pss_one (ps_ret pe_bl)) pss_nil))))))
      (pss_cons (ps_set (i := 14) sc__law_told_right.nd rfl (Or.inl rfl) (pe_lst (pa_cons pe_non (pa_cons pe_int (pa_cons pe_str (pa_cons (pe_tup (pa_cons pe_str pa_nil)) (pa_cons (pe_tup (pa_cons pe_str (pa_cons pe_int pa_nil))) (pa_cons (pe_lst (pa_cons pe_str (pa_cons pe_int pa_nil))) (pa_cons (pe_tup (pa_cons pe_str (pa_cons pe_int pa_nil))) (pa_cons (pe_tup pa_nil) (pa_cons (pe_tup (pa_cons pe_str (pa_cons pe_bl pa_nil))) (pa_cons (pv 0) (pa_cons (pe_callTy call_tuple_of (by rfl) T.n_tuple (by decide +kernel) (pa_cons (pv 3) pa_nil)) pa_nil)))))))))))))
      (pss_one (ps_ret (pe_cmpR (op_eqD hr.units) (pe_lc (own := [("_law_one", 15)]) (g := gName 15) rfl sc__law_told_right.nd (pi_list (pv 14)) (blkOk_by (own := [("_law_one", 15)]) (N := ["_law_made", "_law_term_here", "_law_rows", "_law_nodes_here", "_law_words", "_law_word", "_law_many", "_law_told", "_law_due", "_law_unknown", "_law_lost", "_law_at", "_law_above", "_law_up", "_law_odd", "_law_one"]) (sc := (defScope s__law_told_right)) (by decide +kernel)) (fun _ _ _ _ _ => (pg_name (i := 15) sc__law_told_right.nd rfl (Or.inl rfl))) (fun _ _ _ _ _ => (pts_one (PW.pt (pw_and (pt_cmpR (op_inO Y.s_in Y.i_in (raw0 G_T_in B_T_in) (hr.mono (by decide)) pass0) (pv 15) (pv 0) (by first | rfl | with_unfolding_all rfl)) (pw_and1 (pt_cmpR (op_notInX_k (K := K) (hu65 hr)) (pv 15) (pv 3) (by first | rfl | with_unfolding_all rfl))))))) (fun _ _ _ _ _ => (pv 15))) (pe_lst pa_nil) (nomark _))))))))))))), ?_⟩
    obtain ⟨dx, ha, ⟨xs0, hq0, hx0, hn0, hz0⟩, h00, ho0⟩ := id hI
    refine ⟨_, rfl, n, hn, v, d, rfl, hv, hT, hn, fun r1 xs1 H1 s1 nr1 hr1 hx1 => ?_⟩
    refine ⟨_, rfl, n, hn, v, d, rfl, hv.same s1, hT, hn, fun r2 xs2 H2 s2 nr2 hr2 hx2 => ?_⟩
    refine ⟨(szr rfl), fun p3 n3 => ?_⟩
    generalize g3 : upd _ p3 _ = H3; obtain ⟨e3, o3, t3⟩ := made n3 g3; clear g3
    have s3 := sameOf n3 o3
    refine ⟨_, _, rfl, SqT.of t3, rfl, _, _, rfl, _, _, rfl, rfl, ?_⟩
    have s03 := (s1.trans s2).trans s3
    have hr13 : H3 r1 = some (.lst xs1) := s3 _ _ (s2 _ _ hr1)
    have hr23 : H3 r2 = some (.lst xs2) := s3 _ _ hr2
    have hx13 := hx1.same (s2.trans s3)
    have hx23 := hx2.same s3
    refine ⟨_, rfl, _, rfl, ⟨_, SqL.of hr23⟩, fun D hD => ?_⟩
    refine lc_list (K := K) (a := r2) (xs := xs2) (fun i H' => Same H3 H' ∧ ∃ as : List Addr, H' D = some (.lst (as.map V.ref)) ∧ Paired (fun b q => H' b = some (.tup [.str q.1, .int q.2])) as (prsOf ((nodesT n d).take i)) ∧ as.length ≤ i)
      ⟨sameOf hD (fun b hb => upd_ne hb), [], upd_same, .nil, Nat.le_refl _⟩ (fun i H' _ h => SqL.of (h.1 _ _ hr23)) ?_ ?_
    · rintro i y H4 hi ⟨s4, as, h4, pr4, la⟩
      obtain ⟨e, he, xe⟩ := hx23.get hi
      obtain ⟨p, hp, rfl⟩ := nodes_mem hT e (List.mem_of_getElem? he)
      have hi2 : i < 40 := Nat.lt_of_lt_of_le (List.getElem?_eq_some_iff.mp he).1 hz
      cases xe with
      | @tup cc _ _ hc h2 =>
        cases h2 with
        | cons b1 h2 =>
          cases h2 with
          | cons b2 h2 =>
            cases h2
            cases b1
            cases b2
            refine ⟨cc, _, rfl, SqT.of (s4 _ _ hc), rfl, _, _, rfl, _, _, rfl, rfl, ?_⟩
            refine ⟨rfl, ?_⟩
            refine ⟨_, rfl, (szr rfl), fun p5 n5 => ?_⟩
            generalize g5 : upd _ p5 _ = H5; obtain ⟨e5, o5, t5⟩ := made n5 g5; clear g5
            have s5 := sameOf n5 o5
            have h5 := s5 _ _ h4
            have pr5 : Paired (fun b q => H5 b = some (.tup [.str q.1, .int q.2])) as (prsOf ((nodesT n d).take i)) := L2.Paired.mapP pr4 fun b q e => s5 _ _ e
            have shw : SeqAt.shaped (.str (p.1 : Str)) = true := by
              have z : ∀ p ∈ wordsT, SeqAt.shaped (.str (p.1 : Str)) = true := by decide +kernel
              exact z p hp
            refine ⟨.str (p.1 : Str), .list [.str "_", .str "#"], _, .str _, .lst (SqL.of t5) (.cons (.str _) (.cons (.str _) .nil)), .inl rfl, shw, by decide +kernel, _, rfl, ?_⟩
            have tk := prs_take he
            show if (!isLeafD (.str (p.1 : Str))) = true then _ else _
            cases g : isLeafD (.str (p.1 : Str)) with
            | true =>
              refine iteF ?_
              rw [prOf_leaf g, List.append_nil] at tk
              exact ⟨s4.trans s5, as, h5, by rw [tk]; exact pr5, by omega⟩
            | false =>
              refine iteT ?_
              rw [prOf_word g] at tk
              refine ⟨_, rfl, _, rfl, (szr rfl), fun p6 n6 => ?_⟩
              generalize g6 : upd _ p6 _ = H6; obtain ⟨e6, o6, t6⟩ := made n6 g6; clear g6
              have s6 := sameOf n6 o6
              have nD : p6 ≠ D := (ne_of_none h5 n6).symm
              refine ⟨_, s6 _ _ h5, szlt (by rw [List.length_map]; omega), fun b o e => ?_, as ++ [p6], ?_, ?_, by rw [List.length_append, List.length_singleton]; omega⟩
              · rw [upd_ne (ne_of_none e hD)]
                exact s6 _ _ (s5 _ _ (s4 _ _ e))
              · rw [upd_same, List.map_append]
                rfl
              · rw [tk]
                refine Paired.snoc (L2.Paired.mapP pr5 fun b q e => ?_) ?_
                · have hb : b ≠ D := by
                    rintro rfl
                    rw [h5] at e
                    cases e
                  rw [upd_ne hb]
                  exact s6 _ _ e
                · rw [upd_ne nD]
                  exact t6
    · rintro H4 ⟨s4, as, h4, pr4, la⟩
      have l2 : xs2.length = (nodesT n d).length := hx23.len
      rw [l2, List.take_length] at pr4
      refine ⟨_, as, (prsOf (nodesT n d)).map kvOf, rfl, SqL.of h4, ?_, fun p5 n5 => ?_⟩
      · exact paired_r (f := kvOf) (S := fun b kv => SqT K H4 b [kV kv.1, kv.2]) (fun b q e => show SqT K H4 b [kV (kvOf q).1, (kvOf q).2] from SqT.of e) pr4
      generalize g5 : upd _ p5 _ = H5; obtain ⟨e5, o5, t5⟩ := made n5 g5; clear g5
      have s5 := sameOf n5 o5
      have s05 := (s03.trans s4).trans s5
      have tl : (textT n d).length ≤ 2000 := text_len hT hn
      have dfit := deep_fit hT
      have hnn : (nodesT n d).length ≤ 1000 := by omega
      -- what the term tells
      have hI5 := hI.same s05
      have ha5 := s05 _ _ ha
      have hq5 := s05 _ _ hq0
      refine ⟨_, rfl, _, _, _, rfl, ha5, a, dx, _, rfl, ha5, ?_⟩
      refine ⟨_, rfl, _, _, _, rfl, ha5, a, q0, _, rfl, hI5, fun u1 H6 s6 hu1 => ?_⟩
      cases Option.some.inj (hu1.symm.trans (text_at hT))
      have ha6 := s6 _ _ ha5
      have hI6 := hI5.same s6
      refine ⟨_, rfl, _, _, _, rfl, ha6, a, q0, _, rfl, hI6, fun u2 H7 s7 hu2 => ⟨_, rfl, ?_⟩⟩
      cases Option.some.inj (hu2.symm.trans (text_at hT))
      have ha7 := s7 _ _ ha6
      have hI7 := hI6.same s7
      have hq7 := s7 _ _ (s6 _ _ hq5)
      refine ⟨_, rfl, _, _, _, rfl, ha7, a, dx, q0, xs0, rfl, ha7, hq7, _, rfl, by omega, by have := hx0.len; omega, ?_⟩
      refine ⟨_, rfl, _, _, _, rfl, ha7, a, q0, _, rfl, hI7, fun m H8 s8 hm => ?_⟩
      cases Option.some.inj (hm.symm.trans (deep_at hT))
      have ha8 := s8 _ _ ha7
      have hI8 := hI7.same s8
      refine ⟨_, rfl, _, _, _, rfl, ha8, a, q0, _, rfl, hI8, fun ps pS H9 s9 nS hS nd mem pw => ?_⟩
      have onePs : OneEach (prsOf (nodesT n d)) := fun p hp q hq e => by
        obtain ⟨p', hp', rfl⟩ := prs_words hT hp
        obtain ⟨q', hq', rfl⟩ := prs_words hT hq
        show ((p'.2 : Nat) : Int) = ((q'.2 : Nat) : Int)
        rw [words_one p' hp' q' hq' e]
      have mPs : mergeK [] (ps.map kvOf) = ps.map kvOf := by
        have z := merge_dedup ps [] ((one_mem mem).mpr onePs)
        have z' : mergeK [] (ps.map kvOf) = (dedupP [] ps).map kvOf := z
        rw [z', dedup_same ps [] nd]
        rfl
      rw [mPs] at hS
      refine ⟨_, _, rfl, hS, fun H10 rL ts k10 nrL nts rts hrL hpL => ?_⟩
      have s10 : Same H9 H10 := k10
      refine ⟨(szr rfl), fun p11 n11 => ?_⟩
      generalize g11 : upd _ p11 _ = H11; obtain ⟨e11, o11, t11⟩ := made n11 g11; clear g11
      have s11 := sameOf n11 o11
      have prL := paired_kv hpL
      -- what it has to tell
      have sA : Same H5 H11 := ((((s6.trans s7).trans s8).trans s9).trans s10).trans s11
      have sB : Same H3 H11 := (s4.trans s5).trans sA
      refine ⟨_, rfl, _, _, rfl, .inl ⟨SqL.of (sB _ _ hr23), fun p12 n12 => ?_⟩⟩
      generalize g12 : upd _ p12 _ = H12; obtain ⟨e12, o12, t12⟩ := made n12 g12; clear g12
      have s12 := sameOf n12 o12
      have hv12 := hv.same ((s05.trans sA).trans s12)
      refine ⟨_, rfl, n, hn, v, d, rfl, hv12, hT, hn, fun H13 s13 => ?_⟩
      refine ⟨_, rfl, n, hn, v, d, rfl, hv12.same s13, hT, hn, fun H14 s14 => ?_⟩
      have s14' := (s12.trans s13).trans s14
      refine ⟨_, rfl, _, _, rfl, .inl (SqL.of (s14' _ _ (sB _ _ hr23))), ?_⟩
      refine ⟨_, rfl, n, hn, v, d, rfl, (hv12.same s13).same s14, hT, hn, fun H15 s15 => ?_⟩
      have s15' := s14'.trans s15
      have hD15 := s15' _ _ (sA _ _ t5)
      have mQs : mergeK [] ((prsOf (nodesT n d)).map kvOf) = (dedupP [] (prsOf (nodesT n d))).map kvOf := merge_dedup _ [] onePs
      rw [mQs] at hD15
      refine ⟨_, rfl, _, _, rfl, hD15, fun H16 rM ts2 k16 nrM nts2 rts2 hrM hpM => ?_⟩
      have s16 : Same H15 H16 := k16
      have prM := paired_kv hpM
      refine ⟨_, ts2, rfl, SqL.of hrM, fun b hb => ?_, fun as2 p17 pm pw2 n17 => ?_⟩
      · obtain ⟨i, hi⟩ := List.getElem?_of_mem hb
        have hi2 : i < (dedupP [] (prsOf (nodesT n d))).length := by rw [← prM.length]; exact (List.getElem?_eq_some_iff.mp hi).1
        obtain ⟨x, e1, e2⟩ := paired_right prM (List.getElem?_eq_getElem hi2)
        cases Option.some.inj (hi.symm.trans e1)
        exact ⟨_, _, e2⟩
      obtain ⟨prN, ndN, memN⟩ := pairs_perm prM pm (dedup_nodup _ [] List.nodup_nil)
      have eqN : as2.map (Fn.pairAt H16) = ps := by
        refine lex_uniq ndN nd ?_ pw fun p => ?_
        · exact List.pairwise_map.mpr pw2
        · rw [memN p, dedup_mem, mem p]
          simp
      rw [eqN] at prN
      generalize g17 : upd _ p17 _ = H17; obtain ⟨e17, o17, t17⟩ := made n17 g17; clear g17
      have s17 := sameOf n17 o17
      refine ⟨(szr rfl), fun p18 n18 => ?_⟩
      generalize g18 : upd _ p18 _ = H18; obtain ⟨e18, o18, t18⟩ := made n18 g18; clear g18
      have s18 := sameOf n18 o18
      have sC : Same H11 H18 := ((s15'.trans s16).trans s17).trans s18
      have sAll : Same H H18 := (s05.trans sA).trans sC
      have lx0 : xs0.length = (nodesT n d).length := hx0.len
      have lx2 : xs2.length = (nodesT n d).length := hx2.len
      rw [lx0] at t11
      rw [lx2] at t18
      have fN := fit_all (nodes_fit hT)
      have fP := fit_all (pairs_fit hT fun q hq => (mem q).mp hq)
      have lps : ps.length ≤ 1000 := by
        have c1 : ps.length ≤ (prsOf (nodesT n d)).length := nodup_len nd fun q hq => (mem q).mp hq
        have c2 : (prsOf (nodesT n d)).length ≤ (nodesT n d).length * 1 := by
          unfold prsOf
          refine flat_len' fun e he => ?_
          obtain ⟨p, hp, rfl⟩ := nodes_mem hT e he
          show (if isLeafD (.str (p.1 : Str)) = true then [] else [((p.1 : Str), ((p.2 : Nat) : Int))]).length ≤ 1
          split <;> simp
        omega
      have st := smallT_text hT
      have oD : okSh (.list [.tuple (nodesT n d), .str (textT n d), .str (textT n d), .int ((nodesT n d).length : Int), .int (deepT n d), .list (ps.map pairT)]) = true := by
        simp only [okSh, okShAll, fN.1, fP.1, st, Bool.and_true, Bool.true_and]
        rw [show decide (((nodesT n d).length : Int).natAbs < 10 ^ 20) = true from nat_fit hnn, Bool.true_and]
        exact decide_eq_true (Nat.lt_of_le_of_lt (show (deepT n d).natAbs ≤ 1000 by omega) (by decide))
      have bD : bnd (.list [.tuple (nodesT n d), .str (textT n d), .str (textT n d), .int ((nodesT n d).length : Int), .int (deepT n d), .list (ps.map pairT)]) ≤ 1000000 := by
        have a := fN.2.1
        have b := fP.2.1
        rw [List.length_map] at b
        simp only [bnd, bndAll]
        omega
      have dD : PyData.depth (.list [.tuple (nodesT n d), .str (textT n d), .str (textT n d), .int ((nodesT n d).length : Int), .int (deepT n d), .list (ps.map pairT)]) ≤ 40 := by
        have a := fN.2.2
        have b := fP.2.2
        simp only [PyData.depth, PyData.depthAll]
        omega
      generalize eD1 : PyData.list [.tuple (nodesT n d), .str (textT n d), .str (textT n d), .int ((nodesT n d).length : Int), .int (deepT n d), .list (ps.map pairT)] = D1 at oD bD dD
      have x1 : Dx H18 (.ref p11) D1 := by
        rw [← eD1]
        exact .lst (sC _ _ t11) (.cons (.tup (sAll _ _ hq0) (hx0.same sAll)) (.cons (.str _) (.cons (.str _) (.cons (.int _) (.cons (.int _) (.cons (.lst (sC _ _ (s11 _ _ hrL)) ((dx_pairs prL).same (s11.trans sC))) .nil))))))
      have sX : Same H16 H18 := s17.trans s18
      have x2 : Dx H18 (.ref p18) D1 := by
        rw [← eD1]
        exact .lst t18 (.cons (.tup (((s13.trans s14).trans s15).trans (s16.trans sX) _ _ t12) (hx23.same (sB.trans sC))) (.cons (.str _) (.cons (.str _) (.cons (.int _) (.cons (.int _) (.cons (.lst (s18 _ _ t17) ((dx_pairs prN).same sX)) .nil))))))
      obtain ⟨y1, y2, y3, y4⟩ := rr (K := K) x1 oD bD dD
      have z1 := (rr (K := K) x2 oD bD dD).1
      refine ⟨_, rfl, _, D1, rfl, y1, y2, y3, y4, _, rfl, _, D1, rfl, z1, y2, y3, y4, rfl, _, rfl, ?_⟩
      rw [decide_eq_true rfl]
      refine iteF ?_
      clear x1 x2 y1 y2 y3 y4 z1 oD bD dD eD1
      -- unknown and lost leaves
      have hv18 := hv.same sAll
      refine ⟨_, rfl, n, v, d, "_", rfl, .inl rfl, hv18, hT, hn, hz, fun l1 H19 s19 nl1 hl1 => ?_⟩
      refine ⟨_, _, rfl, .inl ⟨SqL.of hl1, fun p20 n20 => ?_⟩⟩
      generalize g20 : upd _ p20 _ = H20; obtain ⟨e20, o20, t20⟩ := made n20 g20; clear g20
      have s20 := s19.trans (sameOf n20 o20)
      refine ⟨_, rfl, n, v, d, "#", rfl, .inr rfl, hv18.same s20, hT, hn, hz, fun l2 H21 s21 nl2 hl2 => ?_⟩
      refine ⟨_, _, rfl, .inl ⟨SqL.of hl2, fun p22 n22 => ?_⟩⟩
      generalize g22 : upd _ p22 _ = H22; obtain ⟨e22, o22, t22⟩ := made n22 g22; clear g22
      have s22 := s21.trans (sameOf n22 o22)
      refine ⟨_, _, rfl, ?_⟩
      have sU := (sAll.trans s20).trans s22
      have haU := sU _ _ ha
      have hIU := hI.same sU
      refine ⟨_, rfl, _, _, _, rfl, haU, a, q0, _, rfl, hIU, fun pu H23 s23 npu hpu => ?_⟩
      refine ⟨_, rfl, _, _, _, rfl, s23 _ _ haU, a, q0, _, rfl, hIU.same s23, fun pl H24 s24 npl hpl => ?_⟩
      refine ⟨_, rfl, _, _, _, rfl, s24 _ _ (s23 _ _ haU), a, q0, _, rfl, (hIU.same s23).same s24, fun H25 s25 => ?_⟩
      refine ⟨(szr rfl), fun p26 n26 => ?_⟩
      generalize g26 : upd _ p26 _ = H26; obtain ⟨e26, o26, t26⟩ := made n26 g26; clear g26
      have s26 := s25.trans (sameOf n26 o26)
      have sml : ∀ w : Str, ∀ k ∈ leavesP w ((nodesT n d).map pairD) (nodesT n d).length, k ≤ 1000 := fun w k hk => by
        have := (leavesP_mem.mp hk).1
        omega
      have lml : ∀ w : Str, (leavesP w ((nodesT n d).map pairD) (nodesT n d).length).length ≤ 40 := fun w => by
        have := List.length_filter_le (fun j => decide ((((nodesT n d).map pairD)[j]?.map Prod.fst) = some w)) (List.range (nodesT n d).length)
        rw [List.length_range] at this
        show ((List.range (nodesT n d).length).filter fun j => decide ((((nodesT n d).map pairD)[j]?.map Prod.fst) = some w)).length ≤ 40
        omega
      have gr := ground_eq (nodesT n d)
      generalize hU : leavesP "_" ((nodesT n d).map pairD) (nodesT n d).length = U at *
      generalize hL : leavesP "#" ((nodesT n d).map pairD) (nodesT n d).length = L at *
      have lU := lml "_"
      have lL := lml "#"
      have mU := sml "_"
      have mL := sml "#"
      rw [hU] at lU mU
      rw [hL] at lL mL
      have fU := nats_fit mU
      have fL := nats_fit mL
      rw [gr] at t26
      have oD2 : okSh (.list [.tuple (U.map fun k => PyData.int (k : Nat)), .tuple (L.map fun k => PyData.int (k : Nat)), .bool (U ++ L).isEmpty]) = true := by
        simp only [okSh, okShAll, fU.1, fL.1, Bool.and_self]
      have bD2 : bnd (.list [.tuple (U.map fun k => PyData.int (k : Nat)), .tuple (L.map fun k => PyData.int (k : Nat)), .bool (U ++ L).isEmpty]) ≤ 1000000 := by
        simp only [bnd, bndAll, fU.2.1, fL.2.1]
        omega
      have dD2 : PyData.depth (.list [.tuple (U.map fun k => PyData.int (k : Nat)), .tuple (L.map fun k => PyData.int (k : Nat)), .bool (U ++ L).isEmpty]) ≤ 40 := by
        simp only [PyData.depth, PyData.depthAll, fU.2.2, fL.2.2]
        decide
      generalize eD2 : PyData.list [.tuple (U.map fun k => PyData.int (k : Nat)), .tuple (L.map fun k => PyData.int (k : Nat)), .bool (U ++ L).isEmpty] = D2 at oD2 bD2 dD2
      have x1 : Dx H26 (.ref p26) D2 := by
        rw [← eD2]
        exact .lst t26 (.cons (.tup (s26 _ _ (s24 _ _ hpu)) (dx_nats U)) (.cons (.tup (s26 _ _ hpl) (dx_nats L)) (.cons (.bl _) .nil)))
      obtain ⟨y1, y2, y3, y4⟩ := rr (K := K) x1 oD2 bD2 dD2
      have s2226 : Same H22 H26 := (s23.trans s24).trans s26
      have t20' := s2226 _ _ (s22 _ _ t20)
      have t22' := s2226 _ _ t22
      refine ⟨_, D2, rfl, y1, y2, y3, y4, _, rfl, _, rfl, _, rfl, _, rfl, _, _, _, _, rfl, rfl, t20', t22', Nat.le_trans (show _ ≤ 1000 by rw [List.length_map, List.length_map]; omega) (by decide), fun pC HC sCC hCC => ?_⟩
      refine ⟨(szr rfl), fun p27 n27 => ?_⟩
      generalize g27 : upd _ p27 _ = H27; obtain ⟨e27, o27, t27⟩ := made n27 g27; clear g27
      have s27 := sameOf n27 o27
      have shUL : SeqAt.shaped (.tuple ((U.map fun k => PyData.int (k : Nat)) ++ (L.map fun k => PyData.int (k : Nat)))) = true := by
        rw [← List.map_append]
        exact nats_shaped fun k hk => (List.mem_append.mp hk).elim (mU k) (mL k)
      have frUL : dictfreeAll ((U.map fun k => PyData.int (k : Nat)) ++ (L.map fun k => PyData.int (k : Nat))) = true := by
        rw [← List.map_append]
        exact (okShAll.nodict (nats_fit fun k hk => (List.mem_append.mp hk).elim (mU k) (mL k)).1).2.2
      refine ⟨_, .tuple [], (Dx.tup (s27 _ _ hCC) ((dx_nats U).app (dx_nats L))).dp frUL, (Dx.tup t27 .nil).dp rfl, shUL, by decide +kernel, (szr rfl), fun p28 n28 => ?_⟩
      generalize g28 : upd _ p28 _ = H28; obtain ⟨e28, o28, t28⟩ := made n28 g28; clear g28
      have s28 := sameOf n28 o28
      have eUL : PyData.eqv (.tuple ((U.map fun k => PyData.int (k : Nat)) ++ (L.map fun k => PyData.int (k : Nat)))) (.tuple []) = (U ++ L).isEmpty := by
        rw [nil_eqv, ← List.map_append]
        cases U ++ L <;> rfl
      rw [eUL] at t28
      have s2628 : Same H26 H28 := (sCC.trans s27).trans s28
      have x2 : Dx H28 (.ref p28) D2 := by
        rw [← eD2]
        exact .lst t28 (.cons (.tup (s2628 _ _ t20') (dx_nats U)) (.cons (.tup (s2628 _ _ t22') (dx_nats L)) (.cons (.bl _) .nil)))
      have z1 := (rr (K := K) x2 oD2 bD2 dD2).1
      refine ⟨_, D2, rfl, z1, y2, y3, y4, rfl, _, rfl, ?_⟩
      rw [decide_eq_true rfl]
      refine iteF ?_
      -- each place
      have sE : Same H H28 := (sU.trans s2226).trans s2628
      have sE3 : Same H3 H28 := ((((sB.trans sC).trans s20).trans s22).trans s2226).trans s2628
      clear x1 x2 y1 y2 y3 y4 z1 oD2 bD2 dD2 eD2 fU fL mU mL lU lL sml lml eUL shUL frUL
      have hr1E := sE3 _ _ hr13
      have hr2E := sE3 _ _ hr23
      have hx1E := hx13.same sE3
      have hx2E := hx23.same sE3
      refine ⟨_, rfl, _, _, rfl, .inl (SqL.of hr2E), _, rfl, by omega, by omega, ?_⟩
      refine for_range (lo := 0) (n := (xs2.length : Int).toNat) (fun i σ H' => (∃ b4 b5 b6 b7 b8 b9 b10 b11 b12 b13 b14 b15, σ = [some (.ref a), some v, some (.ref r1), some (.ref r2), b4, b5, b6, b7, b8, b9, b10, b11, b12, b13, b14, b15]) ∧ Same H28 H')
        ⟨⟨_, _, _, _, _, _, _, _, _, _, _, _, rfl⟩, Same.refl _⟩ ?_ ?_
      · rintro i σ H30 hi ⟨⟨b4, b5, b6, b7, b8, b9, b10, b11, b12, b13, b14, b15, rfl⟩, s30⟩
        have hi' : i < (nodesT n d).length := by omega
        have hip : i < (partsT n d).length := by rw [parts_len hT]; exact hi'
        have hE := List.getElem?_eq_getElem hip
        generalize (partsT n d)[i] = e at hE
        have em := List.mem_of_getElem? hE
        have isE := parts_is hT e em
        obtain ⟨w', ds, eE, lds⟩ : ∃ (w' : Str) (ds : List PyData), e = .tuple [.str w', .tuple ds] ∧ (ds.flatMap (partsT n)).length ≤ 121 := by
          cases n with
          | zero => exact isE.elim
          | succ n' =>
            obtain ⟨w1, ds, rfl, hw, hds⟩ := id isE
            refine ⟨_, ds, rfl, ?_⟩
            have l1 := parts_len isE
            have l2 := Nat.le_trans (nodes_len isE) (szT_mono hn)
            have l3 : (partsT (n' + 1) (.tuple [.str w1, .tuple ds])).length = (ds.flatMap (partsT n')).length + 1 := rfl
            have l4 : ds.flatMap (partsT (n' + 1)) = ds.flatMap (partsT n') := flat_congr fun x hx => parts_up (hds x hx)
            have l5 : szT 5 = 121 := rfl
            rw [l4]
            omega
        have sN := sE.trans s30
        have hr1N := s30 _ _ hr1E
        have hr2N := s30 _ _ hr2E
        refine ⟨_, rfl, _, _, rfl, rfl, _, rfl, by omega, by omega, fun D hD => ?_⟩
        refine lc_range (lo := 0) (n := (0 + (i : Int) + 1).toNat) (fun j H' => Same H30 H' ∧ H' D = some (.lst ((aboveT ((nodesT n d).map arOf) i j).map fun k => V.int (k : Nat)))) ⟨sameOf hD (fun b hb => upd_ne hb), upd_same⟩ ?_ ?_
        · rintro j H31 hj ⟨s31, h31⟩
          have hjp : j < (partsT n d).length := by omega
          have hjE := List.getElem?_eq_getElem hjp
          generalize (partsT n d)[j] = ej at hjE
          have isJ := parts_is hT ej (List.mem_of_getElem? hjE)
          have hj1 : j < xs1.length := by rw [hx1E.len]; exact hjp
          have hvj := List.getElem?_eq_getElem hj1
          obtain ⟨ej2, hj2, xj⟩ := hx1E.get hvj
          cases Option.some.inj (hjE.symm.trans hj2)
          refine ⟨rfl, ?_⟩
          refine ⟨_, rfl, _, rfl, _, rfl, _, rfl, _, _, _, _, rfl, rfl, SqL.of (s31 _ _ hr1N), by rw [Int.zero_add]; exact atI_nat hvj, n, hn, _, ej, rfl, xj.same (s30.trans s31), isJ, hn, fun pj us H32 s32 npj hpj huj => ?_⟩
          refine ⟨_, _, rfl, .inl (SqL.of hpj), _, _, rfl, rfl, _, _, rfl, rfl, _, rfl, ?_⟩
          have lus : us.length = (nodesT n ej).length := by rw [huj.len, parts_len isJ]
          have eE : endT ((nodesT n d).map arOf) j = j + (nodesT n ej).length := by
            unfold endT
            rw [walk_at hT hjE]
            rfl
          have tk : aboveT ((nodesT n d).map arOf) i (j + 1) = aboveT ((nodesT n d).map arOf) i j ++ [j].filter fun k => decide (endT ((nodesT n d).map arOf) k > i) := by
            unfold aboveT
            rw [List.range_succ, List.filter_append]
          have li : (aboveT ((nodesT n d).map arOf) i j).length ≤ 1001 := by
            have := List.length_filter_le (fun k => decide (endT ((nodesT n d).map arOf) k > i)) (List.range j)
            rw [List.length_range] at this
            show ((List.range j).filter fun k => decide (endT ((nodesT n d).map arOf) k > i)).length ≤ 1001
            omega
          have h32 := s32 _ _ h31
          refine ite2 (fun g => ?_) (fun g => ?_)
          · have g' := of_decide_eq_true g
            have y : decide (endT ((nodesT n d).map arOf) j > i) = true := decide_eq_true (by rw [eE]; omega)
            refine ⟨_, rfl, _, h32, szlt (by rw [List.length_map]; omega), fun b o e => ?_, ?_⟩
            · rw [upd_ne (ne_of_none e hD)]
              exact s32 _ _ (s31 _ _ e)
            · rw [upd_same, tk, List.filter_cons_of_pos (p := fun k => decide (endT ((nodesT n d).map arOf) k > i)) y, List.filter_nil, List.map_append, Int.zero_add]
              rfl
          · have g' := of_decide_eq_false (Bool.eq_false_iff.mpr g)
            have y : ¬ decide (endT ((nodesT n d).map arOf) j > i) = true := fun z => g' (by have := of_decide_eq_true z; rw [eE] at this; omega)
            refine ⟨s31.trans s32, ?_⟩
            rw [h32, tk, List.filter_cons_of_neg (p := fun k => decide (endT ((nodesT n d).map arOf) k > i)) y, List.filter_nil, List.append_nil]
        · rintro H31 ⟨s31, h31⟩
          rw [show (0 + (i : Int) + 1).toNat = i + 1 by omega] at h31
          have sM := sN.trans s31
          have haM := sM _ _ ha
          have hIM := hI.same sM
          have hr1M := s31 _ _ hr1N
          have hr2M := s31 _ _ hr2N
          have hi2 : i < xs2.length := by omega
          have hv2 := List.getElem?_eq_getElem hi2
          obtain ⟨f, hf, xf⟩ := hx2E.get hv2
          generalize xs2[i] = yf at hv2 xf
          have hi1 : i < xs1.length := by rw [hx1E.len]; exact hip
          have hv1 := List.getElem?_eq_getElem hi1
          obtain ⟨e', he', xe⟩ := hx1E.get hv1
          cases Option.some.inj (hE.symm.trans he')
          generalize xs1[i] = ye at hv1 xe
          have hiq : i < xs0.length := by omega
          have hv0 := List.getElem?_eq_getElem hiq
          obtain ⟨f', hf', xf0⟩ := hx0.get hv0
          cases Option.some.inj (hf.symm.trans hf')
          generalize xs0[i] = y0 at hv0 xf0
          have hb := below_at hT (by rw [← eE]; exact hE)
          have wk := walk_at hT hE
          have sl : ((nodesT n d).drop i).take (nodesT n e).length = nodesT n e := by
            obtain ⟨rest, e2⟩ := parts_at hT hE
            rw [e2, List.take_left']
            rfl
          have le : (nodesT n e).length ≤ 40 := by
            have := congrArg List.length sl
            rw [List.length_take, List.length_drop] at this
            omega
          have okE' := term_ok isE le
          refine ⟨_, rfl, _, rfl, _, _, _, rfl, haM, a, q0, _, i, by rw [Int.zero_add], hIM, hi', fun xs' v' hx' hv' => ?_⟩
          cases (HO.tup.inj (Option.some.inj (hx'.symm.trans (sM _ _ hq0))))
          cases Option.some.inj (hv'.symm.trans hv0)
          refine ⟨_, rfl, _, _, _, rfl, haM, rfl, _, rfl, a, q0, _, i, _, _, by rw [Int.zero_add]; rfl, hIM, hi', hb.1, by rw [Int.toNat_natCast]; exact hb.2, fun pc H33 s33 npc hpc => ?_⟩
          refine ⟨_, rfl, _, _, _, rfl, s33 _ _ haM, rfl, _, rfl, a, q0, _, i, _, by rw [Int.zero_add]; rfl, hIM.same s33, hi', wk, by rw [sl]; exact okE'.1, fun xp qp H34 s34 hIp => ?_⟩
          rw [sl] at hIp
          obtain ⟨dxp, hap, _⟩ := id hIp
          refine ⟨_, _, _, rfl, hap, xp, qp, _, rfl, hIp, fun up H35 s35 hup => ?_⟩
          cases Option.some.inj (hup.symm.trans (text_at isE))
          have s35' := (s33.trans s34).trans s35
          refine ⟨_, rfl, _, _, _, rfl, s35' _ _ haM, rfl, _, rfl, a, q0, _, i, by rw [Int.zero_add]; rfl, hIM.same s35', hi', ends_all hT, fun pa H36 s36 npa hpa => ?_⟩
          refine ⟨(szr rfl), fun p37 n37 => ?_⟩
          generalize g37 : upd _ p37 _ = H37; obtain ⟨e37, o37, t37⟩ := made n37 g37; clear g37
          have s37 := s36.trans (sameOf n37 o37)
          have sMx : Same H31 H37 := s35'.trans s37
          have smB : (∀ k ∈ belowL n ds (i + 1), k ≤ 1000) ∧ (belowL n ds (i + 1)).length = ds.length := belowL_small (by omega)
          have smA : ∀ k ∈ aboveT ((nodesT n d).map arOf) i (i + 1), k ≤ 1000 := fun k hk => by
            have := (List.mem_filter.mp hk).1
            rw [List.mem_range] at this
            omega
          have lA : (aboveT ((nodesT n d).map arOf) i (i + 1)).length ≤ 1001 := by
            have := List.length_filter_le (fun k => decide (endT ((nodesT n d).map arOf) k > i)) (List.range (i + 1))
            rw [List.length_range] at this
            show ((List.range (i + 1)).filter fun k => decide (endT ((nodesT n d).map arOf) k > i)).length ≤ 1001
            omega
          have lds3 : ds.length ≤ 3 := by
            cases n with
            | zero => exact isE.elim
            | succ n' =>
              obtain ⟨w1, ds1, e1, hw, hds⟩ := id isE
              rw [eE] at e1
              cases e1
              exact few_words hw
          have fB := nats_fit smB.1
          have fA := nats_fit smA
          have fm := List.mem_of_getElem? hf
          have fF := nodes_fit hT f fm
          have stE := smallT_text isE
          have tlE := text_len isE hn
          have oD3 : okSh (.list [f, .tuple ((belowL n ds (i + 1)).map fun k => PyData.int (k : Nat)), .str (textT n e), .tuple ((aboveT ((nodesT n d).map arOf) i (i + 1)).map fun k => PyData.int (k : Nat))]) = true := by
            simp only [okSh, okShAll, fB.1, fA.1, fF.1, stE, Bool.and_self]
          have bD3 : bnd (.list [f, .tuple ((belowL n ds (i + 1)).map fun k => PyData.int (k : Nat)), .str (textT n e), .tuple ((aboveT ((nodesT n d).map arOf) i (i + 1)).map fun k => PyData.int (k : Nat))]) ≤ 1000000 := by
            have := fF.2.1
            have lB := smB.2
            simp only [bnd, bndAll, fB.2.1, fA.2.1]
            omega
          have dD3 : PyData.depth (.list [f, .tuple ((belowL n ds (i + 1)).map fun k => PyData.int (k : Nat)), .str (textT n e), .tuple ((aboveT ((nodesT n d).map arOf) i (i + 1)).map fun k => PyData.int (k : Nat))]) ≤ 40 := by
            have := fF.2.2
            simp only [PyData.depth, PyData.depthAll, fB.2.2, fA.2.2]
            omega
          generalize eD3 : PyData.list [f, .tuple ((belowL n ds (i + 1)).map fun k => PyData.int (k : Nat)), .str (textT n e), .tuple ((aboveT ((nodesT n d).map arOf) i (i + 1)).map fun k => PyData.int (k : Nat))] = D3 at oD3 bD3 dD3
          have x1 : Dx H37 (.ref p37) D3 := by
            rw [← eD3]
            exact .lst t37 (.cons (xf0.same (sM.trans sMx)) (.cons (.tup (((s34.trans s35).trans s37) _ _ hpc) (dx_nats _)) (.cons (.str _) (.cons (.tup ((sameOf n37 o37) _ _ hpa) (dx_nats _)) .nil))))
          obtain ⟨y1, y2, y3, y4⟩ := rr (K := K) x1 oD3 bD3 dD3
          refine ⟨_, rfl, _, D3, rfl, y1, y2, y3, y4, _, rfl, _, rfl, _, _, _, _, rfl, rfl, SqL.of (sMx _ _ hr2M), by rw [Int.zero_add]; exact atI_nat hv2, ?_⟩
          have sMall := sM.trans sMx
          refine ⟨_, rfl, _, rfl, v, d, n, i, w', ds, by rw [Int.zero_add]; rfl, hv.same sMall, hT, hn, hz, by rw [← eE]; exact hE, fun pb H38 s38 npb hpb => ?_⟩
          refine ⟨_, rfl, _, rfl, _, _, _, _, rfl, rfl, SqL.of (s38 _ _ (sMx _ _ hr1M)), by rw [Int.zero_add]; exact atI_nat hv1, ?_⟩
          refine ⟨n, hn, ye, e, rfl, xe.same (((s30.trans s31).trans sMx).trans s38), isE, hn, fun H39 s39 => ?_⟩
          refine ⟨_, rfl, _, _, rfl, .inl ⟨SqL.of (s39 _ _ (s38 _ _ (sMx _ _ h31))), fun p40 n40 => ?_⟩⟩
          generalize g40 : upd _ p40 _ = H40; obtain ⟨e40, o40, t40⟩ := made n40 g40; clear g40
          have s40 := sameOf n40 o40
          refine ⟨(szr rfl), fun p41 n41 => ?_⟩
          generalize g41 : upd _ p41 _ = H41; obtain ⟨e41, o41, t41⟩ := made n41 g41; clear g41
          have s41 := sameOf n41 o41
          have s3941 := s40.trans s41
          have x2 : Dx H41 (.ref p41) D3 := by
            rw [← eD3]
            exact .lst t41 (.cons (xf.same (((((s30.trans s31).trans sMx).trans s38).trans s39).trans s3941)) (.cons (.tup ((s39.trans s3941) _ _ hpb) (dx_nats _)) (.cons (.str _) (.cons (.tup (s41 _ _ t40) (dx_nats _)) .nil))))
          have z1 := (rr (K := K) x2 oD3 bD3 dD3).1
          refine ⟨_, D3, rfl, z1, y2, y3, y4, rfl, _, rfl, ?_⟩
          rw [decide_eq_true rfl]
          refine iteF ?_
          have sF := ((sMall.trans s38).trans s39).trans s3941
          have haF := sF _ _ ha
          have sNF : Same H28 H41 := ((((s30.trans s31).trans sMx).trans s38).trans s39).trans s3941
          refine ⟨_, rfl, _, rfl, _, _, _, _, rfl, rfl, SqL.of (sNF _ _ hr2E), by rw [Int.zero_add]; exact atI_nat hv2, _, rfl, _, _, _, rfl, haF, a, q0, _, yf, rfl, hI.same sF, .inl ⟨f, xf.same sNF, List.all_eq_true.mp (term_ok hT hz).2.1 f fm, fun H42 s42 => ⟨_, rfl, _, rfl, ?_⟩⟩⟩
          rw [in_self hT fm]
          refine iteF ?_
          exact ⟨⟨_, _, _, _, _, _, _, _, _, _, _, _, rfl⟩, sNF.trans s42⟩
      · rintro σ H30 ⟨⟨b4, b5, b6, b7, b8, b9, b10, b11, b12, b13, b14, b15, rfl⟩, s30⟩
        refine ⟨(szr rfl), fun p43 n43 => ?_⟩
        generalize g43 : upd _ p43 _ = H43; obtain ⟨e43, o43, t43⟩ := made n43 g43; clear g43
        refine ⟨(szr rfl), fun p44 n44 => ?_⟩
        generalize g44 : upd _ p44 _ = H44; obtain ⟨e44, o44, t44⟩ := made n44 g44; clear g44
        refine ⟨(szr rfl), fun p45 n45 => ?_⟩
        generalize g45 : upd _ p45 _ = H45; obtain ⟨e45, o45, t45⟩ := made n45 g45; clear g45
        refine ⟨(szr rfl), fun p46 n46 => ?_⟩
        generalize g46 : upd _ p46 _ = H46; obtain ⟨e46, o46, t46⟩ := made n46 g46; clear g46
        refine ⟨(szr rfl), fun p47 n47 => ?_⟩
        generalize g47 : upd _ p47 _ = H47; obtain ⟨e47, o47, t47⟩ := made n47 g47; clear g47
        refine ⟨(szr rfl), fun p48 n48 => ?_⟩
        generalize g48 : upd _ p48 _ = H48; obtain ⟨e48, o48, t48⟩ := made n48 g48; clear g48
        have q43 := sameOf n43 o43
        have q44 := sameOf n44 o44
        have q45 := sameOf n45 o45
        have q46 := sameOf n46 o46
        have q47 := sameOf n47 o47
        have q48 := sameOf n48 o48
        have s48 : Same H30 H48 := ((((q43.trans q44).trans q45).trans q46).trans q47).trans q48
        have r2N := s48 _ _ (s30 _ _ hr2E)
        refine ⟨_, rfl, _, rfl, _, _, rfl, .inl ⟨SqL.of r2N, fun p49 n49 => ?_⟩⟩
        generalize g49 : upd _ p49 _ = H49; obtain ⟨e49, o49, t49⟩ := made n49 g49; clear g49
        have q49 := sameOf n49 o49
        refine ⟨(szr rfl), fun p50 n50 => ?_⟩
        generalize g50 : upd _ p50 _ = H50; obtain ⟨e50, o50, t50⟩ := made n50 g50; clear g50
        have q50 := sameOf n50 o50
        have s50 : Same H30 H50 := (s48.trans q49).trans q50
        have sG : Same H H50 := (sE.trans s30).trans s50
        have haG := sG _ _ ha
        have hIG := hI.same sG
        have x2G := hx2E.same (s30.trans s50)
        have r2G := s50 _ _ (s30 _ _ hr2E)
        have w50 : Same H49 H50 := q50
        have odd : ∀ (i : Nat) (y : V), [V.non, .int 0, .str "a", .ref p43, .ref p44, .ref p45, .ref p46, .ref p47, .ref p48, .ref a, .ref p49][i]? = some y → (∃ dd, Dx H50 y dd ∧ okN dd = true) ∨ y = .ref a := by
          intro i y hy
          match i, hy with
          | 0, hy => cases hy; exact .inl ⟨_, .non, rfl⟩
          | 1, hy => cases hy; exact .inl ⟨_, .int _, rfl⟩
          | 2, hy => cases hy; exact .inl ⟨_, .str _, by decide +kernel⟩
          | 3, hy => cases hy; exact .inl ⟨_, .tup (Same.at t43 (by walk_at "sm")) (.cons (.str _) .nil), by decide +kernel⟩
          | 4, hy => cases hy; exact .inl ⟨_, .tup (Same.at t44 (by walk_at "sm")) (.cons (.str _) (.cons (.int _) .nil)), by decide +kernel⟩
          | 5, hy => cases hy; exact .inl ⟨_, .lst (Same.at t45 (by walk_at "sm")) (.cons (.str _) (.cons (.int _) .nil)), by decide +kernel⟩
          | 6, hy => cases hy; exact .inl ⟨_, .tup (Same.at t46 (by walk_at "sm")) (.cons (.str _) (.cons (.int _) .nil)), by decide +kernel⟩
          | 7, hy => cases hy; exact .inl ⟨_, .tup (Same.at t47 (by walk_at "sm")) .nil, by decide +kernel⟩
          | 8, hy => cases hy; exact .inl ⟨_, .tup (Same.at t48 (by walk_at "sm")) (.cons (.str _) (.cons (.bl _) .nil)), by decide +kernel⟩
          | 9, hy => cases hy; exact .inr rfl
          | 10, hy => cases hy; exact .inl ⟨.tuple (nodesT n d), .tup (q50 _ _ t49) x2G, okN_nodes hT⟩
          | i + 11, hy => simp at hy
        refine ⟨_, rfl, _, rfl, ⟨_, SqL.of t50⟩, fun D hD => ?_⟩
        refine lc_list (K := K) (a := p50) (xs := [V.non, .int 0, .str "a", .ref p43, .ref p44, .ref p45, .ref p46, .ref p47, .ref p48, .ref a, .ref p49]) (fun i H' => Same H50 H' ∧ H' D = some (.lst [])) ⟨sameOf hD (fun b hb => upd_ne hb), upd_same⟩ (fun i H' _ h => SqL.of (h.1 _ _ t50)) ?_ ?_
        · rintro i y H51 hy ⟨s51, h51⟩
          have sK := sG.trans s51
          have haK := s51 _ _ haG
          refine ⟨rfl, ?_⟩
          rcases odd i y hy with ⟨dd, xd, od⟩ | rfl
          · refine ⟨_, rfl, _, rfl, _, _, _, rfl, haK, a, q0, _, y, rfl, hI.same sK, .inl ⟨dd, xd.same s51, od, fun H52 s52 => ⟨_, rfl, _, rfl, ?_⟩⟩⟩
            cases g : (isNodeD dd && (nodesT n d).any fun z => PyData.eqv z dd) with
            | false =>
              refine iteF ?_
              exact iteF ⟨s51.trans s52, s52 _ _ h51⟩
            | true =>
              refine iteT ?_
              obtain ⟨g1, g2⟩ := Bool.and_eq_true_iff.mp g
              have nl := node_lay g1 od
              have sd : SeqAt.shaped dd = true := by
                show (dd.canLay0 && decide (dd.depth ≤ 64)) = true
                rw [nl.1, Bool.true_and]
                exact decide_eq_true (by have := nl.2.1; omega)
              have shL : SeqAt.shaped (.list (nodesT n d)) = true := by
                have z := nodes_shaped (nodes_node hT) (term_ok hT hz).2.1
                have e1 : SeqAt.shaped (.list (nodesT n d)) = SeqAt.shaped (.tuple (nodesT n d)) := by
                  have a1 : PyData.canLay0 (.list (nodesT n d)) = PyData.canLay0 (.tuple (nodesT n d)) := by simp only [PyData.canLay0]
                  have a2 : PyData.depth (.list (nodesT n d)) = PyData.depth (.tuple (nodesT n d)) := by simp only [PyData.depth]
                  show (PyData.canLay0 (.list (nodesT n d)) && decide (PyData.depth (.list (nodesT n d)) ≤ 64)) = (PyData.canLay0 (.tuple (nodesT n d)) && decide (PyData.depth (.tuple (nodesT n d)) ≤ 64))
                  rw [a1, a2]
                rw [e1]
                exact z
              refine ⟨_, rfl, _, rfl, dd, .list (nodesT n d), _, (xd.same (s51.trans s52)).dp nl.2.2, (Dx.lst (s52 _ _ (s51 _ _ r2G)) (x2G.same (s51.trans s52))).dp (nodes_free (nodes_node hT)), .inl rfl, sd, shL, _, rfl, ?_⟩
              rw [g2]
              refine iteF ?_
              exact ⟨s51.trans s52, s52 _ _ h51⟩
          · refine ⟨_, rfl, _, rfl, _, _, _, rfl, haK, a, q0, _, _, rfl, hI.same sK, .inr ⟨a, dx, _, rfl, haK, ⟨_, rfl, _, rfl, ?_⟩⟩⟩
            refine iteF ?_
            exact iteF ⟨s51, h51⟩
        · rintro H51 ⟨s51, h51⟩
          refine ⟨(szr rfl), fun p52 n52 => ?_⟩
          generalize g52 : upd _ p52 _ = H52; obtain ⟨e52, o52, t52⟩ := made n52 g52; clear g52
          have s52 := sameOf n52 o52
          refine ⟨.list [], .list [], .lst (SqL.of (s52 _ _ h51)) .nil, .lst (SqL.of t52) .nil, by decide +kernel, by decide +kernel, ?_⟩
          rw [show PyData.eqv (.list []) (.list []) = true by decide +kernel]
          exact q H52 ((sG.trans s51).trans s52)

/-! ### a text is that of one term alone -/
def isSep (c : Nat) : Bool := c == 40 || (c == 41 || c == 44)
def SepHead (r : List Nat) : Prop := ∀ c, r.head? = some c → isSep c = true
theorem cut_word : ∀ {a b r s : List Nat}, (∀ c ∈ a, isSep c = false) → (∀ c ∈ b, isSep c = false) → SepHead r → SepHead s → a ++ r = b ++ s → a = b ∧ r = s
  | [], [], _, _, _, _, _, _, e => ⟨rfl, e⟩
  | [], y :: b, r, s, _, hb, hr, _, e => by
    have e' : r = y :: (b ++ s) := e
    have := hr y (by rw [e']; rfl)
    rw [hb y List.mem_cons_self] at this
    cases this
  | x :: a, [], r, s, ha, _, _, hs, e => by
    have e' : x :: (a ++ r) = s := e
    have := hs x (by rw [← e']; rfl)
    rw [ha x List.mem_cons_self] at this
    cases this
  | x :: a, y :: b, r, s, ha, hb, hr, hs, e => by
    obtain ⟨e1, e2⟩ := List.cons.inj (show x :: (a ++ r) = y :: (b ++ s) from e)
    obtain ⟨e3, e4⟩ := cut_word (fun c hc => ha c (List.mem_cons_of_mem _ hc)) (fun c hc => hb c (List.mem_cons_of_mem _ hc)) hr hs e2
    exact ⟨by rw [e1, e3], e4⟩
def cs (t : Str) : List Nat := t.cps.toList
theorem cs_app (a b : Str) : cs (a ++ b) = cs a ++ cs b := by
  show (a.cps ++ b.cps).toList = _
  rw [Array.toList_append]
  rfl
theorem cs_inj {a b : Str} (h : cs a = cs b) : a = b := by
  cases a
  cases b
  congr
  exact Array.toList_inj.mp h
theorem words_cs : ∀ p ∈ wordsT, (cs (p.1 : Str)).all (fun c => !isSep c) = true := by decide +kernel
theorem join_cs : ∀ (t : Str) (ts : List Str), cs (Str.join ", " (t :: ts)) = cs t ++ ts.flatMap fun u => 44 :: 32 :: cs u
  | t, [] => (List.append_nil _).symm
  | t, u :: ts => by
    have e : cs (", " : Str) = [44, 32] := by decide +kernel
    show cs (t ++ ", " ++ Str.join ", " (u :: ts)) = _
    rw [cs_app, cs_app, join_cs u ts, e, List.flatMap_cons, List.append_assoc]
    rfl
theorem sepCons {c : Nat} {r : List Nat} (h : isSep c = true) : SepHead (c :: r) := fun d e => by
  cases (show some c = some d from e)
  exact h
theorem row_inj {f : PyData → List Nat} : ∀ {ds es : List PyData} {r s : List Nat},
    (∀ d ∈ ds, ∀ e ∈ es, ∀ r s : List Nat, SepHead r → SepHead s → f d ++ r = f e ++ s → d = e ∧ r = s) → ds.length = es.length → SepHead r → SepHead s →
    (ds.flatMap fun u => 44 :: 32 :: f u) ++ r = (es.flatMap fun u => 44 :: 32 :: f u) ++ s → (r.head? ≠ some 44 ∧ s.head? ≠ some 44) → ds = es ∧ r = s
  | [], [], _, _, _, _, _, _, e, _ => ⟨rfl, e⟩
  | [], _ :: _, _, _, _, h, _, _, _, _ => by cases h
  | _ :: _, [], _, _, _, h, _, _, _, _ => by cases h
  | d :: ds, e :: es, r, s, ih, h, hr, hs, q, nq => by
    rw [List.flatMap_cons, List.flatMap_cons, List.append_assoc, List.append_assoc] at q
    have q2 : f d ++ ((ds.flatMap fun u => 44 :: 32 :: f u) ++ r) = f e ++ ((es.flatMap fun u => 44 :: 32 :: f u) ++ s) := (List.cons.inj (List.cons.inj q).2).2
    have sh : ∀ {xs : List PyData} {r : List Nat}, SepHead r → SepHead ((xs.flatMap fun u => 44 :: 32 :: f u) ++ r) := fun {xs r} hr => by
      cases xs with
      | nil => exact hr
      | cons x xs => exact sepCons rfl
    obtain ⟨e1, q3⟩ := ih d List.mem_cons_self e List.mem_cons_self _ _ (sh hr) (sh hs) q2
    obtain ⟨e2, q4⟩ := row_inj (ds := ds) (es := es) (fun d hd e he => ih d (List.mem_cons_of_mem _ hd) e (List.mem_cons_of_mem _ he)) (Nat.succ.inj h) hr hs q3 nq
    exact ⟨by rw [e1, e2], q4⟩
theorem text_cs {n : Nat} {w : String} {ds : List PyData} : cs (textT (n + 1) (.tuple [.str w, .tuple ds])) = cs (w : Str) ++ (match ds with | [] => [] | d :: es => 40 :: (cs (textT n d) ++ (es.flatMap fun u => 44 :: 32 :: cs (textT n u)) ++ [41])) := by
  cases ds with
  | nil => exact (List.append_nil _).symm
  | cons d es =>
    have e1 : cs ("(" : Str) = [40] := by decide +kernel
    have e2 : cs (")" : Str) = [41] := by decide +kernel
    show cs ((w : Str) ++ "(" ++ Str.join ", " (textT n d :: es.map (textT n)) ++ ")") = _
    rw [cs_app, cs_app, cs_app, join_cs, e1, e2, List.flatMap_map, List.append_assoc, List.append_assoc, List.append_assoc]
    show _ = cs (w : Str) ++ (40 :: (cs (textT n d) ++ (es.flatMap fun u => 44 :: 32 :: cs (textT n u)) ++ [41]))
    rw [List.append_assoc]
    rfl
theorem text_inj : ∀ {n : Nat} {d e : PyData} {r s : List Nat}, IsT n d → IsT n e → SepHead r → SepHead s → cs (textT n d) ++ r = cs (textT n e) ++ s → d = e ∧ r = s
  | 0, _, _, _, _, h, _, _, _, _ => h.elim
  | n + 1, _, _, r, s, ⟨w, ds, rfl, hw, hds⟩, ⟨w', es, rfl, hw', hes⟩, hr, hs, q => by
    rw [text_cs, text_cs, List.append_assoc, List.append_assoc] at q
    have nw : ∀ {p : String × Nat}, p ∈ wordsT → ∀ c ∈ cs (p.1 : Str), isSep c = false := fun hp c hc => by
      have := List.all_eq_true.mp (words_cs _ hp) c hc
      simpa using this
    have sh : ∀ {xs : List PyData} {r : List Nat}, SepHead r → SepHead ((match xs with | [] => [] | d :: es => 40 :: (cs (textT n d) ++ (es.flatMap fun u => 44 :: 32 :: cs (textT n u)) ++ [41])) ++ r) := fun {xs r} hr => by
      cases xs with
      | nil => exact hr
      | cons x xs => exact sepCons rfl
    obtain ⟨e1, q2⟩ := cut_word (nw hw) (nw hw') (sh hr) (sh hs) q
    have ew : (w : Str) = (w' : Str) := cs_inj e1
    have el : ds.length = es.length := words_one _ hw _ hw' ew
    have fin : ds = es ∧ r = s := by
      cases ds with
      | nil =>
        cases es with
        | nil => exact ⟨rfl, q2⟩
        | cons c es => cases el
      | cons c ds =>
        cases es with
        | nil => cases el
        | cons c' es =>
          have q3 := (List.cons.inj (show 40 :: ((cs (textT n c) ++ (ds.flatMap fun u => 44 :: 32 :: cs (textT n u)) ++ [41]) ++ r) = 40 :: ((cs (textT n c') ++ (es.flatMap fun u => 44 :: 32 :: cs (textT n u)) ++ [41]) ++ s) from q2)).2
          rw [List.append_assoc, List.append_assoc, List.append_assoc, List.append_assoc] at q3
          have sh2 : ∀ {xs : List PyData} {r : List Nat}, SepHead ((xs.flatMap fun u => 44 :: 32 :: cs (textT n u)) ++ ([41] ++ r)) := fun {xs r} => by
            cases xs with
            | nil => exact sepCons rfl
            | cons x xs => exact sepCons rfl
          obtain ⟨e2, q4⟩ := text_inj (hds c List.mem_cons_self) (hes c' List.mem_cons_self) sh2 sh2 q3
          obtain ⟨e3, q5⟩ := row_inj (f := fun u => cs (textT n u)) (ds := ds) (es := es) (fun d hd e he r s hr hs q => text_inj (hds d (List.mem_cons_of_mem _ hd)) (hes e (List.mem_cons_of_mem _ he)) hr hs q) (Nat.succ.inj el) (sepCons rfl) (sepCons rfl) q4 ⟨by simp, by simp⟩
          exact ⟨by rw [e2, e3], (List.cons.inj q5).2⟩
    exact ⟨by rw [ew, fin.1], fin.2⟩
theorem text_one {n : Nat} {d e : PyData} (hd : IsT n d) (he : IsT n e) (h : textT n d = textT n e) : d = e :=
  (text_inj (r := []) (s := []) hd he (fun _ z => by cases z) (fun _ z => by cases z) (by rw [h])).1
theorem text_up : ∀ {n : Nat} {d : PyData}, IsT n d → textT (n + 1) d = textT n d
  | 0, _, h => h.elim
  | n + 1, _, ⟨w, ds, rfl, hw, hds⟩ => by
    have e : ds.map (textT (n + 1)) = ds.map (textT n) := List.map_congr_left fun e he => text_up (hds e he)
    show (if ds.isEmpty then (w : Str) else (w : Str) ++ "(" ++ Str.join ", " (ds.map (textT (n + 1))) ++ ")") = (if ds.isEmpty then (w : Str) else (w : Str) ++ "(" ++ Str.join ", " (ds.map (textT n)) ++ ")")
    rw [e]
theorem up_all {n : Nat} {d : PyData} (h : IsT n d) : ∀ {m : Nat}, n ≤ m → IsT m d ∧ nodesT m d = nodesT n d ∧ textT m d = textT n d
  | m, hm => by
    induction m with
    | zero =>
      obtain rfl : n = 0 := by omega
      exact ⟨h, rfl, rfl⟩
    | succ m ih =>
      by_cases e : n = m + 1
      · subst e
        exact ⟨h, rfl, rfl⟩
      · obtain ⟨a, b, c⟩ := ih (by omega)
        exact ⟨isT_up a, by rw [nodes_up a, b], by rw [text_up a, c]⟩
theorem words_eqv : ∀ p ∈ wordsT, ∀ q ∈ wordsT, PyData.eqv (.tuple [.str (p.1 : Str), .int (p.2 : Nat)]) (.tuple [.str (q.1 : Str), .int (q.2 : Nat)]) = true → p = q := by decide +kernel
theorem rows_eqv : ∀ {xs ys : List PyData}, (∀ e ∈ xs, ∃ p ∈ wordsT, e = .tuple [.str (p.1 : Str), .int (p.2 : Nat)]) → (∀ e ∈ ys, ∃ p ∈ wordsT, e = .tuple [.str (p.1 : Str), .int (p.2 : Nat)]) → (PyData.eqvAll xs ys = true ↔ xs = ys)
  | [], [], _, _ => by simp [PyData.eqvAll]
  | [], _ :: _, _, _ => by simp [PyData.eqvAll]
  | _ :: _, [], _, _ => by simp [PyData.eqvAll]
  | x :: xs, y :: ys, hx, hy => by
    obtain ⟨p, hp, rfl⟩ := hx _ List.mem_cons_self
    obtain ⟨q, hq, rfl⟩ := hy _ List.mem_cons_self
    have r := rows_eqv (fun e he => hx e (List.mem_cons_of_mem _ he)) (fun e he => hy e (List.mem_cons_of_mem _ he))
    rw [PyData.eqvAll, Bool.and_eq_true, r]
    constructor
    · rintro ⟨a, b⟩
      rw [words_eqv p hp q hq a, b]
    · intro z
      obtain ⟨a, b⟩ := List.cons.inj z
      rw [← a]
      exact ⟨words_self p hp, b⟩
theorem nodes_text {n m : Nat} {d e : PyData} (hd : IsT n d) (he : IsT m e) : PyData.eqv (.tuple (nodesT n d)) (.tuple (nodesT m e)) = decide (textT n d = textT m e) := by
  have u1 := up_all hd (m := max n m) (Nat.le_max_left _ _)
  have u2 := up_all he (m := max n m) (Nat.le_max_right _ _)
  rw [← u1.2.1, ← u2.2.1, ← u1.2.2, ← u2.2.2]
  rw [Bool.eq_iff_iff, decide_eq_true_eq]
  have r := rows_eqv (nodes_mem u1.1) (nodes_mem u2.1)
  have s : PyData.eqv (.tuple (nodesT (max n m) d)) (.tuple (nodesT (max n m) e)) = PyData.eqvAll (nodesT (max n m) d) (nodesT (max n m) e) := by simp only [PyData.eqv]
  rw [s, r]
  constructor
  · intro z
    have a := text_at u1.1
    rw [z, text_at u2.1] at a
    exact (Option.some.inj a).symm
  · intro z
    rw [text_one u1.1 u2.1 z]
/-- no word stands in a leaf alone -/
theorem syms_none {n : Nat} {d : PyData} (h : IsT n d) (e : prsOf (nodesT n d) = []) : textT n d = "_" ∨ textT n d = "#" := by
  cases n with
  | zero => exact h.elim
  | succ n =>
    obtain ⟨w, ds, rfl, hw, hds⟩ := h
    have a : prOf (.tuple [.str (w : Str), .int ds.length]) = [] := by
      have z : prsOf (nodesT (n + 1) (.tuple [.str (w : Str), .tuple ds])) = prOf (.tuple [.str (w : Str), .int ds.length]) ++ prsOf (ds.flatMap (nodesT n)) := by
        show (_ :: _).flatMap prOf = _
        rw [List.flatMap_cons]
        rfl
      rw [z] at e
      exact (List.append_eq_nil_iff.mp e).1
    have l : isLeafD (.str (w : Str)) = true := by
      cases g : isLeafD (.str (w : Str)) with
      | true => rfl
      | false =>
        rw [prOf_word g] at a
        cases a
    have z : ∀ p ∈ wordsT, isLeafD (.str (p.1 : Str)) = true → p.2 = 0 := by decide +kernel
    have l0 := z _ hw l
    have dn : ds = [] := List.eq_nil_of_length_eq_zero l0
    subst dn
    exact (leaf_str _).mp l

/-! ### a drawn term -/
theorem hu_of0 {A : Around} {k : Nat} (hr : Room k A) : A.units < cLine := by
  have := hu64i hr
  omega
set_option hygiene false in
local macro_rules | `(tactic| walk_at "rightEnd") => `(tactic| (
  have s2E := (s3.trans s310).trans sE
  refine ⟨_, rfl, _, rfl, v2, m2, e, rfl, dx2.same s2E, isE, hm2, hl2, fun a2 q2 H20 s20 hI20 => ?_⟩
  obtain ⟨da2, ha2, _⟩ := id hI20
  refine ⟨a, _, _, .ref c.T, rfl, s20 _ _ (sE _ _ ha10), Z.ty ha2, by simp [PySem.W.notFirst], ⟨a, q0, _, .ref a2, rfl, (hI10.same sE).same s20, .inl ⟨a2, q2, _, rfl, hI20, ⟨_, rfl, ?_⟩⟩⟩⟩
  refine ⟨_, rfl, m, hm, v, d, rfl, (hv10.same sE).same s20, isT, hm, fun H21 s21 => ?_⟩
  refine ⟨_, rfl, m2, hm2, v2, e, rfl, ((dx2.same s2E).same s20).same s21, isE, hm2, fun H22 s22 => ?_⟩
  refine ⟨rfl, rfl, ?_⟩
  rw [nodes_text isT isE]
  have sZ := (sE.trans s20).trans (s21.trans s22)
  have y := q H22 (b10.trans (But.ofS sZ)) (d10.same sZ)
  have ez : decide (V.str (textT m d) = V.str (textT m2 e)) = decide (textT m d = textT m2 e) := by
    rw [decide_eq_decide]
    exact ⟨fun z => V.str.inj z, fun z => by rw [z]⟩
  have e2 : ∀ b : Bool, decide (V.bl b = V.bl b) = true := fun b => decide_eq_true rfl
  rw [ez]
  first
    | exact (by rw [e2]; exact y)
    | (show Q (V.bl (decide (V.bl (decide (textT m d = textT m2 e)) = V.bl (decide (textT m d = textT m2 e))))) H22
       rw [e2]
       exact y)))
def spRight5 : Sp := fun vs H Q _ => ∃ (p : Addr), vs = [.ref p] ∧ Dc H p ∧ ∀ (H' : Hp), But p H H' → Dc H' p → Q (.bl true) H'
theorem ok__law_right {f : Addr} {fd : FuncData} (F : Fun K "_law_right" "_law_right" s__law_right f fd) (T : Txt mg) (Z : TermZ K mg c) (Y : TermY K c b) {f__law_drawn_term : Addr} {fd__law_drawn_term : FuncData} (G__law_drawn_term : FnOk P w K mg base CX0 9 f__law_drawn_term fd__law_drawn_term P__law_drawn_term spDrawn) (C__law_drawn_term : Cal K mg "_law_drawn_term" f__law_drawn_term fd__law_drawn_term P__law_drawn_term) {f__law_made_term : Addr} {fd__law_made_term : FuncData} (G__law_made_term : FnOk P w K mg base CX0 7 f__law_made_term fd__law_made_term P__law_made_term (spMade c)) (C__law_made_term : Cal K mg "_law_made_term" f__law_made_term fd__law_made_term P__law_made_term) {f__law_told_right : Addr} {fd__law_told_right : FuncData} (G__law_told_right : FnG P w K mg base CX0 8 f__law_told_right fd__law_told_right P__law_told_right (spTR c)) (C__law_told_right : Cal K mg "_law_told_right" f__law_told_right fd__law_told_right P__law_told_right) {f__law_nodes : Addr} {fd__law_nodes : FuncData} (G__law_nodes : FnOk P w K mg base CX0 6 f__law_nodes fd__law_nodes P__law_nodes (fun vs H Q E => ∃ n, n ≤ 5 ∧ spNodesL n vs H Q E)) (C__law_nodes : Cal K mg "_law_nodes" f__law_nodes fd__law_nodes P__law_nodes) {f__law_text : Addr} {fd__law_text : FuncData} (G__law_text : FnOk P w K mg base CX0 6 f__law_text fd__law_text P__law_text (fun vs H Q E => ∃ n, n ≤ 5 ∧ spTextL n vs H Q E)) (C__law_text : Cal K mg "_law_text" f__law_text fd__law_text P__law_text) {fd_T_init : FuncData} (G_T_init : FnOk P w K mg base (L2.CX P w) 5 c.fi fd_T_init P_T_init (spInit c)) (B_T_init : Binds K fd_T_init P_T_init []) {fd_T_eq : FuncData} (G_T_eq : FnOk P w K mg base CX0 1 b.f_eq fd_T_eq P_T_eq (spEqT K c)) (B_T_eq : Binds K fd_T_eq P_T_eq []) {fd_T_symbols : FuncData} (G_T_symbols : FnOk P w K mg base CX0 3 b.f_symbols fd_T_symbols P_T_symbols (spSy c)) (B_T_symbols : Binds K fd_T_symbols P_T_symbols []) {fd_T_nodes : FuncData} (G_T_nodes : FnOk P w K mg base CX0 1 c.gn fd_T_nodes P_T_nodes (spNodesT c)) (B_T_nodes : Binds K fd_T_nodes P_T_nodes []) : FnG P w K mg base CX0 10 f fd P__law_right spRight5 := by
  refine okG F sc__law_right (fun vs H Q E h => ?_) (fun cdv A outer s H vs Q E hg hr h => ?_)
  · obtain ⟨p, rfl, _⟩ := h
    rfl
  · obtain ⟨p, rfl, hd, q⟩ := h
    refine ⟨_, (pss_cons (ps_par (i := 1) (j := 2) (by rfl) sc__law_right.nd rfl rfl (by decide) rfl rfl (pa_cons (pe_call G__law_drawn_term (hr.mono (by decide)) rfl C__law_drawn_term.m C__law_drawn_term.k C__law_drawn_term.b .nil pass0 (pa_cons (pv 0) (pa_cons pe_int pa_nil))) (pa_cons (pe_call G__law_drawn_term (hr.mono (by decide)) rfl C__law_drawn_term.m C__law_drawn_term.k C__law_drawn_term.b .nil pass0 (pa_cons (pv 0) (pa_cons pe_int pa_nil))) pa_nil)) (by rfl))
      (pss_cons (ps_set (i := 3) sc__law_right.nd rfl (Or.inl rfl) (pe_call G__law_made_term (hr.mono (by decide)) rfl C__law_made_term.m C__law_made_term.k C__law_made_term.b .nil pass0 (pa_cons (pv 1) pa_nil)))
      (pss_cons (ps_if (PW.pt (pw_or (pt_not (pt_val (pe_callG G__law_told_right hg (hr.mono (by decide)) rfl C__law_told_right.m C__law_told_right.k C__law_told_right.b .nil pass0 (pa_cons (pv 3) (pa_cons (pv 1) pa_nil))))) (pw_or1 (pt_cmpR (op_neO Y.ne Y.sub Y.s_eq Y.i_eq (raw0 G_T_eq B_T_eq) (hr.mono (by decide)) pass0) (pv 3) (pe_makeS (E := fun _ => E0) Z.mkc G_T_init B_T_init (hr.mono (by decide)) rfl Z.g_T passAt0 (pa_cons (pe_callTy call_tuple_of (by rfl) T.n_tuple (by decide +kernel) (pa_cons (pe_call G__law_nodes (hr.mono (by decide)) rfl C__law_nodes.m C__law_nodes.k C__law_nodes.b .nil pass0 (pa_cons (pv 1) pa_nil)) pa_nil)) pa_nil)) (nomark _))))) (pss_one (ps_ret pe_bl)) pss_nil)
      (pss_cons (ps_expr (pe_dclear (pe_prop (pv 3) Z.cls Y.prop_symbols G_T_symbols (hr.mono (by decide)) B_T_symbols .nil pass0 rfl)))
      (pss_cons (ps_if (PW.pt (pw_or (pt_cmpR (op_eqO Y.s_eq Y.i_eq (raw0 G_T_eq B_T_eq) (hr.mono (by decide)) pass0) (pv 3) (pe_call G__law_text (hr.mono (by decide)) rfl C__law_text.m C__law_text.k C__law_text.b .nil pass0 (pa_cons (pv 1) pa_nil)) (nomark _)) (pw_or (pt_cmpR (op_eqO Y.s_eq Y.i_eq (raw0 G_T_eq B_T_eq) (hr.mono (by decide)) pass0) (pv 3) (pe_prop (pv 3) Z.cls Z.prop G_T_nodes (hr.mono (by decide)) B_T_nodes .nil pass0 rfl) (nomark _)) (pw_or1 (PW.pt (pw_and (pt_cmpR (op_eqDE (hu_of0 hr)) (pe_prop (pv 3) Z.cls Y.prop_symbols G_T_symbols (hr.mono (by decide)) B_T_symbols .nil pass0 rfl) pe_dnewK (nomark _)) (pw_and1 (pt_cmpR (op_notInX (hu65 hr)) (pe_call G__law_text (hr.mono (by decide)) rfl C__law_text.m C__law_text.k C__law_text.b .nil pass0 (pa_cons (pv 1) pa_nil)) (pe_lst (pa_cons pe_str (pa_cons pe_str pa_nil))) (by first | rfl | with_unfolding_all rfl))))))))) (pss_one (ps_ret pe_bl)) pss_nil)
      (pss_one (ps_ret (pe_cmpR op_eq (pe_cmpR (op_eqO Y.s_eq Y.i_eq (raw0 G_T_eq B_T_eq) (hr.mono (by decide)) pass0) (pv 3) (pe_call G__law_made_term (hr.mono (by decide)) rfl C__law_made_term.m C__law_made_term.k C__law_made_term.b .nil pass0 (pa_cons (pv 2) pa_nil)) (nomark _)) (pe_cmpR op_eq (pe_call G__law_text (hr.mono (by decide)) rfl C__law_text.m C__law_text.k C__law_text.b .nil pass0 (pa_cons (pv 1) pa_nil)) (pe_call G__law_text (hr.mono (by decide)) rfl C__law_text.m C__law_text.k C__law_text.b .nil pass0 (pa_cons (pv 2) pa_nil)) (nomark _)) (nomark _))))))))), ?_⟩
    refine ⟨_, rfl, p, 5, rfl, by decide, by decide, hd, fun v d m H1 b1 d1 dx1 isT hm hl => ?_⟩
    refine ⟨_, rfl, p, 3, rfl, by decide, by decide, d1, fun v2 e m2 H2 b2 d2 dx2 isE hm2 hl2 => ?_⟩
    refine ⟨_, _, rfl, ?_⟩
    have hv2 := dxT (But.tup d1 b2) isT dx1
    have b12 := b1.trans b2
    refine ⟨_, rfl, v, m, d, rfl, hv2, isT, hm, hl, fun a q0 H3 s3 hI3 => ?_⟩
    refine ⟨_, rfl, _, rfl, a, q0, v, m, d, rfl, hI3, hv2.same s3, isT, hm, hl, fun H4 s4 => ?_⟩
    refine ⟨_, rfl, ?_⟩
    refine iteF ?_
    have hv4 := (hv2.same s3).same s4
    refine ⟨_, rfl, _, rfl, m, hm, v, d, rfl, hv4, isT, hm, fun r xs H5 s5 nr hr hx => ?_⟩
    refine ⟨_, _, rfl, .inl ⟨SqL.of hr, fun p6 n6 => ?_⟩⟩
    generalize g6 : upd _ p6 _ = H6; obtain ⟨e6, o6, t6⟩ := made n6 g6; clear g6
    have s6 := sameOf n6 o6
    have ok := term_ok isT hl
    intro x dx nx ndx nxd
    have sN := mk_new (C := c.T) nx ndx
    have hx6 : Dx H6 (.ref p6) (.tuple (nodesT m d)) := .tup t6 (hx.same s6)
    refine ⟨x, dx, _, _, rfl, upd_same, hx6.same sN, ok.2.1, fun _ H7 s7 => ⟨rfl, ?_⟩, fun e => by rw [ok.1] at e; cases e⟩
    have s8 := mk_same (o := .ins c.T dx [("_nodes", .ref p6)]) nx ndx s7
    generalize hH8 : L2.upd H7 x _ = H8 at s8 ⊢
    have ax : H8 x = some (.ins c.T dx [("_nodes", .ref p6)]) := by rw [← hH8, upd_same]
    have hIx : InsT c H8 x p6 (nodesT m d) := ⟨dx, ax, ⟨xs, s8 _ _ t6, (hx.same s6).same s8, nodes_node isT, hl⟩, nodes_ne isT, ok.2.1⟩
    have s38 : Same H3 H8 := ((s4.trans s5).trans s6).trans s8
    have hI8 := hI3.same s38
    obtain ⟨da, ha8, _⟩ := id hI8
    refine ⟨a, _, _, .ref c.T, rfl, ha8, Z.ty ax, by simp [PySem.W.notFirst], ⟨a, q0, _, .ref x, rfl, hI8, .inl ⟨x, p6, _, rfl, hIx, ⟨_, rfl, _, rfl, ?_⟩⟩⟩⟩
    rw [nodes_text isT isT, decide_eq_true rfl]
    refine iteF ?_
    -- what is handed out is changed
    refine ⟨_, rfl, _, _, _, rfl, ha8, a, q0, _, rfl, hI8, fun ps pS H9 s9 nS hS nd mem pw => ⟨.inr (.inr (.inl ⟨rfl, .inl ⟨_, hS⟩⟩)), _, _, rfl, rfl, hS, ?_⟩⟩
    generalize hH10 : L2.upd H9 pS _ = H10
    have s10 : Same H8 H10 := fun b o eb => by
      rw [← hH10, upd_ne (ne_of_none eb nS)]
      exact s9 _ _ eb
    have s310 := s38.trans s10
    have hI10 := hI3.same s310
    obtain ⟨da', ha10, ⟨ys, hq10, _, _, _⟩, _, _⟩ := id hI10
    have hv10 := (hv2.same s3).same s310
    have b10 : But p H H10 := b12.trans (But.ofS (s3.trans s310))
    have d10 := d2.same (s3.trans s310)
    refine ⟨_, rfl, _, rfl, m, hm, v, d, rfl, hv10, isT, hm, fun H11 s11 => ?_⟩
    refine ⟨a, _, _, .type "str", rfl, s11 _ _ ha10, .base (.str _), Y.nf "str" (by simp), ⟨a, q0, _, _, rfl, hI10.same s11, .inr ⟨"str", .base (.str _), by simp, ⟨_, rfl, _, rfl, ?_⟩⟩⟩⟩
    refine iteF ?_
    refine ⟨_, rfl, _, rfl, _, _, _, rfl, s11 _ _ ha10, a, _, _, rfl, s11 _ _ ha10, ?_⟩
    refine ⟨a, _, _, .type "tuple", rfl, s11 _ _ ha10, .base (.tup (s11 _ _ hq10)), Y.nf "tuple" (by simp), ⟨a, q0, _, _, rfl, hI10.same s11, .inr ⟨"tuple", .base (.tup (s11 _ _ hq10)), by simp, ⟨_, rfl, _, rfl, ?_⟩⟩⟩⟩
    refine iteF ?_
    refine ⟨_, rfl, _, _, _, rfl, s11 _ _ ha10, a, q0, _, rfl, hI10.same s11, fun qs pT H12 s12 nT hT nd2 mem2 pw2 => ?_⟩
    refine fun p13 n13 => ?_
    generalize g13 : upd _ p13 _ = H13; obtain ⟨e13, o13, t13⟩ := made n13 g13; clear g13
    have s13 := sameOf n13 o13
    refine ⟨_, _, _, rfl, rfl, s13 _ _ hT, t13, _, rfl, ?_⟩
    have s1013 := (s11.trans s12).trans s13
    have eE : (if false = true then !(mergeK [] (qs.map kvOf)).isEmpty else (mergeK [] (qs.map kvOf)).isEmpty) = (mergeK [] (qs.map kvOf)).isEmpty := rfl
    cases g : (mergeK [] (qs.map kvOf)).isEmpty with
    | false =>
      refine iteF ?_
      refine iteF ?_
      have sE := s1013
      walk_at "rightEnd"
    | true =>
      refine iteT ?_
      have onePs : OneEach (prsOf (nodesT m d)) := fun p hp q hq e => by
        obtain ⟨p', hp', rfl⟩ := prs_words isT hp
        obtain ⟨q', hq', rfl⟩ := prs_words isT hq
        show ((p'.2 : Nat) : Int) = ((q'.2 : Nat) : Int)
        rw [words_one p' hp' q' hq' e]
      have none_ : prsOf (nodesT m d) = [] := by
        refine List.eq_nil_iff_forall_not_mem.mpr fun r hr => ?_
        have z : mergeK [] (qs.map kvOf) = (dedupP [] qs).map kvOf := merge_dedup qs [] ((one_mem mem2).mpr onePs)
        rw [z, List.isEmpty_iff, List.map_eq_nil_iff] at g
        have y := (dedup_mem qs [] r).mpr (.inr ((mem2 r).mpr hr))
        rw [g] at y
        cases y
      have tx := syms_none isT none_
      refine ⟨_, rfl, m, hm, v, d, rfl, hv10.same s1013, isT, hm, fun H14 s14 => ?_⟩
      refine ⟨(szr rfl), fun p15 n15 => ?_⟩
      generalize g15 : upd _ p15 _ = H15; obtain ⟨e15, o15, t15⟩ := made n15 g15; clear g15
      have shT : SeqAt.shaped (.str (textT m d)) = true := by rcases tx with e | e <;> rw [e] <;> decide +kernel
      refine ⟨.str (textT m d), .list [.str "_", .str "#"], _, .str _, .lst (SqL.of t15) (.cons (.str _) (.cons (.str _) .nil)), .inl rfl, shT, by decide +kernel, _, rfl, ?_⟩
      show if (!isLeafD (.str (textT m d))) = true then _ else _
      rw [(leaf_str _).mpr tx]
      refine iteF ?_
      have sE := (s1013.trans s14).trans (sameOf n15 o15)
      walk_at "rightEnd"
/-! ### the law -/
theorem TermAt.same {c : Ta} {H H' : Hp} {v : V} {ds : List PyData} (s : Same H H') (h : TermAt c H v ds) : TermAt c H' v ds := by
  obtain ⟨a, dx, q, xs, rfl, h1, h2, h3⟩ := h
  exact ⟨a, dx, q, xs, rfl, s _ _ h1, s _ _ h2, h3.same s⟩
theorem okTs {tss : List (List PyData)} (h : (tss.all fun ds => ds.all okN && decide (ds.length ≤ 40)) = true) : ∀ ds ∈ tss, ds.all okN = true ∧ ds.length ≤ 40 := fun ds hd => by
  have z : (ds.all okN && decide (ds.length ≤ 40)) = true := List.all_eq_true.mp h ds hd
  rw [Bool.and_eq_true, decide_eq_true_eq] at z
  exact z
theorem flat_some (tss : List (List PyData)) : ((tss.map some).flatMap fun o => o.getD []) = tss.flatten := by
  induction tss with
  | nil => rfl
  | cons a r ih =>
    rw [List.map_cons, List.flatMap_cons, ih]
    rfl
theorem built {c : Ta} {H : Hp} {u : Str} {rest : List V} {tss : List (List PyData)} {ds : List PyData} {Q : VK} {E : XK} (hp : Paired (TermAt c H) rest tss) (ho : okE (.str u) = true) (ok : (tss.all fun ds => ds.all okN && decide (ds.length ≤ 40)) = true) (h4 : tss.length ≤ 4) (eD : ds = .tuple [.str u, .int tss.length] :: tss.flatten) (hT : isTermD (.tuple ds) = true)
    (q : ∀ (x : Addr) (H' : Hp), Same H H' → TermAt c H' (.ref x) ds → Q (.ref x) H') :
    ∃ ws r, V.ref c.T :: V.str u :: rest = ws ++ r ∧ ws.length = ["cls", "word"].length ∧ r.length ≤ sizeLine ∧ ∀ p, H p = Option.none → spB0 c (ws ++ [V.ref p]) (upd H p (.tup r)) Q E := by
  have len : rest.length = tss.length := hp.length
  refine ⟨[.ref c.T, .str u], rest, rfl, rfl, Nat.le_trans (show rest.length ≤ 100000 by omega) (by decide), fun p np => ?_⟩
  have sp := sameOf np (fun b nb => upd_ne (o := .tup rest) nb)
  refine ⟨.str u, p, rest, .str u, tss.map some, rfl, upd_same, .str _, ho, by omega, ?_, ?_, ?_, ?_⟩
  · have z := L2.Paired.mapP (F := TermAt c H) (G := fun v t => ArgAt c (upd H p (.tup rest)) v (some t)) hp fun v t z => TermAt.same sp z
    exact paired_r (f := some) (S := fun v o => ArgAt c (upd H p (.tup rest)) v o) (fun v t z => z) z
  · intro o hm ts e
    obtain ⟨t, ht, rfl⟩ := List.mem_map.mp hm
    cases e
    exact okTs ok _ ht
  · intro _ _ x dx q0 xs H' s' h1 h2 h3
    rw [flat_some, len] at h3
    refine q x H' (sp.trans s') ⟨x, dx, q0, xs, rfl, h1, h2, ?_⟩
    rw [eD]
    exact h3
  · intro n H' s'
    refine absurd ⟨fun o hm => ?_, ?_⟩ n
    · obtain ⟨t, ht, rfl⟩ := List.mem_map.mp hm
      rfl
    · rw [flat_some, len, ← eD]
      exact hT
def tA : List PyData := [.tuple [.str "a", .int 0]]
def tU : List PyData := [.tuple [.str "_", .int 0]]
def tG : List PyData := [.tuple [.str "g", .int 1], .tuple [.str "_", .int 0]]
def tF : List PyData := [.tuple [.str "f", .int 3], .tuple [.str "a", .int 0], .tuple [.str "_", .int 0], .tuple [.str "g", .int 1], .tuple [.str "_", .int 0]]
theorem tab_term : isTermD (.tuple tA) = true ∧ isTermD (.tuple tU) = true ∧ isTermD (.tuple tG) = true ∧ isTermD (.tuple tF) = true := by decide +kernel
theorem tab_nodes : (tF.all isNodeD && tF.all okN) = true := by decide +kernel
theorem tab_told : (textsF (tF.map pairD)).head? = some "f(a, _, g(_))" ∧ argP (tF.map arOf) 3 1 = some [1, 2, 3] ∧ leavesP "_" (tF.map pairD) tF.length = [2, 4] ∧ (textsF (tG.map pairD)).head? = some "g(_)" ∧ aboveT (tF.map arOf) 4 5 = [0, 3, 4] ∧ (heightsF (tF.map arOf)).head? = some 3 := by decide +kernel
theorem tab_part : walkT 1 ((tF.map arOf).drop 3) = some 2 ∧ (tF.drop 3).take 2 = tG := ⟨by decide +kernel, rfl⟩
theorem tab_ends : Ends tF := fun i hi => by
  match i, hi with
  | 0, _ => exact ⟨5, by decide +kernel⟩
  | 1, _ => exact ⟨1, by decide +kernel⟩
  | 2, _ => exact ⟨1, by decide +kernel⟩
  | 3, _ => exact ⟨2, by decide +kernel⟩
  | 4, _ => exact ⟨1, by decide +kernel⟩
  | i + 5, h => exact absurd h (by show ¬ (i + 5 < 5); omega)
theorem ok_law {f : Addr} {fd : FuncData} (F : Fun K "law" "law" s_law f fd) (T : Txt mg) (Z : TermZ K mg c) (Y : TermY K c b) {f__law_dice : Addr} {fd__law_dice : FuncData} (G__law_dice : FnOk P w K mg base CX0 1 f__law_dice fd__law_dice P__law_dice (spDice K)) (C__law_dice : Cal K mg "_law_dice" f__law_dice fd__law_dice P__law_dice) {f__law_right : Addr} {fd__law_right : FuncData} (G__law_right : FnG P w K mg base CX0 10 f__law_right fd__law_right P__law_right spRight5) (C__law_right : Cal K mg "_law_right" f__law_right fd__law_right P__law_right) (G_T_build : FnR P w K mg base (L2.CX P w) 8 c.gb (fun vs H Q E => ∃ ws rest, vs = ws ++ rest ∧ ws.length = ["cls", "word"].length ∧ rest.length ≤ sizeLine ∧ ∀ p, H p = Option.none → spB0 c (ws ++ [V.ref p]) (upd H p (.tup rest)) Q E)) {fd_T_text : FuncData} (G_T_text : FnOk P w K mg base CX0 2 b.f_text fd_T_text P_T_text (spTx c)) (B_T_text : Binds K fd_T_text P_T_text []) {fd_T_children : FuncData} (G_T_children : FnOk P w K mg base CX0 4 b.f_children fd_T_children P_T_children (spCh c)) (B_T_children : Binds K fd_T_children P_T_children []) {fd_T_unknown : FuncData} (G_T_unknown : FnOk P w K mg base CX0 2 b.f_unknown fd_T_unknown P_T_unknown (spLv c "_")) (B_T_unknown : Binds K fd_T_unknown P_T_unknown []) {fd_T_part : FuncData} (G_T_part : FnOk P w K mg base CX0 7 b.f_part fd_T_part P_T_part (spPt c)) (B_T_part : Binds K fd_T_part P_T_part []) {fd_T_above : FuncData} (G_T_above : FnOk P w K mg base CX0 4 b.f_above fd_T_above P_T_above (spAb c)) (B_T_above : Binds K fd_T_above P_T_above []) {fd_T_depth : FuncData} (G_T_depth : FnOk P w K mg base CX0 2 b.f_depth fd_T_depth P_T_depth (spDe c)) (B_T_depth : Binds K fd_T_depth P_T_depth []) : FnG P w K mg base CX0 11 f fd P_law (spLaw K) := by
  refine okG F sc_law (fun vs H Q E h => ?_) (fun cdv A outer s H vs Q E hg hr h => ?_)
  · obtain ⟨a, ns, rfl, _⟩ := h
    rfl
  · obtain ⟨a, ns, rfl, hS, hlen, q⟩ := h
    refine ⟨_, (pss_cons (ps_for PassesOwn.never rfl (pi_range1 (by rfl) T.n_range (pa_cons (pe_callB (call_max2 rfl) (by rfl) T.n_max (by decide +kernel) (pa_cons pe_int (pa_cons (pe_callB (call_min2 rfl) (by rfl) T.n_min (by decide +kernel) (pa_cons pe_int (pa_cons (pe_callB call_len_seq (by rfl) T.n_len (by decide +kernel) (pa_cons (pv 0) pa_nil)) pa_nil))) pa_nil))) pa_nil)) (pg_name (i := 1) sc_law.nd rfl (Or.inl rfl)) (pss_cons (ps_set (i := 2) sc_law.nd rfl (Or.inl rfl) (pe_call G__law_dice (hr.mono (by decide)) rfl C__law_dice.m C__law_dice.k C__law_dice.b .nil pass0 (pa_cons (pv 0) (pa_cons (pv 1) pa_nil))))
      (pss_one (ps_for PassesOwn.never rfl (pi_range1 (by rfl) T.n_range (pa_cons pe_int pa_nil)) (pg_name (i := 3) sc_law.nd rfl (Or.inl rfl)) (pss_one (ps_if (pt_not (pt_val (pe_callG G__law_right hg (hr.mono (by decide)) rfl C__law_right.m C__law_right.k C__law_right.b .nil pass0 (pa_cons (pv 2) pa_nil)))) (pss_one (ps_ret pe_bl)) pss_nil))))))
      (pss_cons (ps_set (i := 4) sc_law.nd rfl (Or.inl rfl) (pe_cmethS (E := fun _ => E0) (pe_glob (v := .ref c.T) rfl Z.g_T rfl) Z.read Z.met G_T_build (hr.mono (by decide)) passAt0 (pa_cons pe_str (pa_cons (pe_cmethS (E := fun _ => E0) (pe_glob (v := .ref c.T) rfl Z.g_T rfl) Z.read Z.met G_T_build (hr.mono (by decide)) passAt0 (pa_cons pe_str pa_nil)) (pa_cons (pe_cmethS (E := fun _ => E0) (pe_glob (v := .ref c.T) rfl Z.g_T rfl) Z.read Z.met G_T_build (hr.mono (by decide)) passAt0 (pa_cons pe_str pa_nil)) (pa_cons (pe_cmethS (E := fun _ => E0) (pe_glob (v := .ref c.T) rfl Z.g_T rfl) Z.read Z.met G_T_build (hr.mono (by decide)) passAt0 (pa_cons pe_str (pa_cons (pe_cmethS (E := fun _ => E0) (pe_glob (v := .ref c.T) rfl Z.g_T rfl) Z.read Z.met G_T_build (hr.mono (by decide)) passAt0 (pa_cons pe_str pa_nil)) pa_nil))) pa_nil))))))
      (pss_cons (ps_set (i := 5) sc_law.nd rfl (Or.inl rfl) (pe_lst (pa_cons (pe_prop (pv 4) Z.cls Y.prop_text G_T_text (hr.mono (by decide)) B_T_text .nil pass0 rfl) (pa_cons (pe_meth (pv 4) Z.cls Y.m_children G_T_children (hr.mono (by decide)) B_T_children .nil pass0 (pa_cons pe_int pa_nil)) (pa_cons (pe_prop (pv 4) Z.cls Y.prop_unknown G_T_unknown (hr.mono (by decide)) B_T_unknown .nil pass0 rfl) (pa_cons (pe_prop (pe_meth (pv 4) Z.cls Y.m_part G_T_part (hr.mono (by decide)) B_T_part .nil pass0 (pa_cons pe_int pa_nil)) Z.cls Y.prop_text G_T_text (hr.mono (by decide)) B_T_text .nil pass0 rfl) (pa_cons (pe_meth (pv 4) Z.cls Y.m_above G_T_above (hr.mono (by decide)) B_T_above .nil pass0 (pa_cons pe_int pa_nil)) (pa_cons (pe_prop (pv 4) Z.cls Y.prop_depth G_T_depth (hr.mono (by decide)) B_T_depth .nil pass0 rfl) (pa_cons (pe_glob (v := .int 40) rfl T.m_MAX_NODES.choose_spec ⟨_, rfl⟩) pa_nil)))))))))
      (pss_one (ps_ret (pe_cmpR (op_eqD hr.units) (pv 5) (pe_lst (pa_cons pe_str (pa_cons (pe_tup (pa_cons pe_int (pa_cons pe_int (pa_cons pe_int pa_nil)))) (pa_cons (pe_tup (pa_cons pe_int (pa_cons pe_int pa_nil))) (pa_cons pe_str (pa_cons (pe_tup (pa_cons pe_int (pa_cons pe_int (pa_cons pe_int pa_nil)))) (pa_cons pe_int (pa_cons pe_int pa_nil)))))))) (nomark _))))))), ?_⟩
    have hb := turns (n := (ns.map V.int).length)
    refine ⟨_, rfl, _, _, rfl, .inl hS.1, _, _, rfl, _, _, rfl, _, rfl, by omega, by omega, ?_⟩
    generalize (if (if ((ns.map V.int).length : Int) < 8 then ((ns.map V.int).length : Int) else 8) > 1 then (if ((ns.map V.int).length : Int) < 8 then ((ns.map V.int).length : Int) else 8) else 1) = m at hb
    refine for_range (lo := 0) (n := m.toNat) (fun i σ H' => ∃ a1 a2 a3 a4 a5, σ = [some (.ref a), a1, a2, a3, a4, a5] ∧ Scr K H' a (ns.map V.int)) ⟨none, none, none, none, none, rfl, hS⟩ ?_ ?_
    · rintro i σ H1 hi ⟨a1, a2, a3, a4, a5, rfl, hS1⟩
      refine ⟨_, rfl, _, rfl, a, ns, _, rfl, hS1.1, by omega, by omega, by omega, fun p H2 np e2 o2 d2 => ?_⟩
      refine ⟨_, rfl, by decide, by decide, ?_⟩
      refine for_range (lo := 0) (n := Int.toNat 4) (fun j σ H' => ∃ a1 a3 a4 a5, σ = [some (.ref a), a1, some (.ref p), a3, a4, a5] ∧ Scr K H' a (ns.map V.int) ∧ Dc H' p) ⟨_, _, _, _, rfl, hS1.mono e2, d2⟩ ?_ ?_
      · rintro j σ H3 hj ⟨b1, b3, b4, b5, rfl, hS3, d3⟩
        refine ⟨_, rfl, p, rfl, d3, fun H4 b34 d4 => ?_⟩
        refine ⟨_, rfl, ?_⟩
        exact iteF ⟨_, _, _, _, rfl, hS3.mono (b34.ev d3 d4), d4⟩
      · rintro σ H3 ⟨b1, b3, b4, b5, rfl, hS3, d3⟩
        exact ⟨_, _, _, _, _, rfl, hS3⟩
    · rintro σ H1 ⟨a1, a2, a3, a4, a5, rfl, hS1⟩
      have T0 := tab_term
      have O1 : okE (.str ("a" : Str)) = true ∧ okE (.str ("_" : Str)) = true ∧ okE (.str ("g" : Str)) = true ∧ okE (.str ("f" : Str)) = true := by decide +kernel
      refine ⟨rfl, rfl, ?_⟩
      refine built (tss := []) (ds := tA) .nil O1.1 rfl (by decide) rfl T0.1 fun x1 H2 s2 i1 => ?_
      refine ⟨rfl, ?_⟩
      refine built (tss := []) (ds := tU) .nil O1.2.1 rfl (by decide) rfl T0.2.1 fun x2 H3 s3 i2 => ?_
      refine ⟨rfl, rfl, ?_⟩
      refine built (tss := []) (ds := tU) .nil O1.2.1 rfl (by decide) rfl T0.2.1 fun x3 H4 s4 i3 => ?_
      refine built (tss := [tU]) (ds := tG) (.cons i3 .nil) O1.2.2.1 (by decide +kernel) (by decide) rfl T0.2.2.1 fun x4 H5 s5 i4 => ?_
      have s35 := s4.trans s5
      refine built (tss := [tA, tU, tG]) (ds := tF) (.cons (i1.same (s3.trans s35)) (.cons (i2.same s35) (.cons i4 .nil))) O1.2.2.2 (by decide +kernel) (by decide) rfl T0.2.2.2 fun x5 H6 s6 i5 => ?_
      obtain ⟨x, dx, q0, xs, e0, hx, hq, hxs⟩ := i5
      cases e0
      have tn := tab_nodes
      rw [Bool.and_eq_true] at tn
      have hI : InsT c H6 x5 q0 tF := ⟨dx, hx, ⟨xs, hq, hxs, List.all_eq_true.mp tn.1, by decide⟩, by simp [tF], tn.2⟩
      have R := tab_told
      refine ⟨_, rfl, _, _, _, rfl, hx, x5, q0, tF, rfl, hI, fun u1 H7 s7 e1 => ?_⟩
      cases Option.some.inj (e1.symm.trans R.1)
      have hx7 := s7 _ _ hx
      have hI7 := hI.same s7
      refine ⟨_, rfl, _, _, _, rfl, hx7, rfl, x5, q0, tF, 0, 3, [1, 2, 3], rfl, hI7, by decide, rfl, R.2.1, fun p1 H8 s8 n1 h1 => ?_⟩
      have hx8 := s8 _ _ hx7
      have hI8 := hI7.same s8
      refine ⟨_, rfl, _, _, _, rfl, hx8, x5, q0, tF, rfl, hI8, fun p2 H9 s9 n2 h2 => ?_⟩
      rw [R.2.2.1] at h2
      have hx9 := s9 _ _ hx8
      have hI9 := hI8.same s9
      refine ⟨_, rfl, _, _, _, rfl, hx9, rfl, x5, q0, tF, 3, 2, rfl, hI9, by decide, tab_part.1, by rw [tab_part.2]; exact T0.2.2.1, fun x6 q6 H10 s10 hI6 => ?_⟩
      rw [tab_part.2] at hI6
      obtain ⟨dx6, hx6, _⟩ := id hI6
      refine ⟨_, _, _, rfl, hx6, x6, q6, tG, rfl, hI6, fun u2 H11 s11 e2 => ?_⟩
      cases Option.some.inj (e2.symm.trans R.2.2.2.1)
      have hx11 := s11 _ _ (s10 _ _ hx9)
      have hI11 := (hI9.same s10).same s11
      refine ⟨_, rfl, _, _, _, rfl, hx11, rfl, x5, q0, tF, 4, rfl, hI11, by decide, tab_ends, fun p3 H12 s12 n3 h3 => ?_⟩
      rw [R.2.2.2.2.1] at h3
      have hx12 := s12 _ _ hx11
      have hI12 := hI11.same s12
      refine ⟨_, rfl, _, _, _, rfl, hx12, x5, q0, tF, rfl, hI12, fun m1 H13 s13 e3 => ?_⟩
      cases Option.some.inj (e3.symm.trans R.2.2.2.2.2)
      refine ⟨(szr rfl), fun p4 n4 => ?_⟩
      generalize g4 : upd _ p4 _ = H14; obtain ⟨e4, o4, t4⟩ := made n4 g4; clear g4
      refine ⟨_, rfl, (szr rfl), fun p5 n5 => ?_⟩
      generalize g5 : upd _ p5 _ = H15; obtain ⟨e5, o5, t5⟩ := made n5 g5; clear g5
      refine ⟨(szr rfl), fun p6 n6 => ?_⟩
      generalize g6 : upd _ p6 _ = H16; obtain ⟨e6, o6, t6⟩ := made n6 g6; clear g6
      refine ⟨(szr rfl), fun p7 n7 => ?_⟩
      generalize g7 : upd _ p7 _ = H17; obtain ⟨e7, o7, t7⟩ := made n7 g7; clear g7
      refine ⟨(szr rfl), fun p8 n8 => ?_⟩
      generalize g8 : upd _ p8 _ = H18; obtain ⟨e8, o8, t8⟩ := made n8 g8; clear g8
      have z8 := sameOf n8 o8
      have z7 := (sameOf n7 o7).trans z8
      have z6 := (sameOf n6 o6).trans z7
      have z5 := (sameOf n5 o5).trans z6
      have z4 := (sameOf n4 o4).trans z5
      have z13 := s13.trans z4
      have z12 := s12.trans z13
      have z9 := (s10.trans s11).trans z12
      have h1' := z9 _ _ (s9 _ _ h1)
      have h2' := z9 _ _ h2
      have h3' := z13 _ _ h3
      have eq : PyData.eqv (.list [.str "f(a, _, g(_))", .tuple [.int 1, .int 2, .int 3], .tuple [.int 2, .int 4], .str "g(_)", .tuple [.int 0, .int 3, .int 4], .int 3, .int 40]) (.list [.str "f(a, _, g(_))", .tuple [.int 1, .int 2, .int 3], .tuple [.int 2, .int 4], .str "g(_)", .tuple [.int 0, .int 3, .int 4], .int 3, .int 40]) = true := by decide +kernel
      have shp : SeqAt.shaped (.list [.str "f(a, _, g(_))", .tuple [.int 1, .int 2, .int 3], .tuple [.int 2, .int 4], .str "g(_)", .tuple [.int 0, .int 3, .int 4], .int 3, .int 40]) = true := by decide +kernel
      refine ⟨.list [.str "f(a, _, g(_))", .tuple [.int 1, .int 2, .int 3], .tuple [.int 2, .int 4], .str "g(_)", .tuple [.int 0, .int 3, .int 4], .int 3, .int 40], .list [.str "f(a, _, g(_))", .tuple [.int 1, .int 2, .int 3], .tuple [.int 2, .int 4], .str "g(_)", .tuple [.int 0, .int 3, .int 4], .int 3, .int 40], ?_, ?_, shp, shp, ?_⟩
      · exact .lst (SqL.of (z5 _ _ t4)) (.cons (.str _) (.cons (.tup (SqT.of h1') (.cons (.int _) (.cons (.int _) (.cons (.int _) .nil)))) (.cons (.tup (SqT.of h2') (.cons (.int _) (.cons (.int _) .nil))) (.cons (.str _) (.cons (.tup (SqT.of h3') (.cons (.int _) (.cons (.int _) (.cons (.int _) .nil)))) (.cons (.int _) (.cons (.int _) .nil)))))))
      · exact .lst (SqL.of t8) (.cons (.str _) (.cons (.tup (SqT.of (z6 _ _ t5)) (.cons (.int _) (.cons (.int _) (.cons (.int _) .nil)))) (.cons (.tup (SqT.of (z7 _ _ t6)) (.cons (.int _) (.cons (.int _) .nil))) (.cons (.str _) (.cons (.tup (SqT.of (z8 _ _ t7)) (.cons (.int _) (.cons (.int _) (.cons (.int _) .nil)))) (.cons (.int _) (.cons (.int _) .nil)))))))
      rw [eq]
      exact q H18

end
theorem all_mk {l : PySem.W.OpenLaw} {w : World} {K : PySem.W.Frag} {h : Heap} {mg : Str → Option Value} {fa f_is_integer f_is_index f_is_word f_is_arity f_is_leaf f_is_node f_makes_one_tree f_is_tree f_part_end f_part_at f_arguments_at f_places_above f_places_of f_height_of f_symbols_in f_text_of f__law_dice f__law_roll f__law_pick f__law_nodes f__law_made_term f__law_term f__law_small_term f__law_drawn_term f__law_text f__law_parts f__law_leaves f__law_deep f__law_below f__law_told_right f__law_right f_law : Addr} (X : K.In h) (G : h.Ns mainGlobals mg) (hfa : mg "law" = some (.ref fa))
    {od0 an0 od1 an1 od2 an2 od3 an3 od4 an4 od5 an5 od6 an6 od7 an7 od8 an8 od9 an9 od10 an10 od11 an11 od12 an12 od13 an13 od14 an14 od15 an15 od16 an16 od17 an17 od18 an18 od19 an19 od20 an20 od21 an21 od22 an22 od23 an23 od24 an24 od25 an25 od26 an26 od27 an27 od28 an28 od29 an29 od30 an30 od31 an31 : Option Addr} {sl0 sl1 sl2 sl3 sl4 sl5 sl6 sl7 sl8 sl9 sl10 sl11 sl12 sl13 sl14 sl15 sl16 sl17 sl18 sl19 sl20 sl21 sl22 sl23 sl24 sl25 sl26 sl27 sl28 sl29 sl30 sl31 : Array (Option Value)} {oc0 kV0 dc0 pm0 cd0 ct0 oc1 kV1 dc1 pm1 cd1 ct1 oc2 kV2 dc2 pm2 cd2 ct2 oc3 kV3 dc3 pm3 cd3 ct3 oc4 kV4 dc4 pm4 cd4 ct4 oc5 kV5 dc5 pm5 cd5 ct5 oc6 kV6 dc6 pm6 cd6 ct6 oc7 kV7 dc7 pm7 cd7 ct7 oc8 kV8 dc8 pm8 cd8 ct8 oc9 kV9 dc9 pm9 cd9 ct9 oc10 kV10 dc10 pm10 cd10 ct10 oc11 kV11 dc11 pm11 cd11 ct11 oc12 kV12 dc12 pm12 cd12 ct12 oc13 kV13 dc13 pm13 cd13 ct13 oc14 kV14 dc14 pm14 cd14 ct14 oc15 kV15 dc15 pm15 cd15 ct15 oc16 kV16 dc16 pm16 cd16 ct16 oc17 kV17 dc17 pm17 cd17 ct17 oc18 kV18 dc18 pm18 cd18 ct18 oc19 kV19 dc19 pm19 cd19 ct19 oc20 kV20 dc20 pm20 cd20 ct20 oc21 kV21 dc21 pm21 cd21 ct21 oc22 kV22 dc22 pm22 cd22 ct22 oc23 kV23 dc23 pm23 cd23 ct23 oc24 kV24 dc24 pm24 cd24 ct24 oc25 kV25 dc25 pm25 cd25 ct25 oc26 kV26 dc26 pm26 cd26 ct26 oc27 kV27 dc27 pm27 cd27 ct27 oc28 kV28 dc28 pm28 cd28 ct28 oc29 kV29 dc29 pm29 cd29 ct29 oc30 kV30 dc30 pm30 cd30 ct30 oc31 kV31 dc31 pm31 cd31 ct31 : Value}
    (a0 : PySem.W.nsIn K mainGlobals "is_integer" = some (some (.ref f_is_integer))) (l0 : K.lookup f_is_integer = some ⟨oc0, od0, .func (PySem.W.fnOf "is_integer" "is_integer" (defArgs s_is_integer) (defBody s_is_integer) (defScope s_is_integer) .none kV0 dc0 pm0 an0 cd0 ct0), sl0⟩) (c0 : PySem.W.codeIn K cd0 "is_integer" = true) (k0 : PySem.W.keepIn K (.ref f_is_integer) = true)
    (a1 : PySem.W.nsIn K mainGlobals "is_index" = some (some (.ref f_is_index))) (l1 : K.lookup f_is_index = some ⟨oc1, od1, .func (PySem.W.fnOf "is_index" "is_index" (defArgs s_is_index) (defBody s_is_index) (defScope s_is_index) .none kV1 dc1 pm1 an1 cd1 ct1), sl1⟩) (c1 : PySem.W.codeIn K cd1 "is_index" = true) (k1 : PySem.W.keepIn K (.ref f_is_index) = true)
    (a2 : PySem.W.nsIn K mainGlobals "is_word" = some (some (.ref f_is_word))) (l2 : K.lookup f_is_word = some ⟨oc2, od2, .func (PySem.W.fnOf "is_word" "is_word" (defArgs s_is_word) (defBody s_is_word) (defScope s_is_word) .none kV2 dc2 pm2 an2 cd2 ct2), sl2⟩) (c2 : PySem.W.codeIn K cd2 "is_word" = true) (k2 : PySem.W.keepIn K (.ref f_is_word) = true)
    (a3 : PySem.W.nsIn K mainGlobals "is_arity" = some (some (.ref f_is_arity))) (l3 : K.lookup f_is_arity = some ⟨oc3, od3, .func (PySem.W.fnOf "is_arity" "is_arity" (defArgs s_is_arity) (defBody s_is_arity) (defScope s_is_arity) .none kV3 dc3 pm3 an3 cd3 ct3), sl3⟩) (c3 : PySem.W.codeIn K cd3 "is_arity" = true) (k3 : PySem.W.keepIn K (.ref f_is_arity) = true)
    (a4 : PySem.W.nsIn K mainGlobals "is_leaf" = some (some (.ref f_is_leaf))) (l4 : K.lookup f_is_leaf = some ⟨oc4, od4, .func (PySem.W.fnOf "is_leaf" "is_leaf" (defArgs s_is_leaf) (defBody s_is_leaf) (defScope s_is_leaf) .none kV4 dc4 pm4 an4 cd4 ct4), sl4⟩) (c4 : PySem.W.codeIn K cd4 "is_leaf" = true) (k4 : PySem.W.keepIn K (.ref f_is_leaf) = true)
    (a5 : PySem.W.nsIn K mainGlobals "is_node" = some (some (.ref f_is_node))) (l5 : K.lookup f_is_node = some ⟨oc5, od5, .func (PySem.W.fnOf "is_node" "is_node" (defArgs s_is_node) (defBody s_is_node) (defScope s_is_node) .none kV5 dc5 pm5 an5 cd5 ct5), sl5⟩) (c5 : PySem.W.codeIn K cd5 "is_node" = true) (k5 : PySem.W.keepIn K (.ref f_is_node) = true)
    (a6 : PySem.W.nsIn K mainGlobals "makes_one_tree" = some (some (.ref f_makes_one_tree))) (l6 : K.lookup f_makes_one_tree = some ⟨oc6, od6, .func (PySem.W.fnOf "makes_one_tree" "makes_one_tree" (defArgs s_makes_one_tree) (defBody s_makes_one_tree) (defScope s_makes_one_tree) .none kV6 dc6 pm6 an6 cd6 ct6), sl6⟩) (c6 : PySem.W.codeIn K cd6 "makes_one_tree" = true) (k6 : PySem.W.keepIn K (.ref f_makes_one_tree) = true)
    (a7 : PySem.W.nsIn K mainGlobals "is_tree" = some (some (.ref f_is_tree))) (l7 : K.lookup f_is_tree = some ⟨oc7, od7, .func (PySem.W.fnOf "is_tree" "is_tree" (defArgs s_is_tree) (defBody s_is_tree) (defScope s_is_tree) .none kV7 dc7 pm7 an7 cd7 ct7), sl7⟩) (c7 : PySem.W.codeIn K cd7 "is_tree" = true) (k7 : PySem.W.keepIn K (.ref f_is_tree) = true)
    (a8 : PySem.W.nsIn K mainGlobals "part_end" = some (some (.ref f_part_end))) (l8 : K.lookup f_part_end = some ⟨oc8, od8, .func (PySem.W.fnOf "part_end" "part_end" (defArgs s_part_end) (defBody s_part_end) (defScope s_part_end) .none kV8 dc8 pm8 an8 cd8 ct8), sl8⟩) (c8 : PySem.W.codeIn K cd8 "part_end" = true) (k8 : PySem.W.keepIn K (.ref f_part_end) = true)
    (a9 : PySem.W.nsIn K mainGlobals "part_at" = some (some (.ref f_part_at))) (l9 : K.lookup f_part_at = some ⟨oc9, od9, .func (PySem.W.fnOf "part_at" "part_at" (defArgs s_part_at) (defBody s_part_at) (defScope s_part_at) .none kV9 dc9 pm9 an9 cd9 ct9), sl9⟩) (c9 : PySem.W.codeIn K cd9 "part_at" = true) (k9 : PySem.W.keepIn K (.ref f_part_at) = true)
    (a10 : PySem.W.nsIn K mainGlobals "arguments_at" = some (some (.ref f_arguments_at))) (l10 : K.lookup f_arguments_at = some ⟨oc10, od10, .func (PySem.W.fnOf "arguments_at" "arguments_at" (defArgs s_arguments_at) (defBody s_arguments_at) (defScope s_arguments_at) .none kV10 dc10 pm10 an10 cd10 ct10), sl10⟩) (c10 : PySem.W.codeIn K cd10 "arguments_at" = true) (k10 : PySem.W.keepIn K (.ref f_arguments_at) = true)
    (a11 : PySem.W.nsIn K mainGlobals "places_above" = some (some (.ref f_places_above))) (l11 : K.lookup f_places_above = some ⟨oc11, od11, .func (PySem.W.fnOf "places_above" "places_above" (defArgs s_places_above) (defBody s_places_above) (defScope s_places_above) .none kV11 dc11 pm11 an11 cd11 ct11), sl11⟩) (c11 : PySem.W.codeIn K cd11 "places_above" = true) (k11 : PySem.W.keepIn K (.ref f_places_above) = true)
    (a12 : PySem.W.nsIn K mainGlobals "places_of" = some (some (.ref f_places_of))) (l12 : K.lookup f_places_of = some ⟨oc12, od12, .func (PySem.W.fnOf "places_of" "places_of" (defArgs s_places_of) (defBody s_places_of) (defScope s_places_of) .none kV12 dc12 pm12 an12 cd12 ct12), sl12⟩) (c12 : PySem.W.codeIn K cd12 "places_of" = true) (k12 : PySem.W.keepIn K (.ref f_places_of) = true)
    (a13 : PySem.W.nsIn K mainGlobals "height_of" = some (some (.ref f_height_of))) (l13 : K.lookup f_height_of = some ⟨oc13, od13, .func (PySem.W.fnOf "height_of" "height_of" (defArgs s_height_of) (defBody s_height_of) (defScope s_height_of) .none kV13 dc13 pm13 an13 cd13 ct13), sl13⟩) (c13 : PySem.W.codeIn K cd13 "height_of" = true) (k13 : PySem.W.keepIn K (.ref f_height_of) = true)
    (a14 : PySem.W.nsIn K mainGlobals "symbols_in" = some (some (.ref f_symbols_in))) (l14 : K.lookup f_symbols_in = some ⟨oc14, od14, .func (PySem.W.fnOf "symbols_in" "symbols_in" (defArgs s_symbols_in) (defBody s_symbols_in) (defScope s_symbols_in) .none kV14 dc14 pm14 an14 cd14 ct14), sl14⟩) (c14 : PySem.W.codeIn K cd14 "symbols_in" = true) (k14 : PySem.W.keepIn K (.ref f_symbols_in) = true)
    (a15 : PySem.W.nsIn K mainGlobals "text_of" = some (some (.ref f_text_of))) (l15 : K.lookup f_text_of = some ⟨oc15, od15, .func (PySem.W.fnOf "text_of" "text_of" (defArgs s_text_of) (defBody s_text_of) (defScope s_text_of) .none kV15 dc15 pm15 an15 cd15 ct15), sl15⟩) (c15 : PySem.W.codeIn K cd15 "text_of" = true) (k15 : PySem.W.keepIn K (.ref f_text_of) = true)
    (a16 : PySem.W.nsIn K mainGlobals "_law_dice" = some (some (.ref f__law_dice))) (l16 : K.lookup f__law_dice = some ⟨oc16, od16, .func (PySem.W.fnOf "_law_dice" "_law_dice" (defArgs s__law_dice) (defBody s__law_dice) (defScope s__law_dice) .none kV16 dc16 pm16 an16 cd16 ct16), sl16⟩) (c16 : PySem.W.codeIn K cd16 "_law_dice" = true) (k16 : PySem.W.keepIn K (.ref f__law_dice) = true)
    (a17 : PySem.W.nsIn K mainGlobals "_law_roll" = some (some (.ref f__law_roll))) (l17 : K.lookup f__law_roll = some ⟨oc17, od17, .func (PySem.W.fnOf "_law_roll" "_law_roll" (defArgs s__law_roll) (defBody s__law_roll) (defScope s__law_roll) .none kV17 dc17 pm17 an17 cd17 ct17), sl17⟩) (c17 : PySem.W.codeIn K cd17 "_law_roll" = true) (k17 : PySem.W.keepIn K (.ref f__law_roll) = true)
    (a18 : PySem.W.nsIn K mainGlobals "_law_pick" = some (some (.ref f__law_pick))) (l18 : K.lookup f__law_pick = some ⟨oc18, od18, .func (PySem.W.fnOf "_law_pick" "_law_pick" (defArgs s__law_pick) (defBody s__law_pick) (defScope s__law_pick) .none kV18 dc18 pm18 an18 cd18 ct18), sl18⟩) (c18 : PySem.W.codeIn K cd18 "_law_pick" = true) (k18 : PySem.W.keepIn K (.ref f__law_pick) = true)
    (a19 : PySem.W.nsIn K mainGlobals "_law_nodes" = some (some (.ref f__law_nodes))) (l19 : K.lookup f__law_nodes = some ⟨oc19, od19, .func (PySem.W.fnOf "_law_nodes" "_law_nodes" (defArgs s__law_nodes) (defBody s__law_nodes) (defScope s__law_nodes) .none kV19 dc19 pm19 an19 cd19 ct19), sl19⟩) (c19 : PySem.W.codeIn K cd19 "_law_nodes" = true) (k19 : PySem.W.keepIn K (.ref f__law_nodes) = true)
    (a20 : PySem.W.nsIn K mainGlobals "_law_made_term" = some (some (.ref f__law_made_term))) (l20 : K.lookup f__law_made_term = some ⟨oc20, od20, .func (PySem.W.fnOf "_law_made_term" "_law_made_term" (defArgs s__law_made_term) (defBody s__law_made_term) (defScope s__law_made_term) .none kV20 dc20 pm20 an20 cd20 ct20), sl20⟩) (c20 : PySem.W.codeIn K cd20 "_law_made_term" = true) (k20 : PySem.W.keepIn K (.ref f__law_made_term) = true)
    (a21 : PySem.W.nsIn K mainGlobals "_law_term" = some (some (.ref f__law_term))) (l21 : K.lookup f__law_term = some ⟨oc21, od21, .func (PySem.W.fnOf "_law_term" "_law_term" (defArgs s__law_term) (defBody s__law_term) (defScope s__law_term) .none kV21 dc21 pm21 an21 cd21 ct21), sl21⟩) (c21 : PySem.W.codeIn K cd21 "_law_term" = true) (k21 : PySem.W.keepIn K (.ref f__law_term) = true)
    (a22 : PySem.W.nsIn K mainGlobals "_law_small_term" = some (some (.ref f__law_small_term))) (l22 : K.lookup f__law_small_term = some ⟨oc22, od22, .func (PySem.W.fnOf "_law_small_term" "_law_small_term" (defArgs s__law_small_term) (defBody s__law_small_term) (defScope s__law_small_term) .none kV22 dc22 pm22 an22 cd22 ct22), sl22⟩) (c22 : PySem.W.codeIn K cd22 "_law_small_term" = true) (k22 : PySem.W.keepIn K (.ref f__law_small_term) = true)
    (a23 : PySem.W.nsIn K mainGlobals "_law_drawn_term" = some (some (.ref f__law_drawn_term))) (l23 : K.lookup f__law_drawn_term = some ⟨oc23, od23, .func (PySem.W.fnOf "_law_drawn_term" "_law_drawn_term" (defArgs s__law_drawn_term) (defBody s__law_drawn_term) (defScope s__law_drawn_term) .none kV23 dc23 pm23 an23 cd23 ct23), sl23⟩) (c23 : PySem.W.codeIn K cd23 "_law_drawn_term" = true) (k23 : PySem.W.keepIn K (.ref f__law_drawn_term) = true)
    (a24 : PySem.W.nsIn K mainGlobals "_law_text" = some (some (.ref f__law_text))) (l24 : K.lookup f__law_text = some ⟨oc24, od24, .func (PySem.W.fnOf "_law_text" "_law_text" (defArgs s__law_text) (defBody s__law_text) (defScope s__law_text) .none kV24 dc24 pm24 an24 cd24 ct24), sl24⟩) (c24 : PySem.W.codeIn K cd24 "_law_text" = true) (k24 : PySem.W.keepIn K (.ref f__law_text) = true)
    (a25 : PySem.W.nsIn K mainGlobals "_law_parts" = some (some (.ref f__law_parts))) (l25 : K.lookup f__law_parts = some ⟨oc25, od25, .func (PySem.W.fnOf "_law_parts" "_law_parts" (defArgs s__law_parts) (defBody s__law_parts) (defScope s__law_parts) .none kV25 dc25 pm25 an25 cd25 ct25), sl25⟩) (c25 : PySem.W.codeIn K cd25 "_law_parts" = true) (k25 : PySem.W.keepIn K (.ref f__law_parts) = true)
    (a26 : PySem.W.nsIn K mainGlobals "_law_leaves" = some (some (.ref f__law_leaves))) (l26 : K.lookup f__law_leaves = some ⟨oc26, od26, .func (PySem.W.fnOf "_law_leaves" "_law_leaves" (defArgs s__law_leaves) (defBody s__law_leaves) (defScope s__law_leaves) .none kV26 dc26 pm26 an26 cd26 ct26), sl26⟩) (c26 : PySem.W.codeIn K cd26 "_law_leaves" = true) (k26 : PySem.W.keepIn K (.ref f__law_leaves) = true)
    (a27 : PySem.W.nsIn K mainGlobals "_law_deep" = some (some (.ref f__law_deep))) (l27 : K.lookup f__law_deep = some ⟨oc27, od27, .func (PySem.W.fnOf "_law_deep" "_law_deep" (defArgs s__law_deep) (defBody s__law_deep) (defScope s__law_deep) .none kV27 dc27 pm27 an27 cd27 ct27), sl27⟩) (c27 : PySem.W.codeIn K cd27 "_law_deep" = true) (k27 : PySem.W.keepIn K (.ref f__law_deep) = true)
    (a28 : PySem.W.nsIn K mainGlobals "_law_below" = some (some (.ref f__law_below))) (l28 : K.lookup f__law_below = some ⟨oc28, od28, .func (PySem.W.fnOf "_law_below" "_law_below" (defArgs s__law_below) (defBody s__law_below) (defScope s__law_below) .none kV28 dc28 pm28 an28 cd28 ct28), sl28⟩) (c28 : PySem.W.codeIn K cd28 "_law_below" = true) (k28 : PySem.W.keepIn K (.ref f__law_below) = true)
    (a29 : PySem.W.nsIn K mainGlobals "_law_told_right" = some (some (.ref f__law_told_right))) (l29 : K.lookup f__law_told_right = some ⟨oc29, od29, .func (PySem.W.fnOf "_law_told_right" "_law_told_right" (defArgs s__law_told_right) (defBody s__law_told_right) (defScope s__law_told_right) .none kV29 dc29 pm29 an29 cd29 ct29), sl29⟩) (c29 : PySem.W.codeIn K cd29 "_law_told_right" = true) (k29 : PySem.W.keepIn K (.ref f__law_told_right) = true)
    (a30 : PySem.W.nsIn K mainGlobals "_law_right" = some (some (.ref f__law_right))) (l30 : K.lookup f__law_right = some ⟨oc30, od30, .func (PySem.W.fnOf "_law_right" "_law_right" (defArgs s__law_right) (defBody s__law_right) (defScope s__law_right) .none kV30 dc30 pm30 an30 cd30 ct30), sl30⟩) (c30 : PySem.W.codeIn K cd30 "_law_right" = true) (k30 : PySem.W.keepIn K (.ref f__law_right) = true)
    (a31 : PySem.W.nsIn K mainGlobals "law" = some (some (.ref f_law))) (l31 : K.lookup f_law = some ⟨oc31, od31, .func (PySem.W.fnOf "law" "law" (defArgs s_law) (defBody s_law) (defScope s_law) .none kV31 dc31 pm31 an31 cd31 ct31), sl31⟩) (c31 : PySem.W.codeIn K cd31 "law" = true) (k31 : PySem.W.keepIn K (.ref f_law) = true)
    {A_T A_X A_fi A_fl A_pn A_gn A_pb A_gb : Addr} {rp rb : List Value} {od_T_init an_T_init od_T_len an_T_len od_T_nodes an_T_nodes od_T_build an_T_build od_T_text an_T_text od_T_symbols an_T_symbols od_T_unknown an_T_unknown od_T_lost an_T_lost od_T_is_ground an_T_is_ground od_T_depth an_T_depth od_T_children an_T_children od_T_part an_T_part od_T_above an_T_above od_T_check an_T_check od_T_item an_T_item od_T_in an_T_in od_T_eq an_T_eq od_T_str an_T_str : Option Addr} {sl_T_init sl_T_len sl_T_nodes sl_T_build sl_T_text sl_T_symbols sl_T_unknown sl_T_lost sl_T_is_ground sl_T_depth sl_T_children sl_T_part sl_T_above sl_T_check sl_T_item sl_T_in sl_T_eq sl_T_str : Array (Option Value)} {oc_T_init kV_T_init dc_T_init pm_T_init cd_T_init ct_T_init oc_T_len kV_T_len dc_T_len pm_T_len cd_T_len ct_T_len oc_T_nodes kV_T_nodes dc_T_nodes pm_T_nodes cd_T_nodes ct_T_nodes oc_T_build kV_T_build dc_T_build pm_T_build cd_T_build ct_T_build oc_T_text kV_T_text dc_T_text pm_T_text cd_T_text ct_T_text oc_T_symbols kV_T_symbols dc_T_symbols pm_T_symbols cd_T_symbols ct_T_symbols oc_T_unknown kV_T_unknown dc_T_unknown pm_T_unknown cd_T_unknown ct_T_unknown oc_T_lost kV_T_lost dc_T_lost pm_T_lost cd_T_lost ct_T_lost oc_T_is_ground kV_T_is_ground dc_T_is_ground pm_T_is_ground cd_T_is_ground ct_T_is_ground oc_T_depth kV_T_depth dc_T_depth pm_T_depth cd_T_depth ct_T_depth oc_T_children kV_T_children dc_T_children pm_T_children cd_T_children ct_T_children oc_T_part kV_T_part dc_T_part pm_T_part cd_T_part ct_T_part oc_T_above kV_T_above dc_T_above pm_T_above cd_T_above ct_T_above oc_T_check kV_T_check dc_T_check pm_T_check cd_T_check ct_T_check oc_T_item kV_T_item dc_T_item pm_T_item cd_T_item ct_T_item oc_T_in kV_T_in dc_T_in pm_T_in cd_T_in ct_T_in oc_T_eq kV_T_eq dc_T_eq pm_T_eq cd_T_eq ct_T_eq oc_T_str kV_T_str dc_T_str pm_T_str cd_T_str ct_T_str : Value}
    (nT : PySem.W.nsIn K mainGlobals "Term" = some (some (.ref A_T))) (nX : PySem.W.nsIn K mainGlobals "InvalidTerm" = some (some (.ref A_X)))
    (xI : PySem.W.findIn K (.ref A_T) "__init__" = some (some (.ref A_fi))) (xL : PySem.W.findIn K (.ref A_T) "__len__" = some (some (.ref A_fl))) (xP : PySem.W.findIn K (.ref A_T) "nodes" = some (some (.ref A_pn))) (xG : PySem.W.recIn K A_pn "property" = some (.ref A_gn :: rp))
    (xM : PySem.W.findCls K (.ref A_T) mcT "build" = some (.get (.builtin "classmethod.__get__") (.ref A_pb) .none (.ref A_T))) (xB : PySem.W.recIn K A_pb "classmethod" = some (.ref A_gb :: rb))
    {A_p_text A_f_text A_p_symbols A_f_symbols A_p_unknown A_f_unknown A_p_lost A_f_lost A_p_is_ground A_f_is_ground A_p_depth A_f_depth A_f_children A_f_part A_f_above A_f_check A_f_item A_f_in A_f_eq A_f_str : Addr} {rs_text rs_symbols rs_unknown rs_lost rs_is_ground rs_depth : List Value}
    (ya_text : PySem.W.findIn K (.ref A_T) "text" = some (some (.ref A_p_text))) (yr_text : PySem.W.recIn K A_p_text "property" = some (.ref A_f_text :: rs_text))
    (ya_symbols : PySem.W.findIn K (.ref A_T) "symbols" = some (some (.ref A_p_symbols))) (yr_symbols : PySem.W.recIn K A_p_symbols "property" = some (.ref A_f_symbols :: rs_symbols))
    (ya_unknown : PySem.W.findIn K (.ref A_T) "unknown" = some (some (.ref A_p_unknown))) (yr_unknown : PySem.W.recIn K A_p_unknown "property" = some (.ref A_f_unknown :: rs_unknown))
    (ya_lost : PySem.W.findIn K (.ref A_T) "lost" = some (some (.ref A_p_lost))) (yr_lost : PySem.W.recIn K A_p_lost "property" = some (.ref A_f_lost :: rs_lost))
    (ya_is_ground : PySem.W.findIn K (.ref A_T) "is_ground" = some (some (.ref A_p_is_ground))) (yr_is_ground : PySem.W.recIn K A_p_is_ground "property" = some (.ref A_f_is_ground :: rs_is_ground))
    (ya_depth : PySem.W.findIn K (.ref A_T) "depth" = some (some (.ref A_p_depth))) (yr_depth : PySem.W.recIn K A_p_depth "property" = some (.ref A_f_depth :: rs_depth))
    (ya_children : PySem.W.findIn K (.ref A_T) "children" = some (some (.ref A_f_children)))
    (ya_part : PySem.W.findIn K (.ref A_T) "part" = some (some (.ref A_f_part)))
    (ya_above : PySem.W.findIn K (.ref A_T) "above" = some (some (.ref A_f_above)))
    (ya_check : PySem.W.findIn K (.ref A_T) "_check_place" = some (some (.ref A_f_check)))
    (ya_item : PySem.W.findIn K (.ref A_T) "__getitem__" = some (some (.ref A_f_item)))
    (ya_in : PySem.W.findIn K (.ref A_T) "__contains__" = some (some (.ref A_f_in)))
    (ya_eq : PySem.W.findIn K (.ref A_T) "__eq__" = some (some (.ref A_f_eq)))
    (ya_str : PySem.W.findIn K (.ref A_T) "__str__" = some (some (.ref A_f_str)))
    (l_T_init : K.lookup A_fi = some ⟨oc_T_init, od_T_init, .func (PySem.W.fnOf "__init__" "Term.__init__" (defArgs s_T_init) (defBody s_T_init) (defScope s_T_init) .none kV_T_init dc_T_init pm_T_init an_T_init cd_T_init ct_T_init), sl_T_init⟩) (c_T_init : PySem.W.codeIn K cd_T_init "Term.__init__" = true) (k_T_init : PySem.W.keepIn K (.ref A_fi) = true)
    (l_T_len : K.lookup A_fl = some ⟨oc_T_len, od_T_len, .func (PySem.W.fnOf "__len__" "Term.__len__" (defArgs s_T_len) (defBody s_T_len) (defScope s_T_len) .none kV_T_len dc_T_len pm_T_len an_T_len cd_T_len ct_T_len), sl_T_len⟩) (c_T_len : PySem.W.codeIn K cd_T_len "Term.__len__" = true) (k_T_len : PySem.W.keepIn K (.ref A_fl) = true)
    (l_T_nodes : K.lookup A_gn = some ⟨oc_T_nodes, od_T_nodes, .func (PySem.W.fnOf "nodes" "Term.nodes" (defArgs s_T_nodes) (defBody s_T_nodes) (defScope s_T_nodes) .none kV_T_nodes dc_T_nodes pm_T_nodes an_T_nodes cd_T_nodes ct_T_nodes), sl_T_nodes⟩) (c_T_nodes : PySem.W.codeIn K cd_T_nodes "Term.nodes" = true) (k_T_nodes : PySem.W.keepIn K (.ref A_gn) = true)
    (l_T_build : K.lookup A_gb = some ⟨oc_T_build, od_T_build, .func (PySem.W.fnOf "build" "Term.build" (defArgs s_T_build) (defBody s_T_build) (defScope s_T_build) .none kV_T_build dc_T_build pm_T_build an_T_build cd_T_build ct_T_build), sl_T_build⟩) (c_T_build : PySem.W.codeIn K cd_T_build "Term.build" = true) (k_T_build : PySem.W.keepIn K (.ref A_gb) = true)
    (l_T_text : K.lookup A_f_text = some ⟨oc_T_text, od_T_text, .func (PySem.W.fnOf "text" "Term.text" (defArgs s_T_text) (defBody s_T_text) (defScope s_T_text) .none kV_T_text dc_T_text pm_T_text an_T_text cd_T_text ct_T_text), sl_T_text⟩) (c_T_text : PySem.W.codeIn K cd_T_text "Term.text" = true) (k_T_text : PySem.W.keepIn K (.ref A_f_text) = true)
    (l_T_symbols : K.lookup A_f_symbols = some ⟨oc_T_symbols, od_T_symbols, .func (PySem.W.fnOf "symbols" "Term.symbols" (defArgs s_T_symbols) (defBody s_T_symbols) (defScope s_T_symbols) .none kV_T_symbols dc_T_symbols pm_T_symbols an_T_symbols cd_T_symbols ct_T_symbols), sl_T_symbols⟩) (c_T_symbols : PySem.W.codeIn K cd_T_symbols "Term.symbols" = true) (k_T_symbols : PySem.W.keepIn K (.ref A_f_symbols) = true)
    (l_T_unknown : K.lookup A_f_unknown = some ⟨oc_T_unknown, od_T_unknown, .func (PySem.W.fnOf "unknown" "Term.unknown" (defArgs s_T_unknown) (defBody s_T_unknown) (defScope s_T_unknown) .none kV_T_unknown dc_T_unknown pm_T_unknown an_T_unknown cd_T_unknown ct_T_unknown), sl_T_unknown⟩) (c_T_unknown : PySem.W.codeIn K cd_T_unknown "Term.unknown" = true) (k_T_unknown : PySem.W.keepIn K (.ref A_f_unknown) = true)
    (l_T_lost : K.lookup A_f_lost = some ⟨oc_T_lost, od_T_lost, .func (PySem.W.fnOf "lost" "Term.lost" (defArgs s_T_lost) (defBody s_T_lost) (defScope s_T_lost) .none kV_T_lost dc_T_lost pm_T_lost an_T_lost cd_T_lost ct_T_lost), sl_T_lost⟩) (c_T_lost : PySem.W.codeIn K cd_T_lost "Term.lost" = true) (k_T_lost : PySem.W.keepIn K (.ref A_f_lost) = true)
    (l_T_is_ground : K.lookup A_f_is_ground = some ⟨oc_T_is_ground, od_T_is_ground, .func (PySem.W.fnOf "is_ground" "Term.is_ground" (defArgs s_T_is_ground) (defBody s_T_is_ground) (defScope s_T_is_ground) .none kV_T_is_ground dc_T_is_ground pm_T_is_ground an_T_is_ground cd_T_is_ground ct_T_is_ground), sl_T_is_ground⟩) (c_T_is_ground : PySem.W.codeIn K cd_T_is_ground "Term.is_ground" = true) (k_T_is_ground : PySem.W.keepIn K (.ref A_f_is_ground) = true)
    (l_T_depth : K.lookup A_f_depth = some ⟨oc_T_depth, od_T_depth, .func (PySem.W.fnOf "depth" "Term.depth" (defArgs s_T_depth) (defBody s_T_depth) (defScope s_T_depth) .none kV_T_depth dc_T_depth pm_T_depth an_T_depth cd_T_depth ct_T_depth), sl_T_depth⟩) (c_T_depth : PySem.W.codeIn K cd_T_depth "Term.depth" = true) (k_T_depth : PySem.W.keepIn K (.ref A_f_depth) = true)
    (l_T_children : K.lookup A_f_children = some ⟨oc_T_children, od_T_children, .func (PySem.W.fnOf "children" "Term.children" (defArgs s_T_children) (defBody s_T_children) (defScope s_T_children) .none kV_T_children dc_T_children pm_T_children an_T_children cd_T_children ct_T_children), sl_T_children⟩) (c_T_children : PySem.W.codeIn K cd_T_children "Term.children" = true) (k_T_children : PySem.W.keepIn K (.ref A_f_children) = true)
    (l_T_part : K.lookup A_f_part = some ⟨oc_T_part, od_T_part, .func (PySem.W.fnOf "part" "Term.part" (defArgs s_T_part) (defBody s_T_part) (defScope s_T_part) .none kV_T_part dc_T_part pm_T_part an_T_part cd_T_part ct_T_part), sl_T_part⟩) (c_T_part : PySem.W.codeIn K cd_T_part "Term.part" = true) (k_T_part : PySem.W.keepIn K (.ref A_f_part) = true)
    (l_T_above : K.lookup A_f_above = some ⟨oc_T_above, od_T_above, .func (PySem.W.fnOf "above" "Term.above" (defArgs s_T_above) (defBody s_T_above) (defScope s_T_above) .none kV_T_above dc_T_above pm_T_above an_T_above cd_T_above ct_T_above), sl_T_above⟩) (c_T_above : PySem.W.codeIn K cd_T_above "Term.above" = true) (k_T_above : PySem.W.keepIn K (.ref A_f_above) = true)
    (l_T_check : K.lookup A_f_check = some ⟨oc_T_check, od_T_check, .func (PySem.W.fnOf "_check_place" "Term._check_place" (defArgs s_T_check) (defBody s_T_check) (defScope s_T_check) .none kV_T_check dc_T_check pm_T_check an_T_check cd_T_check ct_T_check), sl_T_check⟩) (c_T_check : PySem.W.codeIn K cd_T_check "Term._check_place" = true) (k_T_check : PySem.W.keepIn K (.ref A_f_check) = true)
    (l_T_item : K.lookup A_f_item = some ⟨oc_T_item, od_T_item, .func (PySem.W.fnOf "__getitem__" "Term.__getitem__" (defArgs s_T_item) (defBody s_T_item) (defScope s_T_item) .none kV_T_item dc_T_item pm_T_item an_T_item cd_T_item ct_T_item), sl_T_item⟩) (c_T_item : PySem.W.codeIn K cd_T_item "Term.__getitem__" = true) (k_T_item : PySem.W.keepIn K (.ref A_f_item) = true)
    (l_T_in : K.lookup A_f_in = some ⟨oc_T_in, od_T_in, .func (PySem.W.fnOf "__contains__" "Term.__contains__" (defArgs s_T_in) (defBody s_T_in) (defScope s_T_in) .none kV_T_in dc_T_in pm_T_in an_T_in cd_T_in ct_T_in), sl_T_in⟩) (c_T_in : PySem.W.codeIn K cd_T_in "Term.__contains__" = true) (k_T_in : PySem.W.keepIn K (.ref A_f_in) = true)
    (l_T_eq : K.lookup A_f_eq = some ⟨oc_T_eq, od_T_eq, .func (PySem.W.fnOf "__eq__" "Term.__eq__" (defArgs s_T_eq) (defBody s_T_eq) (defScope s_T_eq) .none kV_T_eq dc_T_eq pm_T_eq an_T_eq cd_T_eq ct_T_eq), sl_T_eq⟩) (c_T_eq : PySem.W.codeIn K cd_T_eq "Term.__eq__" = true) (k_T_eq : PySem.W.keepIn K (.ref A_f_eq) = true)
    (l_T_str : K.lookup A_f_str = some ⟨oc_T_str, od_T_str, .func (PySem.W.fnOf "__str__" "Term.__str__" (defArgs s_T_str) (defBody s_T_str) (defScope s_T_str) .none kV_T_str dc_T_str pm_T_str an_T_str cd_T_str ct_T_str), sl_T_str⟩) (c_T_str : PySem.W.codeIn K cd_T_str "Term.__str__" = true) (k_T_str : PySem.W.keepIn K (.ref A_f_str) = true)
    (tB : termB K ⟨A_T, A_X, A_fi, A_fl, A_pn, A_gn, A_pb, A_gb⟩ = true) (tK : kitsB K A_T = true) (tC : clB4 K A_T = true) (tX : invB K A_X = true)
    (yT : yB K ⟨A_T, A_X, A_fi, A_fl, A_pn, A_gn, A_pb, A_gb⟩ ⟨A_p_text, A_f_text, A_p_symbols, A_f_symbols, A_p_unknown, A_f_unknown, A_p_lost, A_f_lost, A_p_is_ground, A_f_is_ground, A_p_depth, A_f_depth, A_f_children, A_f_part, A_f_above, A_f_check, A_f_item, A_f_in, A_f_eq, A_f_str⟩ = true)
    {t_MAX_LETTERS t_MAX_ARITY t_ANY t_LOST t_MAX_NODES : Tok}
    (z0 : PySem.W.nsIn K mainGlobals "len" = some none)
    (z1 : PySem.W.nsIn K mainGlobals "int" = some none)
    (z2 : PySem.W.nsIn K mainGlobals "abs" = some none)
    (z3 : PySem.W.nsIn K mainGlobals "isinstance" = some none)
    (z4 : PySem.W.nsIn K mainGlobals "bool" = some none)
    (z5 : PySem.W.nsIn K mainGlobals "all" = some none)
    (z6 : PySem.W.nsIn K mainGlobals "any" = some none)
    (z7 : PySem.W.nsIn K mainGlobals "str" = some none)
    (z8 : PySem.W.nsIn K mainGlobals "tuple" = some none)
    (z9 : PySem.W.nsIn K mainGlobals "dict" = some none)
    (z10 : PySem.W.nsIn K mainGlobals "sorted" = some none)
    (z11 : PySem.W.nsIn K mainGlobals "list" = some none)
    (z12 : PySem.W.nsIn K mainGlobals "range" = some none)
    (z13 : PySem.W.nsIn K mainGlobals "max" = some none)
    (z14 : PySem.W.nsIn K mainGlobals "min" = some none)
    (z15 : PySem.W.nsIn K mainGlobals "reversed" = some none)
    (z16 : PySem.W.nsIn K mainGlobals "enumerate" = some none)
    (z17 : PySem.W.nsIn K mainGlobals "repr" = some none)
    (z18 : PySem.W.nsIn K mainGlobals "MAX_LETTERS" = some (some (.int 8 t_MAX_LETTERS)))
    (z19 : PySem.W.nsIn K mainGlobals "MAX_ARITY" = some (some (.int 3 t_MAX_ARITY)))
    (z20 : PySem.W.nsIn K mainGlobals "ANY" = some (some (.str "_" t_ANY)))
    (z21 : PySem.W.nsIn K mainGlobals "LOST" = some (some (.str "#" t_LOST)))
    (z22 : PySem.W.nsIn K mainGlobals "MAX_NODES" = some (some (.int 40 t_MAX_NODES)))
    : ∃ fd : FuncData, (∀ (s : Shared) (v : Value), BindsTo s fd ⟨[v], []⟩ [("_law_script", v)]) ∧ ∀ base : Heap, K.In base → base.Ns mainGlobals mg → FnG l.prog w K mg base CX0 11 fa fd ["_law_script"] (spLaw K) := by
  have e := hfa.symm.trans (PySem.W.mg_of X G a31)
  cases e
  have T : Txt mg := ⟨PySem.W.mg_none_of X G z0, PySem.W.mg_none_of X G z1, PySem.W.mg_none_of X G z2, PySem.W.mg_none_of X G z3, PySem.W.mg_none_of X G z4, PySem.W.mg_none_of X G z5, PySem.W.mg_none_of X G z6, PySem.W.mg_none_of X G z7, PySem.W.mg_none_of X G z8, PySem.W.mg_none_of X G z9, PySem.W.mg_none_of X G z10, PySem.W.mg_none_of X G z11, PySem.W.mg_none_of X G z12, PySem.W.mg_none_of X G z13, PySem.W.mg_none_of X G z14, PySem.W.mg_none_of X G z15, PySem.W.mg_none_of X G z16, PySem.W.mg_none_of X G z17, ⟨_, PySem.W.mg_of X G z18⟩, ⟨_, PySem.W.mg_of X G z19⟩, ⟨_, PySem.W.mg_of X G z20⟩, ⟨_, PySem.W.mg_of X G z21⟩, ⟨_, PySem.W.mg_of X G z22⟩⟩
  have Z : TermZ K mg ⟨A_T, A_X, A_fi, A_fl, A_pn, A_gn, A_pb, A_gb⟩ := termZ (PySem.W.mg_of X G nT) (PySem.W.mg_of X G nX) xI xL xP xG xM xB tB tK tC tX
  have Y : TermY K ⟨A_T, A_X, A_fi, A_fl, A_pn, A_gn, A_pb, A_gb⟩ ⟨A_p_text, A_f_text, A_p_symbols, A_f_symbols, A_p_unknown, A_f_unknown, A_p_lost, A_f_lost, A_p_is_ground, A_f_is_ground, A_p_depth, A_f_depth, A_f_children, A_f_part, A_f_above, A_f_check, A_f_item, A_f_in, A_f_eq, A_f_str⟩ := termY ya_text yr_text ya_symbols yr_symbols ya_unknown yr_unknown ya_lost yr_lost ya_is_ground yr_is_ground ya_depth yr_depth ya_children ya_part ya_above ya_check ya_item ya_in ya_eq ya_str yT
  have F_T_init := fun_mk (st := s_T_init) l_T_init c_T_init k_T_init
  have B_T_init : Binds K _ P_T_init [] := F_T_init.binds fun _ _ _ _ _ _ us hl => match us, hl with | [_, _], _ => rfl
  have F_T_len := fun_mk (st := s_T_len) l_T_len c_T_len k_T_len
  have B_T_len : Binds K _ P_T_len [] := F_T_len.binds fun _ _ _ _ _ _ us hl => match us, hl with | [_], _ => rfl
  have F_T_nodes := fun_mk (st := s_T_nodes) l_T_nodes c_T_nodes k_T_nodes
  have B_T_nodes : Binds K _ P_T_nodes [] := F_T_nodes.binds fun _ _ _ _ _ _ us hl => match us, hl with | [_], _ => rfl
  have F_T_build := fun_mk (st := s_T_build) l_T_build c_T_build k_T_build
  have F_T_text := fun_mk (st := s_T_text) l_T_text c_T_text k_T_text
  have B_T_text : Binds K _ P_T_text [] := F_T_text.binds fun _ _ _ _ _ _ us hl => match us, hl with | [_], _ => rfl
  have F_T_symbols := fun_mk (st := s_T_symbols) l_T_symbols c_T_symbols k_T_symbols
  have B_T_symbols : Binds K _ P_T_symbols [] := F_T_symbols.binds fun _ _ _ _ _ _ us hl => match us, hl with | [_], _ => rfl
  have F_T_unknown := fun_mk (st := s_T_unknown) l_T_unknown c_T_unknown k_T_unknown
  have B_T_unknown : Binds K _ P_T_unknown [] := F_T_unknown.binds fun _ _ _ _ _ _ us hl => match us, hl with | [_], _ => rfl
  have F_T_lost := fun_mk (st := s_T_lost) l_T_lost c_T_lost k_T_lost
  have B_T_lost : Binds K _ P_T_lost [] := F_T_lost.binds fun _ _ _ _ _ _ us hl => match us, hl with | [_], _ => rfl
  have F_T_is_ground := fun_mk (st := s_T_is_ground) l_T_is_ground c_T_is_ground k_T_is_ground
  have B_T_is_ground : Binds K _ P_T_is_ground [] := F_T_is_ground.binds fun _ _ _ _ _ _ us hl => match us, hl with | [_], _ => rfl
  have F_T_depth := fun_mk (st := s_T_depth) l_T_depth c_T_depth k_T_depth
  have B_T_depth : Binds K _ P_T_depth [] := F_T_depth.binds fun _ _ _ _ _ _ us hl => match us, hl with | [_], _ => rfl
  have F_T_children := fun_mk (st := s_T_children) l_T_children c_T_children k_T_children
  have B_T_children : Binds K _ P_T_children [] := F_T_children.binds fun _ _ _ _ _ _ us hl => match us, hl with | [_, _], _ => rfl
  have F_T_part := fun_mk (st := s_T_part) l_T_part c_T_part k_T_part
  have B_T_part : Binds K _ P_T_part [] := F_T_part.binds fun _ _ _ _ _ _ us hl => match us, hl with | [_, _], _ => rfl
  have F_T_above := fun_mk (st := s_T_above) l_T_above c_T_above k_T_above
  have B_T_above : Binds K _ P_T_above [] := F_T_above.binds fun _ _ _ _ _ _ us hl => match us, hl with | [_, _], _ => rfl
  have F_T_check := fun_mk (st := s_T_check) l_T_check c_T_check k_T_check
  have B_T_check : Binds K _ P_T_check [] := F_T_check.binds fun _ _ _ _ _ _ us hl => match us, hl with | [_, _], _ => rfl
  have F_T_item := fun_mk (st := s_T_item) l_T_item c_T_item k_T_item
  have B_T_item : Binds K _ P_T_item [] := F_T_item.binds fun _ _ _ _ _ _ us hl => match us, hl with | [_, _], _ => rfl
  have F_T_in := fun_mk (st := s_T_in) l_T_in c_T_in k_T_in
  have B_T_in : Binds K _ P_T_in [] := F_T_in.binds fun _ _ _ _ _ _ us hl => match us, hl with | [_, _], _ => rfl
  have F_T_eq := fun_mk (st := s_T_eq) l_T_eq c_T_eq k_T_eq
  have B_T_eq : Binds K _ P_T_eq [] := F_T_eq.binds fun _ _ _ _ _ _ us hl => match us, hl with | [_, _], _ => rfl
  have F_T_str := fun_mk (st := s_T_str) l_T_str c_T_str k_T_str
  have B_T_str : Binds K _ P_T_str [] := F_T_str.binds fun _ _ _ _ _ _ us hl => match us, hl with | [_], _ => rfl
  have F_is_integer := fun_mk (st := s_is_integer) l0 c0 k0
  have C_is_integer : Cal K mg "is_integer" f_is_integer _ P_is_integer := ⟨PySem.W.mg_of X G a0, k0, F_is_integer.binds fun _ _ _ _ _ _ us hl => match us, hl with | [_], _ => rfl⟩
  have F_is_index := fun_mk (st := s_is_index) l1 c1 k1
  have C_is_index : Cal K mg "is_index" f_is_index _ P_is_index := ⟨PySem.W.mg_of X G a1, k1, F_is_index.binds fun _ _ _ _ _ _ us hl => match us, hl with | [_, _], _ => rfl⟩
  have F_is_word := fun_mk (st := s_is_word) l2 c2 k2
  have C_is_word : Cal K mg "is_word" f_is_word _ P_is_word := ⟨PySem.W.mg_of X G a2, k2, F_is_word.binds fun _ _ _ _ _ _ us hl => match us, hl with | [_], _ => rfl⟩
  have F_is_arity := fun_mk (st := s_is_arity) l3 c3 k3
  have C_is_arity : Cal K mg "is_arity" f_is_arity _ P_is_arity := ⟨PySem.W.mg_of X G a3, k3, F_is_arity.binds fun _ _ _ _ _ _ us hl => match us, hl with | [_], _ => rfl⟩
  have F_is_leaf := fun_mk (st := s_is_leaf) l4 c4 k4
  have C_is_leaf : Cal K mg "is_leaf" f_is_leaf _ P_is_leaf := ⟨PySem.W.mg_of X G a4, k4, F_is_leaf.binds fun _ _ _ _ _ _ us hl => match us, hl with | [_], _ => rfl⟩
  have F_is_node := fun_mk (st := s_is_node) l5 c5 k5
  have C_is_node : Cal K mg "is_node" f_is_node _ P_is_node := ⟨PySem.W.mg_of X G a5, k5, F_is_node.binds fun _ _ _ _ _ _ us hl => match us, hl with | [_], _ => rfl⟩
  have F_makes_one_tree := fun_mk (st := s_makes_one_tree) l6 c6 k6
  have C_makes_one_tree : Cal K mg "makes_one_tree" f_makes_one_tree _ P_makes_one_tree := ⟨PySem.W.mg_of X G a6, k6, F_makes_one_tree.binds fun _ _ _ _ _ _ us hl => match us, hl with | [_], _ => rfl⟩
  have F_is_tree := fun_mk (st := s_is_tree) l7 c7 k7
  have C_is_tree : Cal K mg "is_tree" f_is_tree _ P_is_tree := ⟨PySem.W.mg_of X G a7, k7, F_is_tree.binds fun _ _ _ _ _ _ us hl => match us, hl with | [_], _ => rfl⟩
  have F_part_end := fun_mk (st := s_part_end) l8 c8 k8
  have C_part_end : Cal K mg "part_end" f_part_end _ P_part_end := ⟨PySem.W.mg_of X G a8, k8, F_part_end.binds fun _ _ _ _ _ _ us hl => match us, hl with | [_, _], _ => rfl⟩
  have F_part_at := fun_mk (st := s_part_at) l9 c9 k9
  have C_part_at : Cal K mg "part_at" f_part_at _ P_part_at := ⟨PySem.W.mg_of X G a9, k9, F_part_at.binds fun _ _ _ _ _ _ us hl => match us, hl with | [_, _], _ => rfl⟩
  have F_arguments_at := fun_mk (st := s_arguments_at) l10 c10 k10
  have C_arguments_at : Cal K mg "arguments_at" f_arguments_at _ P_arguments_at := ⟨PySem.W.mg_of X G a10, k10, F_arguments_at.binds fun _ _ _ _ _ _ us hl => match us, hl with | [_, _], _ => rfl⟩
  have F_places_above := fun_mk (st := s_places_above) l11 c11 k11
  have C_places_above : Cal K mg "places_above" f_places_above _ P_places_above := ⟨PySem.W.mg_of X G a11, k11, F_places_above.binds fun _ _ _ _ _ _ us hl => match us, hl with | [_, _], _ => rfl⟩
  have F_places_of := fun_mk (st := s_places_of) l12 c12 k12
  have C_places_of : Cal K mg "places_of" f_places_of _ P_places_of := ⟨PySem.W.mg_of X G a12, k12, F_places_of.binds fun _ _ _ _ _ _ us hl => match us, hl with | [_, _], _ => rfl⟩
  have F_height_of := fun_mk (st := s_height_of) l13 c13 k13
  have C_height_of : Cal K mg "height_of" f_height_of _ P_height_of := ⟨PySem.W.mg_of X G a13, k13, F_height_of.binds fun _ _ _ _ _ _ us hl => match us, hl with | [_], _ => rfl⟩
  have F_symbols_in := fun_mk (st := s_symbols_in) l14 c14 k14
  have C_symbols_in : Cal K mg "symbols_in" f_symbols_in _ P_symbols_in := ⟨PySem.W.mg_of X G a14, k14, F_symbols_in.binds fun _ _ _ _ _ _ us hl => match us, hl with | [_], _ => rfl⟩
  have F_text_of := fun_mk (st := s_text_of) l15 c15 k15
  have C_text_of : Cal K mg "text_of" f_text_of _ P_text_of := ⟨PySem.W.mg_of X G a15, k15, F_text_of.binds fun _ _ _ _ _ _ us hl => match us, hl with | [_], _ => rfl⟩
  have F__law_dice := fun_mk (st := s__law_dice) l16 c16 k16
  have C__law_dice : Cal K mg "_law_dice" f__law_dice _ P__law_dice := ⟨PySem.W.mg_of X G a16, k16, F__law_dice.binds fun _ _ _ _ _ _ us hl => match us, hl with | [_, _], _ => rfl⟩
  have F__law_roll := fun_mk (st := s__law_roll) l17 c17 k17
  have C__law_roll : Cal K mg "_law_roll" f__law_roll _ P__law_roll := ⟨PySem.W.mg_of X G a17, k17, F__law_roll.binds fun _ _ _ _ _ _ us hl => match us, hl with | [_, _], _ => rfl⟩
  have F__law_pick := fun_mk (st := s__law_pick) l18 c18 k18
  have C__law_pick : Cal K mg "_law_pick" f__law_pick _ P__law_pick := ⟨PySem.W.mg_of X G a18, k18, F__law_pick.binds fun _ _ _ _ _ _ us hl => match us, hl with | [_, _], _ => rfl⟩
  have F__law_nodes := fun_mk (st := s__law_nodes) l19 c19 k19
  have C__law_nodes : Cal K mg "_law_nodes" f__law_nodes _ P__law_nodes := ⟨PySem.W.mg_of X G a19, k19, F__law_nodes.binds fun _ _ _ _ _ _ us hl => match us, hl with | [_], _ => rfl⟩
  have F__law_made_term := fun_mk (st := s__law_made_term) l20 c20 k20
  have C__law_made_term : Cal K mg "_law_made_term" f__law_made_term _ P__law_made_term := ⟨PySem.W.mg_of X G a20, k20, F__law_made_term.binds fun _ _ _ _ _ _ us hl => match us, hl with | [_], _ => rfl⟩
  have F__law_term := fun_mk (st := s__law_term) l21 c21 k21
  have C__law_term : Cal K mg "_law_term" f__law_term _ P__law_term := ⟨PySem.W.mg_of X G a21, k21, F__law_term.binds fun _ _ _ _ _ _ us hl => match us, hl with | [_, _, _, _], _ => rfl⟩
  have F__law_small_term := fun_mk (st := s__law_small_term) l22 c22 k22
  have C__law_small_term : Cal K mg "_law_small_term" f__law_small_term _ P__law_small_term := ⟨PySem.W.mg_of X G a22, k22, F__law_small_term.binds fun _ _ _ _ _ _ us hl => match us, hl with | [_, _, _, _, _], _ => rfl⟩
  have F__law_drawn_term := fun_mk (st := s__law_drawn_term) l23 c23 k23
  have C__law_drawn_term : Cal K mg "_law_drawn_term" f__law_drawn_term _ P__law_drawn_term := ⟨PySem.W.mg_of X G a23, k23, F__law_drawn_term.binds fun _ _ _ _ _ _ us hl => match us, hl with | [_, _], _ => rfl⟩
  have F__law_text := fun_mk (st := s__law_text) l24 c24 k24
  have C__law_text : Cal K mg "_law_text" f__law_text _ P__law_text := ⟨PySem.W.mg_of X G a24, k24, F__law_text.binds fun _ _ _ _ _ _ us hl => match us, hl with | [_], _ => rfl⟩
  have F__law_parts := fun_mk (st := s__law_parts) l25 c25 k25
  have C__law_parts : Cal K mg "_law_parts" f__law_parts _ P__law_parts := ⟨PySem.W.mg_of X G a25, k25, F__law_parts.binds fun _ _ _ _ _ _ us hl => match us, hl with | [_], _ => rfl⟩
  have F__law_leaves := fun_mk (st := s__law_leaves) l26 c26 k26
  have C__law_leaves : Cal K mg "_law_leaves" f__law_leaves _ P__law_leaves := ⟨PySem.W.mg_of X G a26, k26, F__law_leaves.binds fun _ _ _ _ _ _ us hl => match us, hl with | [_, _], _ => rfl⟩
  have F__law_deep := fun_mk (st := s__law_deep) l27 c27 k27
  have C__law_deep : Cal K mg "_law_deep" f__law_deep _ P__law_deep := ⟨PySem.W.mg_of X G a27, k27, F__law_deep.binds fun _ _ _ _ _ _ us hl => match us, hl with | [_], _ => rfl⟩
  have F__law_below := fun_mk (st := s__law_below) l28 c28 k28
  have C__law_below : Cal K mg "_law_below" f__law_below _ P__law_below := ⟨PySem.W.mg_of X G a28, k28, F__law_below.binds fun _ _ _ _ _ _ us hl => match us, hl with | [_, _], _ => rfl⟩
  have F__law_told_right := fun_mk (st := s__law_told_right) l29 c29 k29
  have C__law_told_right : Cal K mg "_law_told_right" f__law_told_right _ P__law_told_right := ⟨PySem.W.mg_of X G a29, k29, F__law_told_right.binds fun _ _ _ _ _ _ us hl => match us, hl with | [_, _], _ => rfl⟩
  have F__law_right := fun_mk (st := s__law_right) l30 c30 k30
  have C__law_right : Cal K mg "_law_right" f__law_right _ P__law_right := ⟨PySem.W.mg_of X G a30, k30, F__law_right.binds fun _ _ _ _ _ _ us hl => match us, hl with | [_], _ => rfl⟩
  have F_law := fun_mk (st := s_law) l31 c31 k31
  refine ⟨PySem.W.fnOf "law" "law" (defArgs s_law) (defBody s_law) (defScope s_law) .none kV31 dc31 pm31 an31 cd31 ct31, fun s v => .of_eq rfl, fun base _ _ => ?_⟩
  have G_is_integer := ok_is_integer (P := l.prog) (w := w) (base := base) F_is_integer T Z Y
  have G_is_word := ok_is_word (P := l.prog) (w := w) (base := base) F_is_word T Z Y
  have G_is_arity := ok_is_arity (P := l.prog) (w := w) (base := base) F_is_arity T Z Y G_is_integer C_is_integer
  have G_is_leaf := ok_is_leaf (P := l.prog) (w := w) (base := base) F_is_leaf T Z Y
  have G_is_node := ok_is_node (P := l.prog) (w := w) (base := base) F_is_node T Z Y G_is_word C_is_word G_is_arity C_is_arity G_is_leaf C_is_leaf
  have G_makes_one_tree := ok_makes_one_tree (P := l.prog) (w := w) (base := base) F_makes_one_tree T Z Y
  have G_is_tree := ok_is_tree (P := l.prog) (w := w) (base := base) F_is_tree T Z Y G_is_node C_is_node G_makes_one_tree C_makes_one_tree
  have G_part_end := ok_part_end (P := l.prog) (w := w) (base := base) F_part_end T Z Y
  have G_part_at := ok_part_at (P := l.prog) (w := w) (base := base) F_part_at T Z Y G_part_end C_part_end
  have G_symbols_in := ok_symbols_in (P := l.prog) (w := w) (base := base) F_symbols_in T Z Y G_is_leaf C_is_leaf
  have G_T_init := ok_T_init (P := l.prog) (w := w) (base := base) F_T_init T Z Y G_is_tree C_is_tree G_symbols_in C_symbols_in
  have G_T_len := ok_T_len (P := l.prog) (w := w) (base := base) F_T_len T Z Y
  have G_T_nodes := ok_T_nodes (P := l.prog) (w := w) (base := base) F_T_nodes T Z Y
  have G_T_build := ok_T_build (P := l.prog) (w := w) (base := base) F_T_build T Z G_T_init B_T_init G_T_nodes B_T_nodes
  have G__law_dice := ok__law_dice (P := l.prog) (w := w) (base := base) F__law_dice T Z Y
  have G__law_roll := ok__law_roll (P := l.prog) (w := w) (base := base) F__law_roll T Z Y
  have G__law_pick := ok__law_pick (P := l.prog) (w := w) (base := base) F__law_pick T Z Y G__law_roll C__law_roll
  have G_text_of := ok_text_of (P := l.prog) (w := w) (base := base) F_text_of T Z Y
  have G_arguments_at := ok_arguments_at (P := l.prog) (w := w) (base := base) F_arguments_at T Z Y G_part_end C_part_end
  have G_places_above := ok_places_above (P := l.prog) (w := w) (base := base) F_places_above T Z Y G_part_end C_part_end
  have G_places_of := ok_places_of (P := l.prog) (w := w) (base := base) F_places_of T Z Y
  have G_height_of := ok_height_of (P := l.prog) (w := w) (base := base) F_height_of T Z Y
  have G_is_index := ok_is_index (P := l.prog) (w := w) (base := base) F_is_index T Z Y G_is_integer C_is_integer
  have G_T_text := ok_T_text (P := l.prog) (w := w) (base := base) F_T_text T Z Y G_text_of C_text_of
  have G_T_symbols := ok_T_symbols (P := l.prog) (w := w) (base := base) F_T_symbols T Z Y G_symbols_in C_symbols_in
  have G_T_unknown := ok_T_unknown (P := l.prog) (w := w) (base := base) F_T_unknown T Z Y G_places_of C_places_of
  have G_T_lost := ok_T_lost (P := l.prog) (w := w) (base := base) F_T_lost T Z Y G_places_of C_places_of
  have G_T_is_ground := ok_T_is_ground (P := l.prog) (w := w) (base := base) F_T_is_ground T Z Y G_is_leaf C_is_leaf
  have G_T_depth := ok_T_depth (P := l.prog) (w := w) (base := base) F_T_depth T Z Y G_height_of C_height_of
  have G_T_check := ok_T_check (P := l.prog) (w := w) (base := base) F_T_check T Z Y G_is_index C_is_index
  have G_T_children := ok_T_children (P := l.prog) (w := w) (base := base) F_T_children T Z Y G_T_check B_T_check G_arguments_at C_arguments_at
  have G_T_part := ok_T_part (P := l.prog) (w := w) (base := base) F_T_part T Z Y G_T_check B_T_check G_part_at C_part_at G_T_init B_T_init
  have G_T_above := ok_T_above (P := l.prog) (w := w) (base := base) F_T_above T Z Y G_T_check B_T_check G_places_above C_places_above
  have G_T_item := ok_T_item (P := l.prog) (w := w) (base := base) F_T_item T Z Y G_T_check B_T_check
  have G_T_in := ok_T_in (P := l.prog) (w := w) (base := base) F_T_in T Z Y (FnOk.or G_is_node (ok_is_nodeT (P := l.prog) (w := w) (base := base) F_is_node T Z Y G_is_word C_is_word G_is_arity C_is_arity G_is_leaf C_is_leaf)) C_is_node
  have G_T_eq := ok_T_eq (P := l.prog) (w := w) (base := base) F_T_eq T Z Y
  have G_T_str := ok_T_str (P := l.prog) (w := w) (base := base) F_T_str T Z Y G_T_text B_T_text
  have G__law_nodes := fn_depth5 (ok__law_nodes (P := l.prog) (w := w) (base := base) F__law_nodes T Z Y C__law_nodes (by rintro _ _ _ _ ⟨_, _, _, _, h, _⟩; first | exact h | exact absurd h (by decide)))
  have G__law_made_term := ok__law_made_term (P := l.prog) (w := w) (base := base) F__law_made_term T Z Y G__law_nodes C__law_nodes G_T_init B_T_init
  have G__law_term := fn_depth5 (ok__law_term (P := l.prog) (w := w) (base := base) F__law_term T Z Y C__law_term G__law_roll C__law_roll G__law_pick C__law_pick (by rintro _ _ _ _ ⟨_, _, _, _, h, _⟩; first | exact h | exact absurd h (by decide)))
  have G__law_small_term := ok__law_small_term (P := l.prog) (w := w) (base := base) F__law_small_term T Z Y G__law_term C__law_term G__law_nodes C__law_nodes G__law_pick C__law_pick
  have G__law_drawn_term := ok__law_drawn_term (P := l.prog) (w := w) (base := base) F__law_drawn_term T Z Y G__law_small_term C__law_small_term
  have G__law_text := fn_depth5 (ok__law_text (P := l.prog) (w := w) (base := base) F__law_text T Z Y C__law_text (by rintro _ _ _ _ ⟨_, _, _, _, h, _⟩; first | exact h | exact absurd h (by decide)))
  have G__law_parts := fn_depth5 (ok__law_parts (P := l.prog) (w := w) (base := base) F__law_parts T Z Y C__law_parts (by rintro _ _ _ _ ⟨_, _, _, _, h, _⟩; first | exact h | exact absurd h (by decide)))
  have G__law_deep := fn_depth5 (ok__law_deep (P := l.prog) (w := w) (base := base) F__law_deep T Z Y C__law_deep (by rintro _ _ _ _ ⟨_, _, _, _, h, _⟩; first | exact h | exact absurd h (by decide)))
  have G__law_leaves := ok__law_leaves (P := l.prog) (w := w) (base := base) F__law_leaves T Z Y G__law_nodes C__law_nodes
  have G__law_below := ok__law_below (P := l.prog) (w := w) (base := base) F__law_below T Z Y G__law_parts C__law_parts
  have G__law_told_right := ok__law_told_right (P := l.prog) (w := w) (base := base) F__law_told_right T Z Y G__law_parts C__law_parts G__law_nodes C__law_nodes G__law_text C__law_text G__law_deep C__law_deep G__law_leaves C__law_leaves G__law_below C__law_below G_T_nodes B_T_nodes G_T_text B_T_text G_T_str B_T_str G_T_len B_T_len G_T_depth B_T_depth G_T_symbols B_T_symbols G_T_unknown B_T_unknown G_T_lost B_T_lost G_T_is_ground B_T_is_ground G_T_item B_T_item G_T_children B_T_children G_T_part B_T_part G_T_above B_T_above G_T_in B_T_in
  have G__law_right := ok__law_right (P := l.prog) (w := w) (base := base) F__law_right T Z Y G__law_drawn_term C__law_drawn_term G__law_made_term C__law_made_term G__law_told_right C__law_told_right G__law_nodes C__law_nodes G__law_text C__law_text G_T_init B_T_init G_T_eq B_T_eq G_T_symbols B_T_symbols G_T_nodes B_T_nodes
  exact ok_law F_law T Z Y G__law_dice C__law_dice G__law_right C__law_right G_T_build G_T_text B_T_text G_T_children B_T_children G_T_unknown B_T_unknown G_T_part B_T_part G_T_above B_T_above G_T_depth B_T_depth
theorem walk {l : PySem.W.OpenLaw} {q : Program} {loose : List Str} {XP : (Str → Option Value) → Heap → Prop} {YP : World → Heap → Prop} {d : DefRec} {K : Params → PySem.W.Frag} (hn : l.most = some 63) (hdf : d.params.defaults = [])
    (hY : ∀ (w : World) (h : Heap), YP w h → (K w.params).In h)
    (F : ∀ (w : World) (mg : Str → Option Value) (fa : Addr) (h : Heap), (K w.params).In h → h.Ns mainGlobals mg → mg d.name = some (.ref fa) →
      ∃ fd : FuncData, (∀ (s : Shared) (u : Value), BindsTo s fd ⟨[u], []⟩ [("_law_script", u)]) ∧ ∀ base : Heap, (K w.params).In base → base.Ns mainGlobals mg → FnG l.prog w (K w.params) mg base CX0 11 fa fd ["_law_script"] (spLaw (K w.params))) :
    PySem.W.WalkO q loose XP YP l.row.toRowW d [] (fun f vs => PySem.call f vs) :=
  walkG (n := 63) (k := 11) (x := "_law_script") (sp := fun w => spLaw (K w.params)) hn (by decide) hdf ⟨rfl, by decide, by decide⟩ hY F (fun _ _ a ns hl hO hS => ⟨a, ns, rfl, scr_of hO hS, hl, fun _ => rfl⟩)
end K05
open PySem PySem.W PyProof.Rows
set_option maxRecDepth 100000 in
set_option maxHeartbeats 0 in
theorem PySem.Challenge.cw_firstneed_k05_terms_told_holds : PySem.Challenge.rw_firstneed_k05_terms_told.Holds := by
  w_on; o_law; k_head; (case hw => w_witness2)
  k_fill
  refine K05.walk (l := PySem.Challenge.rw_firstneed_k05_terms_told) rfl rfl (fun w h Y => PySem.W.kIn_of Y) ?F
  case F =>
    intro w mg fa h KX G hmg
    refine' K05.all_mk KX G hmg ?a0 ?l0 ?c0 ?k0 ?a1 ?l1 ?c1 ?k1 ?a2 ?l2 ?c2 ?k2 ?a3 ?l3 ?c3 ?k3 ?a4 ?l4 ?c4 ?k4 ?a5 ?l5 ?c5 ?k5 ?a6 ?l6 ?c6 ?k6 ?a7 ?l7 ?c7 ?k7 ?a8 ?l8 ?c8 ?k8 ?a9 ?l9 ?c9 ?k9 ?a10 ?l10 ?c10 ?k10 ?a11 ?l11 ?c11 ?k11 ?a12 ?l12 ?c12 ?k12 ?a13 ?l13 ?c13 ?k13 ?a14 ?l14 ?c14 ?k14 ?a15 ?l15 ?c15 ?k15 ?a16 ?l16 ?c16 ?k16 ?a17 ?l17 ?c17 ?k17 ?a18 ?l18 ?c18 ?k18 ?a19 ?l19 ?c19 ?k19 ?a20 ?l20 ?c20 ?k20 ?a21 ?l21 ?c21 ?k21 ?a22 ?l22 ?c22 ?k22 ?a23 ?l23 ?c23 ?k23 ?a24 ?l24 ?c24 ?k24 ?a25 ?l25 ?c25 ?k25 ?a26 ?l26 ?c26 ?k26 ?a27 ?l27 ?c27 ?k27 ?a28 ?l28 ?c28 ?k28 ?a29 ?l29 ?c29 ?k29 ?a30 ?l30 ?c30 ?k30 ?a31 ?l31 ?c31 ?k31 ?nT ?nX ?xI ?xL ?xP ?xG ?xM ?xB ?ya_text ?yr_text ?ya_symbols ?yr_symbols ?ya_unknown ?yr_unknown ?ya_lost ?yr_lost ?ya_is_ground ?yr_is_ground ?ya_depth ?yr_depth ?ya_children ?ya_part ?ya_above ?ya_check ?ya_item ?ya_in ?ya_eq ?ya_str ?l_T_init ?c_T_init ?k_T_init ?l_T_len ?c_T_len ?k_T_len ?l_T_nodes ?c_T_nodes ?k_T_nodes ?l_T_build ?c_T_build ?k_T_build ?l_T_text ?c_T_text ?k_T_text ?l_T_symbols ?c_T_symbols ?k_T_symbols ?l_T_unknown ?c_T_unknown ?k_T_unknown ?l_T_lost ?c_T_lost ?k_T_lost ?l_T_is_ground ?c_T_is_ground ?k_T_is_ground ?l_T_depth ?c_T_depth ?k_T_depth ?l_T_children ?c_T_children ?k_T_children ?l_T_part ?c_T_part ?k_T_part ?l_T_above ?c_T_above ?k_T_above ?l_T_check ?c_T_check ?k_T_check ?l_T_item ?c_T_item ?k_T_item ?l_T_in ?c_T_in ?k_T_in ?l_T_eq ?c_T_eq ?k_T_eq ?l_T_str ?c_T_str ?k_T_str ?tB ?tK ?tC ?tX ?yT ?z0 ?z1 ?z2 ?z3 ?z4 ?z5 ?z6 ?z7 ?z8 ?z9 ?z10 ?z11 ?z12 ?z13 ?z14 ?z15 ?z16 ?z17 ?z18 ?z19 ?z20 ?z21 ?z22
    (case a0 => k_is)
    (case l0 => k_is)
    (case c0 => k_is)
    (case k0 => k_is)
    (case a1 => k_is)
    (case l1 => k_is)
    (case c1 => k_is)
    (case k1 => k_is)
    (case a2 => k_is)
    (case l2 => k_is)
    (case c2 => k_is)
    (case k2 => k_is)
    (case a3 => k_is)
    (case l3 => k_is)
    (case c3 => k_is)
    (case k3 => k_is)
    (case a4 => k_is)
    (case l4 => k_is)
    (case c4 => k_is)
    (case k4 => k_is)
    (case a5 => k_is)
    (case l5 => k_is)
    (case c5 => k_is)
    (case k5 => k_is)
    (case a6 => k_is)
    (case l6 => k_is)
    (case c6 => k_is)
    (case k6 => k_is)
    (case a7 => k_is)
    (case l7 => k_is)
    (case c7 => k_is)
    (case k7 => k_is)
    (case a8 => k_is)
    (case l8 => k_is)
    (case c8 => k_is)
    (case k8 => k_is)
    (case a9 => k_is)
    (case l9 => k_is)
    (case c9 => k_is)
    (case k9 => k_is)
    (case a10 => k_is)
    (case l10 => k_is)
    (case c10 => k_is)
    (case k10 => k_is)
    (case a11 => k_is)
    (case l11 => k_is)
    (case c11 => k_is)
    (case k11 => k_is)
    (case a12 => k_is)
    (case l12 => k_is)
    (case c12 => k_is)
    (case k12 => k_is)
    (case a13 => k_is)
    (case l13 => k_is)
    (case c13 => k_is)
    (case k13 => k_is)
    (case a14 => k_is)
    (case l14 => k_is)
    (case c14 => k_is)
    (case k14 => k_is)
    (case a15 => k_is)
    (case l15 => k_is)
    (case c15 => k_is)
    (case k15 => k_is)
    (case a16 => k_is)
    (case l16 => k_is)
    (case c16 => k_is)
    (case k16 => k_is)
    (case a17 => k_is)
    (case l17 => k_is)
    (case c17 => k_is)
    (case k17 => k_is)
    (case a18 => k_is)
    (case l18 => k_is)
    (case c18 => k_is)
    (case k18 => k_is)
    (case a19 => k_is)
    (case l19 => k_is)
    (case c19 => k_is)
    (case k19 => k_is)
    (case a20 => k_is)
    (case l20 => k_is)
    (case c20 => k_is)
    (case k20 => k_is)
    (case a21 => k_is)
    (case l21 => k_is)
    (case c21 => k_is)
    (case k21 => k_is)
    (case a22 => k_is)
    (case l22 => k_is)
    (case c22 => k_is)
    (case k22 => k_is)
    (case a23 => k_is)
    (case l23 => k_is)
    (case c23 => k_is)
    (case k23 => k_is)
    (case a24 => k_is)
    (case l24 => k_is)
    (case c24 => k_is)
    (case k24 => k_is)
    (case a25 => k_is)
    (case l25 => k_is)
    (case c25 => k_is)
    (case k25 => k_is)
    (case a26 => k_is)
    (case l26 => k_is)
    (case c26 => k_is)
    (case k26 => k_is)
    (case a27 => k_is)
    (case l27 => k_is)
    (case c27 => k_is)
    (case k27 => k_is)
    (case a28 => k_is)
    (case l28 => k_is)
    (case c28 => k_is)
    (case k28 => k_is)
    (case a29 => k_is)
    (case l29 => k_is)
    (case c29 => k_is)
    (case k29 => k_is)
    (case a30 => k_is)
    (case l30 => k_is)
    (case c30 => k_is)
    (case k30 => k_is)
    (case a31 => k_is)
    (case l31 => k_is)
    (case c31 => k_is)
    (case k31 => k_is)
    (case nT => k_is)
    (case nX => k_is)
    (case xI => k_is)
    (case xL => k_is)
    (case xP => k_is)
    (case xG => k_is)
    (case xM => k_is)
    (case xB => k_is)
    (case ya_text => k_is)
    (case yr_text => k_is)
    (case ya_symbols => k_is)
    (case yr_symbols => k_is)
    (case ya_unknown => k_is)
    (case yr_unknown => k_is)
    (case ya_lost => k_is)
    (case yr_lost => k_is)
    (case ya_is_ground => k_is)
    (case yr_is_ground => k_is)
    (case ya_depth => k_is)
    (case yr_depth => k_is)
    (case ya_children => k_is)
    (case ya_part => k_is)
    (case ya_above => k_is)
    (case ya_check => k_is)
    (case ya_item => k_is)
    (case ya_in => k_is)
    (case ya_eq => k_is)
    (case ya_str => k_is)
    (case l_T_init => k_is)
    (case c_T_init => k_is)
    (case k_T_init => k_is)
    (case l_T_len => k_is)
    (case c_T_len => k_is)
    (case k_T_len => k_is)
    (case l_T_nodes => k_is)
    (case c_T_nodes => k_is)
    (case k_T_nodes => k_is)
    (case l_T_build => k_is)
    (case c_T_build => k_is)
    (case k_T_build => k_is)
    (case l_T_text => k_is)
    (case c_T_text => k_is)
    (case k_T_text => k_is)
    (case l_T_symbols => k_is)
    (case c_T_symbols => k_is)
    (case k_T_symbols => k_is)
    (case l_T_unknown => k_is)
    (case c_T_unknown => k_is)
    (case k_T_unknown => k_is)
    (case l_T_lost => k_is)
    (case c_T_lost => k_is)
    (case k_T_lost => k_is)
    (case l_T_is_ground => k_is)
    (case c_T_is_ground => k_is)
    (case k_T_is_ground => k_is)
    (case l_T_depth => k_is)
    (case c_T_depth => k_is)
    (case k_T_depth => k_is)
    (case l_T_children => k_is)
    (case c_T_children => k_is)
    (case k_T_children => k_is)
    (case l_T_part => k_is)
    (case c_T_part => k_is)
    (case k_T_part => k_is)
    (case l_T_above => k_is)
    (case c_T_above => k_is)
    (case k_T_above => k_is)
    (case l_T_check => k_is)
    (case c_T_check => k_is)
    (case k_T_check => k_is)
    (case l_T_item => k_is)
    (case c_T_item => k_is)
    (case k_T_item => k_is)
    (case l_T_in => k_is)
    (case c_T_in => k_is)
    (case k_T_in => k_is)
    (case l_T_eq => k_is)
    (case c_T_eq => k_is)
    (case k_T_eq => k_is)
    (case l_T_str => k_is)
    (case c_T_str => k_is)
    (case k_T_str => k_is)
    (case tB => first | kernel_rfl | k_is)
    (case tK => first | kernel_rfl | k_is)
    (case tC => first | kernel_rfl | k_is)
    (case tX => first | kernel_rfl | k_is)
    (case yT => first | kernel_rfl | k_is)
    (case z0 => k_is)
    (case z1 => k_is)
    (case z2 => k_is)
    (case z3 => k_is)
    (case z4 => k_is)
    (case z5 => k_is)
    (case z6 => k_is)
    (case z7 => k_is)
    (case z8 => k_is)
    (case z9 => k_is)
    (case z10 => k_is)
    (case z11 => k_is)
    (case z12 => k_is)
    (case z13 => k_is)
    (case z14 => k_is)
    (case z15 => k_is)
    (case z16 => k_is)
    (case z17 => k_is)
    (case z18 => k_is)
    (case z19 => k_is)
    (case z20 => k_is)
    (case z21 => k_is)
    (case z22 => k_is)
