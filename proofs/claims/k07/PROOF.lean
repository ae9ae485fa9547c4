import PyProof.Rows.All
import Wide.All
import OpenK.AllK
import Wide.FinOn
import HandS.ForMost
import HandS.IsInst
import HandS.Deep
import HandS.Walk
import HandS.TupSets
import HandS.SetBool
import HandS.SortOrd
import PyProof.Rows.SortKeyStr
import HandS.Star
import HandS.ClsMeth
import HandS.ExcOwn
import HandS.TryOnly
import HandS.WordsExc
import HandS.Property
import HandS.Small
import HandS.TupMul
import HandS.TupAny
import PySem.Challenge.RW_firstneed_k07_tuples_of_nodes_judged
set_option Elab.async false
set_option maxRecDepth 100000
/-! Rules and promises that all laws share: powers of great numbers, repr of a truth value, the dice. -/
namespace Fn
open PySem PySem.Spec PyProof.Rows L2
section
variable {X : Cx}
def CPowW (i j : Int) : Prop := 0 ≤ j ∧ (Builtin.Int.intBits i : Int) * j ≤ 2 ^ 27
theorem op_powW : OpR X (binaryOp .Pow) (rI CPowW fun i j => .int (i ^ j.toNat)) := opI fun _ _ _ _ _ _ _ hc q => pow_int hc.1 hc.2 q
theorem call_repr_b : CallR X (.builtin "repr") (fun xs H Q => ∃ b, xs = [.bl b] ∧ Q (.str (if b then "True" else "False")) H) := by
  intro pins s σ H xs us Q I r h
  obtain ⟨b, rfl, q⟩ := h
  obtain ⟨u, rfl, r1⟩ := vals1 r
  cases r1
  exact PySem.P.repr_of_bool ⟨.str _, H, I.tok _, ⟨_, rfl⟩, q⟩
end
theorem powOk {i j : Int} (h : (decide (0 ≤ j) && decide ((Builtin.Int.intBits i : Int) * j ≤ 2 ^ 27)) = true) : CPowW i j := by
  rw [Bool.and_eq_true] at h
  exact ⟨of_decide_eq_true h.1, of_decide_eq_true h.2⟩
theorem modc {j : Int} (h : 0 < j) : 0 < j := h
theorem szr {α : Type} {xs : List α} (h : Nat.ble xs.length 100000 = true) : xs.length ≤ sizeLine := Nat.le_trans (Nat.le_of_ble_eq_true h) (by decide)
theorem szl {α : Type} {xs : List α} (h : xs.length ≤ 100000) : xs.length ≤ sizeLine := Nat.le_trans h (by decide)
theorem szlt {n : Nat} (h : n ≤ 100000) : n < sizeLine := Nat.lt_of_le_of_lt h (by decide)
theorem script_at {ns : List Int} {k : Int} (h0 : 0 ≤ k) (h : k < (ns.length : Int)) : ∃ c : Int, atI (ns.map V.int) k = some (.int c) := by
  have hlt : k.toNat < ns.length := by omega
  have ek : ((k.toNat : Nat) : Int) = k := by omega
  have g : atI (ns.map V.int) ((k.toNat : Nat) : Int) = some (.int ns[k.toNat]) := atI_nat (by rw [List.getElem?_map, List.getElem?_eq_getElem hlt] <;> rfl)
  rw [ek] at g
  exact ⟨_, g⟩
/-! ### places in the text: the scope of a comprehension -/
def kidsE : Expr → List Expr
  | .BoolOp _ vs _ => vs
  | .BinOp a _ b _ => [a, b]
  | .UnaryOp _ a _ => [a]
  | .IfExp t a b _ => [t, a, b]
  | .ListComp e gs _ _ => e :: gs.flatMap fun c => c.iter :: c.ifs
  | .Compare l _ cs _ => l :: cs
  | .Call f xs _ _ => f :: xs
  | .Attribute v _ _ => [v]
  | .Subscript a b _ => [a, b]
  | .List es _ => es
  | .Tuple es _ _ => es
  | _ => []
def goE (e : Expr) (path : List Nat) : Expr := path.foldl (fun e i => (kidsE e).getD i e) e
def stE : Stmt → Expr
  | .Return (some e) _ => e
  | .Assign _ e _ => e
  | .AugAssign _ _ e _ => e
  | .For _ e _ _ _ => e
  | .While e _ _ _ => e
  | .If e _ _ _ => e
  | .Expr e _ => e
  | _ => .Name "" ⟨0, 0, 0, 0⟩
def stB : Stmt → List Stmt
  | .For _ _ a b _ => a ++ b
  | .While _ a b _ => a ++ b
  | .If _ a b _ => a ++ b
  | _ => []
def goS (body : List Stmt) (path : List Nat) : Stmt := match path with
  | [] => .Pass ⟨0, 0, 0, 0⟩
  | i :: r => r.foldl (fun s j => (stB s).getD j s) (body.getD i (.Pass ⟨0, 0, 0, 0⟩))
def lcSc : Expr → Scope
  | .ListComp _ _ sc _ => sc
  | _ => { kind := .function, names := [], isGenerator := false, isCoroutine := false }
theorem mulL {i j : Int} (h : -(2 ^ 64) < i ∧ i < 2 ^ 64) : CMul i j := Or.inl h
theorem mulR {i j : Int} (h : -(2 ^ 64) < j ∧ j < 2 ^ 64) : CMul i j := Or.inr h
/-- a def as a callee: its name, its object, how its arguments bind -/
structure Cal (K : PySem.W.Frag) (mg : Str → Option Value) (x : Str) (f : Addr) (fd : FuncData) (ps : List Str) : Prop where
  m : mg x = some (.ref f)
  k : PySem.W.keepIn K (.ref f) = true
  b : Binds K fd ps []
/-- three ints: the dice -/
def dl (x y z : Int) : HO := .lst [.int x, .int y, .int z]
theorem sq_upd {K : PySem.W.Frag} {H : Hp} {p a : Addr} {o : HO} {xs : List V} (h : a ≠ p) (hs : H a = some (.lst xs)) : SqL K (upd H p o) a xs := SqL.of (by rw [upd_ne h]; exact hs)

/-! ### what stays: all but the contents of lists -/
def Ev2 (H H' : Hp) : Prop := ∀ (a : Addr) (o : HO), H a = some o → (∃ xs ys, o = .lst xs ∧ H' a = some (.lst ys)) ∨ H' a = some o
theorem Ev2.refl (H : Hp) : Ev2 H H := fun _ _ h => .inr h
theorem Ev2.trans {H H1 H2 : Hp} (a : Ev2 H H1) (b : Ev2 H1 H2) : Ev2 H H2 := fun x o h => by
  rcases a x o h with ⟨xs, ys, rfl, h1⟩ | h1
  · rcases b x _ h1 with ⟨_, zs, _, h2⟩ | h2
    · exact .inl ⟨_, zs, rfl, h2⟩
    · exact .inl ⟨_, ys, rfl, h2⟩
  · exact b x o h1
theorem Ev2.new {H : Hp} {p : Addr} {o : HO} (h : H p = none) : Ev2 H (upd H p o) := fun a u e => .inr (by
  rw [upd_ne (ne_of_none e h)]
  exact e)
theorem Ev2.lst {H : Hp} {p : Addr} {xs ys : List V} (h : H p = some (.lst xs)) : Ev2 H (upd H p (.lst ys)) := fun a u e => by
  by_cases q : a = p
  · subst q
    rw [h] at e
    exact .inl ⟨xs, ys, (Option.some.inj e).symm, upd_same⟩
  · exact .inr (by rw [upd_ne q]; exact e)
theorem Ev2.tup {H H' : Hp} {a : Addr} {xs : List V} (h : H a = some (.tup xs)) (e : Ev2 H H') : H' a = some (.tup xs) := by
  rcases e a _ h with ⟨_, _, q, _⟩ | q
  · cases q
  · exact q
theorem Ev2.frz {H H' : Hp} {a : Addr} {o : Obj} {u : HO} (h : H a = some (.frz o u)) (e : Ev2 H H') : H' a = some (.frz o u) := by
  rcases e a _ h with ⟨_, _, q, _⟩ | q
  · cases q
  · exact q
theorem Ev2.dK {H H' : Hp} {a : Addr} {kvs : List (Key × V)} (h : H a = some (.dK kvs)) (e : Ev2 H H') : H' a = some (.dK kvs) := by
  rcases e a _ h with ⟨_, _, q, _⟩ | q
  · cases q
  · exact q
theorem Ev2.isL {H H' : Hp} {a : Addr} {xs : List V} (h : H a = some (.lst xs)) (e : Ev2 H H') : ∃ ys, H' a = some (.lst ys) := by
  rcases e a _ h with ⟨_, ys, _, q⟩ | q
  · exact ⟨ys, q⟩
  · exact ⟨xs, q⟩
theorem Ev2.some {H H' : Hp} {a : Addr} {o : HO} (h : H a = some o) (e : Ev2 H H') : ∃ u, H' a = some u := by
  rcases e a _ h with ⟨_, ys, _, q⟩ | q
  · exact ⟨_, q⟩
  · exact ⟨_, q⟩
theorem Ev2.fresh {H H' : Hp} {a : Addr} (e : Ev2 H H') (h : H' a = none) : H a = none := by
  cases q : H a with
  | none => rfl
  | some o =>
    obtain ⟨u, z⟩ := Ev2.some q e
    rw [z] at h
    cases h
theorem ne_new {H H' : Hp} {a p : Addr} {o : HO} (h : H a = some o) (e : Ev2 H H') (hp : H' p = none) : a ≠ p := ne_of_none h (e.fresh hp)
/-- a new object: the heap behind is named -/
theorem made {H H1 : Hp} {p : Addr} {o : HO} (n : H p = none) (g : upd H p o = H1) : Ev2 H H1 ∧ (∀ b, b ≠ p → H1 b = H b) ∧ H1 p = some o := by
  subst g
  exact ⟨Ev2.new n, fun _ hb => upd_ne hb, upd_same⟩
/-- the script, in a heap that knows nothing else -/
def Scr (K : PySem.W.Frag) (H : Hp) (a : Addr) (xs : List V) : Prop := SqL K H a xs ∧ ∀ H', Ev2 H H' → SqL K H' a xs
theorem scr_of {K : PySem.W.Frag} {H : Hp} {a : Addr} {xs : List V} (hO : Only H) (h : SqL K H a xs) : Scr K H a xs := by
  refine ⟨h, fun H' e => ?_⟩
  rcases h with (h | ⟨o, h⟩) | h
  · rcases hO a with q | ⟨o, ys, q⟩
    · rw [q] at h
      cases h
    · rw [q] at h
      cases h
  · exact .inl (.inr ⟨o, Ev2.frz h e⟩)
  · exact .inr h
theorem Scr.mono {K : PySem.W.Frag} {H H' : Hp} {a : Addr} {xs : List V} (h : Scr K H a xs) (e : Ev2 H H') : Scr K H' a xs := ⟨h.2 _ e, fun _ e2 => h.2 _ (e.trans e2)⟩
/-- kinds of values that are looked at by isinstance -/
def Ty (K : PySem.W.Frag) (H : Hp) (v : V) (n : String) : Prop := match v with
  | .non => n = "NoneType" | .bl _ => n = "bool" | .int _ => n = "int" | .str _ => n = "str"
  | .ref a => (n = "list" ∧ ∃ xs, H a = some (.lst xs)) ∨ (n = "tuple" ∧ ∃ xs, H a = some (.tup xs)) ∨ (n = "dict" ∧ ∃ kvs, H a = some (.dK kvs))
  | _ => False
theorem Ty.x {K : PySem.W.Frag} {H : Hp} {v : V} {n : String} (h : Ty K H v n) : TyX K H v (.type n) := by
  cases v with
  | non => cases (show n = "NoneType" from h); exact .base .non
  | bl b => cases (show n = "bool" from h); exact .base (.bl b)
  | int i => cases (show n = "int" from h); exact .base (.int i)
  | str x => cases (show n = "str" from h); exact .base (.str x)
  | byt b => exact h.elim
  | flt b => exact h.elim
  | ty b => exact h.elim
  | ref a =>
    rcases h with ⟨rfl, xs, e⟩ | ⟨rfl, xs, e⟩ | ⟨rfl, xs, e⟩
    · exact .base (.lst e)
    · exact .base (.tup e)
    · exact .base (.dK e)
theorem Ty.mono {K : PySem.W.Frag} {H H' : Hp} {v : V} {n : String} (h : Ty K H v n) (e : Ev2 H H') : Ty K H' v n := by
  cases v with
  | ref a =>
    rcases h with ⟨rfl, xs, q⟩ | ⟨rfl, xs, q⟩ | ⟨rfl, xs, q⟩
    · exact .inl ⟨rfl, Ev2.isL q e⟩
    · exact .inr (.inl ⟨rfl, xs, Ev2.tup q e⟩)
    · exact .inr (.inr ⟨rfl, xs, Ev2.dK q e⟩)
  | non => exact h
  | bl b => exact h
  | int i => exact h
  | str x => exact h
  | byt b => exact h
  | flt b => exact h
  | ty b => exact h
/-- the dice stand at p -/
def Dc (H : Hp) (p : Addr) : Prop := ∃ x y z : Int, H p = some (dl x y z)
/-- only what stands at p is another -/
def Only1 (H H' : Hp) (p : Addr) : Prop := ∀ b, b ≠ p → H' b = H b
theorem keepAt {H H1 : Hp} {a p : Addr} {o : HO} (t : H a = some o) (n : H p = none) (k : ∀ b, b ≠ p → H1 b = H b) : H1 a = some o := (k a (ne_of_none t n)).trans t
theorem sameOf {H H1 : Hp} {p : Addr} (n : H p = none) (k : ∀ b, b ≠ p → H1 b = H b) : Same H H1 := fun _ _ e => keepAt e n k
theorem Ev2.same {H H1 : Hp} (s : Same H H1) : Ev2 H H1 := fun a o e => .inr (s a o e)
theorem Dc.keep {H H1 : Hp} {a p : Addr} (t : Dc H a) (n : H p = none) (k : ∀ b, b ≠ p → H1 b = H b) : Dc H1 a := by
  obtain ⟨x, y, z, t⟩ := t
  exact ⟨x, y, z, keepAt t n k⟩
theorem Dc.ne {H : Hp} {a p : Addr} (t : Dc H a) (n : H p = none) : a ≠ p := by
  obtain ⟨x, y, z, t⟩ := t
  exact ne_of_none t n
/-- all but what stands at p is the same -/
def But (p : Addr) (H H' : Hp) : Prop := ∀ a o, a ≠ p → H a = some o → H' a = some o
theorem But.refl (p : Addr) (H : Hp) : But p H H := fun _ _ _ h => h
theorem But.trans {p : Addr} {H H1 H2 : Hp} (x : But p H H1) (y : But p H1 H2) : But p H H2 := fun a o n h => y a o n (x a o n h)
theorem But.of1 {p : Addr} {H H' : Hp} (k : Only1 H H' p) : But p H H' := fun a o n h => (k a n).trans h
theorem But.ofS {p : Addr} {H H' : Hp} (k : Same H H') : But p H H' := fun a o _ h => k a o h
theorem But.ev {p : Addr} {H H' : Hp} (k : But p H H') (d : Dc H p) (d' : Dc H' p) : Ev2 H H' := fun a o h => by
  by_cases e : a = p
  · subst e
    obtain ⟨x, y, z, h1⟩ := d
    obtain ⟨x', y', z', h2⟩ := d'
    rw [h1] at h
    exact .inl ⟨_, _, (Option.some.inj h).symm, h2⟩
  · exact .inr (k a o e h)
theorem But.at {p : Addr} {H H' : Hp} {a : Addr} {o : HO} (h : H a = some o) (n : a ≠ p) (k : But p H H') : H' a = some o := k a o n h
theorem Dc.same {H H' : Hp} {p : Addr} (d : Dc H p) (s : Same H H') : Dc H' p := by
  obtain ⟨x, y, z, h⟩ := d
  exact ⟨x, y, z, s _ _ h⟩
theorem Dc.neOf {H : Hp} {a p : Addr} {xs : List V} (d : Dc H p) (h : H a = some (.lst xs)) (n : ∀ x y z : Int, xs ≠ [.int x, .int y, .int z]) : a ≠ p := by
  rintro rfl
  obtain ⟨x, y, z, h1⟩ := d
  rw [h1] at h
  exact n x y z (HO.lst.inj (Option.some.inj h)).symm
def spDice (K : PySem.W.Frag) : Sp := fun vs H Q _ => ∃ (a : Addr) (ns : List Int) (k : Int), vs = [.ref a, .int k] ∧ SqL K H a (ns.map V.int) ∧ ns.length ≤ 1000 ∧ 0 ≤ k ∧ k < 1000 ∧
  ∀ (p : Addr) (H' : Hp), H p = none → Ev2 H H' → Only1 H H' p → Dc H' p → Q (.ref p) H'
def spRoll : Sp := fun vs H Q _ => ∃ (p : Addr) (n : Int), vs = [.ref p, .int n] ∧ Dc H p ∧ 0 < n ∧ n < 1000000 ∧
  ∀ (r : Int) (H' : Hp), 0 ≤ r → r < n → Ev2 H H' → Only1 H H' p → Dc H' p → Q (.int r) H'
def spPick (K : PySem.W.Frag) : Sp := fun vs H Q _ => ∃ (p a : Addr) (xs : List V), vs = [.ref p, .ref a] ∧ Dc H p ∧ SqL K H a xs ∧ (∀ H', Ev2 H H' → Only1 H H' p → SqL K H' a xs) ∧ 0 < xs.length ∧ xs.length < 1000000 ∧
  ∀ (i : Nat) (v : V) (H' : Hp), xs[i]? = some v → Ev2 H H' → Only1 H H' p → Dc H' p → Q v H'
theorem perm_erase {α : Type} : ∀ {zs : List α} {i : Nat} (h : i < zs.length), ([zs[i]] ++ zs.eraseIdx i).Perm zs
  | z :: zs, 0, _ => List.Perm.refl _
  | z :: zs, i + 1, h => by
    have h' : i < zs.length := by simpa using h
    have ih := perm_erase h'
    exact (List.Perm.swap z (zs[i]'h') _).trans (List.Perm.cons z ih)
/-- some of a list, taken without putting back -/
def spSome (K : PySem.W.Frag) : Sp := fun vs H Q _ => ∃ (p a : Addr) (xs : List V) (n : Int), vs = [.ref p, .ref a, .int n] ∧ Dc H p ∧ H a = some (.lst xs) ∧ 0 ≤ n ∧ n ≤ 1000 ∧ xs.length ≤ 1000 ∧
  ∀ (l : Addr) (ys zs : List V) (H' : Hp), But p H H' → Dc H' p → H l = none → l ≠ p → H' l = some (.lst ys) → (ys ++ zs).Perm xs → (ys.length : Int) = (if (xs.length : Int) < n then (xs.length : Int) else n) → Q (.ref l) H'
theorem Dc.set {H : Hp} {p : Addr} (h : Dc H p) (x y z : Int) : Ev2 H (upd H p (dl x y z)) ∧ Only1 H (upd H p (dl x y z)) p ∧ Dc (upd H p (dl x y z)) p := by
  obtain ⟨x0, y0, z0, h⟩ := h
  exact ⟨Ev2.lst h, fun _ hb => upd_ne hb, x, y, z, upd_same⟩
/-- the list that is picked from is not the dice -/
theorem pick_l {K : PySem.W.Frag} {H : Hp} {a p : Addr} {xs : List V} (h : H a = some (.lst xs)) (d : a ≠ p) : SqL K H a xs ∧ ∀ H', Ev2 H H' → Only1 H H' p → SqL K H' a xs :=
  ⟨SqL.of h, fun H' _ k => SqL.of ((k a d).trans h)⟩
def spLaw (K : PySem.W.Frag) : Sp := fun vs H Q _ => ∃ (a : Addr) (ns : List Int), vs = [.ref a] ∧ Scr K H a (ns.map V.int) ∧ ns.length ≤ 63 ∧ ∀ H', Q (.bl true) H'
/-- the number of turns of a law: between 1 and 8 -/
theorem turns {n : Nat} : 0 ≤ (if (if (n : Int) < 8 then (n : Int) else 8) > 1 then (if (n : Int) < 8 then (n : Int) else 8) else 1) ∧ (if (if (n : Int) < 8 then (n : Int) else 8) > 1 then (if (n : Int) < 8 then (n : Int) else 8) else 1) ≤ 8 := by
  split <;> split <;> omega
end Fn

set_option Elab.async false
set_option maxRecDepth 100000
/-! Data at an address: values that are told as PyData; what is in a list or tuple of data. -/
namespace Fn
open PySem PySem.Spec PyProof.Rows L2
mutual
inductive Dx (H : Hp) : V → PyData → Prop
  | non : Dx H .non .none
  | bl (b : Bool) : Dx H (.bl b) (.bool b)
  | int (i : Int) : Dx H (.int i) (.int i)
  | str (x : Str) : Dx H (.str x) (.str x)
  | lst {a : Addr} {xs : List V} {ds : List PyData} : H a = some (.lst xs) → DxAll H xs ds → Dx H (.ref a) (.list ds)
  | tup {a : Addr} {xs : List V} {ds : List PyData} : H a = some (.tup xs) → DxAll H xs ds → Dx H (.ref a) (.tuple ds)
  | dct {a : Addr} : H a = some (.dK []) → Dx H (.ref a) (.dict [])
inductive DxAll (H : Hp) : List V → List PyData → Prop
  | nil : DxAll H [] []
  | cons {v : V} {vs : List V} {d : PyData} {ds : List PyData} : Dx H v d → DxAll H vs ds → DxAll H (v :: vs) (d :: ds)
end
theorem DxAll.len {H : Hp} : ∀ {ds : List PyData} {vs : List V}, DxAll H vs ds → vs.length = ds.length
  | [], _, h => by cases h; rfl
  | d :: ds, _, h => by
    cases h with
    | cons h1 h2 =>
      show _ + 1 = _ + 1
      rw [DxAll.len h2]
theorem DxAll.get {H : Hp} : ∀ {ds : List PyData} {vs : List V} {i : Nat} {v : V}, DxAll H vs ds → vs[i]? = some v → ∃ d, ds[i]? = some d ∧ Dx H v d
  | [], _, i, v, h, e => by cases h; simp at e
  | d :: ds, _, 0, v, h, e => by
    cases h with
    | cons h1 h2 =>
      cases (show some _ = some v from e)
      exact ⟨d, rfl, h1⟩
  | d :: ds, _, i + 1, v, h, e => by
    cases h with
    | cons h1 h2 => exact DxAll.get (i := i) h2 (by simpa using e)
mutual
def dictfree : PyData → Bool
  | .list xs => dictfreeAll xs
  | .tuple xs => dictfreeAll xs
  | .dict _ => false
  | _ => true
def dictfreeAll : List PyData → Bool
  | [] => true
  | d :: ds => dictfree d && dictfreeAll ds
end
mutual
def listfree : PyData → Bool
  | .list _ => false
  | .tuple xs => listfreeAll xs
  | _ => true
def listfreeAll : List PyData → Bool
  | [] => true
  | d :: ds => listfree d && listfreeAll ds
end
mutual
theorem Dx.dp {K : PySem.W.Frag} {H : Hp} : ∀ {d : PyData} {v : V}, Dx H v d → dictfree d = true → Dp K H v d
  | .none, _, h, _ => by cases h; exact .non
  | .bool b, _, h, _ => by cases h; exact .bl b
  | .int i, _, h, _ => by cases h; exact .int i
  | .str x, _, h, _ => by cases h; exact .str x
  | .list ds, _, h, f => by
    cases h with
    | lst h1 h2 => exact .lst (SqL.of h1) (DxAll.dp h2 (by simpa only [dictfree] using f))
  | .tuple ds, _, h, f => by
    cases h with
    | tup h1 h2 => exact .tup (SqT.of h1) (DxAll.dp h2 (by simpa only [dictfree] using f))
  | .dict kvs, _, h, f => by
    simp only [dictfree] at f
    cases f
theorem DxAll.dp {K : PySem.W.Frag} {H : Hp} : ∀ {ds : List PyData} {vs : List V}, DxAll H vs ds → dictfreeAll ds = true → DpAll K H vs ds
  | [], _, h, _ => by cases h; exact .nil
  | d :: ds, _, h, f => by
    simp only [dictfreeAll, Bool.and_eq_true] at f
    cases h with
    | cons h1 h2 => exact .cons (Dx.dp h1 f.1) (DxAll.dp h2 f.2)
end
mutual
theorem Dx.mono {H H' : Hp} (e : Ev2 H H') : ∀ {d : PyData} {v : V}, Dx H v d → listfree d = true → Dx H' v d
  | .none, _, h, _ => by cases h; exact .non
  | .bool b, _, h, _ => by cases h; exact .bl b
  | .int i, _, h, _ => by cases h; exact .int i
  | .str x, _, h, _ => by cases h; exact .str x
  | .list ds, _, h, f => by
    simp only [listfree] at f
    cases f
  | .tuple ds, _, h, f => by
    cases h with
    | tup h1 h2 => exact .tup (Ev2.tup h1 e) (DxAll.mono e h2 (by simpa only [listfree] using f))
  | .dict kvs, _, h, f => by
    cases h with
    | dct h1 => exact .dct (Ev2.dK h1 e)
theorem DxAll.mono {H H' : Hp} (e : Ev2 H H') : ∀ {ds : List PyData} {vs : List V}, DxAll H vs ds → listfreeAll ds = true → DxAll H' vs ds
  | [], _, h, _ => by cases h; exact .nil
  | d :: ds, _, h, f => by
    simp only [listfreeAll, Bool.and_eq_true] at f
    cases h with
    | cons h1 h2 => exact .cons (Dx.mono e h1 f.1) (DxAll.mono e h2 f.2)
end
mutual
theorem Dx.same {H H' : Hp} (e : Same H H') : ∀ {d : PyData} {v : V}, Dx H v d → Dx H' v d
  | .none, _, h => by cases h; exact .non
  | .bool b, _, h => by cases h; exact .bl b
  | .int i, _, h => by cases h; exact .int i
  | .str x, _, h => by cases h; exact .str x
  | .list ds, _, h => by
    cases h with
    | lst h1 h2 => exact .lst (e _ _ h1) (DxAll.same e h2)
  | .tuple ds, _, h => by
    cases h with
    | tup h1 h2 => exact .tup (e _ _ h1) (DxAll.same e h2)
  | .dict kvs, _, h => by
    cases h with
    | dct h1 => exact .dct (e _ _ h1)
theorem DxAll.same {H H' : Hp} (e : Same H H') : ∀ {ds : List PyData} {vs : List V}, DxAll H vs ds → DxAll H' vs ds
  | [], _, h => by cases h; exact .nil
  | d :: ds, _, h => by
    cases h with
    | cons h1 h2 => exact .cons (Dx.same e h1) (DxAll.same e h2)
end
def three : List PyData → Bool
  | [.int _, .int _, .int _] => true
  | _ => false
mutual
/-- no list of three ints is within: so no list that is told is the dice -/
def nodice : PyData → Bool
  | .list ds => !three ds && nodiceAll ds
  | .tuple ds => nodiceAll ds
  | _ => true
def nodiceAll : List PyData → Bool
  | [] => true
  | d :: ds => nodice d && nodiceAll ds
end
theorem nodice_list {ds : List PyData} (h : nodice (.list ds) = true) : nodiceAll ds = true ∧ ∀ x y z, ds ≠ [.int x, .int y, .int z] := by
  simp only [nodice, Bool.and_eq_true] at h
  refine ⟨h.2, fun x y z e => ?_⟩
  subst e
  exact Bool.noConfusion h.1
mutual
theorem Dx.but {H H' : Hp} {p : Addr} (hd : Dc H p) (o : But p H H') : ∀ {d : PyData} {v : V}, Dx H v d → nodice d = true → Dx H' v d
  | .none, _, h, _ => by cases h; exact .non
  | .bool b, _, h, _ => by cases h; exact .bl b
  | .int i, _, h, _ => by cases h; exact .int i
  | .str x, _, h, _ => by cases h; exact .str x
  | .list ds, _, h, f => by
    obtain ⟨f1, f2⟩ := nodice_list f
    cases h with
    | @lst a xs _ h1 h2 =>
      have hne : a ≠ p := by
        rintro rfl
        obtain ⟨x, y, z, hp⟩ := hd
        rw [hp] at h1
        cases (HO.lst.inj (Option.some.inj h1))
        cases h2 with
        | cons q1 h2 =>
          cases h2 with
          | cons q2 h2 =>
            cases h2 with
            | cons q3 h2 =>
              cases h2
              cases q1
              cases q2
              cases q3
              exact f2 _ _ _ rfl
      exact .lst (o _ _ hne h1) (DxAll.but hd o h2 f1)
  | .tuple ds, _, h, f => by
    cases h with
    | @tup a xs _ h1 h2 =>
      have hne : a ≠ p := by
        rintro rfl
        obtain ⟨x, y, z, hp⟩ := hd
        rw [hp] at h1
        cases h1
      exact .tup (o _ _ hne h1) (DxAll.but hd o h2 (by simpa only [nodice] using f))
  | .dict kvs, _, h, f => by
    cases h with
    | @dct a h1 =>
      have hne : a ≠ p := by
        rintro rfl
        obtain ⟨x, y, z, hp⟩ := hd
        rw [hp] at h1
        cases h1
      exact .dct (o _ _ hne h1)
theorem DxAll.but {H H' : Hp} {p : Addr} (hd : Dc H p) (o : But p H H') : ∀ {ds : List PyData} {vs : List V}, DxAll H vs ds → nodiceAll ds = true → DxAll H' vs ds
  | [], _, h, _ => by cases h; exact .nil
  | d :: ds, _, h, f => by
    simp only [nodiceAll, Bool.and_eq_true] at f
    cases h with
    | cons h1 h2 => exact .cons (Dx.but hd o h1 f.1) (DxAll.but hd o h2 f.2)
end
theorem Dx.only {H H' : Hp} {p : Addr} (hd : Dc H p) (o : Only1 H H' p) {d : PyData} {v : V} (h : Dx H v d) (f : nodice d = true) : Dx H' v d := Dx.but hd (But.of1 o) h f
theorem DxAll.only {H H' : Hp} {p : Addr} (hd : Dc H p) (o : Only1 H H' p) {ds : List PyData} {vs : List V} (h : DxAll H vs ds) (f : nodiceAll ds = true) : DxAll H' vs ds := DxAll.but hd (But.of1 o) h f
theorem nodiceAll_get : ∀ {ds : List PyData} {i : Nat} {d : PyData}, nodiceAll ds = true → ds[i]? = some d → nodice d = true
  | [], _, _, _, e => by simp at e
  | d :: ds, 0, _, h, e => by
    simp only [nodiceAll, Bool.and_eq_true] at h
    cases (show some d = some _ from e)
    exact h.1
  | d :: ds, i + 1, _, h, e => by
    simp only [nodiceAll, Bool.and_eq_true] at h
    exact nodiceAll_get (i := i) h.2 (by simpa using e)
theorem pick_dx {H G : Hp} {p : Addr} {xs : List V} {ds : List PyData} {i : Nat} {v : V} (hx : DxAll H xs ds) (hv : xs[i]? = some v) (hd : Dc H p) (o : Only1 H G p) (hn : nodiceAll ds = true) : ∃ d, ds[i]? = some d ∧ Dx G v d := by
  obtain ⟨d, h1, h2⟩ := hx.get hv
  exact ⟨d, h1, Dx.only hd o h2 (nodiceAll_get hn h1)⟩
theorem Same.at {H H' : Hp} {a : Addr} {o : HO} (h : H a = some o) (e : Same H H') : H' a = some o := e _ _ h
/-- the name of the type of data -/
def tyN : PyData → String
  | .none => "NoneType" | .bool _ => "bool" | .int _ => "int" | .str _ => "str" | .list _ => "list" | .tuple _ => "tuple" | .dict _ => "dict"
theorem Dx.ty {K : PySem.W.Frag} {H : Hp} {v : V} {d : PyData} (h : Dx H v d) : TyX K H v (.type (tyN d)) := by
  cases h with
  | non => exact .base .non
  | bl b => exact .base (.bl b)
  | int i => exact .base (.int i)
  | str x => exact .base (.str x)
  | lst h1 h2 => exact .base (.lst h1)
  | tup h1 h2 => exact .base (.tup h1)
  | dct h1 => exact .base (.dK h1)
def tyNs : List String := ["NoneType", "bool", "int", "str", "list", "tuple", "dict"]
theorem tyN_mem (d : PyData) : tyN d ∈ tyNs := by cases d <;> (simp only [tyN]; decide)
theorem kit_all : ∀ n ∈ tyNs, kitB n "int" = some (n == "int" || n == "bool") ∧ kitB n "bool" = some (n == "bool") ∧ kitB n "str" = some (n == "str") ∧ kitB n "tuple" = some (n == "tuple") ∧ kitB n "list" = some (n == "list") ∧ kitB n "dict" = some (n == "dict") := by decide +kernel
section
variable {K : PySem.W.Frag} (d : PyData)
theorem kit_int : PySem.W.kitOne K (.type (tyN d)) (.type "int") = some (tyN d == "int" || tyN d == "bool") := kit_ty (kit_all _ (tyN_mem d)).1
theorem kit_bool : PySem.W.kitOne K (.type (tyN d)) (.type "bool") = some (tyN d == "bool") := kit_ty (kit_all _ (tyN_mem d)).2.1
theorem kit_str : PySem.W.kitOne K (.type (tyN d)) (.type "str") = some (tyN d == "str") := kit_ty (kit_all _ (tyN_mem d)).2.2.1
theorem kit_tuple : PySem.W.kitOne K (.type (tyN d)) (.type "tuple") = some (tyN d == "tuple") := kit_ty (kit_all _ (tyN_mem d)).2.2.2.1
theorem kit_list : PySem.W.kitOne K (.type (tyN d)) (.type "list") = some (tyN d == "list") := kit_ty (kit_all _ (tyN_mem d)).2.2.2.2.1
theorem kit_dict : PySem.W.kitOne K (.type (tyN d)) (.type "dict") = some (tyN d == "dict") := kit_ty (kit_all _ (tyN_mem d)).2.2.2.2.2
end
/-- x in a list or a tuple of data -/
def rInX (K : PySem.W.Frag) (neg : Bool) : R2 := fun x y H Q => ∃ d c ds, Dp K H x d ∧ Dp K H y c ∧ (c = .list ds ∨ c = .tuple ds) ∧ SeqAt.shaped d = true ∧ SeqAt.shaped c = true ∧ Q (.bl (if neg then !(ds.any fun z => PyData.eqv z d) else ds.any fun z => PyData.eqv z d)) H
section
variable {X : Cx}
theorem op_inX (hu : X.A.units + 65 < cLine) : OpR X (compareOp .In) (rInX X.K false) := by
  intro pins s σ H x y v u Q I rx ry h
  obtain ⟨d, c, ds, hd, he, hc, sd, se, q⟩ := h
  obtain ⟨as, r1⟩ := Dp.reads I d x v hd rx
  obtain ⟨bs, r2⟩ := Dp.reads I c y u he ry
  rcases hc with rfl | rfl
  · exact SeqAt.in_list_reads r2 r1 (SeqAt.canLay_of_shaped se) (SeqAt.canLay_of_shaped sd) (room_in_shaped sd hu) ⟨.bl _, H, I, rfl, q⟩
  · exact SeqAt.in_tuple_reads r2 r1 (SeqAt.canLay_of_shaped se) (SeqAt.canLay_of_shaped sd) (room_in_shaped sd hu) ⟨.bl _, H, I, rfl, q⟩
theorem op_notInX (hu : X.A.units + 65 < cLine) : OpR X (compareOp .NotIn) (rInX X.K true) := by
  intro pins s σ H x y v u Q I rx ry h
  obtain ⟨d, c, ds, hd, he, hc, sd, se, q⟩ := h
  obtain ⟨as, r1⟩ := Dp.reads I d x v hd rx
  obtain ⟨bs, r2⟩ := Dp.reads I c y u he ry
  rcases hc with rfl | rfl
  · exact SeqAt.notIn_list_reads r2 r1 (SeqAt.canLay_of_shaped se) (SeqAt.canLay_of_shaped sd) (room_in_shaped sd hu) ⟨.bl _, H, I, rfl, q⟩
  · exact SeqAt.notIn_tuple_reads r2 r1 (SeqAt.canLay_of_shaped se) (SeqAt.canLay_of_shaped sd) (room_in_shaped sd hu) ⟨.bl _, H, I, rfl, q⟩
end
theorem hu65 {A : Around} {k : Nat} (hr : Room k A) : A.units + 65 < cLine := by
  have := hr.un
  omega
/-! ### rules whose readings name the written part: with a letter of its own for it (within comprehensions) -/
def rLenK (K : PySem.W.Frag) : List V → Hp → VK → Prop := fun xs H Q => ∃ p ys, xs = [.ref p] ∧ (SqL K H p ys ∨ SqT K H p ys) ∧ Q (.int ys.length) H
def rListK (K : PySem.W.Frag) : List V → Hp → VK → Prop := fun xs H Q => ∃ p ys, xs = [.ref p] ∧ (SqL K H p ys ∨ SqT K H p ys) ∧ ∀ l, H l = none → Q (.ref l) (upd H l (.lst ys))
section
variable {X : Cx}
theorem call_len_k {K : PySem.W.Frag} (hK : X.K = K := by rfl) : CallR X (.builtin "len") (rLenK K) := by subst hK; exact call_len_seq
theorem call_list_k {K : PySem.W.Frag} (hK : X.K = K := by rfl) : CallR X (.type "list") (rListK K) := by subst hK; exact call_list_of
theorem call_isi_k {K : PySem.W.Frag} (hK : X.K = K := by rfl) : CallR X (.builtin "isinstance") (rIsi K) := by subst hK; exact call_isi
theorem cr_all_k {K : PySem.W.Frag} (hc : X.calm = true) (hK : X.K = K := by rfl) : CallR X (.builtin "all") (rAll K) := by subst hK; exact cr_all hc
theorem cr_any_k {K : PySem.W.Frag} (hc : X.calm = true) (hK : X.K = K := by rfl) : CallR X (.builtin "any") (rAny K) := by subst hK; exact cr_any hc
theorem ix_list_k {K : PySem.W.Frag} (hK : X.K = K := by rfl) : IxR X (rIxL K) := by subst hK; exact ix_list
theorem ix_tup_k {K : PySem.W.Frag} (hK : X.K = K := by rfl) : IxR X (rIxT K) := by subst hK; exact ix_tup
theorem sl_list_k {K : PySem.W.Frag} (hK : X.K = K := by rfl) : SlR X (rSlL K) := by subst hK; exact sl_list
theorem sl_tup_k {K : PySem.W.Frag} (hK : X.K = K := by rfl) : SlR X (rSlT K) := by subst hK; exact sl_tup
theorem op_inX_k {K : PySem.W.Frag} (hu : X.A.units + 65 < cLine) (hK : X.K = K := by rfl) : OpR X (compareOp .In) (rInX K false) := by subst hK; exact op_inX hu
theorem op_notInX_k {K : PySem.W.Frag} (hu : X.A.units + 65 < cLine) (hK : X.K = K := by rfl) : OpR X (compareOp .NotIn) (rInX K true) := by subst hK; exact op_notInX hu
theorem op_eqD_k {K : PySem.W.Frag} (hu : X.A.units + 64 < cLine) (hK : X.K = K := by rfl) : OpR X (compareOp .Eq) (rEqD K) := by subst hK; exact op_eqD hu
theorem op_neD_k {K : PySem.W.Frag} (hu : X.A.units + 64 < cLine) (hK : X.K = K := by rfl) : OpR X (compareOp .NotEq) (rNeD K) := by subst hK; exact op_neD hu
theorem pi_list_k {tg l : Expr} {tl : TE} {K : PySem.W.Frag} (hl : PE X l tl) (hK : X.K = K := by rfl) : PI X tg l (iList K tl) := by subst hK; exact pi_list hl
theorem pi_tup_k {tg l : Expr} {tl : TE} {K : PySem.W.Frag} (hl : PE X l tl) (hK : X.K = K := by rfl) : PI X tg l (iTup K tl) := by subst hK; exact pi_tup hl
variable {o e : Expr} {es : List Expr} {to : TE} {t : TA} {name : Str} {apos cpos : Pos} {T id : String} {r : V → List V → Hp → VK → Prop}
theorem pe_bm_k {K : PySem.W.Frag} (pa : PlainAttrs T) (slot : Slot T name id) (hty : typeOf (.builtin id) = pure (.type "method_descriptor")) (hm : MtR X id r) (ho : PE X o to) (ha : PA X (e :: es) t)
    (hbase : attributeBase o name X.env (eval o X.env) = eval o X.env := by rfl)
    (hfew : ((backTo cpos (starEach (e :: es) X.env)).all (fun x => !x.1) && (backToKw cpos (keywordEach [] X.env)).all (fun x => x.1.isSome)
      && decide ((e :: es).length + ([] : List Keyword).length + (if ([] : List Keyword).isEmpty then 0 else 1) < 30)) = true := by rfl)
    (hline : (apos.endLine == cpos.line) = true := by rfl) (hs : starEach (e :: es) X.env = (false, eval e X.env) :: starEach es X.env := by rfl) (hplain : (backTo cpos (starEach es X.env)).any (·.1) = false := by rfl) (hK : X.K = K := by rfl) :
    PE X (.Call (.Attribute o name apos) (e :: es) [] cpos) (tBM K T r to t) := by
  subst hK
  exact pe_bm pa slot hty hm ho ha hbase hfew hline hs hplain
def tJoin (K : PySem.W.Frag) (to te : TE) : TE := tM1 (fun x xs H Q => ∃ a p, ∃ ys : List Str, x = .str a ∧ xs = [.ref p] ∧ (SqL K H p (ys.map V.str) ∨ SqT K H p (ys.map V.str)) ∧
      (ys.map (·.length)).sum + ys.length * a.length ≤ 16777216 ∧ Q (.str (Txt.join a ys)) H) to te
theorem pe_join_k {te : TE} {K : PySem.W.Frag} (ho : PE X o to) (he : PE X e te) (hs : starEach [e] X.env = [(false, eval e X.env)] := by rfl) (hbase : attributeBase o "join" X.env (eval o X.env) = eval o X.env := by rfl) (hline : (apos.endLine == cpos.line) = true := by rfl) (hK : X.K = K := by rfl) :
    PE X (.Call (.Attribute o "join" apos) [e] [] cpos) (tJoin K to te) := by
  subst hK
  exact pe_join ho he hs hbase hline
end
/-! ### list(text) -/
def signV (z : Str) : List V := z.cps.toList.map fun c => V.str ⟨#[c]⟩
theorem paired_get {α β : Type} {R : α → β → Prop} : ∀ {xs : List α} {us : List β}, xs.length = us.length → (∀ (j : Nat) (x : α) (u : β), xs[j]? = some x → us[j]? = some u → R x u) → Paired R xs us
  | [], [], _, _ => .nil
  | [], _ :: _, h, _ => by cases h
  | _ :: _, [], h, _ => by cases h
  | x :: xs, u :: us, h, k => .cons (k 0 x u rfl rfl) (paired_get (by simpa using h) fun j y v h1 h2 => k (j + 1) y v (by simpa using h1) (by simpa using h2))
theorem call_listS {X : Cx} (hcalm : X.calm = true) : CallR X (.type "list") (fun xs H Q => ∃ z, xs = [.str z] ∧ z.length ≤ sizeLine ∧ ∀ p, H p = none → Q (.ref p) (upd H p (.lst (signV z)))) := by
  intro pins s σ H xs us Q I r h
  obtain ⟨z, rfl, hz, q⟩ := h
  obtain ⟨u, rfl, t, rfl⟩ := vals1 r
  refine call_list_str (I.ok.hd hcalm) z t (hn := hz) fun h' tk acc' c' hk hS' hacc => ?_
  have hl : (signV z).length = z.length := by
    unfold signV
    rw [List.length_map, Array.length_toList]
    rfl
  have hv : Vals (signV z) acc'.toList := by
    refine paired_get (R := RelV) (by rw [hl, Array.length_toList, hacc.1]; rfl) fun j x u h1 h2 => ?_
    obtain ⟨c, t', hc, rfl⟩ := hacc.2 j u (by rw [← Array.getElem?_toList]; exact h2)
    unfold signV at h1
    rw [List.getElem?_map, Array.getElem?_toList, hc] at h1
    cases (show some (V.str ⟨#[c]⟩) = some x from h1)
    exact ⟨t', rfl⟩
  exact ⟨.ref s.heap.objs.size, upd H s.heap.objs.size (.lst (signV z)), I.laid (t' := tk) hk (Nat.le_refl _)
    (show ObjOk X.prog X.w _ _ _ (.lst (signV z)) from ⟨by rw [hl]; exact hz, acc'.toList, c', hv, by rw [Array.toArray_toList]; exact hS'⟩), rfl, q _ (I.hok.fresh (Nat.le_refl _))⟩
/-! ### the program's judges, on data -/
def isIntD : PyData → Bool
  | .int i => decide ((if i < 0 then -i else i) < 10 ^ Int.toNat 60)
  | _ => false
def lowZ (c : Nat) : Bool := (!decide ([c] < [97])) && (!decide ([122] < [c]))
def isWordS (x : Str) : Bool := (decide (1 ≤ x.length) && decide (x.length ≤ 8)) && x.cps.toList.all lowZ
def isWordD : PyData → Bool
  | .str x => isWordS x
  | _ => false
def isArityD : PyData → Bool
  | .int i => isIntD (.int i) && (decide (0 ≤ i) && decide (i ≤ 3))
  | _ => false
def isLeafD (d : PyData) : Bool := ([.str "_", .str "#"] : List PyData).any fun z => PyData.eqv z d
def isNodeD : PyData → Bool
  | .tuple [s, m] => if isLeafD s then (isArityD m && PyData.eqv m (.int 0)) else (isWordD s && isArityD m)
  | _ => false
end Fn

set_option Elab.async false
set_option maxRecDepth 100000
set_option maxHeartbeats 4000000
/-! Sets of things that stand at addresses and are keys (tuples of ints and texts among them), fewer than 64: for any kind of such keys. The plan follows the library's sets of tuples of ints; the table's own theory is the library's. -/
namespace Fn
open PySem PySem.Spec PyProof.Rows L2
section
variable {κ : Type} [DecidableEq κ] {P : Program} {w : World}
/-- what a kind of keys must give so that a set of them can be searched -/
structure SetLike (knd : HeapKind P w κ) : Prop where
  byv : ∀ {A : Around} {E : Value → Shared → Prop} {s : Shared} {k : κ} {b : Addr} {Q : Bool → Shared → Prop}, knd.is s.heap k b → (∀ r, Q r s) → wpAny (model P w) A (hashByValue 8 (.ref b)) Q E s
  seen : ∀ {A : Around} {E : Value → Shared → Prop} {s : Shared} {k : κ} {b : Addr} {ys : List Value} {Q : Bool → Shared → Prop}, knd.is s.heap k b → (∀ y ∈ ys, ∃ k' c, y = Value.ref c ∧ knd.is s.heap k' c) → Q false s →
    wpAny (model P w) A (searchCouldBeSeen (.ref b) ys) Q E s
  apart : ∀ {h h' : Heap} {k : κ} {a b : Addr} {o : Obj} {es : Array (Int × Value)} {ep : Nat} {t : SetTable}, knd.is h k b → h.get? a = some o → o.data = .set es ep t → Heap.SameBut a h h' → knd.is h' k b
  keep : ∀ {h h' : Heap} {k : κ} {b : Addr}, knd.is h k b → (∀ c o, h.get? c = some o → h'.get? c = some o) → knd.is h' k b
variable {knd : HeapKind P w κ}
/-- the rows of the table for these members -/
def rowK (knd : HeapKind P w κ) (p : Addr × κ) : Int × Value := (knd.hash p.2, Value.ref p.1)
def hashK (knd : HeapKind P w κ) (p : Addr × κ) : Int := knd.hash p.2
/-- the set at a, its members L in the table's order; without what the members are -/
structure HSet (knd : HeapKind P w κ) (h : Heap) (a : Addr) (L : List (Addr × κ)) (es : Array (Int × Value)) (ep : Nat) (t : SetTable) : Prop where
  obj : ∃ o, h.get? a = some o ∧ o.ExactSet ∧ o.data = .set es ep t
  rows : es.toList = L.map (rowK knd)
  tab : TabOk t (L.map (hashK knd))
  diff : (L.map Prod.snd).Nodup
  led : w.params.followText "set-order" = true ∨ t.led = true
  room : L.length * 5 < t.mask * 3
  few : L.length < 64
variable {h : Heap} {a : Addr} {L : List (Addr × κ)} {es : Array (Int × Value)} {ep : Nat} {t : SetTable}
theorem rows_size {L : List (Addr × κ)} (e : es.toList = L.map (rowK knd)) : es.size = L.length := by
  rw [← Array.length_toList, e, List.length_map]
theorem rows_at {L : List (Addr × κ)} (e : es.toList = L.map (rowK knd)) {i : Nat} {p : Addr × κ} (hp : L[i]? = some p) : es[i]? = some (rowK knd p) := by
  rw [← Array.getElem?_toList, e, List.getElem?_map, hp]
  rfl
theorem HSet.places (R : HSet knd h a L es ep t) : t.place.size = L.length := by
  have := R.tab.sz
  rwa [List.length_map] at this
theorem fits_of (hd : t.dummies = #[]) (e : t.place.size = es.size) (l : es.size ≤ t.mask) : t.fits es.size = true := by
  unfold SetTable.fits SetTable.fill
  rw [hd, Bool.and_eq_true, beq_iff_eq, decide_eq_true_eq]
  show t.place.size = es.size ∧ t.place.size + 0 ≤ t.mask
  omega
theorem HSet.fits (R : HSet knd h a L es ep t) : t.fits es.size = true := by
  have h1 := R.places
  have h2 := rows_size R.rows
  have h3 := R.room
  exact fits_of R.tab.dm (by omega) (by omega)
theorem HSet.stays {h' : Heap} (R : HSet knd h a L es ep t) (k : ∀ o, h.get? a = some o → h'.get? a = some o) : HSet knd h' a L es ep t := by
  obtain ⟨o, ho, r⟩ := R.obj
  exact ⟨⟨o, k o ho, r⟩, R.rows, R.tab, R.diff, R.led, R.room, R.few⟩
theorem HSet.empty (ho : h.get? a = some { cls := .type "set", dict := none, data := .set #[] 0 (.fresh 0 0 (!w.params.followText "set-order")) }) : HSet knd h a [] #[] 0 (.fresh 0 0 (!w.params.followText "set-order")) := by
  refine ⟨⟨_, ho, ⟨rfl, rfl, rfl⟩, rfl⟩, rfl, ⟨List.Pairwise.nil, rfl, rfl, .inl rfl, fun x hx => (by cases hx), fun i h j hi => (by simp at hi)⟩, List.nodup_nil, ?_, by show 0 * 5 < 7 * 3; decide, by show 0 < 64; decide⟩
  show _ ∨ (!w.params.followText "set-order") = true
  cases w.params.followText "set-order" <;> simp
end
section
variable {κ : Type} [DecidableEq κ] {P : Program} {w : World} {knd : HeapKind P w κ} {A : Around} {E : Value → Shared → Prop} {s : Shared} {a : Addr} {L : List (Addr × κ)} {es : Array (Int × Value)} {ep : Nat} {t : SetTable}
/-- the probe that a search begins with -/
abbrev p0 (t : SetTable) (z : Int) : SetTable.Probe := runAt t.mask (SetTable.bits z % (t.mask + 1)) (SetTable.bits z)
theorem p0_clean (m : Nat) : ∀ (n : Nat) (p : SetTable.Probe), p.dummy = none → (nth m p n).dummy = none
  | 0, _, h => h
  | n + 1, p, h => by
    refine p0_clean m n (adv m p) ?_
    unfold adv
    split <;> exact h
/-- searching on from the c-th slot of the way; K is the first empty one -/
theorem look_from (SL : SetLike knd) (R : HSet knd s.heap a L es ep t) (mem : ∀ p ∈ L, knd.is s.heap p.2 p.1) {x : Addr} {k : κ} (hx : knd.is s.heap k x) (hu : knd.room A) {K : Nat} (kf : K < 10 * SetTable.turns t.mask)
    (kn : way t.mask (knd.hash k) K ∉ t.place.toList) (kb : ∀ c, c < K → way t.mask (knd.hash k) c ∈ t.place.toList) {Q : SetFound → Shared → Prop}
    (yes : k ∈ L.map Prod.snd → Q (.there none) s) (no : k ∉ L.map Prod.snd → Q (.free (way t.mask (knd.hash k) K) false) s) :
    ∀ (f c : Nat) (stand : Option SetTable.Probe), stand.getD (t.probeStart (knd.hash k)) = nth t.mask (p0 t (knd.hash k)) c → c ≤ K → K - c < f →
      (∀ (i : Nat) p, L[i]? = some p → p.2 = k → ∃ c', c ≤ c' ∧ c' < K ∧ t.place.toList[i]? = some (way t.mask (knd.hash k) c')) →
      wpAny (model P w) A (setSearchFrom a (.ref x) (knd.hash k) true f stand) Q E s := by
  intro f
  induction f with
  | zero => intro c stand _ _ hf _; exact absurd hf (Nat.not_lt_zero _)
  | succ f ih =>
    intro c stand hst hc hf left
    obtain ⟨o, ho, hex, hd⟩ := R.obj
    rw [setSearchFrom_succ]
    refine wpAny_bind (wpAny_setState_of ho hd R.fits ?_)
    dsimp only
    have gw : ¬ t.gaveWay = true := by
      unfold SetTable.gaveWay
      rw [mask_odd R.tab.mok]
      decide
    refine wp_if_neg gw ?_
    try refine wpAny_bind (wpAny_pure ?_)
    have shift : ∀ q, nth t.mask (nth t.mask (p0 t (knd.hash k)) c) q = nth t.mask (p0 t (knd.hash k)) (c + q) := fun q => (nth_add t.mask c _ q).symm
    have slotAt : ∀ q, (nth t.mask (nth t.mask (p0 t (knd.hash k)) c) q).j = way t.mask (knd.hash k) (c + q) := fun q => congrArg SetTable.Probe.j (shift q)
    have hK : c + (K - c) = K := by omega
    have spec := go_spec t R.tab.ris R.tab.dm (fun i => (es[i]?.map (·.1)).getD 0) (knd.hash k) (10 * SetTable.turns t.mask) (K - c) _ (p0_clean t.mask c (p0 t (knd.hash k)) rfl) (by omega)
      (fun q hq => by rw [slotAt]; exact kb (c + q) (by omega)) (by rw [slotAt, hK]; exact kn)
    have hashOf : ∀ (i : Nat) p, L[i]? = some p → (es[i]?.map (·.1)).getD 0 = knd.hash p.2 := fun i p hp => by
      rw [rows_at R.rows hp]
      rfl
    -- no member with this key has been passed
    have still : ∀ (i : Nat) p (q : Nat), L[i]? = some p → p.2 = k → (∀ (q' : Nat) (i' : Nat), q' < q → t.place.toList[i']? = some (way t.mask (knd.hash k) (c + q')) → ¬ (es[i']?.map (·.1)).getD 0 = knd.hash k) →
        ∃ c', c + q ≤ c' ∧ c' < K ∧ t.place.toList[i]? = some (way t.mask (knd.hash k) c') := by
      intro i p q hp hk hno
      obtain ⟨c', b1, b2, b3⟩ := left i p hp hk
      refine ⟨c', ?_, b2, b3⟩
      rcases Nat.lt_or_ge c' (c + q) with z | z
      · have e : c + (c' - c) = c' := by omega
        exact absurd ((hashOf i p hp).trans (congrArg knd.hash hk)) (hno (c' - c) i (by omega) (by rw [e]; exact b3))
      · exact z
    rcases spec with ⟨q, i, hq, hi, hh, hno, hpr⟩ | ⟨hno, hpr⟩
    · have hpr' : t.probe (fun i => (es[i]?.map (·.1)).getD 0) (knd.hash k) (stand.getD (t.probeStart (knd.hash k))) = some (.candidate (way t.mask (knd.hash k) (c + q)) i (nth t.mask (p0 t (knd.hash k)) (c + (q + 1)))) := by
        rw [hst, ← slotAt, ← shift]
        exact hpr
      rw [hpr']
      dsimp only
      rw [slotAt] at hi
      have hil : i < L.length := by
        have h1 := (List.getElem?_eq_some_iff.mp hi).1
        rw [Array.length_toList, R.places] at h1
        exact h1
      obtain ⟨p, hp⟩ : ∃ p, L[i]? = some p := ⟨L[i], List.getElem?_eq_getElem hil⟩
      have hpm : p ∈ L := List.mem_of_getElem? hp
      have on : wpAny (model P w) A (searchRest a (.ref x) (knd.hash k) true f es t (way t.mask (knd.hash k) (c + q)) i (nth t.mask (p0 t (knd.hash k)) (c + (q + 1)))) Q E s := by
        unfold searchRest
        rw [rows_at R.rows hp]
        dsimp only [rowK]
        refine wpAny_bind (wpAny_holding (knd.eqBool hu (mem p hpm) hx ?_))
        refine wpAny_bind (wpAny_setState_of ho hd R.fits ?_)
        dsimp only
        by_cases e : p.2 = k
        · refine wp_if_pos (by simp [e]) ?_
          exact wpAny_pure (yes (List.mem_map.mpr ⟨p, hpm, e⟩))
        · refine wp_if_neg (by simp [e]) ?_
          try refine wpAny_bind (wpAny_pure ?_)
          rw [sameMem]
          dsimp only
          have hsl := slot_live R.tab.ris hi
          simp only [if_true, hsl, rows_at R.rows hp, rowK]
          refine wpAny_bind (wpAny_isSame_ref_self (wpAny_bind (wpAny_pure ?_)))
          simp only [if_true]
          refine wp_if_neg (by simp [e]) ?_
          refine ih (c + (q + 1)) _ rfl (by omega) (by omega) fun i1 p1 h1 hk1 => ?_
          obtain ⟨c', b1, b2, b3⟩ := still i1 p1 q h1 hk1 (fun q' i' hq' hi' => hno q' i' hq' (by rw [slotAt]; exact hi'))
          refine ⟨c', ?_, b2, b3⟩
          rcases Nat.lt_or_ge (c + q) c' with y | y
          · omega
          · have ec : c' = c + q := by omega
            subst ec
            have s1 := slot_live R.tab.ris b3
            rw [hsl] at s1
            injection s1 with s1
            rw [← s1, hp] at h1
            exact absurd ((congrArg Prod.snd (Option.some.inj h1)).trans hk1) e
      by_cases hl : t.led = true
      · refine wp_if_neg (by simp [hl]) ?_
        try refine wpAny_bind (wpAny_pure ?_)
        exact on
      · refine wp_if_pos (by simp [hl]) ?_
        refine wpAny_bind (SL.seen hx (fun y hy => ?_) ?_)
        · obtain ⟨e, he, ee⟩ := List.mem_map.mp hy
          have he2 : e ∈ es ∧ e.1 = knd.hash k := by simpa using he
          have he3 : e ∈ es.toList := by simpa using he2.1
          rw [R.rows] at he3
          obtain ⟨p2, hp2, e2⟩ := List.mem_map.mp he3
          exact ⟨p2.2, p2.1, by rw [← ee, ← e2]; rfl, mem p2 hp2⟩
        · refine wp_if_neg (by decide) ?_
          try refine wpAny_bind (wpAny_pure ?_)
          exact on
    · have hpr' : t.probe (fun i => (es[i]?.map (·.1)).getD 0) (knd.hash k) (stand.getD (t.probeStart (knd.hash k))) = some (.empty (way t.mask (knd.hash k) K) none) := by
        have e2 : way t.mask (knd.hash k) K = (nth t.mask (nth t.mask (p0 t (knd.hash k)) c) (K - c)).j := by rw [slotAt, hK]
        rw [hst, e2]
        exact hpr
      rw [hpr']
      dsimp only
      refine wpAny_pure (no fun hm => ?_)
      obtain ⟨p1, h1, hk1⟩ := List.mem_map.mp hm
      obtain ⟨i1, hi1⟩ := List.mem_iff_getElem?.mp h1
      obtain ⟨c', b1, b2, b3⟩ := still i1 p1 (K - c) hi1 hk1 (fun q' i' hq' hi' => hno q' i' hq' (by rw [slotAt]; exact hi'))
      omega
/-- searching for a key that is to be added -/
theorem look (SL : SetLike knd) (R : HSet knd s.heap a L es ep t) (mem : ∀ p ∈ L, knd.is s.heap p.2 p.1) {x : Addr} {k : κ} (hx : knd.is s.heap k x) (hu : knd.room A) {Q : SetFound → Shared → Prop}
    (yes : k ∈ L.map Prod.snd → Q (.there none) s)
    (no : ∀ K, k ∉ L.map Prod.snd → way t.mask (knd.hash k) K ∉ t.place.toList → (∀ c, c < K → way t.mask (knd.hash k) c ∈ t.place.toList) → Q (.free (way t.mask (knd.hash k) K) false) s) :
    wpAny (model P w) A (setSearch a (.ref x) (knd.hash k) true) Q E s := by
  have hroom := R.room
  obtain ⟨K, kf, kn, kb⟩ := R.tab.first (by rw [List.length_map]; omega) (knd.hash k)
  have small : K < 100000 := by
    have b : 10 * SetTable.turns t.mask ≤ 1420 := by
      unfold SetTable.turns
      rcases R.tab.mok with e | e | e <;> omega
    omega
  unfold setSearch
  refine look_from SL R mem hx hu kf kn kb yes (fun hn => no K hn kn kb) 100000 0 none rfl (Nat.zero_le _) (by omega) fun i p hp hk => ?_
  have hi : (L.map (hashK knd))[i]? = some (knd.hash k) := by
    rw [List.getElem?_map, hp, ← hk]
    rfl
  have hil : i < t.place.toList.length := by
    rw [Array.length_toList, R.places]
    exact (List.getElem?_eq_some_iff.mp hp).1
  obtain ⟨c, hc, e⟩ := R.tab.before kn hi (List.getElem?_eq_getElem hil)
  exact ⟨c, Nat.zero_le _, hc, by rw [List.getElem?_eq_getElem hil, e]⟩
/-- the rows in another order -/
theorem rows_order {es : Array (Int × Value)} (hr : es.toList = L.map (rowK knd)) {order : Array Nat} (hp : order.toList.Perm (List.range L.length)) :
    ∃ L2 : List (Addr × κ), (order.filterMap (es[·]?)).toList = L2.map (rowK knd) ∧ L2.Perm L ∧ L2.map (hashK knd) = order.toList.map fun i => (es.map (·.1)).getD i 0 := by
  have inR : ∀ i ∈ order.toList, i < L.length := fun i hi => List.mem_range.mp (hp.mem_iff.mp hi)
  refine ⟨order.toList.filterMap fun i => L[i]?, ?_, ?_, ?_⟩
  · have key : ∀ l : List Nat, l.filterMap (fun i => es[i]?) = (l.filterMap fun i => L[i]?).map (rowK knd) := by
      intro l
      induction l with
      | nil => rfl
      | cons i l ih =>
        cases hl : L[i]? with
        | none =>
          have : es[i]? = none := by
            rw [Array.getElem?_eq_none_iff, rows_size hr]
            exact List.getElem?_eq_none_iff.mp hl
          rw [List.filterMap_cons_none this, List.filterMap_cons_none hl, ih]
        | some p => rw [List.filterMap_cons_some (rows_at hr hl), List.filterMap_cons_some hl, List.map_cons, ih]
    have := key order.toList
    first | (rw [Array.toList_filterMap]; exact this) | simpa using this
  · have all : (List.range L.length).filterMap (fun i => L[i]?) = L := by
      have key : ∀ n, n ≤ L.length → (List.range n).filterMap (fun i => L[i]?) = L.take n := by
        intro n
        induction n with
        | zero => intro _; rfl
        | succ n ih =>
          intro hn
          have e : L[n]? = some (L[n]'hn) := List.getElem?_eq_getElem hn
          rw [List.range_succ, List.filterMap_append, ih (Nat.le_of_lt hn), List.take_succ, e, List.filterMap_cons_some e]
          rfl
      rw [key L.length (Nat.le_refl _), List.take_length]
    have h2 := hp.filterMap fun i => L[i]?
    rwa [all] at h2
  · have key : ∀ l : List Nat, (∀ i ∈ l, i < L.length) → (l.filterMap fun i => L[i]?).map (hashK knd) = l.map fun i => (es.map (·.1)).getD i 0 := by
      intro l
      induction l with
      | nil => intro _; rfl
      | cons i l ih =>
        intro hl
        have e : L[i]? = some (L[i]'(hl i List.mem_cons_self)) := List.getElem?_eq_getElem _
        have e2 : (es.map (·.1)).getD i 0 = knd.hash (L[i]'(hl i List.mem_cons_self)).2 := by
          rw [Array.getD_eq_getD_getElem?, Array.getElem?_map, rows_at hr e]
          rfl
        rw [List.filterMap_cons_some e, List.map_cons, List.map_cons, ih fun j hj => hl j (List.mem_cons_of_mem _ hj), e2]
        rfl
    exact key _ inR
/-- a larger table -/
theorem larger {o : Obj} (ho : s.heap.get? a = some o) (hex : o.ExactSet) (hd : o.data = .set es ep t) (hrows : es.toList = L.map (rowK knd)) (hsz : t.place.size = es.size) (hdm : t.dummies = #[]) (hfl : es.size ≤ t.mask)
    (nd : (L.map Prod.snd).Nodup) (ld : w.params.followText "set-order" = true ∨ t.led = true) (few : L.length < 64) {wanted M : Nat}
    (hw : SetTable.sizeAbove wanted - 1 = M) (hM : MaskOk M) (hw2 : SetTable.sizeAbove wanted ≤ 128) (hn : L.length * 5 < M * 3) {Q : Unit → Shared → Prop}
    (hQ : ∀ h' L' es' ep' t', Heap.SameBut a s.heap h' → HSet knd h' a L' es' ep' t' → L'.Perm L → Q () { s with heap := h' }) : wpAny (model P w) A (setRelay a wanted) Q E s := by
  have hsl := rows_size hrows
  obtain ⟨t', order, e, hp, T, em, el, ep', ed⟩ := relaid_ok t (hs := es.map (·.1)) (wanted := wanted) hw hM (by rw [Array.size_map, hsl]; omega)
  rw [Array.size_map, hsl] at hp
  obtain ⟨L2, r1, r2, r3⟩ := rows_order hrows hp
  rw [← r3] at T
  have hs2 : (order.filterMap (es[·]?)).size = es.size := by rw [rows_size r1, r2.length_eq, hsl]
  rw [setRelay_eq]
  refine wpAny_bind (wpAny_setState_of ho hd (fits_of hdm hsz hfl) ?_)
  dsimp only
  refine wp_if_neg (by rw [sizeLine_eq]; omega) ?_
  try refine wpAny_bind (wpAny_pure ?_)
  rw [e]
  dsimp only
  refine wpAny_bind ?_
  refine wp_if_neg (by rw [hs2]; simp) ?_
  try refine wpAny_bind (wpAny_pure ?_)
  refine wpAny_pure ?_
  dsimp only
  refine wpAny_storeSet_of ho hd ?_ (by rw [hs2, hsl, sizeLine_eq]; omega)
  refine hQ _ L2 (order.filterMap (es[·]?)) (ep + 1) t' (Heap.SameBut.update ..) ?_ r2
  exact ⟨⟨_, store_at ho hd, ⟨hex.1, hex.2.1, hex.2.2⟩, rfl⟩, r1, T, (r2.map Prod.snd).nodup_iff.mpr nd, by rw [el]; exact ld, by rw [r2.length_eq, em]; exact hn, by rw [r2.length_eq]; exact few⟩
/-- set.add of such a key -/
theorem add_key (SL : SetLike knd) (R : HSet knd s.heap a L es ep t) (mem : ∀ p ∈ L, knd.is s.heap p.2 p.1) {x : Addr} {k : κ} (hx : knd.is s.heap k x) (hu : knd.room A) (hfew : L.length + 1 < 64) {Q : Bool → Shared → Prop}
    (hQ : ∀ b h' L' es' ep' t', Heap.SameBut a s.heap h' → HSet knd h' a L' es' ep' t' → (k ∈ L.map Prod.snd → L' = L) → (k ∉ L.map Prod.snd → L'.Perm ((x, k) :: L)) → Q b { s with heap := h' }) :
    wpAny (model P w) A (setAddHashed a (.ref x) (knd.hash k)) Q E s := by
  obtain ⟨o, ho, hex, hd⟩ := R.obj
  have hsl := rows_size R.rows
  have hroom := R.room
  unfold setAddHashed
  refine wpAny_holding ?_
  rw [show (100000 : Nat) = 99999 + 1 from rfl, setAddHashedIn_succ]
  refine wpAny_bind (wpAny_setState_of ho hd R.fits ?_)
  dsimp only
  refine wp_if_neg (by simp [byScan, Value.scannable]) ?_
  try refine wpAny_bind (wpAny_pure ?_)
  refine wpAny_bind (look SL R mem hx hu (fun hm => ?_) fun K hm kn kb => ?_)
  · dsimp only
    exact wpAny_pure (hQ false s.heap L es ep t (Heap.SameBut.refl a s.heap) R (fun _ => rfl) fun z => absurd hm z)
  · dsimp only
    refine wpAny_bind (wpAny_setState_of ho hd R.fits ?_)
    dsimp only
    obtain ⟨q1, q2, q3, q4, q5, q6, q7, q8, q9⟩ := R.tab.put kn kb
    generalize t.put (way t.mask (knd.hash k) K) = pt at q1 q3 q4 q5 q6 q7 q8 q9 ⊢
    obtain ⟨t1, p⟩ := pt
    dsimp only at q1 q3 q4 q5 q6 q7 q8 q9 ⊢
    subst q1
    generalize SetTable.below t.place (way t.mask (knd.hash k) K) = p at q2 q3 ⊢
    have hin : (SetTable.insertAt es p (knd.hash k, Value.ref x)).toList = (L.take p ++ (x, k) :: L.drop p).map (rowK knd) := by
      rw [SetTable.toList_insertAt, R.rows, List.map_append, List.map_cons, List.map_take, List.map_drop]
      rfl
    have pm := put_perm L p (x, k)
    have hhs : (L.take p ++ (x, k) :: L.drop p).map (hashK knd) = (L.map (hashK knd)).take p ++ knd.hash k :: (L.map (hashK knd)).drop p := by
      rw [List.map_append, List.map_cons, List.map_take, List.map_drop]
      rfl
    rw [← hhs] at q3
    generalize SetTable.insertAt es p (knd.hash k, Value.ref x) = es1 at hin ⊢
    generalize L.take p ++ (x, k) :: L.drop p = L1 at pm q3 hin
    have hlen : L1.length = L.length + 1 := pm.length_eq
    have hes : es1.size = L.length + 1 := by rw [rows_size hin, hlen]
    have nd1 : (L1.map Prod.snd).Nodup := by
      refine (pm.map Prod.snd).nodup_iff.mpr ?_
      rw [List.map_cons]
      exact List.nodup_cons.mpr ⟨hm, R.diff⟩
    have ld1 : w.params.followText "set-order" = true ∨ t1.led = true := by rw [q5]; exact R.led
    have pz : t1.place.size = L.length + 1 := by
      have := q3.sz
      rw [List.length_map] at this
      omega
    have dz := q3.dm
    have cont : ∀ t2 : SetTable, TabOk t2 (L1.map (hashK knd)) → t2.mask = t.mask → (w.params.followText "set-order" = true ∨ t2.led = true) → t2.place.size = L.length + 1 → t2.dummies = #[] → t2.tooFull = t1.tooFull →
        wpAny (model P w) A (do
          storeSet a es1 t2
          if (!false && t2.tooFull) = true then do
            setRelay a (SetTable.grown (es.size + 1))
            pure true
          else pure true) Q E s := by
      intro t2 T2 m2 l2 z2 d2 f2
      refine wpAny_bind (wpAny_storeSet_of ho hd ?_ (by rw [hes, sizeLine_eq]; omega))
      have sb : Heap.SameBut a s.heap (s.heap.update a (Obj.putSet es1 t2)) := Heap.SameBut.update ..
      have ho1 := store_at (es' := es1) (t' := t2) ho hd
      generalize s.heap.update a (Obj.putSet es1 t2) = h1 at sb ho1 ⊢
      have fullAt : t2.tooFull = decide ((L.length + 1) * 5 ≥ t.mask * 3) := by
        rw [f2]
        unfold SetTable.tooFull
        rw [q9, List.length_map, q4]
      by_cases hf : t2.tooFull = true
      · refine wp_if_pos (by simp [hf]) ?_
        refine wpAny_bind ?_
        have hfull : (L.length + 1) * 5 ≥ t.mask * 3 := of_decide_eq_true (fullAt.symm.trans hf)
        rw [hsl]
        have go : ∀ M, SetTable.sizeAbove (SetTable.grown (L.length + 1)) - 1 = M → MaskOk M → SetTable.sizeAbove (SetTable.grown (L.length + 1)) ≤ 128 → (L.length + 1) * 5 < M * 3 → L.length + 1 ≤ t2.mask →
            wpAny (model P w) A (setRelay a (SetTable.grown (L.length + 1))) (fun _ s' => wpAny (model P w) A (pure true) Q E s') E { s with heap := h1 } := fun M b1 b2 b3 b4 b5 => by
          refine larger (s := { s with heap := h1 }) (L := L1) ho1 ⟨hex.1, hex.2.1, hex.2.2⟩ rfl hin (by rw [z2, hes]) d2 (by rw [hes]; exact b5) nd1 l2 (by omega) b1 b2 b3 (by omega) ?_
          intro h2 L2 es2 ep2 t2 sb2 R2 pm2
          exact wpAny_pure (hQ true h2 L2 es2 ep2 t2 (sb.trans sb2) R2 (fun z => absurd z hm) fun _ => pm2.trans pm)
        rcases R.tab.mok with e | e | e <;> rw [e] at hroom <;> rw [e] at hfull
        · have e2 : L.length = 4 := by omega
          exact go 31 (by rw [e2, size_20]) (.inr (.inl rfl)) (by rw [e2, size_20]; decide) (by omega) (by rw [m2, e]; omega)
        · have e2 : L.length = 18 := by omega
          exact go 127 (by rw [e2, size_76]) (.inr (.inr rfl)) (by rw [e2, size_76]; decide) (by omega) (by rw [m2, e]; omega)
        · omega
      · refine wp_if_neg (by simp [hf]) ?_
        have hroom1 : ¬ (L.length + 1) * 5 ≥ t.mask * 3 := fun z => hf (fullAt.trans (decide_eq_true z))
        exact wpAny_pure (hQ true h1 L1 es1 (ep + 1) t2 sb ⟨⟨_, ho1, ⟨hex.1, hex.2.1, hex.2.2⟩, rfl⟩, hin, T2, nd1, l2, by rw [m2]; omega, by omega⟩ (fun z => absurd z hm) fun _ => pm)
    have both : ∀ r : Bool, wpAny (model P w) A (do
          storeSet a es1 (if r = true then t1 else { t1 with plain := false })
          if (!false && (if r = true then t1 else { t1 with plain := false }).tooFull) = true then do
            setRelay a (SetTable.grown (es.size + 1))
            pure true
          else pure true) Q E s := by
      intro r
      cases r with
      | true => exact cont t1 q3 q4 ld1 pz dz rfl
      | false => exact cont { t1 with plain := false } ⟨q3.ris, q3.dm, q3.sz, q3.mok, q3.bd, q3.reach⟩ q4 ld1 pz dz rfl
    by_cases hpl : t1.plain = true
    · first
        | (refine wpAny_bind ?_; refine wp_if_pos hpl ?_; refine SL.byv hx fun r => both r)
        | (refine wp_if_pos hpl (wpAny_bind (SL.byv hx fun r => both r)))
    · first
        | (refine wpAny_bind ?_; refine wp_if_neg hpl ?_; refine wpAny_pure (both true))
        | (refine wp_if_neg hpl ?_; exact both true)
end
end Fn

set_option Elab.async false
set_option maxRecDepth 100000
set_option maxHeartbeats 4000000
/-! Sets of pairs of a text and an int; sorted of such a set; a set comprehension of tuples. -/
namespace Fn
open PySem PySem.Spec PyProof.Rows L2
/-! ### tuples of ints and texts as members -/
section
variable {P : Program} {w : World} {A : Around} {E : Value → Shared → Prop} {s : Shared}
abbrev KT2 (P : Program) (w : World) : HeapKind P w (List Key) := tupleKind (mixKind P w)
theorem items_plain {k : List Key} {vs : List Value} (h : ItemsAre (mixKind P w) k vs) : ∀ v ∈ vs, (∃ i t, v = Value.int i t) ∨ ∃ x t, v = Value.str x t := by
  induction h with
  | nil => intro v hv; cases hv
  | @cons k0 v' ks vs h1 _ ih =>
    intro v hv
    rcases List.mem_cons.mp hv with rfl | hv
    · rcases keyIs_shape (show keyIs k0 v = true from h1) with ⟨i, t, _, e⟩ | ⟨x, t, _, e⟩
      · exact .inl ⟨i, t, e⟩
      · exact .inr ⟨x, t, e⟩
    · exact ih v hv
theorem plain_class {v : Value} (h : (∃ i t, v = Value.int i t) ∨ ∃ x t, v = Value.str x t) (n : Nat) : ofAClassStatement n v = pure false := by
  rcases h with ⟨i, t, rfl⟩ | ⟨x, t, rfl⟩ <;> cases n <;> rfl
theorem plain_hash {v : Value} (h : (∃ i t, v = Value.int i t) ∨ ∃ x t, v = Value.str x t) (n : Nat) : ∃ b, hashByValue n v = pure b := by
  rcases h with ⟨i, t, rfl⟩ | ⟨x, t, rfl⟩ <;> cases n <;> exact ⟨_, rfl⟩
theorem tup_class {k : List Key} {b : Addr} {Q : Bool → Shared → Prop} (hk : IsTupleKey (mixKind P w) s.heap k b) (h : Q false s) : wpAny (model P w) A (ofAClassStatement 8 (.ref b)) Q E s := by
  have hT := hk.typeIs
  obtain ⟨o, items, n, ho, _, hd, hi⟩ := hk
  unfold ofAClassStatement
  refine wpAny_bind (wpAny_typeOf hT ?_)
  dsimp only
  have e : (("tuple" : String) == "tuple") = true := by decide
  simp only [e, if_true, Bool.not_true, Bool.false_eq_true, if_false]
  try refine wpAny_bind (wpAny_pure ?_)
  try simp only [Bool.not_true, Bool.false_eq_true, if_false]
  show wpAny _ _ (seqItems? (.ref b) >>= _) _ _ s
  refine wpAny_bind (wpAny_seqItems ho hd ?_)
  dsimp only
  refine wpAny_bind ?_
  show wpAny _ _ (forIn items _ _) _ _ s
  rw [← Array.forIn_toList]
  refine wpAny_forIn_list _ (fun rest r s' => r.1 = none ∧ s' = s ∧ ∀ v ∈ rest, (∃ i t, v = Value.int i t) ∨ ∃ x t, v = Value.str x t) _ ?_ ?_ _ _ ⟨rfl, rfl, items_plain hi⟩
  · rintro v rest r s' ⟨hr, rfl, hall⟩
    rw [plain_class (hall v List.mem_cons_self)]
    refine wpAny_bind (wpAny_pure ?_)
    simp only [Bool.false_eq_true, if_false]
    exact wpAny_pure ⟨rfl, rfl, fun u hu' => hall u (List.mem_cons_of_mem _ hu')⟩
  · rintro ⟨r1, r2⟩ s' ⟨hr, rfl, _⟩
    simp only at hr
    subst hr
    exact wpAny_pure h
theorem setLike_pairs : SetLike (KT2 P w) where
  byv := fun {A E s k b Q} hk h => by
    have hT := IsTupleKey.typeIs hk
    obtain ⟨o, items, n, ho, _, hd, hi⟩ := hk
    unfold hashByValue
    refine wpAny_bind (wpAny_specialOf hT F.slot_tuple_hash.lookup ?_)
    show wpAny _ _ (seqItems? (.ref b) >>= _) _ _ s
    refine wpAny_bind (wpAny_seqItems ho hd ?_)
    refine wpAny_bind ?_
    show wpAny _ _ (forIn items _ _) _ _ s
    rw [← Array.forIn_toList]
    refine wpAny_forIn_list _ (fun rest r s' => s' = s ∧ ∀ v ∈ rest, (∃ i t, v = Value.int i t) ∨ ∃ x t, v = Value.str x t) _ ?_ ?_ _ _ ⟨rfl, items_plain hi⟩
    · rintro v rest r s' ⟨rfl, hall⟩
      obtain ⟨bb, eb⟩ := plain_hash (hall v List.mem_cons_self) 7
      rw [eb]
      refine wpAny_bind (wpAny_pure ?_)
      cases bb
      · simp only [Bool.not_false, if_true]
        exact wpAny_pure (wpAny_pure (h _))
      · simp only [Bool.not_true, Bool.false_eq_true, if_false]
        exact wpAny_pure ⟨rfl, fun u hu' => hall u (List.mem_cons_of_mem _ hu')⟩
    · rintro ⟨r1, r2⟩ s' ⟨rfl, _⟩
      cases r1 with
      | none => exact wpAny_pure (h _)
      | some b => exact wpAny_pure (h _)
  seen := fun {A E s k b ys Q} hk hy h => by
    unfold searchCouldBeSeen
    refine wpAny_bind ?_
    refine wpAny_forIn_list _ (fun rest r s' => r.1 = none ∧ s' = s ∧ ∀ y ∈ rest, ∃ k' c, y = Value.ref c ∧ (KT2 P w).is s.heap k' c) _ ?_ ?_ _ _ ⟨rfl, rfl, hy⟩
    · rintro v rest r s' ⟨hr, rfl, hall⟩
      obtain ⟨k', c, rfl, hc⟩ := hall v List.mem_cons_self
      have rest' : ∀ y ∈ rest, ∃ k' c, y = Value.ref c ∧ (KT2 P w).is s'.heap k' c := fun u hu' => hall u (List.mem_cons_of_mem _ hu')
      dsimp only
      by_cases hv : (b == c || (carriedByValue (.ref b) && carriedByValue (.ref c))) = true
      · refine wp_if_pos hv ?_
        exact wpAny_pure ⟨rfl, rfl, rest'⟩
      · refine wp_if_neg hv ?_
        refine wpAny_bind (wpAny_eqIsQuiet_tuple hk ?_)
        simp only [Bool.not_true, Bool.false_eq_true, if_false]
        refine wpAny_bind (wpAny_eqIsQuiet_tuple hc ?_)
        simp only [Bool.not_true, Bool.false_eq_true, if_false]
        refine wpAny_bind (tup_class hk ?_)
        simp only [Bool.false_eq_true, if_false]
        refine wpAny_bind (tup_class hc ?_)
        simp only [Bool.false_eq_true, if_false]
        exact wpAny_pure ⟨rfl, rfl, rest'⟩
    · rintro ⟨r1, r2⟩ s' ⟨hr, rfl, _⟩
      simp only at hr
      subst hr
      exact wpAny_pure h
  apart := fun {h h' k a b o es ep t} hb ho hd hs => by
    obtain ⟨o', items, n, ho', hc, hd', hi⟩ := hb
    have hne : b ≠ a := by
      rintro rfl
      obtain rfl : o' = o := Option.some.inj (ho'.symm.trans ho)
      rw [hd] at hd'
      exact nomatch hd'
    exact ⟨o', items, n, (hs.2 b hne).trans ho', hc, hd', hi⟩
  keep := fun {h h' k b} hb hk => by
    obtain ⟨o, items, n, ho, r⟩ := hb
    exact ⟨o, items, n, hk b o ho, r⟩
end
/-! ### the set as a tracked thing -/
def PSetO (P : Program) (w : World) (a : Addr) (L : List (Addr × List Key)) : HO := .ext fun h => ∃ es ep t, HSet (KT2 P w) h a L es ep t
theorem pset_ok {P : Program} {w : World} {H : Hp} {h : Heap} {a : Addr} {L : List (Addr × List Key)} {es : Array (Int × Value)} {ep : Nat} {t : SetTable} (R : HSet (KT2 P w) h a L es ep t) : ObjOk P w H h a (PSetO P w a L) := by
  obtain ⟨o, ho, r⟩ := id R.obj
  refine ⟨⟨es, ep, t, R⟩, ⟨o, ho⟩, fun h1 h2 p k => ?_⟩
  obtain ⟨es1, ep1, t1, R1⟩ := p
  exact ⟨es1, ep1, t1, R1.stays k⟩
/-- the members are tuples that stand there -/
def Members (H : Hp) (L : List (Addr × List Key)) : Prop := ∀ p ∈ L, H p.1 = some (.tup (p.2.map kV))
section
variable {X : Cx} {pins : List (Addr × Obj)} {σ : L2.St} {H : Hp} {s : Shared}
theorem setp_add {A : Around} {E : Value → Shared → Prop} {D b : Addr} {k : List Key} {L : List (Addr × List Key)} {Q : Value → Shared → Prop} (hu : A.units + 8 < cLine) (I : Inv X pins σ H s) (hD : H D = some (PSetO X.prog X.w D L)) (hm : Members H L) (hb : H b = some (.tup (k.map kV))) (few : L.length + 1 < 64)
    (h : ∀ s' L', (k ∈ L.map Prod.snd → L' = L) → (k ∉ L.map Prod.snd → L'.Perm ((b, k) :: L)) → Inv X pins σ (upd H D (PSetO X.prog X.w D L')) s' → Q .none s') :
    wpAny (model X.prog X.w) A (call (.builtin "set.add") [.ref D, .ref b]) Q E s := by
  obtain ⟨⟨es, ep, t, R⟩, _⟩ := I.hok D _ hD
  obtain ⟨o, ho, hex, hd⟩ := id R.obj
  have hT : s.TypeIs (.ref D) "set" := ⟨o, ho, hex.1⟩
  refine wpAny_call_entry F.slot_set_add hT F.entry_set_add ?_ (F.args_set_add_2 _ _)
  unfold Builtin.«set.add» Builtin.Frozenset.oneOther
  simp only [List.isEmpty_nil, bind_assoc]
  unfold Builtin.Frozenset.addrOf setAdd
  refine wpAny_bind (wpAny_pure ?_)
  try dsimp only
  refine wpAny_bind (wpAny_pure ?_)
  try dsimp only
  refine wpAny_bind ?_
  refine wpAny_holding ?_
  have hkb : (KT2 X.prog X.w).is s.heap k b := key_of I.hok hb
  refine wpAny_bind ((KT2 X.prog X.w).pyHash (show A.in1.units < cLine by show A.units + 1 < cLine; omega) hkb ?_)
  refine add_key (s := { s with toks := s.toks + (k.length + 1) }) setLike_pairs R (fun p hp => key_of I.hok (hm p hp)) hkb (show A.in1.units < cLine by show A.units + 1 < cLine; omega) few fun bb h' L' es' ep' t' sb R' c1 c2 => ?_
  show wpAny _ _ (ret Value.none) _ _ _
  obtain ⟨o', ho', _⟩ := id R'.obj
  exact wpAny_pure ⟨_, rfl, h _ L' c1 c2 (I.write (e := D) (t' := s.toks + (k.length + 1)) (by rw [hD]; trivial) (.inl rfl) (fun b u hb hu => (sb.2 b hb).trans hu) ⟨o', ho'⟩ (pset_ok R'))⟩
end
/-! ### the comprehension -/
def tScP (P : Program) (w : World) (wi : TI) (g : TG) (tt : TT) (te : TE) (vs : List Nat) : TE := fun σ H Q => wi σ H fun J H1 => ∀ D, H1 D = none → ∃ W : Nat → Nat → Hp → Prop, (∃ m, W 0 m (upd H1 D (PSetO P w D []))) ∧ ∀ i m H, W i m H →
  (J.stop i H ∧ Q (.ref D) H) ∨ (J.go i H ∧ ∃ Nx : Hp → Prop, (∀ H', Nx H' → ∃ m', m' < m ∧ W (i + 1) m' H') ∧ ∀ x H', J.yld i H x H' → g x (wipe σ vs) H' fun σ2 H2 => wipe σ2 vs = wipe σ vs ∧ tt σ2 H2 fun b H3 =>
    if b = true then te σ2 H3 fun y H4 => ∃ (c : Addr) (k : List Key) (L : List (Addr × List Key)), y = .ref c ∧ H4 c = some (.tup (k.map kV)) ∧ H4 D = some (PSetO P w D L) ∧ Members H4 L ∧ L.length + 1 < 64 ∧
      ∀ L', (k ∈ L.map Prod.snd → L' = L) → (k ∉ L.map Prod.snd → L'.Perm ((c, k) :: L)) → Nx (upd H4 D (PSetO P w D L')) else Nx H3)
section
variable {X : Cx}
theorem pe_scP {elt tg iter : Expr} {ifs : List Expr} {scope : Scope} {own : List (PySem.Str × Nat)} {pos : Pos} {wi : TI} {g : TG} {tt : TT} {te : TE} (hu : X.A.units + 64 < cLine) (hc : X.calm = true) (hN : X.N.Nodup) (hi : PI X tg iter wi) (ok : BlkOk X.N X.env.scope scope own)
    (hg : ∀ (s : Shared) (H : Hp) (C : Addr) (cl : List (PySem.Str × Addr)) (fp : List Addr), PG (X.blk s H scope (compEnvC scope cl C X.env) fp) tg g) (ht : ∀ (s : Shared) (H : Hp) (C : Addr) (cl : List (PySem.Str × Addr)) (fp : List Addr), PTs (X.blk s H scope (compEnvC scope cl C X.env) fp) ifs tt)
    (he : ∀ (s : Shared) (H : Hp) (C : Addr) (cl : List (PySem.Str × Addr)) (fp : List Addr), PE (X.blk s H scope (compEnvC scope cl C X.env) fp) elt te) (hs : ∀ x, foldedSetIterable iter X.env x = pure x := by intro _; rfl) :
    PE X (.SetComp elt [⟨tg, iter, ifs, 0⟩] scope pos) (tScP X.prog X.w wi g tt te (own.map (·.2))) := by
  refine ⟨fun pins s σ H Q I h => ?_⟩
  rw [PpSet.eval_SetComp]
  have hfree : ∀ y ∈ scope.names, y.2 = .free → ∃ c, X.env.cells.lookup y.1 = some c := fun y hy e => by
    rcases ok.free y hy e with k | k
    · exact I.ok.has _ (.inl k)
    · exact I.ok.has _ (.inr k)
  refine wpAny_comprehension_free (use := none) rfl hs (closure_ok hfree) ok.kind (fun y hy e => by rw [ok.uniq y hy, e])
    (thn (hi.run pins s σ H _ I h) fun xv s1 hx => thn hx fun itv s2 h2 => ?_)
  obtain ⟨it, fp, tn, J, H2, e, I2, T, st2, f2, q⟩ := h2
  subst e
  refine PpSet.newSet_ok (newEnv_comp ?_)
  generalize hD : s2.heap.objs.size = D
  have hDn : H2 D = none := I2.hok.fresh (Nat.le_of_eq hD)
  obtain ⟨W, ⟨m0, w0⟩, turn⟩ := q D hDn
  generalize hs3 : ({ s2 with heap := s2.heap.push { cls := .type "set", dict := none, data := .set #[] 0 (.fresh 0 0 (!X.w.params.followText "set-order")) } } : Shared) = s3
  have I3 : Inv X pins σ (upd H2 D (PSetO X.prog X.w D [])) s3 := by
    rw [← hs3]
    refine I2.laid (t' := s2.toks) (fun b o e => Heap.get?_push_of_some _ e) (Nat.le_of_eq hD) ?_
    rw [← hD]
    exact pset_ok (HSet.empty (Heap.get?_push_size _ rfl))
  have h3 : s3.heap = s2.heap.push { cls := .type "set", dict := none, data := .set #[] 0 (.fresh 0 0 (!X.w.params.followText "set-order")) } := by rw [← hs3]
  have f3 : ∀ b ∈ fp, FpOk X pins (upd H2 D (PSetO X.prog X.w D [])) b ∧ b < s3.heap.objs.size := fun b hb => by
    obtain ⟨o, e, _⟩ := T.obj _ _ st2 b hb
    have hlt := Heap.lt_size e
    refine ⟨⟨?_, (f2 b hb).2⟩, by rw [h3, Heap.size_push]; exact Nat.lt_succ_of_lt hlt⟩
    rw [upd_ne (by rw [← hD]; exact Nat.ne_of_lt hlt)]
    exact (f2 b hb).1
  have st3 : tn 0 s3.heap := T.keep _ _ _ st2 fun b _ o e => by rw [h3]; exact Heap.get?_push_of_some _ e
  have I4 := block_start I3 ok hN f3
  have pg := hg s3 (upd H2 D (PSetO X.prog X.w D [])) s3.heap.objs.size (cellsFrom (s3.heap.objs.size + 1) scope.names (cloFrom X.env.cells scope.names [])) fp
  have pt := ht s3 (upd H2 D (PSetO X.prog X.w D [])) s3.heap.objs.size (cellsFrom (s3.heap.objs.size + 1) scope.names (cloFrom X.env.cells scope.names [])) fp
  have pe := he s3 (upd H2 D (PSetO X.prog X.w D [])) s3.heap.objs.size (cellsFrom (s3.heap.objs.size + 1) scope.names (cloFrom X.env.cells scope.names [])) fp
  show codeAny _ _ (.compStart (.SetComp elt [⟨tg, iter, ifs, 0⟩] scope pos) 0 (.ref it) (.ref D) (compEnvC scope (cellsFrom (s3.heap.objs.size + 1) scope.names (cloFrom X.env.cells scope.names [])) s3.heap.objs.size X.env)) (compPost (model X.prog X.w) X.A X.xe none (EP X pins σ Q) (.ref D) s3.heap.objs.size) { s3 with heap := pushCells (s3.heap.push { cls := .type "dict", data := .dict #[] }) scope.names }
  have nfp : ∀ b ∈ fp, (upd H2 D (PSetO X.prog X.w D [])) b = none := fun b hb => (f3 b hb).1.1
  generalize hce : compEnvC scope (cellsFrom (s3.heap.objs.size + 1) scope.names (cloFrom X.env.cells scope.names [])) s3.heap.objs.size X.env = ce at I4 pg pt pe ⊢
  have cL : ce.locals = s3.heap.objs.size := by subst hce; rfl
  generalize hH3 : upd H2 D (PSetO X.prog X.w D []) = H3 at I3 I4 pg pt pe w0 nfp f3
  generalize hs4 : ({ s3 with heap := pushCells (s3.heap.push { cls := .type "dict", data := .dict #[] }) scope.names } : Shared) = s4 at I4 ⊢
  have st4 : tn 0 s4.heap := T.keep _ _ _ st3 fun b _ o e => by rw [← hs4]; exact pushCells_keeps _ _ _ _ (Heap.get?_push_of_some _ e)
  have stat : ∀ {σ' : L2.St} {H' : Hp} {s' : Shared}, Inv (X.blk s3 H3 scope ce fp) [] σ' H' s' → (∀ b ∈ fp, H' b = none) → ∀ b ∈ fp, FpOk (X.blk s3 H3 scope ce fp) [] H' b := fun {σ' H' s'} I' hn b hb =>
    ⟨hn b hb, (I'.ok.exf b hb).1, I'.ok.exfs b hb, .inl hb, fun x c e => (I'.ok.exf b hb).2 x c e, fun p hp => absurd (show p ∈ ([] : List (Addr × Obj)) ++ [] from hp) (by simp)⟩
  have loop : codeAny (model X.prog X.w) X.A (.compLoop (.SetComp elt [⟨tg, iter, ifs, 0⟩] scope pos) 0 (.ref it) (.ref D) ce) (compPost (model X.prog X.w) X.A X.xe none (EP X pins σ Q) (.ref D) s3.heap.objs.size) s4 := by
    refine PpSet.compLoopS_any (fun n s' => ∃ i H', Inv (X.blk s3 H3 scope ce fp) [] (wipe σ (own.map (·.2))) H' s' ∧ tn i s'.heap ∧ (∀ b ∈ fp, H' b = none) ∧ W i n H') ?_ m0 ⟨0, H3, I4, st4, nfp, w0⟩
    rintro n s5 ⟨i, H5, I5, st5, n5, w5⟩
    rcases turn i n H5 w5 with ⟨stop, qq⟩ | ⟨go, Nx, hNx, step⟩
    · have td := T.done (X.blk s3 H3 scope ce fp) rfl rfl rfl hc i [] s5 _ H5 (fun _ _ => False) I5 (stat I5 n5) st5 stop
      refine thnF td fun r s6 ⟨hr, I6⟩ => ?_
      subst hr
      have I7 : Inv X pins σ H5 s6 := I3.call' (ch := fp) I6.os I6.base I6.hok I6.bare fun b hb => ⟨(f3 b hb).1.2.2.2.1, (f3 b hb).1.2.1, (f3 b hb).1.2.2.2.2.1, (f3 b hb).1.2.2.2.2.2⟩
      have nC : H5 s3.heap.objs.size = none := by
        have z : H5 ce.locals = none := I6.free
        rw [cL] at z
        exact z
      obtain ⟨m, hn, _⟩ := I6.loc
      have hn : s6.heap.Ns ce.locals m := hn
      rw [cL] at hn
      obtain ⟨g0, g1, g2, g3, g4, g5⟩ := (I3.fpOk (Nat.le_refl _) nC)
      refine ⟨m, hn, fun h'' sb => ?_⟩
      exact ⟨.ref D, H5, I7.turned (t' := s6.toks) (fun b o hb e => (sb.2 b hb).trans e) nC g1 g3 g4 g5, rfl, qq⟩
    · have ti := T.item (X.blk s3 H3 scope ce fp) rfl rfl rfl hc i [] s5 _ H5 (fun _ _ => False) I5 (stat I5 n5) st5 go
      refine thnF ti fun r s6 ⟨u, hr, h6⟩ => ?_
      subst hr
      refine thnF h6 fun _ s7 ⟨x, H7, I7, r7, y7, st7, n7⟩ => ?_
      have I7' := I7.pinned (stat I7 n7) (T.obj _ _ st7)
      refine thnF (pg.run _ s7 _ H7 x u _ I7' r7 (step x H7 y7)) fun _ s8 ⟨σ8, H8, I8, hw8, q8⟩ => ?_
      refine thnF (pt.run _ s8 σ8 H8 _ I8 q8) fun b s9 ⟨H9, I9, q9⟩ => ?_
      have fin : ∀ {s' : Shared} {H' : Hp}, Inv (X.blk s3 H3 scope ce fp) ([] ++ pinsAt fp s7.heap) σ8 H' s' → Nx H' → ∃ m, m < n ∧ ∃ i H', Inv (X.blk s3 H3 scope ce fp) [] (wipe σ (own.map (·.2))) H' s' ∧ tn i s'.heap ∧ (∀ b ∈ fp, H' b = none) ∧ W i m H' := fun {s' H'} I' nx => by
        obtain ⟨m', hm, w'⟩ := hNx H' nx
        have pin' : ∀ b ∈ fp, ∀ o, s7.heap.get? b = some o → s'.heap.get? b = some o ∧ H' b = none := fun b hb o e =>
          let z := I'.pin (b, o) (List.mem_append_right _ (List.mem_append_right _ (mem_pinsAt hb e)))
          ⟨z.1, z.2.1⟩
        have hl : (wipe σ (own.map (·.2))).length = σ8.length := by rw [← hw8, wipe_length]
        refine ⟨m', hm, i + 1, H', (I'.unpinned (pins := [])).weak hl (fun j v e => ?_), T.keep _ _ _ st7 fun b hb o e => (pin' b hb o e).1, fun b hb => ?_, w'⟩
        · rw [← hw8] at e
          exact (wipe_some e).1
        · obtain ⟨o, e, _⟩ := T.obj _ _ st7 b hb
          exact (pin' b hb o e).2
      cases b with
      | false =>
        simp only [Bool.false_eq_true, if_false] at q9 ⊢
        exact fin I9 q9
      | true =>
        simp only [if_true] at q9 ⊢
        refine thnF (pe.run _ s9 σ8 H9 _ I9 q9) fun z s10 ⟨yv, H10, I10, r10, c, k, L, ey, hc10, hD10, hm10, few, nx⟩ => ?_
        subst ey
        cases (show z = Value.ref c from r10)
        exact setp_add (X := X.blk s3 H3 scope ce fp) (A := X.A) (by omega) I10 hD10 hm10 hc10 few fun s11 L' c1 c2 I11 => fin I11 (nx L' c1 c2)
  exact PpSet.codeAny_compStart_set loop (T.self X.A 0 _ _ _ st4 loop)
end
/-! ### sorted of such a set -/
def lexS (p q : Str × Int) : Bool := if p.1 = q.1 then decide (p.2 < q.2) else decide (p.1.cps.toList < q.1.cps.toList)
theorem str_ne {x y : Str} (h : x ≠ y) : x.cps.toList ≠ y.cps.toList := by
  obtain ⟨x⟩ := x
  obtain ⟨y⟩ := y
  intro e
  exact h (by rw [show x = y from Array.toList_inj.mp e])
theorem lexS_iff {p q : Str × Int} : lexS p q = true ↔ p.1.cps.toList < q.1.cps.toList ∨ (p.1 = q.1 ∧ p.2 < q.2) := by
  unfold lexS
  by_cases e : p.1 = q.1
  · rw [if_pos e, decide_eq_true_eq, e]
    constructor
    · exact fun h => .inr ⟨rfl, h⟩
    · rintro (h | h)
      · exact absurd h (List.lt_irrefl _)
      · exact h.2
  · rw [if_neg e, decide_eq_true_eq]
    constructor
    · exact .inl
    · rintro (h | h)
      · exact h
      · exact absurd h.1 e
theorem lexS_tot {p q : Str × Int} (h : lexS q p = false) : lexS p q = true ∨ p = q := by
  by_cases e : p.1 = q.1
  · have h2 : ¬ q.2 < p.2 := fun z => by
      rw [lexS_iff.mpr (.inr ⟨e.symm, z⟩)] at h
      cases h
    rcases Int.lt_trichotomy p.2 q.2 with c | c | c
    · exact .inl (lexS_iff.mpr (.inr ⟨e, c⟩))
    · exact .inr (Prod.ext e c)
    · exact absurd c h2
  · have h2 : ¬ q.1.cps.toList < p.1.cps.toList := fun z => by
      rw [lexS_iff.mpr (.inl z)] at h
      cases h
    rw [List.not_lt] at h2
    rcases List.le_iff_lt_or_eq.mp h2 with c | c
    · exact .inl (lexS_iff.mpr (.inl c))
    · exact absurd c (str_ne e)
theorem lexS_asym {p q : Str × Int} (h : lexS p q = true) : lexS q p = false := by
  cases h2 : lexS q p with
  | false => rfl
  | true =>
    rcases lexS_iff.mp h with a | ⟨a, b⟩
    · rcases lexS_iff.mp h2 with c | ⟨c, d⟩
      · exact absurd (List.lt_trans a c) (List.lt_irrefl _)
      · rw [c] at a
        exact absurd a (List.lt_irrefl _)
    · rcases lexS_iff.mp h2 with c | ⟨c, d⟩
      · rw [a] at c
        exact absurd c (List.lt_irrefl _)
      · omega
theorem lexS_trans {p q r : Str × Int} (h1 : lexS p q = true) (h2 : lexS q r = true) : lexS p r = true := by
  rcases lexS_iff.mp h1 with a | ⟨a, b⟩
  · rcases lexS_iff.mp h2 with c | ⟨c, d⟩
    · exact lexS_iff.mpr (.inl (List.lt_trans a c))
    · rw [c] at a
      exact lexS_iff.mpr (.inl a)
  · rcases lexS_iff.mp h2 with c | ⟨c, d⟩
    · rw [← a] at c
      exact lexS_iff.mpr (.inl c)
    · exact lexS_iff.mpr (.inr ⟨a.trans c, by omega⟩)
theorem swo_lexS {α : Type} (k : α → Str × Int) : SrtO.Swo fun v u => lexS (k v) (k u) := by
  refine ⟨fun x y h => lexS_asym h, fun x y z h1 h2 => ?_⟩
  rcases lexS_tot h1 with a | a
  · rcases lexS_tot h2 with b | b
    · exact lexS_asym (lexS_trans a b)
    · rw [← b]
      exact lexS_asym a
  · rw [a]
    exact h2
/-- a pair of a text and an int -/
def IsPairS (h : Heap) (v : Value) (p : Str × Int) : Prop := ∃ a o t u n, v = .ref a ∧ h.get? a = some o ∧ o.cls = .type "tuple" ∧ o.data = .seq #[.str p.1 t, .int p.2 u] n
section
variable {prog : Program} {w : World} {A : Around} {E : Value → Shared → Prop} {s : Shared}
theorem pairS_cmp {vs : List Value} {k : Value → Str × Int} (hp : ∀ v ∈ vs, IsPairS s.heap v (k v)) : SrtO.Cmp prog w A s (tuples' true) (fun p => p.1 ∈ vs) (SrtO.lt2 fun v u => lexS (k v) (k u)) := by
  intro p q hm hm'
  obtain ⟨a, o, t, u, n, e, ho, hc, hd⟩ := hp _ hm
  obtain ⟨a', o', t', u', n', e', ho', hc', hd'⟩ := hp _ hm'
  show wpAny (model prog w) A (keyLt' (tuples' true) p.1 q.1) (fun r s' => s' = s ∧ r = lexS (k p.1) (k q.1)) (fun _ _ => False) s
  unfold lexS
  generalize k p.1 = x at hd ⊢
  generalize k q.1 = y at hd' ⊢
  rw [e, e']
  refine PySem.W.kat_lt ho hd ho' hd' ?_
  show PySem.W.KatLex prog w A true (decide (2 < 2)) _ [(.str x.1 t, .str y.1 t'), (.int x.2 u, .int y.2 u')] 0 s
  refine PySem.W.kat_cons (SeqAt.EqAt.str_str x.1 t y.1 t' prog w _ _ ?_)
  refine PySem.W.kat_go (fun e1 => ?_) (fun e1 => ?_)
  · have ex : x.1 = y.1 := by simpa using e1
    refine PySem.W.kat_yes (PySem.W.kat_cons (SeqAt.EqAt.int_int x.2 u y.2 u' prog w _ _ ?_))
    refine PySem.W.kat_go (fun e2 => ?_) (fun e2 => ?_)
    · have ey : x.2 = y.2 := by simpa using e2
      refine PySem.W.kat_yes (PySem.W.kat_nil ⟨rfl, ?_⟩)
      rw [if_pos ex, ey]
      exact (decide_eq_false (Int.lt_irrefl _)).symm
    · refine PySem.W.kat_no (PySem.W.kat_one _ _ (PyProof.Rows.lt_int ?_))
      exact (show s = s ∧ decide (x.2 < y.2) = (if x.1 = y.1 then decide (x.2 < y.2) else decide (x.1.cps.toList < y.1.cps.toList)) from ⟨rfl, (if_pos ex).symm⟩)
  · have ex : ¬ x.1 = y.1 := by simpa using e1
    exact PySem.W.kat_no (oneLt_str ⟨rfl, (if_neg ex).symm⟩)
theorem firstsS {h : Heap} : ∀ {vs : List Value}, (∀ v ∈ vs, ∃ p, IsPairS h v p) → ∃ fs : List Value, PySem.W.KatTups h vs fs ∧ fs.length = vs.length ∧ ∀ f ∈ fs, ∃ x t, f = Value.str x t
  | [], _ => ⟨[], PySem.W.KatTups.nil, rfl, fun _ hm => by simp at hm⟩
  | v :: vs, hp => by
    obtain ⟨fs, h1, h2, h3⟩ := firstsS (vs := vs) fun v' hm => hp v' (List.mem_cons_of_mem _ hm)
    obtain ⟨p, a, o, t, u, n, rfl, ho, hc, hd⟩ := hp v List.mem_cons_self
    refine ⟨.str p.1 t :: fs, PySem.W.KatTups.cons ho hc hd rfl h1, by rw [List.length_cons, List.length_cons, h2], fun f hm => ?_⟩
    rcases List.mem_cons.mp hm with rfl | hm
    · exact ⟨p.1, t, rfl⟩
    · exact h3 f hm
theorem pairS_keeps {h h' : Heap} {v : Value} {p : Str × Int} (x : IsPairS h v p) (k : ∀ b o, h.get? b = some o → o.cls = .type "tuple" → h'.get? b = some o) : IsPairS h' v p := by
  obtain ⟨a, o, t, u, n, e, ho, hc, hd⟩ := x
  exact ⟨a, o, t, u, n, e, k _ _ ho hc, hc, hd⟩
theorem pairS_sortable {a : Addr} {vs : List Value} {k : Value → Str × Int} (h0 : 0 < vs.length) (hp : ∀ v ∈ vs, IsPairS s.heap v (k v)) (ha : ∀ o, s.heap.get? a = some o → o.cls ≠ .type "tuple") : SrtO.SortableO prog w A s a vs fun v u => lexS (k v) (k u) := by
  intro h' keep
  have hp' : ∀ v ∈ vs, IsPairS h' v (k v) := fun v hm => pairS_keeps (hp v hm) fun b o e c => keep b o (fun z => by subst z; exact ha o e c) e
  obtain ⟨fs, h1, h2, h3⟩ := firstsS fun v hm => ⟨_, hp' v hm⟩
  refine ⟨tuples' true, fun Q E hq => ?_, pairS_cmp hp'⟩
  refine PySem.W.kat_kind (T := .type "str") h1 (by omega) (fun f hm => ?_) (by rfl) ?_
  · obtain ⟨x, t, rfl⟩ := h3 f hm
    exact PySem.W.Looks.now
  · have e : (Value.type "str" != Value.type "tuple") = true := by first | decide +kernel | rfl | decide
    rw [e]
    exact hq
end
theorem perm_map_inv {α β : Type} {f : α → β} : ∀ {l m : List β}, l.Perm m → ∀ L : List α, m = L.map f → ∃ L' : List α, L'.Perm L ∧ l = L'.map f := by
  intro l m h
  induction h with
  | nil => intro L e; exact ⟨[], by rw [List.map_eq_nil_iff.mp e.symm], rfl⟩
  | @cons x l m h ih =>
    intro L e
    obtain ⟨y, L1, rfl, rfl, e1⟩ := List.map_eq_cons_iff.mp e.symm
    obtain ⟨L', p, rfl⟩ := ih L1 e1.symm
    exact ⟨y :: L', p.cons y, rfl⟩
  | swap x y l =>
    intro L e
    obtain ⟨a, L1, rfl, rfl, e1⟩ := List.map_eq_cons_iff.mp e.symm
    obtain ⟨b, L2, rfl, rfl, e2⟩ := List.map_eq_cons_iff.mp e1
    subst e2
    exact ⟨b :: a :: L2, List.Perm.swap .., rfl⟩
  | trans h1 h2 ih1 ih2 =>
    intro L e
    obtain ⟨L2, p2, e2⟩ := ih2 L e
    obtain ⟨L1, p1, e1⟩ := ih1 L2 e2
    exact ⟨L1, p1.trans p2, e1⟩
/-- the pair that stands at an address -/
def pairAt (H : Hp) (a : Addr) : Str × Int := match H a with
  | some (.tup [.str x, .int i]) => (x, i)
  | _ => ("", 0)
def PairsAt (H : Hp) (L : List (Addr × List Key)) : Prop := ∀ p ∈ L, ∃ x i, p.2 = [Sum.inr x, Sum.inl i] ∧ H p.1 = some (.tup [.str x, .int i])
def rSortP (P : Program) (w : World) : List V → Hp → VK → Prop := fun vs H Q => ∃ (a : Addr) (L : List (Addr × List Key)), vs = [V.ref a] ∧ H a = some (PSetO P w a L) ∧ PairsAt H L ∧ 
  ∀ (as : List Addr) (p : Addr), as.Perm (L.map Prod.fst) → as.Pairwise (fun b c => lexS (pairAt H c) (pairAt H b) = false) → H p = none → Q (.ref p) (upd H p (.lst (as.map V.ref)))
theorem cr_sortP {X : Cx} (hc : X.calm = true) : CallR X (.builtin "sorted") (rSortP X.prog X.w) := by
  intro pins s σ H vs us Q I r h
  obtain ⟨a, L, rfl, ha, hL, q⟩ := h
  obtain ⟨⟨es, ep, t, R⟩, _⟩ := I.hok a _ ha
  obtain ⟨o, ho, hex, hd⟩ := id R.obj
  have hsz := rows_size R.rows
  have hfew := R.few
  rw [Vals.ref1 r]
  let k : Value → Str × Int := fun v => match v with | .ref b => pairAt H b | _ => ("", 0)
  have pk : ∀ b ∈ L.map Prod.fst, IsPairS s.heap (.ref b) (k (.ref b)) := by
    intro b hb
    obtain ⟨p, hp, rfl⟩ := List.mem_map.mp hb
    obtain ⟨x, i, e, hx⟩ := hL p hp
    obtain ⟨_, its, rv, ob, h1, h2, n, h3⟩ := I.hok _ _ hx
    obtain ⟨u1, u2, rfl, ⟨t1, rfl⟩, t2, rfl⟩ := vals2 rv
    have ek : k (.ref p.1) = (x, i) := by
      show pairAt H p.1 = _
      unfold pairAt
      rw [hx]
    rw [ek]
    exact ⟨p.1, ob, t1, t2, n, rfl, h1, h2, h3⟩
  refine Calls.call_function_entry kind_sorted plain_sorted entry_sorted (args_sorted1 _) ?_
  unfold Builtin.«sorted»
  refine wpAny_bind (m := checkCount "sorted" 1 1 _) (wpAny_pure ?_)
  refine wpAny_bind (collect_set (P := X.prog) (w := X.w) (A := X.A.in1) (I.ok.hd hc) ⟨o, ho, hex.1, hd⟩ R.fits (by unfold scanBound; omega) R.tab.ris R.led fun s1 vs k1 hz g1 o1 pm => ?_)
  have hes : es.toList.map (·.2) = (L.map Prod.fst).map Value.ref := by
    rw [R.rows, List.map_map, List.map_map]
    rfl
  rw [hes] at pm
  obtain ⟨as0, pas0, rfl⟩ := perm_map_inv pm (L.map Prod.fst) rfl
  have hvl : (as0.map Value.ref).length < 64 := by rw [List.length_map, pas0.length_eq, List.length_map]; exact hfew
  refine wpAny_bind (wpAny_newList ?_ (by rw [sizeLine_eq]; omega))
  have hoL : (s1.heap.push (seqObj "list" (as0.map Value.ref).toArray 0)).get? s1.heap.objs.size = some (seqObj "list" (as0.map Value.ref).toArray 0) := Heap.get?_push_size _ rfl
  have pk1 : ∀ v ∈ as0.map Value.ref, IsPairS (s1.heap.push (seqObj "list" (as0.map Value.ref).toArray 0)) v (k v) := by
    intro v hv
    obtain ⟨b, hb, rfl⟩ := List.mem_map.mp hv
    exact pairS_keeps (pk b (pas0.mem_iff.mp hb)) fun c u e _ => Heap.get?_push_of_some _ (k1 c u e)
  refine wpAny_bind (wpAny_holding (wpAny_call_entry slot_list_sort ⟨_, hoL, rfl⟩ entry_list_sort (SrtO.list_sort_ord (s := { s1 with heap := s1.heap.push (seqObj "list" (as0.map Value.ref).toArray 0) }) (swo_lexS k) hoL (by rw [sizeLine_eq]; omega) (fun h2 => pairS_sortable (by omega) pk1 fun o2 e2 c2 => ?_) fun out hs hb => ⟨_, rfl, ?_⟩) (args_list_sort _)))
  · have e3 : some o2 = some (seqObj "list" (as0.map Value.ref).toArray 0) := e2.symm.trans hoL
    cases e3
    exact absurd (Value.type.inj c2) (by decide)
  · obtain ⟨as, pas, rfl⟩ := perm_map_inv hb.perm as0 rfl
    obtain ⟨c, hcl⟩ := sortedHeap_at (vs := as0.map Value.ref) (out := (as.map Value.ref).toArray) hoL
    have keep : ∀ b u, s.heap.get? b = some u → (sortedHeap (s1.heap.push (seqObj "list" (as0.map Value.ref).toArray 0)) s1.heap.objs.size (as0.map Value.ref) (as.map Value.ref).toArray).get? b = some u := fun b u e => by
      have q := k1 b u e
      have hlt := Heap.lt_size q
      rw [sortedHeap_old (Nat.ne_of_lt hlt) (by rw [size_push']; exact Nat.lt_succ_of_lt hlt)]
      exact Heap.get?_push_of_some _ q
    have hn : H s1.heap.objs.size = none := I.hok.fresh hz
    have hlen : (as.map V.ref).length ≤ sizeLine := by rw [List.length_map, pas.length_eq, sizeLine_eq]; rw [List.length_map] at hvl; omega
    have vr : ∀ l : List Addr, Vals (l.map V.ref) (l.map Value.ref) := fun l => by
      induction l with
      | nil => exact .nil
      | cons b l ih => exact .cons rfl ih
    have J : Inv X pins σ (upd H s1.heap.objs.size (.lst (as.map V.ref))) { s with heap := sortedHeap (s1.heap.push (seqObj "list" (as0.map Value.ref).toArray 0)) s1.heap.objs.size (as0.map Value.ref) (as.map Value.ref).toArray, gens := s1.gens, drawn := s1.drawn, toks := s1.toks } :=
      I.call (ch := []) (Un.laid keep hz hn) (I.hok.laid keep hz ⟨hlen, as.map Value.ref, c, vr as, hcl⟩) (by rw [g1]; exact I.bare) (fun _ z => nomatch z)
    refine wpAny_pure ⟨_, rfl, ?_⟩
    have e : ({ s1 with heap := sortedHeap (s1.heap.push (seqObj "list" (as0.map Value.ref).toArray 0)) s1.heap.objs.size (as0.map Value.ref) (as.map Value.ref).toArray } : Shared) = { s with heap := sortedHeap (s1.heap.push (seqObj "list" (as0.map Value.ref).toArray 0)) s1.heap.objs.size (as0.map Value.ref) (as.map Value.ref).toArray, gens := s1.gens, drawn := s1.drawn, toks := s1.toks } := by
      cases s1
      cases s
      cases o1
      rfl
    refine ⟨.ref s1.heap.objs.size, _, by rw [← e] at J; exact J, rfl, q as _ (pas.trans pas0) ?_ hn⟩
    exact List.pairwise_map.mp hs
end Fn

set_option Elab.async false
set_option maxRecDepth 100000
set_option maxHeartbeats 2000000
/-! Instances that are made by a def which may raise, within a try or not; a class held by a local; a classmethod; len of an instance. -/
namespace Fn
open PySem PySem.Spec PyProof.Rows L2
section
variable {X : Cx} {CX : CXT} {k : Nat} {f C : Addr} {fd : FuncData} {ps : List Str} {sp : Sp} {E : L2.St → XK}
theorem run_rawS {pins : List (Addr × Obj)} {σ : L2.St} {H : Hp} {s : Shared} {Q : VK} {us : List Value} {vs : List V} (F : FnR X.prog X.w X.K X.mg X.base CX k f sp) (hr : Room k X.A) (hx : PassesAt CX X σ (E σ)) (I : Inv X pins σ H s) (r : Vals vs us) (h : sp vs H Q (E σ)) :
    codeAny (model X.prog X.w) X.A (.call (.ref f) ⟨us, []⟩) (fun r s' => match r with | .ok (.ret v) => EP X pins σ Q v s' | .ok _ => False | .error e => X.xe e s') s := by
  refine codeAny_mono (F X.A X.stack s H us vs Q (E σ) hr I.env0 r h) fun r s' hq => ?_
  cases r with
  | error e => exact hx pins H s e s' I hq
  | ok fl =>
    cases fl with
    | ret u => exact I.after hq
    | next => exact False.elim hq
    | brk => exact False.elim hq
    | cont => exact False.elim hq
theorem raw0 {P : Program} {w : World} {K : PySem.W.Frag} {mg : PySem.Str → Option Value} {base : Heap} {CX : CXT} (F : FnOk P w K mg base CX k f fd ps sp) (hb : Binds K fd ps []) : FnR P w K mg base CX k f sp :=
  (F.raw hb .nil).imp fun vs H Q E h => by
    show sp (vs ++ []) H Q E
    rw [List.append_nil]
    exact h
/-- C(e, ..); what the caller wishes of an exception may hang on the slots -/
def tMakeS (C : Addr) (sp : Sp) (E : L2.St → XK) (t : TA) : TE := fun σ H Q => t σ H fun vs H1 => ∀ x dx, H1 x = Option.none → H1 dx = Option.none → dx ≠ x →
  sp (V.ref x :: vs) (upd (upd H1 dx (.own x)) x (.ins C dx [])) (fun v H2 => v = .non ∧ Q (.ref x) H2) (E σ)
theorem run_makeS {pins : List (Addr × Obj)} {σ : L2.St} {H : Hp} {s : Shared} {Q : VK} {us : List Value} {vs : List V} (M : Mk X.K C f) (F : FnOk X.prog X.w X.K X.mg X.base CX k f fd ps sp) (hb : Binds X.K fd ps []) (hr : Room (k + 1) X.A) (hx : PassesAt CX X σ (E σ)) (I : Inv X pins σ H s) (r : Vals vs us)
    (h : ∀ x dx, H x = Option.none → H dx = Option.none → dx ≠ x → sp (V.ref x :: vs) (upd (upd H dx (.own x)) x (.ins C dx [])) (fun v H2 => v = .non ∧ Q (.ref x) H2) (E σ)) :
    wpAny (model X.prog X.w) X.A (call (.ref C) us) (EP X pins σ Q) X.xe s := by
  have hq := h (s.heap.objs.size + 1) s.heap.objs.size (I.hok.fresh (Nat.le_succ _)) (I.hok.fresh (Nat.le_refl _)) (Nat.ne_of_lt (Nat.lt_succ_self _))
  have I2 := Inv.made (C := C) I
  have r2 : Vals (V.ref (s.heap.objs.size + 1) :: vs) (Value.ref (s.heap.objs.size + 1) :: us) := .cons rfl r
  have F' := raw0 F hb
  refine wpAny_call (make_map (f := f) I.kIn M.makes M.init (beq_iff_eq.mp M.fn) (codeAny_mono (F' _ X.stack _ _ (Value.ref (s.heap.objs.size + 1) :: us) _ _ (E σ) (hr.make C us []) (I2.env0.make C us []) r2 hq) fun r s' hq' => ?_))
  cases r with
  | error e => exact hx pins _ _ e s' I2 hq'
  | ok fl =>
    cases fl with
    | ret u =>
      obtain ⟨v, H', I3, rv, ev, q3⟩ := I2.after hq'
      subst ev
      exact ⟨rv, ⟨V.ref (s.heap.objs.size + 1), H', I3, rfl, q3⟩⟩
    | next => exact False.elim hq'
    | brk => exact False.elim hq'
    | cont => exact False.elim hq'
variable {x m : Str} {e o : Expr} {es : List Expr} {t : TA} {ta : TE} {p pos apos : Pos}
theorem pe_makeS (M : Mk X.K C f) (F : FnOk X.prog X.w X.K X.mg X.base CX k f fd ps sp) (hb : Binds X.K fd ps []) (hr : Room (k + 1) X.A) (hg : Gl X x) (hm : X.mg x = some (.ref C)) (hx : ∀ σ, PassesAt CX X σ (E σ)) (ha : PA X (e :: es) t) (hdb : (x == ("__debug__" : Str)) = false := by decide)
    (he : starEach (e :: es) X.env = (false, eval e X.env) :: starEach es X.env := by rfl) (hpl : (backTo pos (starEach es X.env)).any (·.1) = false := by rfl) : PE X (.Call (.Name x p) (e :: es) [] pos) (tMakeS C sp E t) := by
  refine ⟨fun pins s σ H Q I h => ?_⟩
  refine wpAny_Call_Name_kw (ld_glob I hg hm ?_ hdb)
  refine PySem.W.callWith_K (h₀ := X.base) I.ok.mod.kin M.kp (thn (ha.run pos pins s σ H _ I h) fun us s1 ⟨vs, H1, I1, r, q⟩ => ⟨I1.kIn, ?_⟩) he hpl
  exact run_makeS M F hb hr (hx σ) I1 r q
/-- .. the class is held by a local -/
theorem pe_makeLS {i : Nat} (M : Mk X.K C f) (F : FnOk X.prog X.w X.K X.mg X.base CX k f fd ps sp) (hb : Binds X.K fd ps []) (hr : Room (k + 1) X.A) (hN : X.N[i]? = some x) (hv : Vis X.env.scope x) (hx : ∀ σ, PassesAt CX X σ (E σ)) (ha : PA X (e :: es) t) (hdb : (x == ("__debug__" : Str)) = false := by decide) (hcd : (x == ("__classdict__" : Str)) = false := by decide)
    (he : starEach (e :: es) X.env = (false, eval e X.env) :: starEach es X.env := by rfl) (hpl : (backTo pos (starEach es X.env)).any (·.1) = false := by rfl) : PE X (.Call (.Name x p) (e :: es) [] pos) (fun σ H Q => σ[i]? = some (some (.ref C)) ∧ tMakeS C sp E t σ H Q) := by
  refine ⟨fun pins s σ H Q I h => ?_⟩
  obtain ⟨hs, ht⟩ := h
  refine wpAny_Call_Name_kw (thn ((pe_var (pos := p) hN hv hdb hcd).run pins s σ H (fun v H1 => v = .ref C ∧ H1 = H) I ⟨.ref C, hs, rfl, rfl⟩) fun u s1 ⟨v, H1, I1, r1, q1⟩ => ?_)
  obtain ⟨rfl, rfl⟩ := q1
  cases r1
  refine PySem.W.callWith_K (h₀ := X.base) I.ok.mod.kin M.kp (thn (ha.run pos pins s1 σ _ _ I1 ht) fun us s2 ⟨vs, H2, I2, r, q⟩ => ⟨I2.kIn, ?_⟩) he hpl
  exact run_makeS M F hb hr (hx σ) I2 r q
/-- e.m(..), e the class at C, m a classmethod -/
def tCMethS (C : Addr) (sp : Sp) (E : L2.St → XK) (ta : TE) (t : TA) : TE := fun σ H Q => ta σ H fun x H1 => x = .ref C ∧ t σ H1 fun vs H2 => sp (.ref C :: vs) H2 Q (E σ)
theorem run_cmS {g q : Addr} {pins : List (Addr × Obj)} {σ : L2.St} {H : Hp} {s : Shared} {Q : VK} {us : List Value} {vs : List V} (F : FnR X.prog X.w X.K X.mg X.base CX k g sp) (hr : Room k X.A) (hx : PassesAt CX X σ (E σ)) (I : Inv X ((q, PySem.W.methodObj (.ref g) (.ref C)) :: pins) σ H s)
    (r : Vals vs us) (h : sp (.ref C :: vs) H Q (E σ)) : wpAny (model X.prog X.w) X.A (call (.ref q) us) (EP X pins σ Q) X.xe s := by
  have z : wpAny (model X.prog X.w) X.A (call (.ref q) us) (EP X ((q, PySem.W.methodObj (.ref g) (.ref C)) :: pins) σ Q) X.xe s :=
    wpAny_call (PySem.W.method_call (ClX.pin_at I) (run_rawS (us := .ref C :: us) (vs := .ref C :: vs) F hr hx I (.cons rfl r) h))
  exact thn z fun _ _ y => ClX.unpinE y
theorem pe_cmethS {g pa : Addr} {mc : Value} {pl : Sem Bool} (he : PE X o ta) (r : ClX.CRead X.K C mc) (c : ClX.CMet X.K C mc m pa g) (F : FnR X.prog X.w X.K X.mg X.base CX k g sp) (hr : Room k X.A) (hx : ∀ σ, PassesAt CX X σ (E σ)) (ha : PA X (e :: es) t)
    (hst : starEach (e :: es) X.env = (false, eval e X.env) :: starEach es X.env := by rfl) (hpl : (backTo pos (starEach es X.env)).any (·.1) = false := by rfl)
    (ht : eval (.Call (.Attribute o m apos) (e :: es) [] pos) X.env = (do
      let ov ← eval o X.env
      standAt apos.atName
      let (f, first) ← holding [ov] (getMethod ov m pl)
      callWith pos f first (backTo pos (starEach (e :: es) X.env)) (backToKw pos (keywordEach [] X.env))) := by rfl) :
    PE X (.Call (.Attribute o m apos) (e :: es) [] pos) (tCMethS C sp E ta t) := by
  refine ⟨fun pins s σ H Q I h => ?_⟩
  refine PySem.W.methodCall_KW (pl := pl) (thn (he.run pins s σ H _ I h) fun u s1 ⟨x, H1, I1, rx, ex, q⟩ => ?_) ht
  subst ex
  obtain rfl : u = Value.ref C := rx
  refine ClX.getmethcm_ok I1 r c fun s2 I2 => ?_
  refine ClX.callwith_cm I2 (ClX.base_none I1 (Nat.le_refl _)) c.fi (thn (ha.run pos _ s2 σ H1 _ I2 q) fun us s3 ⟨vs, H2, I3, rv, q2⟩ => ⟨⟨ClX.pin_at I3, I3.kIn⟩, ?_⟩) hst hpl
  exact run_cmS F hr (hx σ) I3 rv q2
/-- len(o), by the class's own __len__, which raises nothing -/
def rLenO (C : Addr) (sp : Sp) : List V → Hp → VK → Prop := fun xs H Q => ∃ (a dx : Addr) (fs : List (Str × V)), xs = [.ref a] ∧ H a = some (.ins C dx fs) ∧ sp [.ref a] H (fun v H' => ∃ n : Int, v = .int n ∧ 0 ≤ n ∧ n < 2 ^ 63 ∧ Q (.int n) H') E0
theorem call_lenO {g : Addr} (hs : PySem.W.findIn X.K (.ref C) "__len__" = some (some (.ref g))) (hf : PySem.W.isFn X.K (.ref g) = true) (F : FnOk X.prog X.w X.K X.mg X.base CX0 k g fd ps sp) (hb : Binds X.K fd ps []) (hr : Room (k + 1) X.A) : CallR X (.builtin "len") (rLenO C sp) := by
  intro pins s σ H xs us Q I r h
  obtain ⟨a, dx, fs, rfl, ea, q⟩ := h
  obtain ⟨u, rfl, ru⟩ := vals1 r
  obtain rfl : u = Value.ref a := ru
  obtain ⟨mA, O, _, _, _, _⟩ := ins_get I.hok ea
  obtain ⟨od, J, _⟩ := O.look
  refine Calls.call_function_entry kind_len plain_len entry_len (args_len1 _) ?_
  unfold Builtin.«len»
  refine wpAny_bind (m := oneArg "len" _) (wpAny_pure ?_)
  refine wpAny_bind (m := callSpecial? (.ref a) (Str.ofString "__len__")) (PySem.W.special_fn (args := []) I.kIn J hs (beq_iff_eq.mp hf) ?_)
  have F' := raw0 F hb
  refine wpAny_call (codeAny_mono (F' X.A.in1 X.stack s H [.ref a] [.ref a] _ E0 hr.in1 I.env0.in1 (.cons rfl .nil) q) fun r s' hq => ?_)
  cases r with
  | error e => exact False.elim hq
  | ok fl =>
    cases fl with
    | ret u =>
      obtain ⟨v, H', I3, rv, n, rfl, h0, h1, q3⟩ := I.after hq
      obtain ⟨tk, rfl⟩ : ∃ tk, u = Value.int n tk := rv
      refine wpAny_bind (wpAny_holding (wpAny_pure ?_))
      refine wpAny_bind (wpAny_letGo ?_)
      show wpAny _ _ (if n < 0 then _ else _) _ _ _
      rw [if_neg (by omega)]
      show wpAny _ _ (if n ≥ 2 ^ 63 then _ else _) _ _ _
      rw [if_neg (by omega)]
      exact wpAny_bind (wpAny_mkInt (wpAny_pure ⟨_, rfl, .int n, H', I3.tok _, ⟨_, rfl⟩, q3⟩))
    | next => exact False.elim hq
    | brk => exact False.elim hq
    | cont => exact False.elim hq
end
/-! ### what the written part says of the classes Term and InvalidTerm -/
structure Ta where
  (T X fi fl pn gn pb gb : Addr)
abbrev mcT : Value := .type "type"
abbrev tValE : List Value := [.type "ValueError", .type "Exception", .type "BaseException", .type "object"]
structure TermZ (K : PySem.W.Frag) (mg : PySem.Str → Option Value) (c : Ta) : Prop where
  g_T : mg "Term" = some (.ref c.T)
  g_X : mg "InvalidTerm" = some (.ref c.X)
  cls : Cls K c.T
  mkc : Mk K c.T c.fi
  no : NoAttr K c.T "_nodes"
  len : PySem.W.findIn K (.ref c.T) "__len__" = some (some (.ref c.fl))
  lenF : PySem.W.isFn K (.ref c.fl) = true
  prop : PropOf K c.T "nodes" c.pn c.gn
  read : ClX.CRead K c.T mcT
  met : ClX.CMet K c.T mcT "build" c.pb c.gb
  kit : ∀ n ∈ ["NoneType", "bool", "int", "str", "list", "tuple", "dict"], PySem.W.kitOne K (.type n) (.ref c.T) = some false
  kitT : PySem.W.kitOne K (.ref c.T) (.ref c.T) = some true
  c1 : PySem.W.findIn K (.ref c.T) "__class__" = some (some (.builtin "object.__class__"))
  c2 : PySem.W.specialIn K (.builtin "object.__class__") "__get__" = some (some (.builtin "getset_descriptor.__get__"))
  c3 : PySem.W.takesIn K (.builtin "object.__class__") = some true
  c4 : PySem.W.mroIn K c.T (.type "object") = some true
  exc : PySem.W.excIn K c.X tValE "ValueError.__new__" = true
  kX : PySem.W.keepIn K (.ref c.X) = true
  subX : PySem.W.subIn K (.ref c.X) (.type "BaseException") = some true
  tyX : PySem.W.typeIn K (.ref c.X) = some (.type "type")
  exm : PySem.W.exmOne K (.ref c.X) (.ref c.X) = some true
def termB (K : PySem.W.Frag) (c : Ta) : Bool :=
  PySem.W.plainGet K c.T Str.empty && (PySem.W.hasDictIn K c.T && (PySem.W.plainOver K c.T && (decide (PySem.W.findIn K (.ref c.T) "__setattr__" = some (some (.builtin "object.__setattr__"))) && (PySem.W.makesIn K c.T && (PySem.W.isFn K (.ref c.fi) && (PySem.W.keepIn K (.ref c.T) &&
    (decide (PySem.W.findIn K (.ref c.T) "_nodes" = some none) && (PySem.W.isFn K (.ref c.fl) && (decide (PySem.W.specialIn K (.ref c.pn) "__get__" = some (some (.builtin "property.__get__"))) && (decide (PySem.W.takesIn K (.ref c.pn) = some true) &&
    (PySem.W.readsIn K c.T mcT && (decide (PySem.W.specialIn K (.ref c.T) "__getattribute__" = some (some (.builtin "type.__getattribute__"))) && (PySem.W.fnIn K c.gb && decide (PySem.W.kitOne K (.ref c.T) (.ref c.T) = some true))))))))))))))
def clB4 (K : PySem.W.Frag) (C : Addr) : Bool := decide (PySem.W.findIn K (.ref C) "__class__" = some (some (.builtin "object.__class__"))) && (decide (PySem.W.specialIn K (.builtin "object.__class__") "__get__" = some (some (.builtin "getset_descriptor.__get__"))) && (decide (PySem.W.takesIn K (.builtin "object.__class__") = some true) && decide (PySem.W.mroIn K C (.type "object") = some true)))
def kitsB (K : PySem.W.Frag) (C : Addr) : Bool := ["NoneType", "bool", "int", "str", "list", "tuple", "dict"].all fun n => decide (PySem.W.kitOne K (.type n) (.ref C) = some false)
def invB (K : PySem.W.Frag) (X : Addr) : Bool :=
  PySem.W.excIn K X tValE "ValueError.__new__" && (PySem.W.keepIn K (.ref X) && (decide (PySem.W.subIn K (.ref X) (.type "BaseException") = some true) && (decide (PySem.W.typeIn K (.ref X) = some (.type "type")) && decide (PySem.W.exmOne K (.ref X) (.ref X) = some true))))
theorem termZ {K : PySem.W.Frag} {mg : PySem.Str → Option Value} {c : Ta} {rp rb : List Value} (g1 : mg "Term" = some (.ref c.T)) (g2 : mg "InvalidTerm" = some (.ref c.X)) (hi : PySem.W.findIn K (.ref c.T) "__init__" = some (some (.ref c.fi))) (hl : PySem.W.findIn K (.ref c.T) "__len__" = some (some (.ref c.fl)))
    (hp : PySem.W.findIn K (.ref c.T) "nodes" = some (some (.ref c.pn))) (hg : PySem.W.recIn K c.pn "property" = some (.ref c.gn :: rp)) (hm : PySem.W.findCls K (.ref c.T) mcT "build" = some (.get (.builtin "classmethod.__get__") (.ref c.pb) .none (.ref c.T))) (hb : PySem.W.recIn K c.pb "classmethod" = some (.ref c.gb :: rb))
    (h1 : termB K c = true) (h2 : kitsB K c.T = true) (h4 : clB4 K c.T = true) (h3 : invB K c.X = true) : TermZ K mg c := by
  simp only [termB, Bool.and_eq_true, decide_eq_true_eq] at h1
  simp only [invB, Bool.and_eq_true, decide_eq_true_eq] at h3
  simp only [clB4, Bool.and_eq_true, decide_eq_true_eq] at h4
  obtain ⟨a1, a2, a3, a4, a5, a6, a7, a8, a9, a10, a11, a12, a13, a14, a15⟩ := h1
  obtain ⟨b1, b2, b3, b4, b5⟩ := h3
  exact ⟨g1, g2, ⟨a1, a2, a3, a4⟩, ⟨a5, hi, a6, a7⟩, a8, hl, a9, ⟨hp, a10, a11, _, hg⟩, ⟨a12, a13⟩, ⟨hm, ⟨_, hb⟩, a14⟩, fun n hn => of_decide_eq_true (List.all_eq_true.mp h2 n hn), a15, h4.1, h4.2.1, h4.2.2.1, h4.2.2.2, b1, b2, b3, b4, b5⟩
theorem TermZ.ty {K : PySem.W.Frag} {mg : PySem.Str → Option Value} {c : Ta} (Z : TermZ K mg c) {H : Hp} {a dx : Addr} {fs : List (PySem.Str × V)} (e : H a = some (.ins c.T dx fs)) : TyX K H (.ref a) (.ref c.T) := .base (.ins e Z.cls Z.c1 Z.c2 Z.c3 Z.c4)
/-- the statements of a class; the scope of a set comprehension -/
def clS : Stmt → List Stmt
  | .ClassDef _ _ _ body _ _ _ _ _ _ _ => body
  | _ => []
def scSc : Expr → Scope
  | .SetComp _ _ sc _ => sc
  | _ => { kind := .function, names := [], isGenerator := false, isCoroutine := false }
theorem hu64i {A : Around} {k : Nat} (hr : Room k A) : A.units + 64 < cLine := by
  have := hr.un
  omega
theorem passAt0 {X : Cx} (σ : L2.St) : PassesAt (L2.CX X.prog X.w) X σ E0 := fun pins H s e s' I c => passL pins σ H s e s' I c
abbrev WR (E : XK) : WX := fun cls d _ H => E cls d H
end Fn

set_option Elab.async false
set_option maxRecDepth 100000
set_option maxHeartbeats 2000000
/-! Nodes of terms as data; the set of the nodes with words; how long a dict of pairs is. -/
namespace Fn
open PySem PySem.Spec PyProof.Rows L2
/-- a set comprehension over a tuple, by what holds behind each item -/
theorem sc_over_tup {P : Program} {w : World} {K : PySem.W.Frag} {b : Addr} {ys : List V} {gr : TG} {cond : TT} {el : TE} {vs : List Nat} {σ : L2.St} {Hs : Hp} {D : Addr} {End : Hp → Prop} (G : Nat → Hp → Prop) (start : G 0 (upd Hs D (PSetO P w D []))) (there : ∀ i H, G i H → SqT K H b ys) (fin : ∀ H, G ys.length H → End H)
    (turn : ∀ i x H, ys[i]? = some x → G i H → gr x (wipe σ vs) H fun σ' H' => wipe σ' vs = wipe σ vs ∧ cond σ' H' fun t Ht =>
      if t = true then el σ' Ht fun y Hy => ∃ (c : Addr) (k : List Key) (L : List (Addr × List Key)), y = .ref c ∧ Hy c = some (.tup (k.map kV)) ∧ Hy D = some (PSetO P w D L) ∧ Members Hy L ∧ L.length + 1 < 64 ∧
        ∀ L', (k ∈ L.map Prod.snd → L' = L) → (k ∉ L.map Prod.snd → L'.Perm ((c, k) :: L)) → G (i + 1) (upd Hy D (PSetO P w D L')) else G (i + 1) Ht) :
    ∃ M : Nat → Nat → Hp → Prop, (∃ m, M 0 m (upd Hs D (PSetO P w D []))) ∧ ∀ i m H, M i m H → ((Itt K b).stop i H ∧ End H) ∨ ((Itt K b).go i H ∧ ∃ Nx : Hp → Prop, (∀ H', Nx H' → ∃ m', m' < m ∧ M (i + 1) m' H') ∧ ∀ x H', (Itt K b).yld i H x H' → gr x (wipe σ vs) H' fun σ2 H2 => wipe σ2 vs = wipe σ vs ∧ cond σ2 H2 fun t H3 =>
      if t = true then el σ2 H3 fun y H4 => ∃ (c : Addr) (k : List Key) (L : List (Addr × List Key)), y = .ref c ∧ H4 c = some (.tup (k.map kV)) ∧ H4 D = some (PSetO P w D L) ∧ Members H4 L ∧ L.length + 1 < 64 ∧
        ∀ L', (k ∈ L.map Prod.snd → L' = L) → (k ∉ L.map Prod.snd → L'.Perm ((c, k) :: L)) → Nx (upd H4 D (PSetO P w D L')) else Nx H3) := by
  refine ⟨fun i m H => m + i = ys.length ∧ G i H, ⟨_, Nat.add_zero _, start⟩, ?_⟩
  rintro i m H ⟨em, g⟩
  have sq := there i H g
  rcases Nat.lt_or_ge i ys.length with hi | hi
  · right
    have at_ : ys[i]? = some ys[i] := List.getElem?_eq_getElem hi
    refine ⟨⟨ys, ys[i], sq, at_⟩, G (i + 1), fun H' g' => ⟨m - 1, by omega, by omega, g'⟩, ?_⟩
    rintro x H' ⟨rfl, hy⟩
    exact turn i x _ (hy ys sq) g
  · left
    have e : i = ys.length := by omega
    rw [e] at g
    exact ⟨⟨ys, sq, hi⟩, fin H g⟩
/-- any walk over a tuple, by what holds behind each item -/
theorem over_tup {K : PySem.W.Frag} {b : Addr} {ys : List V} {End : Hp → Prop} {T : (Hp → Prop) → V → Hp → Prop} {S : Hp} (G : Nat → Hp → Prop) (start : G 0 S) (there : ∀ i H, G i H → SqT K H b ys) (fin : ∀ H, G ys.length H → End H)
    (turn : ∀ i x H, ys[i]? = some x → G i H → T (G (i + 1)) x H) : ∃ M : Nat → Nat → Hp → Prop, (∃ m, M 0 m S) ∧ ∀ i m H, M i m H → ((Itt K b).stop i H ∧ End H) ∨ ((Itt K b).go i H ∧ ∃ Nx : Hp → Prop, (∀ H', Nx H' → ∃ m', m' < m ∧ M (i + 1) m' H') ∧ ∀ x H', (Itt K b).yld i H x H' → T Nx x H') := by
  refine ⟨fun i m H => m + i = ys.length ∧ G i H, ⟨_, Nat.add_zero _, start⟩, ?_⟩
  rintro i m H ⟨em, g⟩
  have sq := there i H g
  rcases Nat.lt_or_ge i ys.length with hi | hi
  · right
    have at_ : ys[i]? = some ys[i] := List.getElem?_eq_getElem hi
    refine ⟨⟨ys, ys[i], sq, at_⟩, G (i + 1), fun H' g' => ⟨m - 1, by omega, by omega, g'⟩, ?_⟩
    rintro x H' ⟨rfl, hy⟩
    exact turn i x _ (hy ys sq) g
  · left
    have e : i = ys.length := by omega
    rw [e] at g
    exact ⟨⟨ys, sq, hi⟩, fin H g⟩
theorem merge_all : ∀ (kvs acc : List (Key × V)), ((acc ++ kvs).map Prod.fst).Nodup → (mergeK acc kvs).length = acc.length + kvs.length
  | [], acc, _ => rfl
  | p :: r, acc, h => by
    have nv : valV acc p.1 = none := by
      cases e : valV acc p.1 with
      | none => rfl
      | some v =>
        have a := valV_any p.1 acc
        rw [e] at a
        obtain ⟨q, hq, hd⟩ := List.any_eq_true.mp a
        rw [List.map_append, List.nodup_append] at h
        exact absurd (of_decide_eq_true hd) (h.2.2 _ (List.mem_map_of_mem (f := Prod.fst) hq) _ (by simp))
    show (mergeK (putK acc p.1 p.2) r).length = _
    rw [putK_new p.2 nv, merge_all r _ (by rw [List.append_assoc]; exact h), List.length_append, List.length_cons, List.length_cons]
    simp only [List.length_nil]
    omega
theorem merge_less : ∀ (kvs acc : List (Key × V)), (acc.map Prod.fst).Nodup → ¬ ((acc ++ kvs).map Prod.fst).Nodup → (mergeK acc kvs).length < acc.length + kvs.length
  | [], acc, ha, h => by
    rw [List.append_nil] at h
    exact absurd ha h
  | p :: r, acc, ha, h => by
    show (mergeK (putK acc p.1 p.2) r).length < _
    by_cases e : (valV acc p.1).isSome = true
    · have le := length_mergeK r (putK acc p.1 p.2)
      have eq : (putK acc p.1 p.2).length = acc.length := by
        unfold putK
        rw [if_pos (by rw [valV_any]; exact e), List.length_map]
      rw [List.length_cons]
      omega
    · have nv : valV acc p.1 = none := by simpa using e
      rw [putK_new p.2 nv]
      have nm : p.1 ∉ acc.map Prod.fst := fun hm => by
        obtain ⟨q, hq, eq⟩ := List.mem_map.mp hm
        have a := valV_any p.1 acc
        rw [nv, List.any_eq_true.mpr ⟨q, hq, decide_eq_true eq⟩] at a
        cases a
      have z := merge_less r (acc ++ [(p.1, p.2)]) (by
        rw [List.map_append, List.nodup_append]
        refine ⟨ha, by simp, fun a h1 b h2 e => ?_⟩
        rw [show b = p.1 by simpa using h2] at e
        exact nm (e ▸ h1)) (by rw [List.append_assoc]; exact h)
      rw [List.length_append, List.length_cons, List.length_nil] at z
      rw [List.length_cons]
      omega
/-- a dict of pairs is as long as the row exactly if the texts are different -/
def kvOf (p : Str × Int) : Key × V := (.inr p.1, .int p.2)
def OneEach (ps : List (Str × Int)) : Prop := ∀ p ∈ ps, ∀ q ∈ ps, p.1 = q.1 → p.2 = q.2
theorem one_pw : ∀ {ps : List (Str × Int)}, ps.Pairwise (fun p q => p.1 ≠ q.1) → OneEach ps
  | [], _, p, hp, _, _, _ => by cases hp
  | r :: rs, h, p, hp, q, hq, e => by
    rw [List.pairwise_cons] at h
    rcases List.mem_cons.mp hp with e1 | h1
    · rcases List.mem_cons.mp hq with e2 | h2
      · rw [e1, e2]
      · exact absurd (e1 ▸ e) (h.1 q h2)
    · rcases List.mem_cons.mp hq with e2 | h2
      · exact absurd (e2 ▸ e.symm) (h.1 p h1)
      · exact one_pw h.2 p h1 q h2 e
theorem pw_one {ps : List (Str × Int)} (n : ps.Nodup) (h : OneEach ps) : ps.Pairwise (fun p q => p.1 ≠ q.1) :=
  List.Pairwise.imp_of_mem (fun {a b} ha hb ne e => ne (Prod.ext e (h a ha b hb e))) n
theorem keys_nodup {ps : List (Str × Int)} : ((ps.map kvOf).map Prod.fst).Nodup ↔ ps.Pairwise (fun p q => p.1 ≠ q.1) := by
  rw [List.map_map, List.Nodup, List.pairwise_map]
  constructor
  · exact fun h => h.imp fun {a b} z e => z (by show Sum.inr a.1 = Sum.inr b.1; rw [e])
  · exact fun h => h.imp fun {a b} z e => z (Sum.inr.inj e)
instance {ps : List (Str × Int)} : Decidable (OneEach ps) := by
  unfold OneEach
  infer_instance
theorem dict_len {ps : List (Str × Int)} (n : ps.Nodup) : decide (((mergeK [] (ps.map kvOf)).length : Int) < (ps.length : Int)) = !decide (OneEach ps) := by
  by_cases h : OneEach ps
  · rw [decide_eq_true h, Bool.not_true, decide_eq_false]
    have e := merge_all (ps.map kvOf) [] (keys_nodup.mpr (pw_one n h))
    rw [List.length_map] at e
    simp only [List.length_nil] at e
    omega
  · rw [decide_eq_false h, Bool.not_false, decide_eq_true]
    have e := merge_less (ps.map kvOf) [] List.nodup_nil (fun z => h (one_pw (keys_nodup.mp z)))
    rw [List.length_map] at e
    simp only [List.length_nil] at e
    omega
theorem one_mem {ps qs : List (Str × Int)} (h : ∀ p, p ∈ ps ↔ p ∈ qs) : OneEach ps ↔ OneEach qs :=
  ⟨fun z p hp q hq => z p ((h p).mpr hp) q ((h q).mpr hq), fun z p hp q hq => z p ((h p).mp hp) q ((h q).mp hq)⟩
/-! ### the nodes with words -/
theorem node_shape {d : PyData} (h : isNodeD d = true) : ∃ (x : Str) (k : Int), d = .tuple [.str x, .int k] ∧ 0 ≤ k ∧ k ≤ 3 := by
  match d, h with
  | .tuple [s, m], h =>
    have h' : (if isLeafD s = true then (isArityD m && PyData.eqv m (.int 0)) else (isWordD s && isArityD m)) = true := h
    have hm : isArityD m = true := by
      split at h' <;> simp only [Bool.and_eq_true] at h'
      · exact h'.1
      · exact h'.2
    have hs : ∃ x, s = .str x := by
      split at h'
      · rename_i g
        have g' : isLeafD s = true := g
        cases s with
        | str x => exact ⟨x, rfl⟩
        | _ => cases g'
      · simp only [Bool.and_eq_true] at h'
        cases s with
        | str x => exact ⟨x, rfl⟩
        | _ => cases h'.1
    obtain ⟨x, rfl⟩ := hs
    match m, hm with
    | .int k, hm =>
      have hm' : (isIntD (.int k) && (decide (0 ≤ k) && decide (k ≤ 3))) = true := hm
      simp only [Bool.and_eq_true, decide_eq_true_eq] at hm'
      exact ⟨x, k, rfl, hm'.2.1, hm'.2.2⟩
/-- the pairs of the nodes with words -/
def prOf : PyData → List (Str × Int)
  | .tuple [.str x, .int k] => if isLeafD (.str x) = true then [] else [(x, k)]
  | _ => []
def prsOf (ds : List PyData) : List (Str × Int) := ds.flatMap prOf
def keyP (p : Str × Int) : List Key := [.inr p.1, .inl p.2]
theorem keyP_inj {p q : Str × Int} (h : keyP p = keyP q) : p = q := by
  obtain ⟨x, i⟩ := p
  obtain ⟨y, j⟩ := q
  simp only [keyP, List.cons.injEq, Sum.inr.injEq, Sum.inl.injEq, and_true] at h
  rw [h.1, h.2]
/-- what is in the set behind n nodes -/
structure SetIs (H : Hp) (ds : List PyData) (n : Nat) (L : List (Addr × List Key)) : Prop where
  at_ : ∀ p ∈ L, ∃ q ∈ prsOf (ds.take n), p.2 = keyP q ∧ H p.1 = some (.tup [.str q.1, .int q.2])
  all : ∀ q ∈ prsOf (ds.take n), keyP q ∈ L.map Prod.snd
  nod : (L.map Prod.snd).Nodup
  len : L.length ≤ n
theorem SetIs.pairs {H : Hp} {ds : List PyData} {n : Nat} {L : List (Addr × List Key)} (h : SetIs H ds n L) : PairsAt H L := fun p hp => by
  obtain ⟨q, _, e1, e2⟩ := h.at_ p hp
  exact ⟨q.1, q.2, e1, e2⟩
theorem SetIs.members {H : Hp} {ds : List PyData} {n : Nat} {L : List (Addr × List Key)} (h : SetIs H ds n L) : Members H L := fun p hp => by
  obtain ⟨q, _, e1, e2⟩ := h.at_ p hp
  rw [e1]
  exact e2
theorem SetIs.same {H H' : Hp} {ds : List PyData} {n : Nat} {L : List (Addr × List Key)} (h : SetIs H ds n L) (k : ∀ p ∈ L, H' p.1 = H p.1) : SetIs H' ds n L :=
  ⟨fun p hp => by
    obtain ⟨q, m, e1, e2⟩ := h.at_ p hp
    exact ⟨q, m, e1, by rw [k p hp]; exact e2⟩, h.all, h.nod, h.len⟩
theorem prs_take {ds : List PyData} {n : Nat} {d : PyData} (h : ds[n]? = some d) : prsOf (ds.take (n + 1)) = prsOf (ds.take n) ++ prOf d := by
  rw [prsOf, List.take_add_one, h, List.flatMap_append]
  simp [prsOf]
theorem SetIs.none {H : Hp} {ds : List PyData} : SetIs H ds 0 [] := ⟨fun p hp => (by cases hp), fun q hq => (by cases hq), List.nodup_nil, Nat.le_refl _⟩
theorem SetIs.skip {H : Hp} {ds : List PyData} {n : Nat} {L : List (Addr × List Key)} {d : PyData} (h : SetIs H ds n L) (hd : ds[n]? = some d) (e : prOf d = []) : SetIs H ds (n + 1) L := by
  have t : prsOf (ds.take (n + 1)) = prsOf (ds.take n) := by rw [prs_take hd, e, List.append_nil]
  exact ⟨by rw [t]; exact h.at_, by rw [t]; exact h.all, h.nod, Nat.le_succ_of_le h.len⟩
theorem SetIs.add {H : Hp} {ds : List PyData} {n : Nat} {L L' : List (Addr × List Key)} {d : PyData} {q : Str × Int} {c : Addr} (h : SetIs H ds n L) (hd : ds[n]? = some d) (e : prOf d = [q]) (hc : H c = some (.tup [.str q.1, .int q.2]))
    (h1 : keyP q ∈ L.map Prod.snd → L' = L) (h2 : keyP q ∉ L.map Prod.snd → L'.Perm ((c, keyP q) :: L)) : SetIs H ds (n + 1) L' := by
  have t : prsOf (ds.take (n + 1)) = prsOf (ds.take n) ++ [q] := by rw [prs_take hd, e]
  by_cases m : keyP q ∈ L.map Prod.snd
  · rw [h1 m]
    refine ⟨fun p hp => ?_, fun r hr => ?_, h.nod, Nat.le_succ_of_le h.len⟩
    · obtain ⟨r, hr, z⟩ := h.at_ p hp
      exact ⟨r, by rw [t]; exact List.mem_append_left _ hr, z⟩
    · rw [t] at hr
      rcases List.mem_append.mp hr with hr | hr
      · exact h.all r hr
      · rw [List.mem_singleton.mp hr]
        exact m
  · have pm := h2 m
    have pm2 := pm.map Prod.snd
    refine ⟨fun p hp => ?_, fun r hr => ?_, pm2.nodup_iff.mpr ?_, by rw [pm.length_eq, List.length_cons]; exact Nat.succ_le_succ h.len⟩
    · rcases List.mem_cons.mp (pm.mem_iff.mp hp) with rfl | hp
      · exact ⟨q, by rw [t]; exact List.mem_append_right _ (List.mem_singleton.mpr rfl), rfl, hc⟩
      · obtain ⟨r, hr, z⟩ := h.at_ p hp
        exact ⟨r, by rw [t]; exact List.mem_append_left _ hr, z⟩
    · rw [t] at hr
      refine pm2.mem_iff.mpr ?_
      rcases List.mem_append.mp hr with hr | hr
      · exact List.mem_cons_of_mem _ (h.all r hr)
      · rw [List.mem_singleton.mp hr]
        exact List.mem_cons_self
    · exact List.nodup_cons.mpr ⟨m, h.nod⟩
theorem paired_map {α β γ : Type} {R : β → γ → Prop} {f : α → β} {g : α → γ} : ∀ {l : List α}, (∀ x ∈ l, R (f x) (g x)) → Paired R (l.map f) (l.map g)
  | [], _ => .nil
  | x :: l, h => .cons (h x List.mem_cons_self) (paired_map fun y hy => h y (List.mem_cons_of_mem _ hy))
theorem paired_r {α β γ : Type} {R : α → β → Prop} {S : α → γ → Prop} {f : β → γ} (h : ∀ a b, R a b → S a (f b)) : ∀ {l : List α} {m : List β}, Paired R l m → Paired S l (m.map f)
  | _, _, .nil => .nil
  | _, _, .cons a t => .cons (h _ _ a) (paired_r h t)
theorem DxAll.app {H : Hp} : ∀ {xs ys : List V} {ds es : List PyData}, DxAll H xs ds → DxAll H ys es → DxAll H (xs ++ ys) (ds ++ es)
  | _, _, _, _, .nil, h => h
  | _, _, _, _, .cons a t, h => .cons a (DxAll.app t h)
theorem DxAll.take {H : Hp} : ∀ {xs : List V} {ds : List PyData} (n : Nat), DxAll H xs ds → DxAll H (xs.take n) (ds.take n)
  | _, _, 0, _ => by
    rw [List.take_zero, List.take_zero]
    exact .nil
  | _, _, n + 1, .nil => .nil
  | _, _, n + 1, .cons a t => .cons a (DxAll.take n t)
theorem SetIs.told {H : Hp} {ds : List PyData} {L : List (Addr × List Key)} {as : List Addr} (h : SetIs H ds ds.length L) (pa : as.Perm (L.map Prod.fst)) :
    ∃ ps : List (Str × Int), Paired (fun b q => H b = some (.tup [.str q.1, .int q.2])) as ps ∧ ps.Nodup ∧ ∀ q, q ∈ ps ↔ q ∈ prsOf ds := by
  obtain ⟨L', pL, rfl⟩ := perm_map_inv pa L rfl
  have get : ∀ p ∈ L', p.2 = keyP (pairAt H p.1) ∧ H p.1 = some (.tup [.str (pairAt H p.1).1, .int (pairAt H p.1).2]) ∧ pairAt H p.1 ∈ prsOf ds := fun p hp => by
    obtain ⟨q, hq, e1, e2⟩ := h.at_ p (pL.mem_iff.mp hp)
    rw [List.take_length] at hq
    have e : pairAt H p.1 = q := by
      unfold pairAt
      rw [e2]
    rw [e]
    exact ⟨e1, e2, hq⟩
  refine ⟨L'.map fun p => pairAt H p.1, paired_map fun p hp => (get p hp).2.1, ?_, fun q => ⟨fun hq => ?_, fun hq => ?_⟩⟩
  · have nd : (L'.map Prod.snd).Nodup := (pL.map Prod.snd).nodup_iff.mpr h.nod
    rw [List.Nodup, List.pairwise_map] at nd ⊢
    refine List.Pairwise.imp_of_mem (fun {a b} ha hb ne e => ne ?_) nd
    rw [(get a ha).1, (get b hb).1, e]
  · obtain ⟨p, hp, rfl⟩ := List.mem_map.mp hq
    exact (get p hp).2.2
  · have z := h.all q (by rw [List.take_length]; exact hq)
    obtain ⟨p, hp, e⟩ := List.mem_map.mp z
    have hp' := pL.mem_iff.mpr hp
    refine List.mem_map.mpr ⟨p, hp', keyP_inj ?_⟩
    rw [← (get p hp').1, e]
theorem prOf_leaf {x : Str} {k : Int} (h : isLeafD (.str x) = true) : prOf (.tuple [.str x, .int k]) = [] := if_pos h
theorem prOf_word {x : Str} {k : Int} (h : isLeafD (.str x) = false) : prOf (.tuple [.str x, .int k]) = [(x, k)] := if_neg (by rw [h]; decide)
/-- what stood ahead of the making of an instance stands behind it -/
theorem mk_same {H H' : Hp} {x dx C : Addr} {o : HO} (nx : H x = none) (ndx : H dx = none) (s' : Same (upd (upd H dx (.own x)) x (.ins C dx [])) H') : Same H (upd H' x o) := fun b u e => by
  have n1 := ne_of_none e nx
  rw [upd_ne n1]
  exact s' _ _ (by rw [upd_ne n1, upd_ne (ne_of_none e ndx)]; exact e)
theorem mk_new {H : Hp} {x dx C : Addr} (nx : H x = none) (ndx : H dx = none) : Same H (upd (upd H dx (.own x)) x (.ins C dx [])) := fun b u e => by
  rw [upd_ne (ne_of_none e nx), upd_ne (ne_of_none e ndx)]
  exact e
/-- the promises of a def that calls itself, at all depths -/
theorem fn_depth {P : Program} {w : World} {K : PySem.W.Frag} {mg : Str → Option Value} {base : Heap} {off : Nat} {f : Addr} {fd : FuncData} {ps : List Str} {sp : Nat → Sp} (G : ∀ n, FnOk P w K mg base CX0 (n + off) f fd ps (sp n)) :
    FnOk P w K mg base CX0 (4 + off) f fd ps (fun vs H Q E => ∃ n, n ≤ 4 ∧ sp n vs H Q E) :=
  ⟨fun vs H Q E ⟨n, _, h⟩ => (G n).len vs H Q E h, fun A outer s H args us vs Q E hr e0 b r ⟨n, hn, h⟩ => (G n).run A outer s H args us vs Q E (hr.mono (by omega)) e0 b r h⟩
/-! ### data without lists stands where its tuples stand -/
mutual
theorem dx_tk {H H' : Hp} (t : ∀ (b : Addr) (xs : List V), H b = some (.tup xs) → H' b = some (.tup xs)) : ∀ {d : PyData} {v : V}, Dx H v d → listfree d = true → dictfree d = true → Dx H' v d
  | .none, _, h, _, _ => by cases h; exact .non
  | .bool b, _, h, _, _ => by cases h; exact .bl b
  | .int i, _, h, _, _ => by cases h; exact .int i
  | .str x, _, h, _, _ => by cases h; exact .str x
  | .list ds, _, h, f, _ => by
    simp only [listfree] at f
    cases f
  | .tuple ds, _, h, f, g => by
    cases h with
    | tup h1 h2 => exact .tup (t _ _ h1) (dxAll_tk t h2 (by simpa only [listfree] using f) (by simpa only [dictfree] using g))
  | .dict kvs, _, h, _, g => by
    simp only [dictfree] at g
    cases g
theorem dxAll_tk {H H' : Hp} (t : ∀ (b : Addr) (xs : List V), H b = some (.tup xs) → H' b = some (.tup xs)) : ∀ {ds : List PyData} {vs : List V}, DxAll H vs ds → listfreeAll ds = true → dictfreeAll ds = true → DxAll H' vs ds
  | [], _, h, _, _ => by cases h; exact .nil
  | d :: ds, _, h, f, g => by
    simp only [listfreeAll, Bool.and_eq_true] at f
    simp only [dictfreeAll, Bool.and_eq_true] at g
    cases h with
    | cons h1 h2 => exact .cons (dx_tk t h1 f.1 g.1) (dxAll_tk t h2 f.2 g.2)
end
theorem paired_app {α β : Type} {R : α → β → Prop} : ∀ {a c : List α} {b d : List β}, Paired R a b → Paired R c d → Paired R (a ++ c) (b ++ d)
  | _, _, _, _, .nil, h => h
  | _, _, _, _, .cons x t, h => .cons x (paired_app t h)
theorem paired_memr {α β : Type} {R S : α → β → Prop} : ∀ {a : List α} {b : List β}, Paired R a b → (∀ x y, y ∈ b → R x y → S x y) → Paired S a b
  | _, _, .nil, _ => .nil
  | _, _, .cons x t, h => .cons (h _ _ List.mem_cons_self x) (paired_memr t fun x y hy => h x y (List.mem_cons_of_mem _ hy))
theorem paired_take {α β : Type} {R : α → β → Prop} : ∀ {a : List α} {b : List β} (n : Nat), Paired R a b → Paired R (a.take n) (b.take n)
  | _, _, 0, _ => by
    rw [List.take_zero, List.take_zero]
    exact .nil
  | _, _, _ + 1, .nil => .nil
  | _, _, n + 1, .cons x t => .cons x (paired_take n t)
end Fn

set_option Elab.async false
set_option maxRecDepth 100000
set_option linter.unusedVariables false
set_option maxHeartbeats 4000000
namespace K07
open PySem PySem.Spec PyProof.Rows L2 Fn
local macro_rules | `(tactic| walk_at "ev") => `(tactic| first | exact Ev2.refl _ | assumption | (refine Ev2.trans (by assumption) ?_; walk_at "ev"))
local macro_rules | `(tactic| walk_at "sm") => `(tactic| first | exact Same.refl _ | assumption | (refine Same.trans (by assumption) ?_; walk_at "sm"))
local macro_rules | `(tactic| walk_at "dx") => `(tactic| first
  | exact DxAll.nil | exact Dx.str _ | exact Dx.int _ | exact Dx.bl _ | exact Dx.non
  | assumption
  | (refine DxAll.cons ?_ ?_ <;> walk_at "dx")
  | (refine Dx.same (by walk_at "sm") (by assumption))
  | (refine Dx.tup (Same.at (by assumption) (by walk_at "sm")) ?_; walk_at "dx")
  | (refine Dx.lst (Same.at (by assumption) (by walk_at "sm")) ?_; walk_at "dx")
  | (refine Dx.dct (Same.at (by assumption) (by walk_at "sm"))))

def top (i : Nat) : Stmt := PySem.Challenge.pw_firstneed_k07_tuples_of_nodes_judged.main.body.getD i (.Pass ⟨0, 0, 0, 0⟩)
abbrev s_is_integer : Stmt := top 13
abbrev N_is_integer : List Str := ["value"]
abbrev P_is_integer : List Str := ["value"]
theorem sc_is_integer : FnScope N_is_integer P_is_integer (defScope s_is_integer) := ⟨rfl, rfl, rfl, by decide +kernel, rfl, by decide +kernel, by decide +kernel⟩
abbrev s_is_word : Stmt := top 15
abbrev N_is_word : List Str := ["value", "letter"]
abbrev P_is_word : List Str := ["value"]
theorem sc_is_word : FnScope N_is_word P_is_word (defScope s_is_word) := ⟨rfl, rfl, rfl, by decide +kernel, rfl, by decide +kernel, by decide +kernel⟩
abbrev s_is_arity : Stmt := top 16
abbrev N_is_arity : List Str := ["value"]
abbrev P_is_arity : List Str := ["value"]
theorem sc_is_arity : FnScope N_is_arity P_is_arity (defScope s_is_arity) := ⟨rfl, rfl, rfl, by decide +kernel, rfl, by decide +kernel, by decide +kernel⟩
abbrev s_is_leaf : Stmt := top 17
abbrev N_is_leaf : List Str := ["sign"]
abbrev P_is_leaf : List Str := ["sign"]
theorem sc_is_leaf : FnScope N_is_leaf P_is_leaf (defScope s_is_leaf) := ⟨rfl, rfl, rfl, by decide +kernel, rfl, by decide +kernel, by decide +kernel⟩
abbrev s_is_node : Stmt := top 18
abbrev N_is_node : List Str := ["value", "sign", "arity"]
abbrev P_is_node : List Str := ["value"]
theorem sc_is_node : FnScope N_is_node P_is_node (defScope s_is_node) := ⟨rfl, rfl, rfl, by decide +kernel, rfl, by decide +kernel, by decide +kernel⟩
abbrev s_makes_one_tree : Stmt := top 2
abbrev N_makes_one_tree : List Str := ["nodes", "missing", "_", "arity"]
abbrev P_makes_one_tree : List Str := ["nodes"]
theorem sc_makes_one_tree : FnScope N_makes_one_tree P_makes_one_tree (defScope s_makes_one_tree) := ⟨rfl, rfl, rfl, by decide +kernel, rfl, by decide +kernel, by decide +kernel⟩
abbrev s_is_tree : Stmt := top 30
abbrev N_is_tree : List Str := ["value", "node"]
abbrev P_is_tree : List Str := ["value"]
theorem sc_is_tree : FnScope N_is_tree P_is_tree (defScope s_is_tree) := ⟨rfl, rfl, rfl, by decide +kernel, rfl, by decide +kernel, by decide +kernel⟩
abbrev s_part_end : Stmt := top 3
abbrev N_part_end : List Str := ["nodes", "place", "missing", "at"]
abbrev P_part_end : List Str := ["nodes", "place"]
theorem sc_part_end : FnScope N_part_end P_part_end (defScope s_part_end) := ⟨rfl, rfl, rfl, by decide +kernel, rfl, by decide +kernel, by decide +kernel⟩
abbrev s_part_at : Stmt := top 4
abbrev N_part_at : List Str := ["nodes", "place"]
abbrev P_part_at : List Str := ["nodes", "place"]
theorem sc_part_at : FnScope N_part_at P_part_at (defScope s_part_at) := ⟨rfl, rfl, rfl, by decide +kernel, rfl, by decide +kernel, by decide +kernel⟩
abbrev s_symbols_in : Stmt := top 31
abbrev N_symbols_in : List Str := ["nodes", "node"]
abbrev P_symbols_in : List Str := ["nodes"]
theorem sc_symbols_in : FnScope N_symbols_in P_symbols_in (defScope s_symbols_in) := ⟨rfl, rfl, rfl, by decide +kernel, rfl, by decide +kernel, by decide +kernel⟩
abbrev s__law_dice : Stmt := top 34
abbrev N__law_dice : List Str := ["_law_script", "_law_spot", "_law_cell", "_law_great", "_law_blend"]
abbrev P__law_dice : List Str := ["_law_script", "_law_spot"]
theorem sc__law_dice : FnScope N__law_dice P__law_dice (defScope s__law_dice) := ⟨rfl, rfl, rfl, by decide +kernel, rfl, by decide +kernel, by decide +kernel⟩
abbrev s__law_roll : Stmt := top 35
abbrev N__law_roll : List Str := ["_law_dice_here", "_law_total", "_law_found", "_law_one", "_law_two"]
abbrev P__law_roll : List Str := ["_law_dice_here", "_law_total"]
theorem sc__law_roll : FnScope N__law_roll P__law_roll (defScope s__law_roll) := ⟨rfl, rfl, rfl, by decide +kernel, rfl, by decide +kernel, by decide +kernel⟩
abbrev s__law_pick : Stmt := top 36
abbrev N__law_pick : List Str := ["_law_dice_here", "_law_items"]
abbrev P__law_pick : List Str := ["_law_dice_here", "_law_items"]
theorem sc__law_pick : FnScope N__law_pick P__law_pick (defScope s__law_pick) := ⟨rfl, rfl, rfl, by decide +kernel, rfl, by decide +kernel, by decide +kernel⟩
abbrev s__law_nodes : Stmt := top 37
abbrev N__law_nodes : List Str := ["_law_term_here", "_law_found", "_law_one"]
abbrev P__law_nodes : List Str := ["_law_term_here"]
theorem sc__law_nodes : FnScope N__law_nodes P__law_nodes (defScope s__law_nodes) := ⟨rfl, rfl, rfl, by decide +kernel, rfl, by decide +kernel, by decide +kernel⟩
abbrev s__law_made_term : Stmt := top 38
abbrev N__law_made_term : List Str := ["_law_term_here"]
abbrev P__law_made_term : List Str := ["_law_term_here"]
theorem sc__law_made_term : FnScope N__law_made_term P__law_made_term (defScope s__law_made_term) := ⟨rfl, rfl, rfl, by decide +kernel, rfl, by decide +kernel, by decide +kernel⟩
abbrev s__law_term : Stmt := top 39
abbrev N__law_term : List Str := ["_law_dice_here", "_law_symbols", "_law_leaves", "_law_deep", "_law_bare", "_law_word", "_law_one", "_law_at"]
abbrev P__law_term : List Str := ["_law_dice_here", "_law_symbols", "_law_leaves", "_law_deep"]
theorem sc__law_term : FnScope N__law_term P__law_term (defScope s__law_term) := ⟨rfl, rfl, rfl, by decide +kernel, rfl, by decide +kernel, by decide +kernel⟩
abbrev s__law_small_term : Stmt := top 40
abbrev N__law_small_term : List Str := ["_law_dice_here", "_law_symbols", "_law_leaves", "_law_deep", "_law_most", "_law_found"]
abbrev P__law_small_term : List Str := ["_law_dice_here", "_law_symbols", "_law_leaves", "_law_deep", "_law_most"]
theorem sc__law_small_term : FnScope N__law_small_term P__law_small_term (defScope s__law_small_term) := ⟨rfl, rfl, rfl, by decide +kernel, rfl, by decide +kernel, by decide +kernel⟩
abbrev s__law_drawn_term : Stmt := top 41
abbrev N__law_drawn_term : List Str := ["_law_dice_here", "_law_deep", "_law_symbols"]
abbrev P__law_drawn_term : List Str := ["_law_dice_here", "_law_deep"]
theorem sc__law_drawn_term : FnScope N__law_drawn_term P__law_drawn_term (defScope s__law_drawn_term) := ⟨rfl, rfl, rfl, by decide +kernel, rfl, by decide +kernel, by decide +kernel⟩
abbrev s__law_is_leaf : Stmt := top 42
abbrev N__law_is_leaf : List Str := ["_law_value"]
abbrev P__law_is_leaf : List Str := ["_law_value"]
theorem sc__law_is_leaf : FnScope N__law_is_leaf P__law_is_leaf (defScope s__law_is_leaf) := ⟨rfl, rfl, rfl, by decide +kernel, rfl, by decide +kernel, by decide +kernel⟩
abbrev s__law_is_tree : Stmt := top 43
abbrev N__law_is_tree : List Str := ["_law_value", "_law_one", "_law_wanted", "_law_words", "_law_at"]
abbrev P__law_is_tree : List Str := ["_law_value"]
theorem sc__law_is_tree : FnScope N__law_is_tree P__law_is_tree (defScope s__law_is_tree) := ⟨rfl, rfl, rfl, by decide +kernel, rfl, by decide +kernel, by decide +kernel⟩
abbrev s__law_bent : Stmt := top 44
abbrev N__law_bent : List Str := ["_law_dice_here", "_law_nodes_here", "_law_found", "_law_at", "_law_odd", "_law_one", "_law_way"]
abbrev P__law_bent : List Str := ["_law_dice_here", "_law_nodes_here"]
theorem sc__law_bent : FnScope N__law_bent P__law_bent (defScope s__law_bent) := ⟨rfl, rfl, rfl, by decide +kernel, rfl, by decide +kernel, by decide +kernel⟩
abbrev s__law_is_made : Stmt := top 45
abbrev N__law_is_made : List Str := ["_law_value"]
abbrev P__law_is_made : List Str := ["_law_value"]
theorem sc__law_is_made : FnScope N__law_is_made P__law_is_made (defScope s__law_is_made) := ⟨rfl, rfl, rfl, by decide +kernel, rfl, by decide +kernel, by decide +kernel⟩
abbrev s__law_is_built : Stmt := top 46
abbrev N__law_is_built : List Str := ["_law_word", "_law_args", "_law_rows"]
abbrev P__law_is_built : List Str := ["_law_word", "_law_args"]
theorem sc__law_is_built : FnScope N__law_is_built P__law_is_built (defScope s__law_is_built) := ⟨rfl, rfl, rfl, by decide +kernel, rfl, by decide +kernel, by decide +kernel⟩
abbrev s__law_built_right : Stmt := top 47
abbrev N__law_built_right : List Str := ["_law_dice_here", "_law_args", "_law_turn", "_law_word", "_law_nodes_here", "_law_one", "_law_made", "_law_odd"]
abbrev P__law_built_right : List Str := ["_law_dice_here"]
theorem sc__law_built_right : FnScope N__law_built_right P__law_built_right (defScope s__law_built_right) := ⟨rfl, rfl, rfl, by decide +kernel, rfl, by decide +kernel, by decide +kernel⟩
abbrev s_law : Stmt := top 48
abbrev N_law : List Str := ["_law_script", "_law_spot", "_law_dice_here", "_law_turn", "_law_near", "_law_change", "_law_value", "_law_wide"]
abbrev P_law : List Str := ["_law_script"]
theorem sc_law : FnScope N_law P_law (defScope s_law) := ⟨rfl, rfl, rfl, by decide +kernel, rfl, by decide +kernel, by decide +kernel⟩
abbrev s_T_init : Stmt := (clS (top 32)).getD 0 (.Pass ⟨0, 0, 0, 0⟩)
abbrev N_T_init : List Str := ["self", "nodes", "found"]
abbrev P_T_init : List Str := ["self", "nodes"]
theorem sc_T_init : FnScope N_T_init P_T_init (defScope s_T_init) := ⟨rfl, rfl, rfl, by decide +kernel, rfl, by decide +kernel, by decide +kernel⟩
abbrev s_T_len : Stmt := (clS (top 32)).getD 24 (.Pass ⟨0, 0, 0, 0⟩)
abbrev N_T_len : List Str := ["self"]
abbrev P_T_len : List Str := ["self"]
theorem sc_T_len : FnScope N_T_len P_T_len (defScope s_T_len) := ⟨rfl, rfl, rfl, by decide +kernel, rfl, by decide +kernel, by decide +kernel⟩
abbrev s_T_nodes : Stmt := (clS (top 32)).getD 3 (.Pass ⟨0, 0, 0, 0⟩)
abbrev N_T_nodes : List Str := ["self"]
abbrev P_T_nodes : List Str := ["self"]
theorem sc_T_nodes : FnScope N_T_nodes P_T_nodes (defScope s_T_nodes) := ⟨rfl, rfl, rfl, by decide +kernel, rfl, by decide +kernel, by decide +kernel⟩
abbrev s_T_build : Stmt := (clS (top 32)).getD 1 (.Pass ⟨0, 0, 0, 0⟩)
abbrev N_T_build : List Str := ["cls", "word", "terms", "term", "inner", "node"]
abbrev P_T_build : List Str := ["cls", "word", "terms"]
theorem sc_T_build : FnScope N_T_build P_T_build (defScope s_T_build) := ⟨rfl, rfl, rfl, by decide +kernel, rfl, by decide +kernel, by decide +kernel⟩
structure Txt (mg : Str → Option Value) : Prop where
  n_len : mg "len" = none
  n_int : mg "int" = none
  n_abs : mg "abs" = none
  n_isinstance : mg "isinstance" = none
  n_bool : mg "bool" = none
  n_all : mg "all" = none
  n_str : mg "str" = none
  n_tuple : mg "tuple" = none
  n_dict : mg "dict" = none
  n_sorted : mg "sorted" = none
  n_list : mg "list" = none
  n_range : mg "range" = none
  n_max : mg "max" = none
  n_min : mg "min" = none
  m_MAX_LETTERS : ∃ t, mg "MAX_LETTERS" = some (.int 8 t)
  m_MAX_ARITY : ∃ t, mg "MAX_ARITY" = some (.int 3 t)
  m_ANY : ∃ t, mg "ANY" = some (.str "_" t)
  m_LOST : ∃ t, mg "LOST" = some (.str "#" t)
  m_MAX_NODES : ∃ t, mg "MAX_NODES" = some (.int 40 t)
section
variable {P : Program} {w : World} {K : PySem.W.Frag} {mg : Str → Option Value} {base : Heap} {c : Ta}
def spA (f : PyData → Bool) : Sp := fun vs H Q _ => ∃ v d, vs = [v] ∧ Dx H v d ∧ Q (.bl (f d)) H
abbrev spInt := spA isIntD
theorem ok_is_integer {f : Addr} {fd : FuncData} (F : Fun K "is_integer" "is_integer" s_is_integer f fd) (T : Txt mg) (Z : TermZ K mg c) : FnOk P w K mg base CX0 1 f fd P_is_integer spInt := by
  refine F.ok sc_is_integer (fun vs H Q E h => ?_) (fun cdv A outer s H vs Q E hr h => ?_)
  · obtain ⟨v, d, rfl, _⟩ := h
    rfl
  · obtain ⟨v, d, rfl, hv, q⟩ := h
    refine ⟨_, (pss_one (ps_ret (pe_and (pe_callB call_isi (by rfl) T.n_isinstance (by decide +kernel) (pa_cons (pv 0) (pa_cons (pe_bltn (v := .ty "int") rfl T.n_int (by decide +kernel) rfl) pa_nil))) (pe_and (pe_not (pe_callB call_isi (by rfl) T.n_isinstance (by decide +kernel) (pa_cons (pv 0) (pa_cons (pe_bltn (v := .ty "bool") rfl T.n_bool (by decide +kernel) rfl) pa_nil)))) (pe_one (pe_cmpR op_lt (pe_callB call_abs (by rfl) T.n_abs (by decide +kernel) (pa_cons (pv 0) pa_nil)) (pe_op op_powW pe_int pe_int) (nomark _))))))), ?_⟩
    refine ⟨_, rfl, _, _, _, _, _, rfl, .ty _, hv.ty, kit_int d, _, rfl, ?_⟩
    cases hv with
    | int i =>
      refine iteT ?_
      refine ⟨_, rfl, _, _, _, _, false, rfl, .ty _, .base (.int i), (kit_ty (by decide +kernel)), _, rfl, _, rfl, ?_⟩
      refine iteT ?_
      refine ⟨_, rfl, _, rfl, _, _, rfl, rfl, (powOk (by decide +kernel)), _, _, rfl, rfl, ?_⟩
      exact q
    | bl b =>
      refine iteT ?_
      refine ⟨_, rfl, _, _, _, _, true, rfl, .ty _, .base (.bl b), (kit_ty (by decide +kernel)), _, rfl, _, rfl, ?_⟩
      refine iteF ?_
      exact q
    | _ => exact iteF q
def spWord : Sp := fun vs H Q _ => ∃ v d, vs = [v] ∧ Dx H v d ∧ (∀ x, d = .str x → x.length ≤ 100000) ∧ ∀ H', Same H H' → Q (.bl (isWordD d)) H'
theorem ok_is_word {f : Addr} {fd : FuncData} (F : Fun K "is_word" "is_word" s_is_word f fd) (T : Txt mg) (Z : TermZ K mg c) : FnOk P w K mg base CX0 1 f fd P_is_word spWord := by
  refine F.ok sc_is_word (fun vs H Q E h => ?_) (fun cdv A outer s H vs Q E hr h => ?_)
  · obtain ⟨v, d, rfl, _⟩ := h
    rfl
  · obtain ⟨v, d, rfl, hv, hz, q⟩ := h
    refine ⟨_, (pss_cons (ps_if (PW.pt (pw_or (pt_not (pt_val (pe_callB call_isi (by rfl) T.n_isinstance (by decide +kernel) (pa_cons (pv 0) (pa_cons (pe_bltn (v := .ty "str") rfl T.n_str (by decide +kernel) rfl) pa_nil))))) (pw_or1 (pt_not (pt_chain op_le op_le pe_int (pe_callB call_len_str (by rfl) T.n_len (by decide +kernel) (pa_cons (pv 0) pa_nil)) (pe_glob (v := .int 8) rfl T.m_MAX_LETTERS.choose_spec ⟨_, rfl⟩)))))) (pss_one (ps_ret pe_bl)) pss_nil)
      (pss_one (ps_ret (pe_callB (cr_all rfl) (by rfl) T.n_all (by decide +kernel) (pa_cons (pe_lc (own := [("letter", 1)]) (g := gName 1) (tt := tYes) rfl sc_is_word.nd (pi_str (pv 0)) (blkOk_by (own := [("letter", 1)]) (N := ["value", "letter"]) (sc := (defScope s_is_word)) (by decide +kernel)) (fun _ _ _ _ _ => (pg_name (i := 1) sc_is_word.nd rfl (Or.inl rfl))) (fun _ _ _ _ _ => pts_nil) (fun _ _ _ _ _ => (pe_chain op_le_str op_le_str pe_str (pv 1) pe_str))) pa_nil))))), ?_⟩
    refine ⟨_, rfl, _, _, _, _, _, rfl, .ty _, hv.ty, kit_str d, _, rfl, ?_⟩
    cases hv with
    | str x =>
      have hx := hz x rfl
      refine iteF ?_
      refine ⟨_, rfl, _, rfl, Nat.le_trans hx (by decide), _, _, rfl, rfl, _, rfl, ?_⟩
      refine ite2 (fun h1 => ?_) (fun h1 => ?_)
      · refine ⟨_, _, rfl, rfl, _, rfl, ?_⟩
        have h1' := of_decide_eq_true h1
        by_cases h2 : (x.length : Int) ≤ 8
        · rw [decide_eq_true h2]
          refine iteF ?_
          have hl : isWordD (.str x) = ((x.cps.toList.map lowZ).all id) := by
            show ((decide (1 ≤ x.length) && decide (x.length ≤ 8)) && x.cps.toList.all lowZ) = _
            rw [decide_eq_true (show 1 ≤ x.length by omega), decide_eq_true (show x.length ≤ 8 by omega), List.all_map]
            rfl
          refine ⟨_, rfl, _, rfl, fun D hD => lc_it (walk_str (z := x)) (fun i H' => Same H H' ∧ H' D = some (.lst ((x.cps.toList.take i).map fun c => V.bl (lowZ c))))
            ⟨fun b o e => by rw [upd_ne (ne_of_none e hD)]; exact e, upd_same⟩ (fun _ _ _ _ => trivial) ?_ ?_⟩
          · rintro i v H1 H2 hi ⟨sm, hl1⟩ ⟨rfl, c, hc, rfl⟩
            refine ⟨rfl, ?_⟩
            have hlen : ((x.cps.toList.take i).map fun c => V.bl (lowZ c)).length < sizeLine := szlt (by
              have ecs : x.cps.size = x.length := rfl
              rw [List.length_map, List.length_take, Array.length_toList]
              omega)
            have hc2 : x.cps.toList[i]? = some c := by rw [Array.getElem?_toList]; exact hc
            have fin : Same H (upd H2 D (.lst (((x.cps.toList.take i).map fun c => V.bl (lowZ c)) ++ [V.bl (lowZ c)]))) ∧ (upd H2 D (.lst (((x.cps.toList.take i).map fun c => V.bl (lowZ c)) ++ [V.bl (lowZ c)]))) D = some (.lst ((x.cps.toList.take (i + 1)).map fun c => V.bl (lowZ c))) := by
              refine ⟨fun b o e => by rw [upd_ne (ne_of_none e hD)]; exact sm b o e, ?_⟩
              rw [upd_same, List.take_add_one, List.map_append, hc2]
              rfl
            have e : lowZ c = ((!decide ([c] < [97])) && (!decide ([122] < [c]))) := rfl
            refine ⟨_, rfl, _, _, rfl, rfl, _, rfl, ?_⟩
            refine ite2 (fun g1 => ?_) (fun g1 => ?_)
            · refine ⟨_, _, rfl, rfl, ?_⟩
              have g2 : lowZ c = !decide ([122] < [c]) := by
                rw [e, show (!decide ([c] < [97])) = true from g1, Bool.true_and]
              rw [g2] at fin
              exact ⟨_, hl1, hlen, fin⟩
            · have g2 : lowZ c = false := by
                rw [e, show (!decide ([c] < [97])) = false from Bool.eq_false_iff.mpr g1, Bool.false_and]
              rw [g2] at fin
              exact ⟨_, hl1, hlen, fin⟩
          · rintro H1 ⟨sm, hl1⟩
            rw [List.take_of_length_le (by rw [Array.length_toList] <;> exact Nat.le_refl _)] at hl1
            refine ⟨_, x.cps.toList.map lowZ, rfl, SqL.of (by rw [hl1, List.map_map]; rfl), ?_⟩
            rw [← hl]
            exact q H1 sm
        · rw [decide_eq_false h2]
          refine iteT ?_
          have hl : isWordD (.str x) = false := by
            show ((decide (1 ≤ x.length) && decide (x.length ≤ 8)) && x.cps.toList.all lowZ) = false
            rw [decide_eq_false (show ¬ x.length ≤ 8 by omega), Bool.and_false, Bool.false_and]
          rw [hl] at q
          exact q H (Same.refl H)
      · have h1' := of_decide_eq_false (Bool.eq_false_iff.mpr h1)
        refine ⟨_, rfl, ?_⟩
        refine iteT ?_
        have hl : isWordD (.str x) = false := by
          show ((decide (1 ≤ x.length) && decide (x.length ≤ 8)) && x.cps.toList.all lowZ) = false
          rw [decide_eq_false (show ¬ 1 ≤ x.length by omega), Bool.false_and, Bool.false_and]
        rw [hl] at q
        exact q H (Same.refl H)
    | _ => exact iteT (q H (Same.refl H))
def spD (f : PyData → Bool) : Sp := fun vs H Q _ => ∃ v d, vs = [v] ∧ Dx H v d ∧ (listfree d = true ∧ dictfree d = true ∧ SeqAt.shaped d = true) ∧ ∀ H', Same H H' → Q (.bl (f d)) H'
theorem ok_is_arity {f : Addr} {fd : FuncData} (F : Fun K "is_arity" "is_arity" s_is_arity f fd) (T : Txt mg) (Z : TermZ K mg c) {f_is_integer : Addr} {fd_is_integer : FuncData} (G_is_integer : FnOk P w K mg base CX0 1 f_is_integer fd_is_integer P_is_integer spInt) (C_is_integer : Cal K mg "is_integer" f_is_integer fd_is_integer P_is_integer) : FnOk P w K mg base CX0 2 f fd P_is_arity (spA isArityD) := by
  refine F.ok sc_is_arity (fun vs H Q E h => ?_) (fun cdv A outer s H vs Q E hr h => ?_)
  · obtain ⟨v, d, rfl, _⟩ := h
    rfl
  · obtain ⟨v, d, rfl, hv, q⟩ := h
    refine ⟨_, (pss_one (ps_ret (pe_and (pe_call G_is_integer (hr.mono (by decide)) rfl C_is_integer.m C_is_integer.k C_is_integer.b .nil pass0 (pa_cons (pv 0) pa_nil)) (pe_one (pe_chain op_le op_le pe_int (pv 0) (pe_glob (v := .int 3) rfl T.m_MAX_ARITY.choose_spec ⟨_, rfl⟩)))))), ?_⟩
    refine ⟨_, rfl, _, _, rfl, hv, _, rfl, ?_⟩
    refine ite2 (fun g => ?_) (fun g => ?_)
    · cases hv with
      | int i =>
        refine ⟨_, rfl, _, _, rfl, rfl, _, rfl, ?_⟩
        refine ite2 (fun h1 => ?_) (fun h1 => ?_)
        · refine ⟨_, _, rfl, rfl, ?_⟩
          have e : isArityD (.int i) = decide (i ≤ 3) := by
            show (isIntD (.int i) && (decide (0 ≤ i) && decide (i ≤ 3))) = _
            rw [g, show decide (0 ≤ i) = true from h1, Bool.true_and, Bool.true_and]
          rw [e] at q
          exact q
        · have e : isArityD (.int i) = false := by
            show (isIntD (.int i) && (decide (0 ≤ i) && decide (i ≤ 3))) = _
            rw [show decide (0 ≤ i) = false from Bool.eq_false_iff.mpr h1, Bool.false_and, Bool.and_false]
          rw [e] at q
          exact q
      | _ => cases g
    · have e : isArityD d = false := by
        cases d with
        | int i =>
          show (isIntD (.int i) && (decide (0 ≤ i) && decide (i ≤ 3))) = _
          rw [Bool.eq_false_iff.mpr g, Bool.false_and]
        | _ => rfl
      rw [e] at q
      exact q
theorem ok_is_leaf {f : Addr} {fd : FuncData} (F : Fun K "is_leaf" "is_leaf" s_is_leaf f fd) (T : Txt mg) (Z : TermZ K mg c) : FnOk P w K mg base CX0 1 f fd P_is_leaf (spD isLeafD) := by
  refine F.ok sc_is_leaf (fun vs H Q E h => ?_) (fun cdv A outer s H vs Q E hr h => ?_)
  · obtain ⟨v, d, rfl, _⟩ := h
    rfl
  · obtain ⟨v, d, rfl, hv, ⟨f1, f2, f3⟩, q⟩ := h
    refine ⟨_, (pss_one (ps_ret (pe_cmpR (op_inX (hu65 hr)) (pv 0) (pe_tup (pa_cons (pe_glob (v := .str "_") rfl T.m_ANY.choose_spec ⟨_, rfl⟩) (pa_cons (pe_glob (v := .str "#") rfl T.m_LOST.choose_spec ⟨_, rfl⟩) pa_nil))) (by first | rfl | with_unfolding_all rfl)))), ?_⟩
    refine ⟨_, rfl, (szr rfl), fun p1 n1 => ?_⟩
    generalize g1 : upd _ p1 _ = H1; obtain ⟨e1, o1, t1⟩ := made n1 g1; clear g1
    have sm := sameOf n1 o1
    refine ⟨_, _, _, (hv.same sm).dp f2, (Dx.tup t1 (.cons (.str _) (.cons (.str _) .nil))).dp rfl, (.inr rfl), f3, (by decide +kernel), ?_⟩
    exact q H1 sm

def okE (d : PyData) : Bool := (listfree d && dictfree d) && (SeqAt.shaped d && (match d with | .str x => decide (x.length ≤ 100000) | _ => true))
def okN : PyData → Bool
  | .tuple [s, m] => okE s && okE m
  | _ => true
theorem okE.d {d : PyData} (h : okE d = true) : listfree d = true ∧ dictfree d = true ∧ SeqAt.shaped d = true := by
  simp only [okE, Bool.and_eq_true] at h
  exact ⟨h.1.1, h.1.2, h.2.1⟩
theorem okE.s {d : PyData} (h : okE d = true) : ∀ x, d = .str x → x.length ≤ 100000 := by
  rintro x rfl
  simp only [okE, Bool.and_eq_true] at h
  exact of_decide_eq_true h.2.2
def spNode : Sp := fun vs H Q _ => ∃ v d, vs = [v] ∧ Dx H v d ∧ okN d = true ∧ ∀ H', Same H H' → Q (.bl (isNodeD d)) H'
theorem ok_is_node {f : Addr} {fd : FuncData} (F : Fun K "is_node" "is_node" s_is_node f fd) (T : Txt mg) (Z : TermZ K mg c) {f_is_word : Addr} {fd_is_word : FuncData} (G_is_word : FnOk P w K mg base CX0 1 f_is_word fd_is_word P_is_word spWord) (C_is_word : Cal K mg "is_word" f_is_word fd_is_word P_is_word) {f_is_arity : Addr} {fd_is_arity : FuncData} (G_is_arity : FnOk P w K mg base CX0 2 f_is_arity fd_is_arity P_is_arity (spA isArityD)) (C_is_arity : Cal K mg "is_arity" f_is_arity fd_is_arity P_is_arity) {f_is_leaf : Addr} {fd_is_leaf : FuncData} (G_is_leaf : FnOk P w K mg base CX0 1 f_is_leaf fd_is_leaf P_is_leaf (spD isLeafD)) (C_is_leaf : Cal K mg "is_leaf" f_is_leaf fd_is_leaf P_is_leaf) : FnOk P w K mg base CX0 3 f fd P_is_node spNode := by
  refine F.ok sc_is_node (fun vs H Q E h => ?_) (fun cdv A outer s H vs Q E hr h => ?_)
  · obtain ⟨v, d, rfl, _⟩ := h
    rfl
  · obtain ⟨v, d, rfl, hv, ho, q⟩ := h
    refine ⟨_, (pss_cons (ps_if (PW.pt (pw_or (pt_not (pt_val (pe_callB call_isi (by rfl) T.n_isinstance (by decide +kernel) (pa_cons (pv 0) (pa_cons (pe_bltn (v := .ty "tuple") rfl T.n_tuple (by decide +kernel) rfl) pa_nil))))) (pw_or1 (pt_cmpR op_ne (pe_callB call_len_seq (by rfl) T.n_len (by decide +kernel) (pa_cons (pv 0) pa_nil)) pe_int (nomark _))))) (pss_one (ps_ret pe_bl)) pss_nil)
      (pss_cons (ps_asg (pv 0) (pg_tup rfl (pgs_cons (pg_name (i := 1) sc_is_node.nd rfl (Or.inl rfl)) (pgs_cons (pg_name (i := 2) sc_is_node.nd rfl (Or.inl rfl)) pgs_nil))))
      (pss_cons (ps_if (pt_val (pe_call G_is_leaf (hr.mono (by decide)) rfl C_is_leaf.m C_is_leaf.k C_is_leaf.b .nil pass0 (pa_cons (pv 1) pa_nil))) (pss_one (ps_ret (pe_and (pe_call G_is_arity (hr.mono (by decide)) rfl C_is_arity.m C_is_arity.k C_is_arity.b .nil pass0 (pa_cons (pv 2) pa_nil)) (pe_one (pe_cmpR op_eq (pv 2) pe_int (nomark _)))))) pss_nil)
      (pss_one (ps_ret (pe_and (pe_call G_is_word (hr.mono (by decide)) rfl C_is_word.m C_is_word.k C_is_word.b .nil pass0 (pa_cons (pv 1) pa_nil)) (pe_one (pe_call G_is_arity (hr.mono (by decide)) rfl C_is_arity.m C_is_arity.k C_is_arity.b .nil pass0 (pa_cons (pv 2) pa_nil))))))))), ?_⟩
    refine ⟨_, rfl, _, _, _, _, _, rfl, .ty _, hv.ty, kit_tuple d, _, rfl, ?_⟩
    cases hv with
    | @tup a xs ds ha hx =>
      refine iteF ?_
      refine ⟨_, rfl, _, _, rfl, .inr (SqT.of ha), rfl, _, rfl, ?_⟩
      refine ite2 (fun g => ?_) (fun g => ?_)
      · have g' : ¬ V.int (xs.length : Int) = V.int 2 := of_decide_eq_false (by simpa using g)
        have hl : ds.length ≠ 2 := fun e => g' (by rw [hx.len, e]; rfl)
        have e : isNodeD (.tuple ds) = false := by
          match ds, hl with
          | [], _ => rfl
          | [_], _ => rfl
          | _ :: _ :: _ :: _, _ => rfl
        rw [e] at q
        exact q H (Same.refl H)
      · have g' : V.int (xs.length : Int) = V.int 2 := by simpa using g
        have hl : ds.length = 2 := by
          have := V.int.inj g'
          rw [hx.len] at this
          omega
        obtain ⟨s, m, rfl⟩ : ∃ s m, ds = [s, m] := by
          match ds, hl with
          | [s, m], _ => exact ⟨s, m, rfl⟩
        cases hx with
        | @cons vs _ _ _ h1 h2 =>
          cases h2 with
          | @cons vm _ _ _ h2 h3 =>
            cases h3
            have ho' : okE s = true ∧ okE m = true := by
              have := ho
              simpa only [okN, Bool.and_eq_true] using this
            refine ⟨_, rfl, _, _, rfl, SqT.of ha, rfl, _, _, rfl, _, _, rfl, rfl, ?_⟩
            refine ⟨_, rfl, vs, s, rfl, h1, okE.d ho'.1, fun H1 s1 => ?_⟩
            refine ⟨_, rfl, ?_⟩
            refine ite2 (fun g => ?_) (fun g => ?_)
            · refine ⟨_, rfl, vm, m, rfl, h2.same s1, _, rfl, ?_⟩
              have e : isNodeD (.tuple [s, m]) = (isArityD m && PyData.eqv m (.int 0)) := by
                show (if isLeafD s = true then _ else _) = _
                rw [if_pos g]
              rw [e] at q
              refine ite2 (fun g2 => ?_) (fun g2 => ?_)
              · rw [g2, Bool.true_and] at q
                cases h2 with
                | int i =>
                  refine ⟨_, rfl, rfl, ?_⟩
                  have e2 : PyData.eqv (.int i) (.int 0) = decide (V.int i = V.int 0) := by
                    by_cases z : i = 0
                    · subst z
                      rfl
                    · rw [decide_eq_false (fun w => z (V.int.inj w))]
                      simp [PyData.eqv, z]
                  rw [e2] at q
                  exact q H1 s1
                | _ => cases g2
              · rw [Bool.eq_false_iff.mpr g2, Bool.false_and] at q
                exact q H1 s1
            · refine ⟨_, rfl, vs, s, rfl, h1.same s1, okE.s ho'.1, fun H2 s2 => ?_⟩
              have e : isNodeD (.tuple [s, m]) = (isWordD s && isArityD m) := by
                show (if isLeafD s = true then _ else _) = _
                rw [if_neg g]
              rw [e] at q
              refine ⟨_, rfl, ?_⟩
              refine ite2 (fun g2 => ?_) (fun g2 => ?_)
              · rw [g2, Bool.true_and] at q
                exact ⟨_, rfl, vm, m, rfl, h2.same (s1.trans s2), q H2 (s1.trans s2)⟩
              · rw [Bool.eq_false_iff.mpr g2, Bool.false_and] at q
                exact q H2 (s1.trans s2)
    | _ => exact iteT (q H (Same.refl H))

/-- the arities of a row of nodes make one tree: m nodes are still missing -/
def oneTree (m : Int) : List Int → Bool
  | [] => decide (V.int m = V.int 0)
  | k :: r => if decide (V.int m = V.int 0) = true then false else oneTree (m - 1 + k) r
/-- xs are tuples of two, the second an int -/
def RowsOf (H : Hp) (xs : List V) (ms : List Int) : Prop := xs.length = ms.length ∧ ∀ (i : Nat) (x : V) (m : Int), xs[i]? = some x → ms[i]? = some m → ∃ (t : Addr) (s : V), x = V.ref t ∧ H t = some (.tup [s, .int m])
def spOne (K : PySem.W.Frag) : Sp := fun vs H Q _ => ∃ (a : Addr) (xs : List V) (ms : List Int), vs = [.ref a] ∧ SqT K H a xs ∧ RowsOf H xs ms ∧ Q (.bl (oneTree 1 ms)) H
theorem ok_makes_one_tree {f : Addr} {fd : FuncData} (F : Fun K "makes_one_tree" "makes_one_tree" s_makes_one_tree f fd) (T : Txt mg) (Z : TermZ K mg c) : FnOk P w K mg base CX0 1 f fd P_makes_one_tree (spOne K) := by
  refine F.ok sc_makes_one_tree (fun vs H Q E h => ?_) (fun cdv A outer s H vs Q E hr h => ?_)
  · obtain ⟨a, xs, ms, rfl, _⟩ := h
    rfl
  · obtain ⟨a, xs, ms, rfl, hS, hR, q⟩ := h
    refine ⟨_, (pss_cons (ps_set (i := 1) sc_makes_one_tree.nd rfl (Or.inl rfl) pe_int)
      (pss_cons (ps_for PassesOwn.never rfl (pi_tup (pv 0)) (pg_tup rfl (pgs_cons (pg_name (i := 2) sc_makes_one_tree.nd rfl (Or.inl rfl)) (pgs_cons (pg_name (i := 3) sc_makes_one_tree.nd rfl (Or.inl rfl)) pgs_nil))) (pss_cons (ps_if (pt_cmpR op_eq (pv 1) pe_int (nomark _)) (pss_one (ps_ret pe_bl)) pss_nil)
      (pss_one (ps_set (i := 1) sc_makes_one_tree.nd rfl (Or.inl rfl) (pe_op op_add (pe_op op_sub (pv 1) pe_int) (pv 3))))))
      (pss_one (ps_ret (pe_cmpR op_eq (pv 1) pe_int (nomark _)))))), ?_⟩
    refine ⟨_, rfl, _, rfl, ⟨_, hS⟩, ?_⟩
    refine for_tup (K := K) (xs := xs) (fun i σ H' => H' = H ∧ ∃ m a2 a3, σ = [some (.ref a), some (.int m), a2, a3] ∧ oneTree 1 ms = oneTree m (ms.drop i)) ⟨rfl, 1, none, none, rfl, rfl⟩ (fun i σ H' _ h => by rw [h.1]; exact hS) ?_ ?_
    · rintro i x σ H' hi ⟨rfl, m, a2, a3, rfl, e⟩
      have hlt : i < ms.length := by rw [← hR.1]; exact (List.getElem?_eq_some_iff.mp hi).1
      obtain ⟨t, s1, rfl, ht⟩ := hR.2 i x ms[i] hi (List.getElem?_eq_getElem hlt)
      refine ⟨_, _, rfl, SqT.of ht, rfl, _, _, rfl, _, _, rfl, rfl, ?_⟩
      refine ⟨_, rfl, rfl, _, rfl, ?_⟩
      rw [List.drop_eq_getElem_cons hlt] at e
      refine ite2 (fun g => ?_) (fun g => ?_)
      · have e' : oneTree 1 ms = false := by
          rw [e]
          exact if_pos g
        rw [e'] at q
        exact q
      · refine ⟨_, rfl, _, _, rfl, rfl, _, rfl, _, _, rfl, rfl, ?_⟩
        refine ⟨rfl, _, _, _, rfl, ?_⟩
        rw [e]
        exact if_neg g
    · rintro σ H' ⟨rfl, m, a2, a3, rfl, e⟩
      rw [hR.1, List.drop_length] at e
      refine ⟨_, rfl, rfl, ?_⟩
      rw [e] at q
      exact q
def arOf : PyData → Int
  | .tuple [_, .int m] => m
  | _ => 0
def isTreeD : PyData → Bool
  | .tuple ds => decide (ds.length ≤ 40) && (ds.all isNodeD && oneTree 1 (ds.map arOf))
  | _ => false
def okT : PyData → Bool
  | .tuple ds => ds.all okN
  | _ => true
def spTree : Sp := fun vs H Q _ => ∃ v d, vs = [v] ∧ Dx H v d ∧ okT d = true ∧ ∀ H', Same H H' → Q (.bl (isTreeD d)) H'
theorem isNode_rows {H : Hp} {xs : List V} {ds : List PyData} (hx : DxAll H xs ds) (hn : ds.all isNodeD = true) : RowsOf H xs (ds.map arOf) := by
  refine ⟨by rw [List.length_map]; exact hx.len, fun i x m hi hm => ?_⟩
  obtain ⟨d, hd, xd⟩ := hx.get hi
  rw [List.getElem?_map, hd] at hm
  have nd := List.all_eq_true.mp hn d (List.mem_of_getElem? hd)
  cases (show some (arOf d) = some m from hm)
  have shape : ∃ s k, d = .tuple [s, .int k] := by
    match d, nd with
    | .tuple [s, e], nd =>
      have na : isArityD e = true := by
        have nd' : (if isLeafD s = true then (isArityD e && PyData.eqv e (.int 0)) else (isWordD s && isArityD e)) = true := nd
        split at nd' <;> simp only [Bool.and_eq_true] at nd'
        · exact nd'.1
        · exact nd'.2
      match e, na with
      | .int k, _ => exact ⟨s, k, rfl⟩
  obtain ⟨s, k, rfl⟩ := shape
  cases xd with
  | tup h1 h2 =>
    cases h2 with
    | cons q1 h2 =>
      cases h2 with
      | cons q2 h2 =>
        cases h2
        cases q2
        exact ⟨_, _, rfl, h1⟩
theorem ok_is_tree {f : Addr} {fd : FuncData} (F : Fun K "is_tree" "is_tree" s_is_tree f fd) (T : Txt mg) (Z : TermZ K mg c) {f_is_node : Addr} {fd_is_node : FuncData} (G_is_node : FnOk P w K mg base CX0 3 f_is_node fd_is_node P_is_node spNode) (C_is_node : Cal K mg "is_node" f_is_node fd_is_node P_is_node) {f_makes_one_tree : Addr} {fd_makes_one_tree : FuncData} (G_makes_one_tree : FnOk P w K mg base CX0 1 f_makes_one_tree fd_makes_one_tree P_makes_one_tree (spOne K)) (C_makes_one_tree : Cal K mg "makes_one_tree" f_makes_one_tree fd_makes_one_tree P_makes_one_tree) : FnOk P w K mg base CX0 4 f fd P_is_tree spTree := by
  refine F.ok sc_is_tree (fun vs H Q E h => ?_) (fun cdv A outer s H vs Q E hr h => ?_)
  · obtain ⟨v, d, rfl, _⟩ := h
    rfl
  · obtain ⟨v, d, rfl, hv, ho, q⟩ := h
    refine ⟨_, (pss_cons (ps_if (PW.pt (pw_or (pt_not (pt_val (pe_callB call_isi (by rfl) T.n_isinstance (by decide +kernel) (pa_cons (pv 0) (pa_cons (pe_bltn (v := .ty "tuple") rfl T.n_tuple (by decide +kernel) rfl) pa_nil))))) (pw_or1 (pt_cmpR op_gt (pe_callB call_len_seq (by rfl) T.n_len (by decide +kernel) (pa_cons (pv 0) pa_nil)) (pe_glob (v := .int 40) rfl T.m_MAX_NODES.choose_spec ⟨_, rfl⟩) (nomark _))))) (pss_one (ps_ret pe_bl)) pss_nil)
      (pss_one (ps_ret (pe_and (pe_callB (cr_all rfl) (by rfl) T.n_all (by decide +kernel) (pa_cons (pe_lc (own := [("node", 1)]) (g := gName 1) (tt := tYes) rfl sc_is_tree.nd (pi_tup (pv 0)) (blkOk_by (own := [("node", 1)]) (N := ["value", "node"]) (sc := (defScope s_is_tree)) (by decide +kernel)) (fun _ _ _ _ _ => (pg_name (i := 1) sc_is_tree.nd rfl (Or.inl rfl))) (fun _ _ _ _ _ => pts_nil) (fun _ _ _ _ _ => (pe_call G_is_node (hr.mono (by decide)) rfl C_is_node.m C_is_node.k C_is_node.b .nil pass0 (pa_cons (pv 1) pa_nil)))) pa_nil)) (pe_one (pe_call G_makes_one_tree (hr.mono (by decide)) rfl C_makes_one_tree.m C_makes_one_tree.k C_makes_one_tree.b .nil pass0 (pa_cons (pv 0) pa_nil))))))), ?_⟩
    refine ⟨_, rfl, _, _, _, _, _, rfl, .ty _, hv.ty, kit_tuple d, _, rfl, ?_⟩
    cases hv with
    | @tup a xs ds ha hx =>
      refine iteF ?_
      refine ⟨_, rfl, _, _, rfl, .inr (SqT.of ha), _, _, rfl, rfl, _, rfl, ?_⟩
      refine ite2 (fun g => ?_) (fun g => ?_)
      · have g' := of_decide_eq_true g
        have e : isTreeD (.tuple ds) = false := by
          show (decide (ds.length ≤ 40) && _) = false
          rw [decide_eq_false (by rw [← hx.len]; omega), Bool.false_and]
        rw [e] at q
        exact q H (Same.refl H)
      · have g' := of_decide_eq_false (Bool.eq_false_iff.mpr g)
        have hl : ds.length ≤ 40 := by rw [← hx.len]; omega
        have e : isTreeD (.tuple ds) = (ds.all isNodeD && oneTree 1 (ds.map arOf)) := by
          show (decide (ds.length ≤ 40) && _) = _
          rw [decide_eq_true hl, Bool.true_and]
        rw [e] at q
        refine ⟨_, rfl, _, rfl, ⟨_, SqT.of ha⟩, fun D hD => ?_⟩
        refine lc_tup (K := K) (xs := xs) (fun i H' => Same H H' ∧ H' D = some (.lst ((ds.take i).map fun d => V.bl (isNodeD d)))) ⟨sameOf hD (fun b hb => upd_ne hb), upd_same⟩ (fun i H' _ h => SqT.of (h.1 _ _ ha)) ?_ ?_
        · rintro i y H' hi ⟨sm, hl1⟩
          obtain ⟨d, hd, xd⟩ := hx.get hi
          have od := List.all_eq_true.mp ho d (List.mem_of_getElem? hd)
          have hi2 : i < 40 := Nat.lt_of_lt_of_le (List.getElem?_eq_some_iff.mp hd).1 hl
          refine ⟨rfl, ?_⟩
          refine ⟨_, rfl, y, d, rfl, xd.same sm, od, fun H9 s9 => ?_⟩
          refine ⟨_, s9 _ _ hl1, szlt (by rw [List.length_map, List.length_take]; omega), fun b o e => ?_, ?_⟩
          · rw [upd_ne (ne_of_none e hD)]
            exact s9 _ _ (sm _ _ e)
          · rw [upd_same, List.take_add_one, List.map_append, hd]
            rfl
        · rintro H9 ⟨sm, hl1⟩
          rw [hx.len, List.take_of_length_le (Nat.le_refl _)] at hl1
          refine ⟨_, ds.map isNodeD, rfl, SqL.of (by rw [hl1, List.map_map]; rfl), _, rfl, ?_⟩
          have ea : (ds.map isNodeD).all id = ds.all isNodeD := by
            rw [List.all_map]
            rfl
          refine ite2 (fun g2 => ?_) (fun g2 => ?_)
          · have g3 : ds.all isNodeD = true := by rw [← ea]; exact g2
            rw [g3, Bool.true_and] at q
            have rows := isNode_rows hx g3
            refine ⟨_, rfl, a, xs, ds.map arOf, rfl, SqT.of (sm _ _ ha), ⟨rows.1, fun i x m h1 h2 => ?_⟩, q H9 sm⟩
            obtain ⟨t, s, h3, h4⟩ := rows.2 i x m h1 h2
            exact ⟨t, s, h3, sm _ _ h4⟩
          · have g3 : ds.all isNodeD = false := by rw [← ea]; exact Bool.eq_false_iff.mpr g2
            rw [g3, Bool.false_and] at q
            exact q H9 sm
    | _ => exact iteT (q H (Same.refl H))
/-- how many of the nodes are needed until m trees are whole -/
def walkT : Nat → List Int → Option Nat
  | 0, _ => some 0
  | _ + 1, [] => none
  | m + 1, k :: r => (walkT (m + k.toNat) r).map (· + 1)
theorem walkT_zero (l : List Int) : walkT 0 l = some 0 := by cases l <;> rfl
theorem walkT_le : ∀ {l : List Int} {m n : Nat}, walkT m l = some n → n ≤ l.length
  | l, 0, n, h => by
    rw [walkT_zero] at h
    cases h
    exact Nat.zero_le _
  | [], m + 1, n, h => by cases h
  | k :: r, m + 1, n, h => by
    obtain ⟨n', e, rfl⟩ := Option.map_eq_some_iff.mp (show (walkT (m + k.toNat) r).map (· + 1) = some n from h)
    have := walkT_le e
    rw [List.length_cons]
    omega
def spEnd (K : PySem.W.Frag) : Sp := fun vs H Q _ => ∃ (a : Addr) (xs : List V) (ms : List Int) (p n : Nat), vs = [.ref a, .int (p : Int)] ∧ SqT K H a xs ∧ RowsOf H xs ms ∧ (∀ k ∈ ms, 0 ≤ k) ∧ walkT 1 (ms.drop p) = some n ∧ Q (.int ((p + n : Nat) : Int)) H
theorem ok_part_end {f : Addr} {fd : FuncData} (F : Fun K "part_end" "part_end" s_part_end f fd) (T : Txt mg) (Z : TermZ K mg c) : FnOk P w K mg base CX0 1 f fd P_part_end (spEnd K) := by
  refine F.ok sc_part_end (fun vs H Q E h => ?_) (fun cdv A outer s H vs Q E hr h => ?_)
  · obtain ⟨a, xs, ms, p, n, rfl, _⟩ := h
    rfl
  · obtain ⟨a, xs, ms, p, n, rfl, hS, hR, h0, hw, q⟩ := h
    refine ⟨_, (pss_cons (ps_set (i := 2) sc_part_end.nd rfl (Or.inl rfl) pe_int)
      (pss_cons (ps_set (i := 3) sc_part_end.nd rfl (Or.inl rfl) (pv 1))
      (pss_cons (ps_while PassesOwn.never (pt_cmpR op_gt (pv 2) pe_int (nomark _)) (pss_cons (ps_set (i := 2) sc_part_end.nd rfl (Or.inl rfl) (pe_op op_add (pe_op op_sub (pv 2) pe_int) (pe_ix ix_tup (pe_ix ix_tup (pv 0) (pv 3) (fun _ _ => rfl)) pe_int (fun _ _ => rfl))))
      (pss_one (ps_aug (i := 3) sc_part_end.nd rfl (Or.inl rfl) pe_int ip_add))))
      (pss_one (ps_ret (pv 3)))))), ?_⟩
    refine ⟨_, rfl, ?_⟩
    refine ⟨fun m σ H' => H = H' ∧ ∃ (mi j : Nat), σ = [some (.ref a), some (.int (p : Int)), some (.int (mi : Int)), some (.int ((p + j : Nat) : Int))] ∧ walkT mi (ms.drop (p + j)) = some m ∧ j + m = n, ⟨n, rfl, 1, 0, rfl, hw, by omega⟩, ?_⟩
    rintro m σ H' ⟨rfl, mi, j, rfl, hm, hj⟩
    refine ⟨_, rfl, _, _, rfl, rfl, _, rfl, ?_⟩
    refine ite2 (fun g => ?_) (fun g => ?_)
    · have g' := of_decide_eq_true g
      obtain ⟨mi, rfl⟩ : ∃ k, mi = k + 1 := ⟨mi - 1, by omega⟩
      have hlt : p + j < ms.length := by
        rcases Nat.lt_or_ge (p + j) ms.length with h | h
        · exact h
        · rw [List.drop_eq_nil_of_le h] at hm
          cases hm
      rw [List.drop_eq_getElem_cons hlt] at hm
      obtain ⟨m', e1, rfl⟩ := Option.map_eq_some_iff.mp (show (walkT (mi + (ms[p + j]).toNat) (ms.drop (p + j + 1))).map (· + 1) = some m from hm)
      have hx : xs[p + j]? = some (xs[p + j]'(by rw [hR.1]; exact hlt)) := List.getElem?_eq_getElem _
      obtain ⟨t, s1, ex, ht⟩ := hR.2 (p + j) _ _ hx (List.getElem?_eq_getElem hlt)
      rw [ex] at hx
      have kp : 0 ≤ ms[p + j] := h0 _ (List.getElem_mem hlt)
      generalize ms[p + j] = k at ht e1 kp
      refine ⟨fun σ' H' => H = H' ∧ ∃ (mi j : Nat), σ' = [some (.ref a), some (.int (p : Int)), some (.int (mi : Int)), some (.int ((p + j : Nat) : Int))] ∧ walkT mi (ms.drop (p + j)) = some m' ∧ j + m' = n, fun σ' H' z => ⟨m', by omega, z⟩, ?_⟩
      refine ⟨_, rfl, _, _, rfl, rfl, _, rfl, _, rfl, _, _, _, _, rfl, rfl, hS, atI_nat hx, _, _, _, _, rfl, rfl, SqT.of ht, rfl, _, _, rfl, rfl, ?_⟩
      refine ⟨_, rfl, _, _, rfl, rfl, ?_⟩
      have e2 : ((mi + 1 : Nat) : Int) - 1 + k = ((mi + k.toNat : Nat) : Int) := by omega
      have e3 : ((p + j : Nat) : Int) + 1 = ((p + (j + 1) : Nat) : Int) := by omega
      refine ⟨rfl, mi + k.toNat, j + 1, ?_, e1, by omega⟩
      rw [← e2, ← e3]
      rfl
    · have g' := of_decide_eq_false (Bool.eq_false_iff.mpr g)
      obtain rfl : mi = 0 := by omega
      rw [walkT_zero] at hm
      cases hm
      refine ⟨_, rfl, ?_⟩
      obtain rfl : j = n := by omega
      exact q
def spPart (K : PySem.W.Frag) : Sp := fun vs H Q _ => ∃ (a : Addr) (xs : List V) (ms : List Int) (p n : Nat), vs = [.ref a, .int (p : Int)] ∧ SqT K H a xs ∧ RowsOf H xs ms ∧ (∀ k ∈ ms, 0 ≤ k) ∧ walkT 1 (ms.drop p) = some n ∧ 
  ∀ (b : Addr) (H' : Hp), Same H H' → SqT K H' b ((xs.drop p).take n) → Q (.ref b) H'
theorem ok_part_at {f : Addr} {fd : FuncData} (F : Fun K "part_at" "part_at" s_part_at f fd) (T : Txt mg) (Z : TermZ K mg c) {f_part_end : Addr} {fd_part_end : FuncData} (G_part_end : FnOk P w K mg base CX0 1 f_part_end fd_part_end P_part_end (spEnd K)) (C_part_end : Cal K mg "part_end" f_part_end fd_part_end P_part_end) : FnOk P w K mg base CX0 2 f fd P_part_at (spPart K) := by
  refine F.ok sc_part_at (fun vs H Q E h => ?_) (fun cdv A outer s H vs Q E hr h => ?_)
  · obtain ⟨a, xs, ms, p, n, rfl, _⟩ := h
    rfl
  · obtain ⟨a, xs, ms, p, n, rfl, hS, hR, h0, hw, q⟩ := h
    refine ⟨_, (pss_one (ps_ret (pe_slice sl_tupA (pv 0) (po_some (pv 1)) (po_some (pe_call G_part_end (hr.mono (by decide)) rfl C_part_end.m C_part_end.k C_part_end.b .nil pass0 (pa_cons (pv 0) (pa_cons (pv 1) pa_nil))))))), ?_⟩
    refine ⟨_, rfl, _, rfl, _, rfl, _, rfl, _, rfl, ?_⟩
    refine ⟨a, xs, ms, p, n, rfl, hS, hR, h0, hw, ?_⟩
    have hn := walkT_le hw
    rw [List.length_drop] at hn
    have hp : p ≤ ms.length := by
      rcases Nat.le_total p ms.length with h | h
      · exact h
      · rw [List.drop_eq_nil_of_le h] at hw
        cases hw
    have e1 : HT.sIx xs.length 0 (some (p : Int)) = p := by rw [HT.sIx_nat, hR.1]; omega
    have e2 : HT.sIx xs.length xs.length (some ((p + n : Nat) : Int)) = p + n := by rw [HT.sIx_nat, hR.1]; omega
    refine ⟨_, rfl, a, xs, rfl, hS, fun z => ?_, fun z b hb => ?_⟩
    · rw [e1, e2] at z
      obtain ⟨rfl, z⟩ := z
      refine q a H (Same.refl H) ?_
      rw [List.drop_zero, List.take_of_length_le (by omega)]
      exact hS
    · refine q b _ (fun c o e => by rw [upd_ne (ne_of_none e hb)]; exact e) (SqT.of ?_)
      rw [upd_same]
      unfold cutV
      rw [e1, e2, Nat.add_sub_cancel_left]

/-- the list of nodes with words that symbols_in gives: each once -/
def spSyms : Sp := fun vs H Q _ => ∃ (a : Addr) (xs : List V) (ds : List PyData), vs = [.ref a] ∧ H a = some (.tup xs) ∧ DxAll H xs ds ∧ ds.all isNodeD = true ∧ ds.all okN = true ∧ ds.length ≤ 40 ∧
  ∀ (as : List Addr) (ps : List (Str × Int)) (p : Addr) (H' : Hp), Same H H' → H p = none → H' p = some (.lst (as.map V.ref)) → Paired (fun b q => H' b = some (.tup [.str q.1, .int q.2])) as ps → ps.Nodup → (∀ q, q ∈ ps ↔ q ∈ prsOf ds) → Q (.ref p) H'
theorem ok_symbols_in {f : Addr} {fd : FuncData} (F : Fun K "symbols_in" "symbols_in" s_symbols_in f fd) (T : Txt mg) (Z : TermZ K mg c) {f_is_leaf : Addr} {fd_is_leaf : FuncData} (G_is_leaf : FnOk P w K mg base CX0 1 f_is_leaf fd_is_leaf P_is_leaf (spD isLeafD)) (C_is_leaf : Cal K mg "is_leaf" f_is_leaf fd_is_leaf P_is_leaf) : FnOk P w K mg base CX0 2 f fd P_symbols_in spSyms := by
  refine F.ok sc_symbols_in (fun vs H Q E h => ?_) (fun cdv A outer s H vs Q E hr h => ?_)
  · obtain ⟨a, xs, ds, rfl, _⟩ := h
    rfl
  · obtain ⟨a, xs, ds, rfl, ha, hx, hn, ho, hz, q⟩ := h
    refine ⟨_, (pss_one (ps_ret (pe_callB (cr_sortP rfl) (by rfl) T.n_sorted (by decide +kernel) (pa_cons (pe_scP (own := [("node", 1)]) (g := gName 1) (hu64i hr) rfl sc_symbols_in.nd (pi_tup (pv 0)) (blkOk_by (own := [("node", 1)]) (N := ["nodes", "node"]) (sc := (defScope s_symbols_in)) (by decide +kernel)) (fun _ _ _ _ _ => (pg_name (i := 1) sc_symbols_in.nd rfl (Or.inl rfl))) (fun _ _ _ _ _ => (pts_one (pt_not (pt_val (pe_call G_is_leaf (hr.mono (by decide)) rfl C_is_leaf.m C_is_leaf.k C_is_leaf.b .nil pass0 (pa_cons (pe_ix (ix_tup_k (K := K) ) (pv 1) pe_int (fun _ _ => rfl)) pa_nil)))))) (fun _ _ _ _ _ => (pv 1))) pa_nil)))), ?_⟩
    refine ⟨_, rfl, _, rfl, ⟨_, SqT.of ha⟩, fun D hD => ?_⟩
    refine sc_over_tup (K := K) (ys := xs) (fun i H' => (∀ b o, b ≠ D → H b = some o → H' b = some o) ∧ ∃ L, H' D = some (PSetO P w D L) ∧ SetIs H' ds i L ∧ ∀ p ∈ L, p.1 ≠ D)
      ⟨fun b o nb e => by rw [upd_ne nb]; exact e, [], upd_same, SetIs.none, fun p hp => by cases hp⟩ (fun i H' z => SqT.of (z.1 _ _ (ne_of_none ha hD) ha)) ?_ ?_
    · rintro H1 ⟨k1, L, hL, hs, nD⟩
      rw [hx.len] at hs
      refine ⟨_, _, rfl, hL, hs.pairs, fun as p pm pw np => ?_⟩
      obtain ⟨ps, h1, h2, h3⟩ := hs.told pm
      have sm : Same H H1 := fun b o e => k1 b o (ne_of_none e hD) e
      refine q as ps p _ (sm.trans (sameOf np fun b nb => upd_ne nb)) ?_ upd_same (L2.Paired.mapP h1 fun b q e => by rw [upd_ne (ne_of_none e np)]; exact e) h2 h3
      cases z : H p with
      | none => rfl
      | some o => exact absurd np (by rw [sm _ _ z]; exact fun z => nomatch z)
    · rintro i y H1 hi ⟨k1, L, hL, hs, nD⟩
      obtain ⟨d, hd, xd⟩ := hx.get hi
      obtain ⟨x, k, rfl, k0, k3⟩ := node_shape (List.all_eq_true.mp hn d (List.mem_of_getElem? hd))
      cases xd with
      | @tup c _ _ hc h2 =>
        cases h2 with
        | cons q1 h2 =>
          cases h2 with
          | cons q2 h2 =>
            cases h2
            cases q1
            cases q2
            have nc := ne_of_none hc hD
            have okx : okE (.str x) = true := by
              have z : (okE (.str x) && okE (.int k)) = true := List.all_eq_true.mp ho _ (List.mem_of_getElem? hd)
              rw [Bool.and_eq_true] at z
              exact z.1
            have hc1 := k1 _ _ nc hc
            refine ⟨rfl, ?_⟩
            refine ⟨_, rfl, _, _, _, _, rfl, rfl, SqT.of hc1, rfl, _, _, rfl, .str x, okE.d okx, fun H2 s2 => ?_⟩
            have hL2 := s2 _ _ hL
            have hs2 : SetIs H2 ds i L := hs.same fun p hp => by
              obtain ⟨r, _, _, e⟩ := hs.at_ p hp
              rw [e, s2 _ _ e]
            have k2 : ∀ b o, b ≠ D → H b = some o → H2 b = some o := fun b o nb e => s2 _ _ (k1 b o nb e)
            refine ⟨_, rfl, ?_⟩
            cases g : isLeafD (.str x) with
            | true =>
              refine iteF ?_
              exact ⟨k2, L, hL2, hs2.skip hd (prOf_leaf g), nD⟩
            | false =>
              refine iteT ?_
              have hc2 := s2 _ _ hc1
              have hi2 : i < 40 := Nat.lt_of_lt_of_le (List.getElem?_eq_some_iff.mp hd).1 hz
              refine ⟨_, rfl, c, keyP (x, k), L, rfl, hc2, hL2, hs2.members, by have := hs2.len; omega, fun L' h1 h2 => ?_⟩
              have nD' : ∀ p ∈ L', p.1 ≠ D := by
                by_cases m : keyP (x, k) ∈ L.map Prod.snd
                · rw [h1 m]
                  exact nD
                · intro p hp
                  rcases List.mem_cons.mp ((h2 m).mem_iff.mp hp) with rfl | hp
                  · exact nc
                  · exact nD p hp
              refine ⟨fun b o nb e => by rw [upd_ne nb]; exact k2 b o nb e, L', upd_same, ?_, nD'⟩
              exact (hs2.add hd (prOf_word g) hc2 h1 h2).same fun p hp => upd_ne (nD' p hp)
/-! ### the class -/
/-- data that is the nodes of a term -/
def isTermD (d : PyData) : Bool := isTreeD d && match d with
  | .tuple ds => decide (∀ p ∈ prsOf ds, ∀ q ∈ prsOf ds, p.1 = q.1 → p.2 = q.2)
  | _ => false
def spInit (c : Ta) : Sp := fun vs H Q E => ∃ (a dx : Addr) (v : V) (d : PyData), vs = [.ref a, v] ∧ H a = some (.ins c.T dx []) ∧ Dx H v d ∧ okT d = true ∧
  (isTermD d = true → ∀ H', Same H H' → Q .non (upd H' a (.ins c.T dx [("_nodes", v)]))) ∧ (isTermD d = false → ∀ H', Same H H' → E (.ref c.X) none H')
theorem ok_T_init {f : Addr} {fd : FuncData} (F : Fun K "__init__" "Term.__init__" s_T_init f fd) (T : Txt mg) (Z : TermZ K mg c) {f_is_tree : Addr} {fd_is_tree : FuncData} (G_is_tree : FnOk P w K mg base CX0 4 f_is_tree fd_is_tree P_is_tree spTree) (C_is_tree : Cal K mg "is_tree" f_is_tree fd_is_tree P_is_tree) {f_symbols_in : Addr} {fd_symbols_in : FuncData} (G_symbols_in : FnOk P w K mg base CX0 2 f_symbols_in fd_symbols_in P_symbols_in spSyms) (C_symbols_in : Cal K mg "symbols_in" f_symbols_in fd_symbols_in P_symbols_in) : FnOk P w K mg base (L2.CX P w) 5 f fd P_T_init (spInit c) := by
  refine F.okX sc_T_init (fun vs H Q E h => ?_) (fun cdv A outer s H vs Q E hr h => ?_)
  · obtain ⟨a, dx, v, d, rfl, _⟩ := h
    rfl
  · obtain ⟨a, dx, v, d, rfl, ha, hv, ho, qt, qf⟩ := h
    refine ⟨_, (pss_cons (ps_if (pt_not (pt_val (pe_call G_is_tree (hr.mono (by decide)) rfl C_is_tree.m C_is_tree.k C_is_tree.b .nil pass0 (pa_cons (pv 1) pa_nil)))) (pss_one (ps_raise (W := WR E) rfl (takes_of rfl rfl rfl rfl) (pmk_own PySem.F.excBase_ValueError Z.exc Z.g_X Z.kX (raises_own Z.subX Z.tyX) rfl))) pss_nil)
      (pss_cons (ps_set (i := 2) sc_T_init.nd rfl (Or.inl rfl) (pe_call G_symbols_in (hr.mono (by decide)) rfl C_symbols_in.m C_symbols_in.k C_symbols_in.b .nil pass0 (pa_cons (pv 1) pa_nil)))
      (pss_cons (ps_if (pt_cmpR op_lt (pe_callB call_lenD (by rfl) T.n_len (by decide +kernel) (pa_cons (pe_callTy (call_dictP rfl) (by rfl) T.n_dict (by decide +kernel) (pa_cons (pv 2) pa_nil)) pa_nil)) (pe_callB call_len_seq (by rfl) T.n_len (by decide +kernel) (pa_cons (pv 2) pa_nil)) (nomark _)) (pss_one (ps_raise (W := WR E) rfl (takes_of rfl rfl rfl rfl) (pmk_own PySem.F.excBase_ValueError Z.exc Z.g_X Z.kX (raises_own Z.subX Z.tyX) rfl))) pss_nil)
      (pss_one (ps_fld (pv 0) (pv 1) rfl))))), ?_⟩
    refine ⟨_, rfl, v, d, rfl, hv, ho, fun H1 s1 => ⟨_, rfl, ?_⟩⟩
    refine ite2 (fun g => ?_) (fun g => ?_)
    · have e : isTermD d = false := by
        unfold isTermD
        rw [show isTreeD d = false by simpa using g, Bool.false_and]
      exact qf e H1 s1
    · have g' : isTreeD d = true := by simpa using g
      cases hv with
      | @tup p xs ds hp hx =>
        have g2 : (decide (ds.length ≤ 40) && (ds.all isNodeD && oneTree 1 (ds.map arOf))) = true := g'
        simp only [Bool.and_eq_true, decide_eq_true_eq] at g2
        have eT : isTermD (.tuple ds) = decide (OneEach (prsOf ds)) := by
          show (isTreeD (.tuple ds) && decide (OneEach (prsOf ds))) = _
          rw [g', Bool.true_and]
        rw [eT] at qt qf
        refine ⟨_, rfl, p, xs, ds, rfl, s1 _ _ hp, hx.same s1, g2.2.1, ho, g2.1, fun as ps l H2 s2 nl hl hps nd mem => ?_⟩
        refine ⟨_, rfl, l, as, ps.map kvOf, rfl, SqL.of hl, ?_, fun p1 n1 => ?_⟩
        · exact paired_r (f := kvOf) (S := fun b kv => SqT K H2 b [kV kv.1, kv.2]) (fun b q e => show SqT K H2 b [kV (kvOf q).1, (kvOf q).2] from SqT.of e) hps
        generalize g3 : upd _ p1 _ = H3; obtain ⟨e3, o3, t3⟩ := made n1 g3; clear g3
        have s3 := sameOf n1 o3
        refine ⟨_, _, rfl, t3, _, rfl, _, _, rfl, .inl (SqL.of (s3 _ _ hl)), _, _, rfl, rfl, _, rfl, ?_⟩
        have lenE : (as.map V.ref).length = ps.length := by rw [List.length_map]; exact hps.length
        have eD : decide (OneEach ps) = decide (OneEach (prsOf ds)) := by
          rw [decide_eq_decide]
          exact one_mem mem
        rw [lenE, dict_len nd, eD]
        have s13 := (s1.trans s2).trans s3
        refine ite2 (fun h => ?_) (fun h => ?_)
        · exact qf (by simpa using h) H3 s13
        · refine ⟨_, rfl, _, rfl, _, _, _, _, rfl, s13 _ _ ha, Z.cls, Z.no, by decide, ?_⟩
          exact qt (by simpa using h) H3 s13
      | _ => cases g'
def spLenT (c : Ta) : Sp := fun vs H Q _ => ∃ (a dx p : Addr) (xs : List V), vs = [.ref a] ∧ H a = some (.ins c.T dx [("_nodes", .ref p)]) ∧ H p = some (.tup xs) ∧ Q (.int xs.length) H
theorem ok_T_len {f : Addr} {fd : FuncData} (F : Fun K "__len__" "Term.__len__" s_T_len f fd) (T : Txt mg) (Z : TermZ K mg c) : FnOk P w K mg base CX0 1 f fd P_T_len (spLenT c) := by
  refine F.ok sc_T_len (fun vs H Q E h => ?_) (fun cdv A outer s H vs Q E hr h => ?_)
  · obtain ⟨a, dx, p, xs, rfl, _⟩ := h
    rfl
  · obtain ⟨a, dx, p, xs, rfl, ha, hp, q⟩ := h
    refine ⟨_, (pss_one (ps_ret (pe_callB call_len_seq (by rfl) T.n_len (by decide +kernel) (pa_cons (pe_fld (pv 0) rfl) pa_nil)))), ?_⟩
    exact ⟨_, rfl, _, _, _, _, _, rfl, ha, Z.cls, Z.no, rfl, _, _, rfl, .inr (SqT.of hp), q⟩
def spNodesT (c : Ta) : Sp := fun vs H Q _ => ∃ (a dx : Addr) (v : V), vs = [.ref a] ∧ H a = some (.ins c.T dx [("_nodes", v)]) ∧ Q v H
theorem ok_T_nodes {f : Addr} {fd : FuncData} (F : Fun K "nodes" "Term.nodes" s_T_nodes f fd) (T : Txt mg) (Z : TermZ K mg c) : FnOk P w K mg base CX0 1 f fd P_T_nodes (spNodesT c) := by
  refine F.ok sc_T_nodes (fun vs H Q E h => ?_) (fun cdv A outer s H vs Q E hr h => ?_)
  · obtain ⟨a, dx, v, rfl, _⟩ := h
    rfl
  · obtain ⟨a, dx, v, rfl, ha, q⟩ := h
    refine ⟨_, (pss_one (ps_ret (pe_fld (pv 0) rfl))), ?_⟩
    exact ⟨_, rfl, _, _, _, _, _, rfl, ha, Z.cls, Z.no, rfl, q⟩
/-! ### build -/
/-- a term that stands at v, with these nodes -/
def TermAt (c : Ta) (H : Hp) (v : V) (ds : List PyData) : Prop := ∃ (a dx q : Addr) (xs : List V), v = .ref a ∧ H a = some (.ins c.T dx [("_nodes", .ref q)]) ∧ H q = some (.tup xs) ∧ DxAll H xs ds
def ArgAt (c : Ta) (H : Hp) (v : V) : Option (List PyData) → Prop
  | some ds => TermAt c H v ds
  | none => ∃ d, Dx H v d
def spB0 (c : Ta) : Sp := fun vs H Q E => ∃ (u : V) (p : Addr) (rest : List V) (dw : PyData) (os : List (Option (List PyData))), vs = [.ref c.T, u, .ref p] ∧ H p = some (.tup rest) ∧ Dx H u dw ∧ okE dw = true ∧ rest.length ≤ 4 ∧ Paired (ArgAt c H) rest os ∧
  (∀ o ∈ os, ∀ ds, o = some ds → ds.all okN = true ∧ ds.length ≤ 40) ∧
  ((∀ o ∈ os, o.isSome = true) → isTermD (.tuple (.tuple [dw, .int rest.length] :: os.flatMap (·.getD []))) = true → ∀ x H', Same H H' → Q (.ref x) H') ∧
  (¬ ((∀ o ∈ os, o.isSome = true) ∧ isTermD (.tuple (.tuple [dw, .int rest.length] :: os.flatMap (·.getD []))) = true) → ∀ H', Same H H' → E (.ref c.X) none H')
theorem ok_T_build {f : Addr} {fd : FuncData} (F : Fun K "build" "Term.build" s_T_build f fd) (T : Txt mg) (Z : TermZ K mg c) {fd_T_init : FuncData} (G_T_init : FnOk P w K mg base (L2.CX P w) 5 c.fi fd_T_init P_T_init (spInit c)) (B_T_init : Binds K fd_T_init P_T_init [])
    {fd_T_nodes : FuncData} (G_T_nodes : FnOk P w K mg base CX0 1 c.gn fd_T_nodes P_T_nodes (spNodesT c)) (B_T_nodes : Binds K fd_T_nodes P_T_nodes []) :
    FnR P w K mg base (L2.CX P w) 8 f (fun vs H Q E => ∃ ws rest, vs = ws ++ rest ∧ ws.length = ["cls", "word"].length ∧ rest.length ≤ sizeLine ∧ ∀ p, H p = Option.none → spB0 c (ws ++ [V.ref p]) (upd H p (.tup rest)) Q E) := by
  obtain ⟨oc, od, kV, doc, pm, an, cdv, ct, osl, rfl, lk, hcd⟩ := F.ex
  refine StX.fn_star (k := 7) (sp := spB0 c) (ps := ["cls", "word"]) (pv := "terms") lk hcd sc_T_build StX.cxUp (StX.bind_star2 (B := fun us => bindArgs _ ⟨us, []⟩) (fun a b => rfl) (fun a b r rs => rfl)) (fun A outer s H vs Q E hr h => ?_)
  obtain ⟨u, p, rest, dw, os, rfl, hp, hu, ho, hz, hos, oks, qt, qf⟩ := h
  refine ⟨_, (pss_cons (ps_if (pt_not (pt_val (pe_callB (cr_all rfl) (by rfl) T.n_all (by decide +kernel) (pa_cons (pe_lc (own := [("term", 3)]) (g := gName 3) (tt := tYes) rfl sc_T_build.nd (pi_tup (pv 2)) (blkOk_by (own := [("term", 3)]) (N := ["cls", "word", "terms", "term", "inner", "node"]) (sc := (defScope s_T_build)) (by decide +kernel)) (fun _ _ _ _ _ => (pg_name (i := 3) sc_T_build.nd rfl (Or.inl rfl))) (fun _ _ _ _ _ => pts_nil) (fun _ _ _ _ _ => (pe_callB (call_isi_k (K := K) ) (by rfl) T.n_isinstance (by decide +kernel) (pa_cons (pv 3) (pa_cons (pe_glob (v := .ref c.T) rfl Z.g_T rfl) pa_nil))))) pa_nil)))) (pss_one (ps_raise (W := WR E) rfl (takes_of rfl rfl rfl rfl) (pmk_own PySem.F.excBase_ValueError Z.exc Z.g_X Z.kX (raises_own Z.subX Z.tyX) rfl))) pss_nil)
      (pss_cons (ps_setLc2 (i := 4) (own := [("term", 3), ("node", 5)]) (vs1 := [5]) (g := gName 3) (g1 := gName 5) (tt := tYes) (tt1 := tYes) rfl sc_T_build.nd rfl rfl (sw_true rfl rfl rfl (by decide +kernel)) (pi_tup (pv 2)) (blkOk_by (own := [("term", 3), ("node", 5)]) (N := ["cls", "word", "terms", "term", "inner", "node"]) (sc := (defScope s_T_build)) (by decide +kernel)) (by decide) (fun _ _ _ _ _ => (pg_name (i := 3) sc_T_build.nd rfl (Or.inl rfl))) (fun _ _ _ _ _ => pts_nil) (fun _ _ _ _ _ => (pi_tup_k (K := K) (pe_prop (pv 3) Z.cls Z.prop G_T_nodes (hr.mono (by decide)) B_T_nodes .nil pass0 rfl))) (fun _ _ _ _ _ => (pg_name (i := 5) sc_T_build.nd rfl (Or.inl rfl))) (fun _ _ _ _ _ => pts_nil) (fun _ _ _ _ _ => (pv 5)))
      (pss_one (ps_ret (pe_makeLS (i := 0) (E := WE (WR E)) Z.mkc G_T_init B_T_init (hr.mono (by decide)) rfl (Or.inl rfl) (passAt (W := WR E) (takes_of rfl rfl rfl rfl)) (pa_cons (pe_tup (pa_cons (pe_tup (pa_cons (pv 1) (pa_cons (pe_callB call_len_seq (by rfl) T.n_len (by decide +kernel) (pa_cons (pv 2) pa_nil)) pa_nil))) (StX.pa_star (pv 4) pa_nil))) pa_nil)))))), ?_⟩
  have arg : ∀ {H1 : Hp} {v : V} {o : Option (List PyData)}, Same H H1 → ArgAt c H v o → ∃ t, TyX K H1 v t ∧ PySem.W.kitOne K t (.ref c.T) = some o.isSome := fun {H1 v o} sm ao => by
    cases o with
    | some ds =>
      obtain ⟨a, dx, q, xs, rfl, ha, _⟩ := ao
      exact ⟨_, Z.ty (sm _ _ ha), Z.kitT⟩
    | none =>
      obtain ⟨d, hd⟩ := ao
      exact ⟨_, (hd.same sm).ty, Z.kit _ (tyN_mem d)⟩
  refine ⟨_, rfl, _, rfl, ⟨_, SqT.of hp⟩, fun D hD => ?_⟩
  refine lc_tup (K := K) (xs := rest) (fun i H' => Same H H' ∧ H' D = some (.lst ((os.take i).map fun o => V.bl o.isSome))) ⟨sameOf hD (fun b hb => upd_ne hb), upd_same⟩ (fun i H' _ h => SqT.of (h.1 _ _ hp)) ?_ ?_
  · rintro i y H1 hi ⟨sm, hl1⟩
    obtain ⟨o, ho1, ao⟩ := paired_get hos hi
    obtain ⟨t, ty, kt⟩ := arg sm ao
    have hi2 : i < 4 := Nat.lt_of_lt_of_le (List.getElem?_eq_some_iff.mp hi).1 hz
    refine ⟨rfl, ?_⟩
    refine ⟨_, rfl, _, _, _, _, _, rfl, .own _, ty, kt, ?_⟩
    refine ⟨_, hl1, szlt (by rw [List.length_map, List.length_take]; omega), fun b o e => ?_, ?_⟩
    · rw [upd_ne (ne_of_none e hD)]
      exact sm _ _ e
    · rw [upd_same, List.take_add_one, List.map_append, ho1]
      rfl
  · rintro H1 ⟨s1, hl1⟩
    rw [hos.length, List.take_of_length_le (Nat.le_refl _)] at hl1
    refine ⟨_, os.map (·.isSome), rfl, SqL.of (by rw [hl1, List.map_map]; rfl), _, rfl, ?_⟩
    refine ite2 (fun g => ?_) (fun g => ?_)
    · refine qf (fun z => ?_) H1 s1
      have y : (os.map (·.isSome)).all id = true := by
        rw [List.all_map]
        exact List.all_eq_true.mpr z.1
      rw [y] at g
      cases g
    · have g2 : (os.map (·.isSome)).all id = true := by
        cases z : (os.map (·.isSome)).all id with
        | true => rfl
        | false => exact absurd (by rw [z]; rfl) g
      have hsome : ∀ o ∈ os, o.isSome = true := by
        rw [List.all_map] at g2
        exact List.all_eq_true.mp g2
      have qt2 := qt hsome
      refine ⟨_, rfl, _, rfl, ⟨_, SqT.of (s1 _ _ hp)⟩, fun D2 hD2 => ?_⟩
      refine over_tup (ys := rest) (fun i H' => Same H1 H' ∧ ∃ acc, H' D2 = some (.lst acc) ∧ DxAll H acc ((os.take i).flatMap (·.getD [])) ∧ acc.length ≤ 40 * i) ⟨sameOf hD2 (fun b hb => upd_ne hb), [], upd_same, .nil, Nat.zero_le _⟩ (fun i H' z => SqT.of (z.1 _ _ (s1 _ _ hp))) ?_ ?_
      · rintro H2 ⟨s2, acc, hacc, dacc, lacc⟩
        rw [hos.length, List.take_of_length_le (Nat.le_refl _)] at dacc
        have la : acc.length ≤ 160 := Nat.le_trans lacc (by omega)
        refine ⟨rfl, _, rfl, _, rfl, _, _, rfl, .inr (SqT.of (s2 _ _ (s1 _ _ hp))), (szr rfl), fun p1 n1 => ?_⟩
        generalize g3 : upd _ p1 _ = H3; obtain ⟨e3, o3, t3⟩ := made n1 g3; clear g3
        have s3 := sameOf n1 o3
        refine ⟨_, rfl, _, _, rfl, .inr (SqL.of (s3 _ _ hacc)), szl (by rw [List.append_nil, List.length_cons]; omega), fun p2 n2 => ?_⟩
        generalize g4 : upd _ p2 _ = H4; obtain ⟨e4, o4, t4⟩ := made n2 g4; clear g4
        have s4 := sameOf n2 o4
        have s14 := ((s1.trans s2).trans s3).trans s4
        intro x dx nx ndx nxd
        have s5 : Same H4 (upd (upd H4 dx (.own x)) x (.ins c.T dx [])) := fun b o e => by
          rw [upd_ne (ne_of_none e nx), upd_ne (ne_of_none e ndx)]
          exact e
        have okn : okT (.tuple (.tuple [dw, .int rest.length] :: os.flatMap (·.getD []))) = true := by
          show (okN (.tuple [dw, .int rest.length]) && (os.flatMap (·.getD [])).all okN) = true
          rw [Bool.and_eq_true]
          refine ⟨?_, List.all_eq_true.mpr fun d hd => ?_⟩
          · show (okE dw && okE (.int rest.length)) = true
            rw [ho]
            rfl
          · obtain ⟨o, om, hd⟩ := List.mem_flatMap.mp hd
            obtain ⟨ds, rfl⟩ := Option.isSome_iff_exists.mp (hsome o om)
            exact List.all_eq_true.mp (oks _ om ds rfl).1 d hd
        have dxx : Dx H4 (.ref p2) (.tuple (.tuple [dw, .int rest.length] :: os.flatMap (·.getD []))) := by
          rw [List.append_nil] at t4
          refine .tup t4 (.cons (.tup (s4 _ _ t3) (.cons (hu.same s14) (.cons (.int _) .nil))) ?_)
          exact DxAll.same s14 dacc
        refine ⟨x, dx, _, _, rfl, upd_same, dxx.same s5, okn, fun e H' s' => ⟨rfl, qt2 e x _ ?_⟩, fun e H' s' => qf (fun z => ?_) _ ((s14.trans s5).trans s')⟩
        · refine fun b o eb => ?_
          have e5 := (s14.trans s5) b o eb
          have ne : b ≠ x := by
            rintro rfl
            have := s14 _ _ eb
            rw [nx] at this
            cases this
          rw [upd_ne ne]
          exact s' _ _ e5
        · rw [z.2] at e
          cases e
      · rintro i y H2 hi ⟨s2, acc, hacc, dacc, lacc⟩
        obtain ⟨o, ho1, ao⟩ := paired_get hos hi
        have hi2 : i < 4 := Nat.lt_of_lt_of_le (List.getElem?_eq_some_iff.mp hi).1 hz
        have om := List.mem_of_getElem? ho1
        obtain ⟨ds, rfl⟩ := Option.isSome_iff_exists.mp (hsome o om)
        obtain ⟨a, dx, q, xs, rfl, ha, hq, hx⟩ := ao
        have sH2 := s1.trans s2
        have lx : xs.length ≤ 40 := by rw [hx.len]; exact (oks _ om ds rfl).2
        refine ⟨rfl, ?_⟩
        refine ⟨_, rfl, _, _, _, rfl, sH2 _ _ ha, ⟨a, dx, _, rfl, sH2 _ _ ha, _, rfl, ⟨_, SqT.of (sH2 _ _ hq)⟩, ?_⟩⟩
        refine over_tup (ys := xs) (fun j H' => Same H1 H' ∧ H' D2 = some (.lst (acc ++ xs.take j))) ⟨s2, by rw [List.take_zero, List.append_nil]; exact hacc⟩ (fun j H' z => SqT.of (z.1 _ _ (s1 _ _ hq))) ?_ ?_
        · rintro H3 ⟨s3, h3⟩
          rw [List.take_of_length_le (Nat.le_refl _)] at h3
          refine ⟨s3, _, h3, ?_, by rw [List.length_append]; omega⟩
          rw [List.take_add_one, ho1, List.flatMap_append]
          exact dacc.app (by simpa using hx)
        · rintro j z H3 hj ⟨s3, h3⟩
          refine ⟨rfl, ?_⟩
          refine ⟨_, rfl, _, h3, szlt (by rw [List.length_append, List.length_take]; omega), fun b o e => ?_, ?_⟩
          · rw [upd_ne (ne_of_none e hD2)]
            exact s3 _ _ e
          · rw [upd_same, List.take_add_one, hj, List.append_assoc]
            rfl

theorem ok__law_dice {f : Addr} {fd : FuncData} (F : Fun K "_law_dice" "_law_dice" s__law_dice f fd) (T : Txt mg) (Z : TermZ K mg c) : FnOk P w K mg base CX0 1 f fd P__law_dice (spDice K) := by
  refine F.ok sc__law_dice (fun vs H Q E h => ?_) (fun cdv A outer s H vs Q E hr h => ?_)
  · obtain ⟨a, ns, k, rfl, _⟩ := h
    rfl
  · obtain ⟨a, ns, k, rfl, hS, hlen, h0, hk, q⟩ := h
    refine ⟨_, (pss_cons (ps_set (i := 2) sc__law_dice.nd rfl (Or.inl rfl) (pe_op op_add (pe_op op_mul pe_int (pv 1)) pe_int))
      (pss_cons (ps_if (pt_cmpR op_lt (pv 1) (pe_callB call_len_seq (by rfl) T.n_len (by decide +kernel) (pa_cons (pv 0) pa_nil)) (nomark _)) (pss_one (ps_set (i := 2) sc__law_dice.nd rfl (Or.inl rfl) (pe_ix ix_list (pv 0) (pv 1) (fun _ _ => rfl)))) pss_nil)
      (pss_cons (ps_set (i := 3) sc__law_dice.nd rfl (Or.inl rfl) (pe_op op_mod (pe_callTy call_int1 (by rfl) T.n_int (by decide +kernel) (pa_cons (pe_callB call_abs (by rfl) T.n_abs (by decide +kernel) (pa_cons (pv 2) pa_nil)) pa_nil)) (pe_op op_powW (pe_op op_powW pe_int pe_int) pe_int)))
      (pss_cons (ps_set (i := 4) sc__law_dice.nd rfl (Or.inl rfl) (pe_op op_add (pe_op op_add (pe_op op_add (pe_op op_mul (pe_op op_mod (pe_callTy call_int1 (by rfl) T.n_int (by decide +kernel) (pa_cons (pv 3) pa_nil)) pe_int) pe_int) (pe_op op_mul pe_int (pv 1))) (pe_op op_mul pe_int (pe_callTy call_int1 (by rfl) T.n_int (by decide +kernel) (pa_cons (pe_cmpR op_lt (pv 2) pe_int (nomark _)) pa_nil)))) pe_int))
      (pss_one (ps_ret (pe_lst (pa_cons (pe_callB (call_max2 rfl) (by rfl) T.n_max (by decide +kernel) (pa_cons pe_int (pa_cons (pe_op op_sub (pv 3) (pe_op op_powW pe_int pe_int)) pa_nil))) (pa_cons (pe_op op_mod (pe_callTy call_int1 (by rfl) T.n_int (by decide +kernel) (pa_cons (pv 4) pa_nil)) pe_int) (pa_cons pe_int pa_nil)))))))))), ?_⟩
    refine ⟨_, rfl, _, _, rfl, rfl, mulL (by decide), _, _, rfl, rfl, ?_⟩
    refine ⟨_, rfl, _, rfl, _, _, rfl, .inl hS, _, _, rfl, rfl, _, rfl, ?_⟩
    refine ite2 (fun hc => ?_) (fun hc => ?_)
    · have hc' := of_decide_eq_true hc
      rw [List.length_map] at hc'
      obtain ⟨c, hat⟩ := script_at h0 hc'
      refine ⟨_, rfl, _, rfl, _, _, _, _, rfl, rfl, hS, hat, ?_⟩
      refine ⟨_, rfl, _, rfl, .inl ⟨_, rfl, _, _, rfl, rfl, (powOk (by decide +kernel)), _, _, rfl, rfl, (powOk (by decide +kernel)), _, _, rfl, rfl, (modc (by decide +kernel)), ?_⟩⟩
      refine ⟨_, rfl, .inl ⟨_, rfl, _, _, rfl, rfl, (modc (by decide)), _, _, rfl, rfl, mulR (by decide), _, rfl, _, _, rfl, rfl, mulL (by decide), _, _, rfl, rfl, _, rfl, _, _, rfl, rfl, .inr ⟨_, rfl, _, _, rfl, rfl, mulL (by decide), _, _, rfl, rfl, _, _, rfl, rfl, ?_⟩⟩⟩
      refine ⟨_, rfl, _, _, rfl, rfl, (powOk (by decide +kernel)), _, _, rfl, rfl, _, _, rfl, _, rfl, .inl ⟨_, rfl, _, _, rfl, rfl, (modc (by decide)), (szr rfl), fun p hp => ?_⟩⟩
      exact q p _ hp (Ev2.new hp) (fun _ hb => upd_ne hb) ⟨_, _, _, upd_same⟩
    · generalize 53 * k + 29 = c
      refine ⟨_, rfl, _, rfl, .inl ⟨_, rfl, _, _, rfl, rfl, (powOk (by decide +kernel)), _, _, rfl, rfl, (powOk (by decide +kernel)), _, _, rfl, rfl, (modc (by decide +kernel)), ?_⟩⟩
      refine ⟨_, rfl, .inl ⟨_, rfl, _, _, rfl, rfl, (modc (by decide)), _, _, rfl, rfl, mulR (by decide), _, rfl, _, _, rfl, rfl, mulL (by decide), _, _, rfl, rfl, _, rfl, _, _, rfl, rfl, .inr ⟨_, rfl, _, _, rfl, rfl, mulL (by decide), _, _, rfl, rfl, _, _, rfl, rfl, ?_⟩⟩⟩
      refine ⟨_, rfl, _, _, rfl, rfl, (powOk (by decide +kernel)), _, _, rfl, rfl, _, _, rfl, _, rfl, .inl ⟨_, rfl, _, _, rfl, rfl, (modc (by decide)), (szr rfl), fun p hp => ?_⟩⟩
      exact q p _ hp (Ev2.new hp) (fun _ hb => upd_ne hb) ⟨_, _, _, upd_same⟩
theorem ok__law_roll {f : Addr} {fd : FuncData} (F : Fun K "_law_roll" "_law_roll" s__law_roll f fd) (T : Txt mg) (Z : TermZ K mg c) : FnOk P w K mg base CX0 1 f fd P__law_roll spRoll := by
  refine F.ok sc__law_roll (fun vs H Q E h => ?_) (fun cdv A outer s H vs Q E hr h => ?_)
  · obtain ⟨p, n, rfl, _⟩ := h
    rfl
  · obtain ⟨p, n, rfl, hd, h0, hn, q⟩ := h
    obtain ⟨x, y, z, hp⟩ := id hd
    have a0 : ∀ x y z : Int, atI [V.int x, .int y, .int z] 0 = some (.int x) := fun _ _ _ => rfl
    have a1 : ∀ x y z : Int, atI [V.int x, .int y, .int z] 1 = some (.int y) := fun _ _ _ => rfl
    have a2 : ∀ x y z : Int, atI [V.int x, .int y, .int z] 2 = some (.int z) := fun _ _ _ => rfl
    refine ⟨_, (pss_cons (ps_if (pt_cmpR op_gt (pe_ix ix_list (pv 0) pe_int (fun _ _ => rfl)) pe_int (nomark _)) (pss_cons (ps_set (i := 2) sc__law_roll.nd rfl (Or.inl rfl) (pe_op op_mod (pe_callTy call_int1 (by rfl) T.n_int (by decide +kernel) (pa_cons (pe_ix ix_list (pv 0) pe_int (fun _ _ => rfl)) pa_nil)) (pv 1)))
      (pss_cons (ps_asg (pe_op op_fdiv (pe_ix ix_list (pv 0) pe_int (fun _ _ => rfl)) (pv 1)) (pg_sub (pv 0) pe_int set_list))
      (pss_one (ps_ret (pv 2))))) pss_nil)
      (pss_cons (ps_asg (pe_op op_add (pe_ix ix_list (pv 0) pe_int (fun _ _ => rfl)) pe_int) (pg_sub (pv 0) pe_int set_list))
      (pss_cons (ps_set (i := 3) sc__law_roll.nd rfl (Or.inl rfl) (pe_op op_mod (pe_callTy call_int1 (by rfl) T.n_int (by decide +kernel) (pa_cons (pe_op op_add (pe_ix ix_list (pv 0) pe_int (fun _ _ => rfl)) (pe_op op_mul pe_int (pe_ix ix_list (pv 0) pe_int (fun _ _ => rfl)))) pa_nil)) pe_int))
      (pss_cons (ps_set (i := 4) sc__law_roll.nd rfl (Or.inl rfl) (pe_op op_add (pe_op op_mul (pe_op op_mod (pe_callTy call_int1 (by rfl) T.n_int (by decide +kernel) (pa_cons (pe_op op_mul (pv 3) (pv 3)) pa_nil)) pe_int) (pv 3)) (pe_op op_mul pe_int (pe_ix ix_list (pv 0) pe_int (fun _ _ => rfl)))))
      (pss_cons (ps_set (i := 4) sc__law_roll.nd rfl (Or.inl rfl) (pe_op op_mod (pe_callTy call_int1 (by rfl) T.n_int (by decide +kernel) (pa_cons (pv 4) pa_nil)) pe_int))
      (pss_one (ps_ret (pe_op op_mod (pe_callTy call_int1 (by rfl) T.n_int (by decide +kernel) (pa_cons (pe_op op_fdiv (pv 4) pe_int) pa_nil)) (pv 1))))))))), ?_⟩
    refine ⟨_, rfl, _, _, _, _, rfl, rfl, SqL.of hp, a0 _ _ _, _, _, rfl, rfl, _, rfl, ?_⟩
    refine ite2 (fun hc => ?_) (fun hc => ?_)
    · refine ⟨_, rfl, _, _, _, _, rfl, rfl, SqL.of hp, a0 _ _ _, .inl ⟨_, rfl, _, rfl, _, _, rfl, rfl, (modc h0), ?_⟩⟩
      refine ⟨_, rfl, _, _, _, _, rfl, rfl, SqL.of hp, a0 _ _ _, _, rfl, _, _, rfl, rfl, ⟨h0, by omega⟩, _, rfl, _, _, _, _, rfl, rfl, hp, rfl, ?_⟩
      refine ⟨_, rfl, ?_⟩
      exact q _ _ (Int.emod_nonneg _ (by omega)) (Int.emod_lt_of_pos _ h0) (hd.set _ _ _).1 (hd.set _ _ _).2.1 (hd.set _ _ _).2.2
    · refine ⟨_, rfl, _, _, _, _, rfl, rfl, SqL.of hp, a2 _ _ _, _, _, rfl, rfl, _, rfl, _, _, _, _, rfl, rfl, hp, rfl, ?_⟩
      have hp2 : (upd H p (dl x y (z + 1))) p = some (dl x y (z + 1)) := upd_same
      refine ⟨_, rfl, _, _, _, _, rfl, rfl, SqL.of hp2, a1 _ _ _, _, rfl, _, _, _, _, rfl, rfl, SqL.of hp2, a2 _ _ _, _, _, rfl, rfl, mulL (by decide), _, _, rfl, rfl, .inl ⟨_, rfl, _, _, rfl, rfl, (modc (by decide)), ?_⟩⟩
      have b1 := Int.emod_nonneg (y + 998244341 * (z + 1)) (b := 2305843009213693951) (by decide)
      have b2 := Int.emod_lt_of_pos (y + 998244341 * (z + 1)) (b := 2305843009213693951) (by decide)
      generalize (y + 998244341 * (z + 1)) % 2305843009213693951 = one at b1 b2
      refine ⟨_, rfl, _, rfl, _, _, rfl, rfl, mulL (by omega), .inl ⟨_, rfl, _, _, rfl, rfl, (modc (by decide)), _, rfl, _, _, rfl, rfl, mulR (by omega), _, rfl, _, _, _, _, rfl, rfl, SqL.of hp2, a2 _ _ _, _, _, rfl, rfl, mulL (by decide), _, _, rfl, rfl, ?_⟩⟩
      refine ⟨_, rfl, .inl ⟨_, rfl, _, _, rfl, rfl, (modc (by decide)), ?_⟩⟩
      refine ⟨_, rfl, _, _, rfl, rfl, ⟨by decide, by decide⟩, .inl ⟨_, rfl, _, rfl, _, _, rfl, rfl, (modc h0), ?_⟩⟩
      exact q _ _ (Int.emod_nonneg _ (by omega)) (Int.emod_lt_of_pos _ h0) (hd.set _ _ _).1 (hd.set _ _ _).2.1 (hd.set _ _ _).2.2
theorem ok__law_pick {f : Addr} {fd : FuncData} (F : Fun K "_law_pick" "_law_pick" s__law_pick f fd) (T : Txt mg) (Z : TermZ K mg c) {f__law_roll : Addr} {fd__law_roll : FuncData} (G__law_roll : FnOk P w K mg base CX0 1 f__law_roll fd__law_roll P__law_roll spRoll) (C__law_roll : Cal K mg "_law_roll" f__law_roll fd__law_roll P__law_roll) : FnOk P w K mg base CX0 2 f fd P__law_pick (spPick K) := by
  refine F.ok sc__law_pick (fun vs H Q E h => ?_) (fun cdv A outer s H vs Q E hr h => ?_)
  · obtain ⟨p, a, xs, rfl, _⟩ := h
    rfl
  · obtain ⟨p, a, xs, rfl, hp, hS, hS2, h0, hn, q⟩ := h
    refine ⟨_, (pss_one (ps_ret (pe_ix ix_list (pv 1) (pe_call G__law_roll (hr.mono (by decide)) rfl C__law_roll.m C__law_roll.k C__law_roll.b .nil pass0 (pa_cons (pv 0) (pa_cons (pe_callB call_len_seq (by rfl) T.n_len (by decide +kernel) (pa_cons (pv 1) pa_nil)) pa_nil))) (fun _ _ => rfl)))), ?_⟩
    refine ⟨_, rfl, _, rfl, _, rfl, _, _, rfl, .inl hS, ?_⟩
    refine ⟨p, _, rfl, hp, by omega, by omega, fun r H' r0 r1 e1 o1 d1 => ?_⟩
    have hlt : r.toNat < xs.length := by omega
    have hat : atI xs ((r.toNat : Nat) : Int) = some xs[r.toNat] := atI_nat (List.getElem?_eq_getElem hlt)
    rw [show ((r.toNat : Nat) : Int) = r by omega] at hat
    exact ⟨_, _, _, _, rfl, rfl, hS2 _ e1 o1, hat, q _ _ _ (List.getElem?_eq_getElem hlt) e1 o1 d1⟩

/-! ### plain terms, as data: a pair of a word and the tuple of the arguments; n: how many levels -/
def wordsT : List (String × Nat) := [("a", 0), ("bb", 0), ("_", 0), ("#", 0), ("k", 1), ("f", 2), ("cons", 3)]
def IsT : Nat → PyData → Prop
  | 0, _ => False
  | n + 1, d => ∃ (w : String) (ds : List PyData), d = .tuple [.str w, .tuple ds] ∧ (w, ds.length) ∈ wordsT ∧ ∀ e ∈ ds, IsT n e
def nodesT : Nat → PyData → List PyData
  | n + 1, .tuple [w, .tuple ds] => .tuple [w, .int ds.length] :: ds.flatMap (nodesT n)
  | _, _ => []
def szT : Nat → Nat
  | 0 => 0
  | n + 1 => 1 + 3 * szT n
theorem szT_mono : ∀ {m n : Nat}, m ≤ n → szT m ≤ szT n
  | 0, _, _ => Nat.zero_le _
  | m + 1, n + 1, h => by
    have := szT_mono (Nat.le_of_succ_le_succ h)
    show 1 + 3 * szT m ≤ 1 + 3 * szT n
    omega
theorem few_words {w : String} {k : Nat} (h : (w, k) ∈ wordsT) : k ≤ 3 := by
  have z : ∀ p ∈ wordsT, p.2 ≤ 3 := by decide
  exact z _ h
theorem flat_len {f : PyData → List PyData} {b : Nat} : ∀ {ds : List PyData}, (∀ d ∈ ds, (f d).length ≤ b) → (ds.flatMap f).length ≤ ds.length * b
  | [], _ => Nat.zero_le _
  | d :: ds, h => by
    have a := h d List.mem_cons_self
    have r := flat_len (ds := ds) fun e he => h e (List.mem_cons_of_mem _ he)
    rw [List.flatMap_cons, List.length_append, List.length_cons, Nat.succ_mul]
    omega
theorem nodes_len : ∀ {n : Nat} {d : PyData}, IsT n d → (nodesT n d).length ≤ szT n
  | 0, _, h => h.elim
  | n + 1, _, ⟨w, ds, rfl, hw, hds⟩ => by
    have a := few_words hw
    have r := flat_len (ds := ds) (f := nodesT n) (b := szT n) fun e he => nodes_len (hds e he)
    have b : ds.length * szT n ≤ 3 * szT n := Nat.mul_le_mul_right _ a
    show ((_ :: ds.flatMap (nodesT n)).length) ≤ 1 + 3 * szT n
    rw [List.length_cons]
    omega
def spNodesL (n : Nat) : Sp := fun vs H Q _ => ∃ (v : V) (d : PyData), vs = [v] ∧ Dx H v d ∧ IsT n d ∧ n ≤ 4 ∧ ∀ (p : Addr) (xs : List V) (H' : Hp), Same H H' → H p = none → H' p = some (.lst xs) → DxAll H' xs (nodesT n d) → Q (.ref p) H'
theorem ok__law_nodes {f : Addr} {fd : FuncData} (F : Fun K "_law_nodes" "_law_nodes" s__law_nodes f fd) (T : Txt mg) (Z : TermZ K mg c) (C__law_nodes : Cal K mg "_law_nodes" f fd P__law_nodes) (nil0 : ∀ vs H Q E, ¬ spNodesL 0 vs H Q E) : ∀ n : Nat, FnOk P w K mg base CX0 (n + 1) f fd P__law_nodes (spNodesL n)
  | 0 => ⟨fun _ _ _ _ h => (nil0 _ _ _ _ h).elim, fun _ _ _ _ _ _ _ _ _ _ _ _ _ h => (nil0 _ _ _ _ h).elim⟩
  | n + 1 => by
    have G__law_nodes := ok__law_nodes F T Z C__law_nodes nil0 n
    refine FnOk.mono (j := (n + 1) + 1) (F.ok sc__law_nodes (fun vs H Q E h => ?_) (fun cdv A outer s H vs Q E hr h => ?_)) (by omega)
    · obtain ⟨v, d, rfl, _⟩ := h
      rfl
    · obtain ⟨v, d, rfl, hv, ⟨w, ds, rfl, hw, hds⟩, hn, q⟩ := h
      refine ⟨_, (pss_cons (ps_set (i := 1) sc__law_nodes.nd rfl (Or.inl rfl) (pe_lst (pa_cons (pe_tup (pa_cons (pe_ix ix_tup (pv 0) pe_int (fun _ _ => rfl)) (pa_cons (pe_callB call_len_seq (by rfl) T.n_len (by decide +kernel) (pa_cons (pe_ix ix_tup (pv 0) pe_int (fun _ _ => rfl)) pa_nil)) pa_nil))) pa_nil)))
      (pss_cons (ps_for PassesOwn.never rfl (pi_tup (pe_ix ix_tup (pv 0) pe_int (fun _ _ => rfl))) (pg_name (i := 2) sc__law_nodes.nd rfl (Or.inl rfl)) (pss_one (ps_set (i := 1) sc__law_nodes.nd rfl (Or.inl rfl) (pe_op op_cat (pv 1) (pe_call G__law_nodes hr rfl C__law_nodes.m C__law_nodes.k C__law_nodes.b .nil pass0 (pa_cons (pv 2) pa_nil))))))
      (pss_one (ps_ret (pv 1))))), ?_⟩
      have fw := few_words hw
      have hs4 : szT n ≤ 40 := Nat.le_trans (szT_mono (n := 4) (by omega)) (by decide)
      cases hv with
      | @tup a xs _ ha hx =>
        cases hx with
        | @cons v1 _ _ _ h1 hx =>
          cases hx with
          | @cons v2 _ _ _ h2 hx =>
            cases hx
            cases h1
            cases h2 with
            | @tup b ys _ hb hy =>
              refine ⟨_, rfl, _, _, _, _, rfl, rfl, SqT.of ha, rfl, _, rfl, _, _, _, _, rfl, rfl, SqT.of ha, rfl, _, _, rfl, .inr (SqT.of hb), (szr rfl), fun p1 n1 => ?_⟩
              generalize g1 : upd _ p1 _ = H1; obtain ⟨e1, o1, t1⟩ := made n1 g1; clear g1
              have s1 := sameOf n1 o1
              refine ⟨(szr rfl), fun p2 n2 => ?_⟩
              generalize g2 : upd _ p2 _ = H2; obtain ⟨e2, o2, t2⟩ := made n2 g2; clear g2
              have s2 := s1.trans (sameOf n2 o2)
              have old : ∀ {G : Hp} {r : Addr}, Same H G → G r = none → H r = none := fun {G r} sm nr => by
                cases z : H r with
                | none => rfl
                | some o => rw [sm _ _ z] at nr; cases nr
              refine ⟨_, rfl, _, _, _, _, rfl, rfl, SqT.of (s2 _ _ ha), rfl, _, rfl, ⟨_, SqT.of (s2 _ _ hb)⟩, ?_⟩
              refine for_tup (K := K) (xs := ys) (fun i σ H' => Same H H' ∧ ∃ (r : Addr) (zs : List V) (a3 : Option V), σ = [some (.ref a), some (.ref r), a3] ∧ H r = none ∧ H' r = some (.lst zs) ∧ DxAll H' zs (.tuple [.str w, .int ds.length] :: (ds.take i).flatMap (nodesT n)))
                ⟨s2, p2, _, none, rfl, old s1 n2, t2, .cons (.tup (by rw [o2 _ (ne_of_none t1 n2)]; exact t1) (.cons (.str _) (.cons (by rw [hy.len]; exact .int _) .nil))) .nil⟩ (fun i σ H' _ h => SqT.of (h.1 _ _ hb)) ?_ ?_
              · rintro i y σ H3 hi ⟨s3, r, zs, a3, rfl, nr, hr1, hz⟩
                obtain ⟨d, hd, xd⟩ := hy.get hi
                have dm := List.mem_of_getElem? hd
                have i3 : i < ds.length := (List.getElem?_eq_some_iff.mp hd).1
                refine ⟨_, rfl, _, rfl, ?_⟩
                refine ⟨y, d, rfl, xd.same s3, hds d dm, by omega, fun p4 us H4 s4 n4 h4 hu => ?_⟩
                have hz4 := hz.same s4
                have lz : zs.length ≤ 1 + 3 * 40 := by
                  rw [hz.len, List.length_cons]
                  have := flat_len (ds := ds.take i) (f := nodesT n) (b := szT n) fun e he => nodes_len (hds e (List.mem_of_mem_take he))
                  rw [List.length_take] at this
                  have m : min i ds.length * szT n ≤ 3 * 40 := Nat.mul_le_mul (by omega) hs4
                  omega
                have lu : us.length ≤ 40 := by
                  rw [hu.len]
                  exact Nat.le_trans (nodes_len (hds d dm)) hs4
                refine ⟨_, _, _, _, rfl, rfl, s4 _ _ hr1, h4, Nat.le_trans (show zs.length + us.length ≤ 100000 by omega) (by decide), fun p3 n3 => ?_⟩
                generalize g3 : upd _ p3 _ = H5; obtain ⟨e3, o3, t3⟩ := made n3 g3; clear g3
                have s5 := sameOf n3 o3
                refine ⟨(s3.trans s4).trans s5, p3, _, _, rfl, old (s3.trans s4) n3, t3, ?_⟩
                rw [List.take_add_one, hd, List.flatMap_append]
                have ap := (hz4.same s5).app (hu.same s5)
                simpa using ap
              · rintro σ H3 ⟨s3, r, zs, a3, rfl, nr, hr1, hz⟩
                rw [hy.len, List.take_length] at hz
                refine ⟨_, rfl, ?_⟩
                exact q r zs H3 s3 nr hr1 hz
theorem words_ok : ∀ p ∈ wordsT, isNodeD (.tuple [.str p.1, .int (p.2 : Nat)]) = true ∧ okN (.tuple [.str p.1, .int (p.2 : Nat)]) = true := by decide +kernel
theorem words_one : ∀ p ∈ wordsT, ∀ q ∈ wordsT, (p.1 : Str) = (q.1 : Str) → p.2 = q.2 := by decide +kernel
theorem nodes_mem : ∀ {n : Nat} {d : PyData}, IsT n d → ∀ e ∈ nodesT n d, ∃ p ∈ wordsT, e = .tuple [.str p.1, .int (p.2 : Nat)]
  | 0, _, h, _, _ => h.elim
  | n + 1, _, ⟨w, ds, rfl, hw, hds⟩, e, he => by
    rcases List.mem_cons.mp (show e ∈ _ :: ds.flatMap (nodesT n) from he) with rfl | he
    · exact ⟨_, hw, rfl⟩
    · obtain ⟨d, hd, he⟩ := List.mem_flatMap.mp he
      exact nodes_mem (hds d hd) e he
theorem one_step {m k : Int} {r : List Int} (h : 0 ≤ m) : oneTree (m + 1) (k :: r) = oneTree (m + k) r := by
  show (if decide (V.int (m + 1) = V.int 0) = true then false else oneTree (m + 1 - 1 + k) r) = _
  rw [if_neg (fun z => by have := V.int.inj (of_decide_eq_true z); omega), Int.add_sub_cancel]
theorem one_row {n : Nat} (ih : ∀ {d : PyData}, IsT n d → ∀ {m : Int} (l : List Int), 0 ≤ m → oneTree (m + 1) ((nodesT n d).map arOf ++ l) = oneTree m l) :
    ∀ {ds : List PyData}, (∀ e ∈ ds, IsT n e) → ∀ {m : Int} (l : List Int), 0 ≤ m → oneTree (m + (ds.length : Int)) ((ds.flatMap (nodesT n)).map arOf ++ l) = oneTree m l
  | [], _, m, l, _ => by
    show oneTree (m + ((0 : Nat) : Int)) ([] ++ l) = _
    rw [List.nil_append, Int.natCast_zero, Int.add_zero]
  | d :: ds, h, m, l, h0 => by
    rw [List.flatMap_cons, List.map_append, List.append_assoc, List.length_cons]
    have e : m + ((ds.length + 1 : Nat) : Int) = (m + ds.length) + 1 := by omega
    rw [e, ih (h d List.mem_cons_self) _ (by omega)]
    exact one_row ih (fun e he => h e (List.mem_cons_of_mem _ he)) l h0
theorem one_app : ∀ {n : Nat} {d : PyData}, IsT n d → ∀ {m : Int} (l : List Int), 0 ≤ m → oneTree (m + 1) ((nodesT n d).map arOf ++ l) = oneTree m l
  | 0, _, h, _, _, _ => h.elim
  | n + 1, _, ⟨w, ds, rfl, hw, hds⟩, m, l, h0 => by
    show oneTree (m + 1) ((ds.length : Int) :: ((ds.flatMap (nodesT n)).map arOf ++ l)) = _
    rw [one_step h0]
    exact one_row (fun h => one_app h) hds l h0
theorem prs_words {n : Nat} {d : PyData} (h : IsT n d) {q : Str × Int} (hq : q ∈ prsOf (nodesT n d)) : ∃ p ∈ wordsT, q = ((p.1 : Str), (p.2 : Int)) := by
  obtain ⟨e, he, hq⟩ := List.mem_flatMap.mp hq
  obtain ⟨p, hp, rfl⟩ := nodes_mem h e he
  have hq : q ∈ (if isLeafD (.str (p.1 : Str)) = true then [] else [((p.1 : Str), (p.2 : Int))]) := hq
  split at hq
  · cases hq
  · exact ⟨p, hp, List.mem_singleton.mp hq⟩
theorem term_ok {n : Nat} {d : PyData} (h : IsT n d) (hn : n ≤ 4) : isTermD (.tuple (nodesT n d)) = true ∧ (nodesT n d).all okN = true ∧ (nodesT n d).length ≤ 40 := by
  have len : (nodesT n d).length ≤ 40 := Nat.le_trans (nodes_len h) (Nat.le_trans (szT_mono hn) (by decide))
  refine ⟨?_, List.all_eq_true.mpr fun e he => ?_, len⟩
  · show (isTreeD (.tuple (nodesT n d)) && decide (OneEach (prsOf (nodesT n d)))) = true
    have a : (nodesT n d).all isNodeD = true := List.all_eq_true.mpr fun e he => by
      obtain ⟨p, hp, rfl⟩ := nodes_mem h e he
      exact (words_ok p hp).1
    have o := one_app h (m := 0) [] (Int.le_refl 0)
    rw [List.append_nil] at o
    have t : isTreeD (.tuple (nodesT n d)) = true := by
      show (decide ((nodesT n d).length ≤ 40) && ((nodesT n d).all isNodeD && oneTree 1 ((nodesT n d).map arOf))) = true
      rw [decide_eq_true len, a, show oneTree 1 ((nodesT n d).map arOf) = oneTree 0 [] from o]
      rfl
    rw [t, Bool.true_and, decide_eq_true_eq]
    intro p hp q hq e
    obtain ⟨p', hp', rfl⟩ := prs_words h hp
    obtain ⟨q', hq', rfl⟩ := prs_words h hq
    rw [words_one p' hp' q' hq' e]
  · obtain ⟨p, hp, rfl⟩ := nodes_mem h e he
    exact (words_ok p hp).2
/-! ### the term of a plain one -/
def spMade (c : Ta) : Sp := fun vs H Q _ => ∃ (v : V) (n : Nat) (d : PyData), vs = [v] ∧ Dx H v d ∧ IsT n d ∧ n ≤ 4 ∧ ∀ (x : V) (H' : Hp), Same H H' → TermAt c H' x (nodesT n d) → Q x H'
theorem ok__law_made_term {f : Addr} {fd : FuncData} (F : Fun K "_law_made_term" "_law_made_term" s__law_made_term f fd) (T : Txt mg) (Z : TermZ K mg c) {f__law_nodes : Addr} {fd__law_nodes : FuncData} (G__law_nodes : FnOk P w K mg base CX0 5 f__law_nodes fd__law_nodes P__law_nodes (fun vs H Q E => ∃ n, n ≤ 4 ∧ spNodesL n vs H Q E)) (C__law_nodes : Cal K mg "_law_nodes" f__law_nodes fd__law_nodes P__law_nodes) {fd_T_init : FuncData} (G_T_init : FnOk P w K mg base (L2.CX P w) 5 c.fi fd_T_init P_T_init (spInit c)) (B_T_init : Binds K fd_T_init P_T_init []) : FnOk P w K mg base CX0 7 f fd P__law_made_term (spMade c) := by
  refine F.ok sc__law_made_term (fun vs H Q E h => ?_) (fun cdv A outer s H vs Q E hr h => ?_)
  · obtain ⟨v, n, d, rfl, _⟩ := h
    rfl
  · obtain ⟨v, n, d, rfl, hv, hT, hn, q⟩ := h
    refine ⟨_, (pss_one (ps_ret (pe_makeS (E := fun _ => E0) Z.mkc G_T_init B_T_init (hr.mono (by decide)) rfl Z.g_T passAt0 (pa_cons (pe_callTy call_tuple_of (by rfl) T.n_tuple (by decide +kernel) (pa_cons (pe_call G__law_nodes (hr.mono (by decide)) rfl C__law_nodes.m C__law_nodes.k C__law_nodes.b .nil pass0 (pa_cons (pv 0) pa_nil)) pa_nil)) pa_nil)))), ?_⟩
    have ok := term_ok hT hn
    refine ⟨_, rfl, n, hn, v, d, rfl, hv, hT, hn, fun l xs H1 s1 nl hl hx => ?_⟩
    refine ⟨_, _, rfl, .inl ⟨SqL.of hl, fun p1 n1 => ?_⟩⟩
    generalize g1 : upd _ p1 _ = H2; obtain ⟨e1, o1, t1⟩ := made n1 g1; clear g1
    have s2 := sameOf n1 o1
    intro x dx nx ndx nxd
    have s3 := mk_new (C := c.T) nx ndx
    have hx2 : Dx H2 (.ref p1) (.tuple (nodesT n d)) := .tup t1 (hx.same s2)
    refine ⟨x, dx, _, _, rfl, upd_same, hx2.same s3, ok.2.1, fun _ H3 s4 => ⟨rfl, ?_⟩, fun e => by rw [ok.1] at e; cases e⟩
    have s5 := mk_same (o := .ins c.T dx [("_nodes", .ref p1)]) nx ndx s4
    exact q (.ref x) _ ((s1.trans s2).trans s5) ⟨x, dx, p1, xs, rfl, upd_same, s5 _ _ t1, (hx.same s2).same s5⟩
/-! ### drawn terms -/
def symsH : List (Key × V) := [(.inr "a", .int 0), (.inr "bb", .int 0), (.inr "f", .int 2), (.inr "k", .int 1), (.inr "cons", .int 3)]
def spTerm (n : Nat) : Sp := fun vs H Q _ => ∃ (p s l : Addr), vs = [.ref p, .ref s, .ref l, .int ((n : Int) - 1)] ∧ 1 ≤ n ∧ Dc H p ∧ H s = some (.dK symsH) ∧ H l = some (.lst [.str "_", .str "#"]) ∧
  ∀ (v : V) (d : PyData) (H' : Hp), But p H H' → Dc H' p → Dx H' v d → IsT n d → Q v H'
theorem syms_at : ∀ w ∈ (["a", "bb", "f", "k", "cons"] : List Str), ∃ (u : String) (k : Nat), w = (u : Str) ∧ valV symsH (.inr w) = some (.int k) ∧ (u, k) ∈ wordsT := by
  intro w hw
  simp only [List.mem_cons, List.not_mem_nil, or_false] at hw
  rcases hw with rfl | rfl | rfl | rfl | rfl
  · exact ⟨"a", 0, rfl, rfl, by decide⟩
  · exact ⟨"bb", 0, rfl, rfl, by decide⟩
  · exact ⟨"f", 2, rfl, rfl, by decide⟩
  · exact ⟨"k", 1, rfl, rfl, by decide⟩
  · exact ⟨"cons", 3, rfl, rfl, by decide⟩
theorem isT_nodice : ∀ {n : Nat} {d : PyData}, IsT n d → nodice d = true
  | 0, _, h => h.elim
  | n + 1, _, ⟨w, ds, rfl, hw, hds⟩ => by
    have r : nodiceAll ds = true := by
      have : ∀ {es : List PyData}, (∀ e ∈ es, IsT n e) → nodiceAll es = true := fun {es} he => by
        induction es with
        | nil => rfl
        | cons e es ih =>
          simp only [nodiceAll, Bool.and_eq_true]
          exact ⟨isT_nodice (he e List.mem_cons_self), ih fun x hx => he x (List.mem_cons_of_mem _ hx)⟩
      exact this hds
    simp [nodice, nodiceAll, r]
theorem dxT {H H' : Hp} (t : ∀ (b : Addr) (xs : List V), H b = some (.tup xs) → H' b = some (.tup xs)) : ∀ {n : Nat} {d : PyData} {v : V}, IsT n d → Dx H v d → Dx H' v d
  | 0, _, _, h, _ => h.elim
  | n + 1, _, v, ⟨w, ds, rfl, hw, hds⟩, h => by
    have row : ∀ {es : List PyData} {vs : List V}, (∀ e ∈ es, IsT n e) → DxAll H vs es → DxAll H' vs es := fun {es vs} he hx => by
      induction es generalizing vs with
      | nil =>
        cases hx
        exact .nil
      | cons e es ih =>
        cases hx with
        | cons a r => exact .cons (dxT t (he e List.mem_cons_self) a) (ih (fun x hx => he x (List.mem_cons_of_mem _ hx)) r)
    cases h with
    | tup h1 h2 =>
      cases h2 with
      | cons a h2 =>
        cases a
        cases h2 with
        | cons b h2 =>
          cases h2
          cases b with
          | tup h3 h4 => exact .tup (t _ _ h1) (.cons (.str _) (.cons (.tup (t _ _ h3) (row hds h4)) .nil))
theorem dxTs {H H' : Hp} (t : ∀ (b : Addr) (xs : List V), H b = some (.tup xs) → H' b = some (.tup xs)) {n : Nat} : ∀ {es : List PyData} {vs : List V}, (∀ e ∈ es, IsT n e) → DxAll H vs es → DxAll H' vs es
  | [], _, _, hx => by
    cases hx
    exact .nil
  | e :: es, _, he, hx => by
    cases hx with
    | cons a r => exact .cons (dxT t (he e List.mem_cons_self) a) (dxTs t (fun x hx => he x (List.mem_cons_of_mem _ hx)) r)
theorem But.tup {p : Addr} {H H' : Hp} (d : Dc H p) (k : But p H H') : ∀ (b : Addr) (xs : List V), H b = some (.tup xs) → H' b = some (.tup xs) := fun b xs e => k b _ (fun z => by
  subst z
  obtain ⟨_, _, _, z⟩ := d
  rw [z] at e
  cases e) e
theorem Dc.upd {H : Hp} {p D : Addr} {o : HO} (d : Dc H p) (n : p ≠ D) : Dc (upd H D o) p := by
  obtain ⟨x, y, z, h⟩ := d
  exact ⟨x, y, z, by rw [upd_ne n]; exact h⟩
/-- a leaf word -/
def LeafV (v : V) : Prop := ∃ u : String, v = .str (u : Str) ∧ (u, 0) ∈ wordsT
theorem LeafV.app {xs ys : List V} (a : ∀ v ∈ xs, LeafV v) (b : ∀ v ∈ ys, LeafV v) : ∀ v ∈ xs ++ ys, LeafV v := fun v hv => (List.mem_append.mp hv).elim (a v) (b v)
theorem leaves_v : ∀ v ∈ ([.str "_", .str "#"] : List V), LeafV v := fun v hv => by
  simp only [List.mem_cons, List.not_mem_nil, or_false] at hv
  rcases hv with rfl | rfl
  · exact ⟨"_", rfl, by decide⟩
  · exact ⟨"#", rfl, by decide⟩
set_option hygiene false in
local macro_rules | `(tactic| walk_at "leafEnd") => `(tactic| (
  refine ⟨_, rfl, _, rfl, _, rfl, _, _, _, _, rfl, rfl, hbk, hlk, Nat.le_trans (show acc.length + 2 ≤ 100000 by omega) (by decide), fun r1 m1 => ?_⟩
  generalize gg2 : upd _ r1 _ = H4; obtain ⟨eg2, og2, tg2⟩ := made m1 gg2; clear gg2
  have s4 := sameOf m1 og2
  refine ⟨_, rfl, _, _, _, _, rfl, rfl, tg2, s4 _ _ hlk, Nat.le_trans (show (acc ++ [V.str "_", V.str "#"]).length + 2 ≤ 100000 by rw [List.length_append]; show acc.length + 2 + 2 ≤ 100000; omega) (by decide), fun r2 m2 => ?_⟩
  generalize gg3 : upd _ r2 _ = H5; obtain ⟨eg3, og3, tg3⟩ := made m2 gg3; clear gg3
  have s5 := s4.trans (sameOf m2 og3)
  have d5 := dk.same s5
  have n2 : r2 ≠ p := fun z => (dk.same s4).ne m2 z.symm
  have lv : ∀ v ∈ (acc ++ [V.str "_", V.str "#"]) ++ [V.str "_", V.str "#"], LeafV v := (LeafV.app (LeafV.app lacc leaves_v) leaves_v)
  refine ⟨p, r2, _, rfl, d5, (pick_l tg3 n2).1, (pick_l tg3 n2).2, by rw [List.length_append, List.length_append]; show 0 < acc.length + 2 + 2; omega, by rw [List.length_append, List.length_append]; show acc.length + 2 + 2 < 1000000; omega, fun i v H6 hv e6 o6 d6 => ?_⟩
  obtain ⟨u, rfl, hu⟩ := lv v (List.mem_of_getElem? hv)
  refine ⟨(szr rfl), fun r3 m3 => ?_⟩
  generalize gg4 : upd _ r3 _ = H7; obtain ⟨eg4, og4, tg4⟩ := made m3 gg4; clear gg4
  refine ⟨(szr rfl), fun r4 m4 => ?_⟩
  generalize gg5 : upd _ r4 _ = H8; obtain ⟨eg5, og5, tg5⟩ := made m4 gg5; clear gg5
  have s8 := (sameOf m3 og4).trans (sameOf m4 og5)
  refine q (.ref r4) (.tuple [.str u, .tuple []]) H8 (((bk.trans (But.ofS s5)).trans (But.of1 o6)).trans (But.ofS s8)) (d6.same s8) (.tup tg5 (.cons (.str _) (.cons (.tup ((og5 _ (ne_of_none tg4 m4)).trans tg4) .nil) .nil))) ⟨u, [], rfl, hu, fun e he => by cases he⟩))
theorem ok__law_term {f : Addr} {fd : FuncData} (F : Fun K "_law_term" "_law_term" s__law_term f fd) (T : Txt mg) (Z : TermZ K mg c) (C__law_term : Cal K mg "_law_term" f fd P__law_term) {f__law_roll : Addr} {fd__law_roll : FuncData} (G__law_roll : FnOk P w K mg base CX0 1 f__law_roll fd__law_roll P__law_roll spRoll) (C__law_roll : Cal K mg "_law_roll" f__law_roll fd__law_roll P__law_roll) {f__law_pick : Addr} {fd__law_pick : FuncData} (G__law_pick : FnOk P w K mg base CX0 2 f__law_pick fd__law_pick P__law_pick (spPick K)) (C__law_pick : Cal K mg "_law_pick" f__law_pick fd__law_pick P__law_pick) (nil0 : ∀ vs H Q E, ¬ spTerm 0 vs H Q E) : ∀ n : Nat, FnOk P w K mg base CX0 (n + 2) f fd P__law_term (spTerm n)
  | 0 => ⟨fun _ _ _ _ h => (nil0 _ _ _ _ h).elim, fun _ _ _ _ _ _ _ _ _ _ _ _ _ h => (nil0 _ _ _ _ h).elim⟩
  | n + 1 => by
    have G__law_term := ok__law_term F T Z C__law_term G__law_roll C__law_roll G__law_pick C__law_pick nil0 n
    refine FnOk.mono (j := (n + 2) + 1) (F.ok sc__law_term (fun vs H Q E h => ?_) (fun cdv A outer s H vs Q E hr h => ?_)) (by omega)
    · obtain ⟨p, s, l, rfl, _⟩ := h
      rfl
    · obtain ⟨p, s, l, rfl, _, hd, hs, hl, q⟩ := h
      have ps : s ≠ p := fun z => by
        subst z
        obtain ⟨_, _, _, z⟩ := hd
        rw [hs] at z
        cases z
      have pl : l ≠ p := hd.neOf hl (fun x y z e => by cases e)
      refine ⟨_, (pss_cons (ps_setLc (i := 4) (own := [("_law_word", 5)]) (g := gName 5) rfl sc__law_term.nd rfl rfl (sw_true rfl rfl rfl (by decide +kernel)) (pi_list (pe_callB (call_sortedD rfl) (by rfl) T.n_sorted (by decide +kernel) (pa_cons (pv 1) pa_nil))) (blkOk_by (own := [("_law_word", 5)]) (N := ["_law_dice_here", "_law_symbols", "_law_leaves", "_law_deep", "_law_bare", "_law_word", "_law_one", "_law_at"]) (sc := (defScope s__law_term)) (by decide +kernel)) (fun _ _ _ _ _ => (pg_name (i := 5) sc__law_term.nd rfl (Or.inl rfl))) (fun _ _ _ _ _ => (pts_one (pt_cmpR op_eq (pe_dget (hu_of hr) (pv 1) (pv 5) (fun _ _ => rfl)) pe_int (nomark _)))) (fun _ _ _ _ _ => (pv 5)))
      (pss_cons (ps_if (PW.pt (pw_or (pt_cmpR op_eq (pv 3) pe_int (nomark _)) (pw_or1 (pt_cmpR op_eq (pe_call G__law_roll (hr.mono (by omega)) rfl C__law_roll.m C__law_roll.k C__law_roll.b .nil pass0 (pa_cons (pv 0) (pa_cons pe_int pa_nil))) pe_int (nomark _))))) (pss_one (ps_ret (pe_tup (pa_cons (pe_call G__law_pick (hr.mono (by omega)) rfl C__law_pick.m C__law_pick.k C__law_pick.b .nil pass0 (pa_cons (pv 0) (pa_cons (pe_op op_cat (pe_op op_cat (pv 4) (pv 2)) (pv 2)) pa_nil))) (pa_cons (pe_tup pa_nil) pa_nil))))) pss_nil)
      (pss_cons (ps_set (i := 5) sc__law_term.nd rfl (Or.inl rfl) (pe_call G__law_pick (hr.mono (by omega)) rfl C__law_pick.m C__law_pick.k C__law_pick.b .nil pass0 (pa_cons (pv 0) (pa_cons (pe_op op_cat (pe_callB (call_sortedD rfl) (by rfl) T.n_sorted (by decide +kernel) (pa_cons (pv 1) pa_nil)) (pe_lc (own := [("_law_one", 6)]) (g := gName 6) rfl sc__law_term.nd (pi_list (pe_callB (call_sortedD rfl) (by rfl) T.n_sorted (by decide +kernel) (pa_cons (pv 1) pa_nil))) (blkOk_by (own := [("_law_one", 6)]) (N := ["_law_dice_here", "_law_symbols", "_law_leaves", "_law_deep", "_law_bare", "_law_word", "_law_one", "_law_at"]) (sc := (defScope s__law_term)) (by decide +kernel)) (fun _ _ _ _ _ => (pg_name (i := 6) sc__law_term.nd rfl (Or.inl rfl))) (fun _ _ _ _ _ => (pts_one (pt_cmpR op_gt (pe_dget (hu_of hr) (pv 1) (pv 6) (fun _ _ => rfl)) pe_int (nomark _)))) (fun _ _ _ _ _ => (pv 6)))) pa_nil))))
      (pss_one (ps_ret (pe_tup (pa_cons (pv 5) (pa_cons (pe_callTy call_tuple_of (by rfl) T.n_tuple (by decide +kernel) (pa_cons (pe_lc (own := [("_law_at", 7)]) (g := gName 7) (tt := tYes) rfl sc__law_term.nd (pi_range1 (by rfl) T.n_range (pa_cons (pe_dget (hu_of hr) (pv 1) (pv 5) (fun _ _ => rfl)) pa_nil)) (blkOk_by (own := [("_law_at", 7)]) (N := ["_law_dice_here", "_law_symbols", "_law_leaves", "_law_deep", "_law_bare", "_law_word", "_law_one", "_law_at"]) (sc := (defScope s__law_term)) (by decide +kernel)) (fun _ _ _ _ _ => (pg_name (i := 7) sc__law_term.nd rfl (Or.inl rfl))) (fun _ _ _ _ _ => pts_nil) (fun _ _ _ _ _ => (pe_call G__law_term hr rfl C__law_term.m C__law_term.k C__law_term.b .nil pass0 (pa_cons (pv 0) (pa_cons (pv 1) (pa_cons (pv 2) (pa_cons (pe_op op_sub (pv 3) pe_int) pa_nil))))))) pa_nil)) pa_nil)))))))), ?_⟩
      refine ⟨_, rfl, s, symsH, ["a", "bb", "f", "k", "cons"], rfl, .inl hs, rfl, by decide, fun ys q1 pm so nq1 => ?_⟩
      generalize gg1 : upd _ q1 _ = H1; obtain ⟨eg1, og1, tg1⟩ := made nq1 gg1; clear gg1
      have s1 := sameOf nq1 og1
      refine ⟨_, rfl, ⟨_, SqL.of tg1⟩, fun D hD => ?_⟩
      refine lc_list (K := K) (xs := ys.map V.str) (fun i H' => Same H1 H' ∧ ∃ acc, H' D = some (.lst acc) ∧ (∀ v ∈ acc, LeafV v) ∧ acc.length ≤ i) ⟨sameOf hD (fun b hb => upd_ne hb), [], upd_same, (fun v hv => by cases hv), Nat.le_refl _⟩ (fun i H' _ z => SqL.of (z.1 _ _ tg1)) ?_ ?_
      · rintro i y H2 hi ⟨s2, acc, hacc, lacc, nacc⟩
        rw [List.getElem?_map] at hi
        obtain ⟨wd, hwd, rfl⟩ := Option.map_eq_some_iff.mp hi
        have hy := pm.mem_iff.mp (List.mem_of_getElem? hwd)
        have i5 : i < 5 := by
          have a := (List.getElem?_eq_some_iff.mp hwd).1
          rw [pm.length_eq] at a
          exact a
        obtain ⟨u, k, rfl, hv, hu⟩ := syms_at wd hy
        have hs2 := s2 _ _ (s1 _ _ hs)
        refine ⟨rfl, ?_⟩
        refine ⟨_, rfl, _, rfl, _, _, rfl, hv ▸ DGet.k hs2, rfl, _, rfl, ?_⟩
        refine ite2 (fun g => ?_) (fun g => ?_)
        · have k0 : k = 0 := by
            have := V.int.inj (of_decide_eq_true g)
            omega
          subst k0
          refine ⟨_, rfl, _, hacc, szlt (by omega), fun b o e => ?_, _, upd_same, LeafV.app lacc (fun v hv => ?_), by rw [List.length_append]; exact Nat.succ_le_succ nacc⟩
          · rw [upd_ne (ne_of_none e hD)]
            exact s2 _ _ e
          · rw [List.mem_singleton.mp hv]
            exact ⟨u, rfl, hu⟩
        · exact ⟨s2, acc, hacc, lacc, Nat.le_succ_of_le nacc⟩
      · rintro H2 ⟨s2, acc, hacc, lacc, nacc⟩
        have n5 : acc.length ≤ 5 := by
          rw [List.length_map, pm.length_eq] at nacc
          exact nacc
        have s02 := s1.trans s2
        have hbk : H2 D = some (.lst acc) := hacc
        have hlk := s02 _ _ hl
        have bk : But p H H2 := But.ofS s02
        have dk : Dc H2 p := hd.same s02
        refine ⟨_, rfl, rfl, _, rfl, ?_⟩
        refine ite2 (fun g => ?_) (fun g => ?_)
        · walk_at "leafEnd"
        · have n1 : 1 ≤ n := by
            rcases Nat.eq_zero_or_pos n with z | z
            · subst z
              exact absurd (decide_eq_true (show V.int (((0 + 1 : Nat) : Int) - 1) = V.int 0 from rfl)) g
            · exact z
          have ds : D ≠ p := fun z => by
            rw [z] at hD
            exact (hd.same s1).ne hD rfl
          have hs2 := s02 _ _ hs
          refine ⟨_, rfl, p, 4, rfl, dk, by decide, by decide, fun r H3 r0 r1 e3 o3 d3 => ⟨rfl, _, rfl, ?_⟩⟩
          have hbk := (o3 D ds).trans hbk
          have hlk := (o3 l pl).trans hlk
          have hsk := (o3 s ps).trans hs2
          have bk := bk.trans (But.of1 o3)
          have dk := d3
          refine ite2 (fun g => ?_) (fun g => ?_)
          · walk_at "leafEnd"
          · clear hacc hbk lacc nacc
            refine ⟨_, rfl, _, rfl, s, symsH, ["a", "bb", "f", "k", "cons"], rfl, .inl hsk, rfl, by decide, fun zs q2 pm2 so2 nq2 => ?_⟩
            generalize gg6 : upd _ q2 _ = H4; obtain ⟨eg6, og6, tg6⟩ := made nq2 gg6; clear gg6
            have s4 := sameOf nq2 og6
            refine ⟨_, rfl, s, symsH, ["a", "bb", "f", "k", "cons"], rfl, .inl (s4 _ _ hsk), rfl, by decide, fun zs3 q3 pm3 so3 nq3 => ?_⟩
            generalize gg7 : upd _ q3 _ = H5; obtain ⟨eg7, og7, tg7⟩ := made nq3 gg7; clear gg7
            have s5 := s4.trans (sameOf nq3 og7)
            refine ⟨_, rfl, ⟨_, SqL.of tg7⟩, fun D2 hD2 => ?_⟩
            refine lc_list (K := K) (xs := zs3.map V.str) (fun i H' => Same H5 H' ∧ ∃ acc, H' D2 = some (.lst acc) ∧ (∀ v ∈ acc, ∃ x ∈ zs3, v = V.str x) ∧ acc.length ≤ i) ⟨sameOf hD2 (fun b hb => upd_ne hb), [], upd_same, (fun v hv => by cases hv), Nat.le_refl _⟩ (fun i H' _ z => SqL.of (z.1 _ _ tg7)) ?_ ?_
            · rintro i y H6 hi ⟨s6, acc, hacc, lacc, nacc⟩
              rw [List.getElem?_map] at hi
              obtain ⟨wd, hwd, rfl⟩ := Option.map_eq_some_iff.mp hi
              have hy := pm3.mem_iff.mp (List.mem_of_getElem? hwd)
              have i5 : i < 5 := by
                have a := (List.getElem?_eq_some_iff.mp hwd).1
                rw [pm3.length_eq] at a
                exact a
              obtain ⟨u, k, rfl, hv, hu⟩ := syms_at wd hy
              refine ⟨rfl, ?_⟩
              refine ⟨_, rfl, _, rfl, _, _, rfl, hv ▸ DGet.k (s6 _ _ (s5 _ _ hsk)), _, _, rfl, rfl, _, rfl, ?_⟩
              refine ite2 (fun g => ?_) (fun g => ?_)
              · refine ⟨_, rfl, _, hacc, szlt (by omega), fun b o e => ?_, _, upd_same, fun v hv => ?_, by rw [List.length_append]; exact Nat.succ_le_succ nacc⟩
                · rw [upd_ne (ne_of_none e hD2)]
                  exact s6 _ _ e
                · rcases List.mem_append.mp hv with hv | hv
                  · exact lacc v hv
                  · exact ⟨_, List.mem_of_getElem? hwd, List.mem_singleton.mp hv⟩
              · exact ⟨s6, acc, hacc, lacc, Nat.le_succ_of_le nacc⟩
            · rintro H6 ⟨s6, acc, hacc, lacc, nacc⟩
              have n5 : acc.length ≤ 5 := by
                rw [List.length_map, pm3.length_eq] at nacc
                exact nacc
              have s7 := s5.trans s6
              refine ⟨_, _, _, _, rfl, rfl, s6 _ _ ((sameOf nq3 og7) _ _ tg6), hacc, Nat.le_trans (show (zs.map V.str).length + acc.length ≤ 100000 by rw [List.length_map, pm2.length_eq]; show 5 + acc.length ≤ 100000; omega) (by decide), fun q4 nq4 => ?_⟩
              generalize gg8 : upd _ q4 _ = H7; obtain ⟨eg8, og8, tg8⟩ := made nq4 gg8; clear gg8
              have s8 := s7.trans (sameOf nq4 og8)
              have d8 := dk.same s8
              have n4 : q4 ≠ p := fun z => (dk.same s7).ne nq4 z.symm
              have lv : ∀ v ∈ zs.map V.str ++ acc, ∃ x ∈ (["a", "bb", "f", "k", "cons"] : List Str), v = V.str x := fun v hv => by
                rcases List.mem_append.mp hv with hv | hv
                · obtain ⟨x, hx, rfl⟩ := List.mem_map.mp hv
                  exact ⟨x, pm2.mem_iff.mp hx, rfl⟩
                · obtain ⟨x, hx, rfl⟩ := lacc v hv
                  exact ⟨x, pm3.mem_iff.mp hx, rfl⟩
              have zl : (zs.map V.str).length = 5 := by
                rw [List.length_map, pm2.length_eq]
                rfl
              refine ⟨p, q4, _, rfl, d8, (pick_l tg8 n4).1, (pick_l tg8 n4).2, by rw [List.length_append, zl]; omega, by rw [List.length_append, zl]; omega, fun i v H8 hv e9 o9 d9 => ?_⟩
              obtain ⟨x, hx, rfl⟩ := lv v (List.mem_of_getElem? hv)
              obtain ⟨u, k, rfl, hvk, hu⟩ := syms_at x hx
              have bk9 := (bk.trans (But.ofS s8)).trans (But.of1 o9)
              have hs9 := But.at hs ps bk9
              have hl9 := But.at hl pl bk9
              refine ⟨_, rfl, _, rfl, _, rfl, _, _, rfl, hvk ▸ DGet.k hs9, _, rfl, ?_⟩
              have k3 := few_words hu
              refine ⟨by omega, by omega, fun D3 hD3 => ?_⟩
              have D3p : D3 ≠ p := fun z => by
                rw [z] at hD3
                exact d9.ne hD3 rfl
              refine lc_range (lo := 0) (n := (k : Int).toNat) (fun i H' => But p H8 H' ∧ Dc H' p ∧ ∃ ws ds, H' D3 = some (.lst ws) ∧ DxAll H' ws ds ∧ ds.length = i ∧ ∀ e ∈ ds, IsT n e) ⟨But.ofS (sameOf hD3 fun b hb => upd_ne hb), d9.same (sameOf hD3 fun b hb => upd_ne hb), [], [], upd_same, .nil, rfl, fun e he => by cases he⟩ ?_ ?_
              · rintro i H9 hi ⟨b9, d9', ws, ds, hws, hdx, len, hT⟩
                refine ⟨rfl, ?_⟩
                refine ⟨_, rfl, _, rfl, _, rfl, _, rfl, _, _, rfl, rfl, ?_⟩
                have b19 := bk9.trans b9
                refine ⟨p, s, l, by
                  show [V.ref p, V.ref s, V.ref l, V.int (((n + 1 : Nat) : Int) - 1 - 1)] = _
                  rw [show (((n + 1 : Nat) : Int) - 1 - 1) = (n : Int) - 1 by omega], n1, d9', But.at hs ps b19, But.at hl pl b19, fun v d H10 b10 d10 dx isT => ?_⟩
                have hw10 := But.at hws D3p b10
                have tk : ∀ (b : Addr) (xs : List V), H10 b = some (.tup xs) → (L2.upd H10 D3 (.lst (ws ++ [v]))) b = some (.tup xs) := fun b xs e => by
                  rw [upd_ne (fun z => by rw [z, hw10] at e; cases e)]
                  exact e
                refine ⟨_, hw10, szlt (by rw [hdx.len, len]; omega), ?_, Dc.upd d10 (Ne.symm D3p), ws ++ [v], ds ++ [d], upd_same, (dxTs tk hT (dxTs (But.tup d9' b10) hT hdx)).app (.cons (dxT tk isT dx) .nil), by rw [List.length_append, len]; rfl, fun e he => (List.mem_append.mp he).elim (hT e) (fun z => List.mem_singleton.mp z ▸ isT)⟩
                intro b o nb e
                rw [upd_ne (ne_of_none e hD3)]
                exact (b9.trans b10) b o nb e
              · rintro H9 ⟨b9, d9', ws, ds, hws, hdx, len, hT⟩
                refine ⟨_, _, rfl, .inl ⟨SqL.of hws, fun r6 m6 => ?_⟩⟩
                generalize gg9 : L2.upd _ r6 _ = G1; obtain ⟨ef1, of1, tf1⟩ := made m6 gg9; clear gg9
                refine ⟨(szr rfl), fun r7 m7 => ?_⟩
                generalize gg10 : L2.upd _ r7 _ = G2; obtain ⟨ef2, of2, tf2⟩ := made m7 gg10; clear gg10
                have s11 := (sameOf m6 of1).trans (sameOf m7 of2)
                have kk : ds.length = k := by rw [len]; omega
                exact q (.ref r7) (.tuple [.str u, .tuple ds]) G2 ((bk9.trans b9).trans (But.ofS s11)) (d9'.same s11) (.tup tf2 (.cons (.str _) (.cons (.tup ((of2 _ (ne_of_none tf1 m7)).trans tf1) (hdx.same s11)) .nil))) ⟨u, ds, rfl, by rw [kk]; exact hu, hT⟩
def spSmall : Sp := fun vs H Q _ => ∃ (p s l : Addr) (n : Nat), vs = [.ref p, .ref s, .ref l, .int ((n : Int) - 1), .int 40] ∧ 1 ≤ n ∧ n ≤ 4 ∧ Dc H p ∧ H s = some (.dK symsH) ∧ H l = some (.lst [.str "_", .str "#"]) ∧
  ∀ (v : V) (d : PyData) (H' : Hp), But p H H' → Dc H' p → Dx H' v d → IsT n d → Q v H'
theorem ok__law_small_term {f : Addr} {fd : FuncData} (F : Fun K "_law_small_term" "_law_small_term" s__law_small_term f fd) (T : Txt mg) (Z : TermZ K mg c) {f__law_term : Addr} {fd__law_term : FuncData} (G__law_term : FnOk P w K mg base CX0 6 f__law_term fd__law_term P__law_term (fun vs H Q E => ∃ n, n ≤ 4 ∧ spTerm n vs H Q E)) (C__law_term : Cal K mg "_law_term" f__law_term fd__law_term P__law_term) {f__law_nodes : Addr} {fd__law_nodes : FuncData} (G__law_nodes : FnOk P w K mg base CX0 5 f__law_nodes fd__law_nodes P__law_nodes (fun vs H Q E => ∃ n, n ≤ 4 ∧ spNodesL n vs H Q E)) (C__law_nodes : Cal K mg "_law_nodes" f__law_nodes fd__law_nodes P__law_nodes) {f__law_pick : Addr} {fd__law_pick : FuncData} (G__law_pick : FnOk P w K mg base CX0 2 f__law_pick fd__law_pick P__law_pick (spPick K)) (C__law_pick : Cal K mg "_law_pick" f__law_pick fd__law_pick P__law_pick) : FnOk P w K mg base CX0 7 f fd P__law_small_term spSmall := by
  refine F.ok sc__law_small_term (fun vs H Q E h => ?_) (fun cdv A outer s H vs Q E hr h => ?_)
  · obtain ⟨p, s, l, n, rfl, _⟩ := h
    rfl
  · obtain ⟨p, s, l, n, rfl, h1, h4, hd, hs, hl, q⟩ := h
    refine ⟨_, (pss_cons (ps_set (i := 5) sc__law_small_term.nd rfl (Or.inl rfl) (pe_call G__law_term (hr.mono (by decide)) rfl C__law_term.m C__law_term.k C__law_term.b .nil pass0 (pa_cons (pv 0) (pa_cons (pv 1) (pa_cons (pv 2) (pa_cons (pv 3) pa_nil))))))
      (pss_cons (ps_if (pt_cmpR op_le (pe_callB call_len_seq (by rfl) T.n_len (by decide +kernel) (pa_cons (pe_call G__law_nodes (hr.mono (by decide)) rfl C__law_nodes.m C__law_nodes.k C__law_nodes.b .nil pass0 (pa_cons (pv 5) pa_nil)) pa_nil)) (pv 4) (nomark _)) (pss_one (ps_ret (pv 5))) pss_nil)
      (pss_cons (ps_set (i := 5) sc__law_small_term.nd rfl (Or.inl rfl) (pe_call G__law_term (hr.mono (by decide)) rfl C__law_term.m C__law_term.k C__law_term.b .nil pass0 (pa_cons (pv 0) (pa_cons (pv 1) (pa_cons (pv 2) (pa_cons pe_int pa_nil))))))
      (pss_cons (ps_if (pt_cmpR op_le (pe_callB call_len_seq (by rfl) T.n_len (by decide +kernel) (pa_cons (pe_call G__law_nodes (hr.mono (by decide)) rfl C__law_nodes.m C__law_nodes.k C__law_nodes.b .nil pass0 (pa_cons (pv 5) pa_nil)) pa_nil)) (pv 4) (nomark _)) (pss_one (ps_ret (pv 5))) pss_nil)
      (pss_one (ps_ret (pe_tup (pa_cons (pe_call G__law_pick (hr.mono (by decide)) rfl C__law_pick.m C__law_pick.k C__law_pick.b .nil pass0 (pa_cons (pv 0) (pa_cons (pe_ifExp (pt_cmpR (op_neD hr.units) (pv 2) (pe_lst pa_nil) (nomark _)) (pv 2) (pe_lst (pa_cons pe_str pa_nil))) pa_nil))) (pa_cons (pe_tup pa_nil) pa_nil))))))))), ?_⟩
    refine ⟨_, rfl, _, rfl, _, rfl, _, rfl, n, h4, p, s, l, rfl, h1, hd, hs, hl, fun v d H1 b1 d1 dx isT => ?_⟩
    refine ⟨_, rfl, n, h4, v, d, rfl, dx, isT, h4, fun r xs H2 s2 nr hr1 hx => ?_⟩
    refine ⟨_, _, rfl, .inl (SqL.of hr1), _, rfl, _, _, rfl, rfl, _, rfl, ?_⟩
    have len : xs.length ≤ 40 := by
      rw [hx.len]
      exact (term_ok isT h4).2.2
    refine ite2 (fun _ => ⟨_, rfl, q v d H2 (b1.trans (But.ofS s2)) (d1.same s2) (dx.same s2) isT⟩) (fun g => absurd (decide_eq_true (by omega)) g)
def spDrawn : Sp := fun vs H Q _ => ∃ (p : Addr) (n : Nat), vs = [.ref p, .int ((n : Int) - 1)] ∧ 1 ≤ n ∧ n ≤ 4 ∧ Dc H p ∧ ∀ (v : V) (d : PyData) (H' : Hp), But p H H' → Dc H' p → Dx H' v d → IsT n d → Q v H'
theorem ok__law_drawn_term {f : Addr} {fd : FuncData} (F : Fun K "_law_drawn_term" "_law_drawn_term" s__law_drawn_term f fd) (T : Txt mg) (Z : TermZ K mg c) {f__law_small_term : Addr} {fd__law_small_term : FuncData} (G__law_small_term : FnOk P w K mg base CX0 7 f__law_small_term fd__law_small_term P__law_small_term spSmall) (C__law_small_term : Cal K mg "_law_small_term" f__law_small_term fd__law_small_term P__law_small_term) : FnOk P w K mg base CX0 8 f fd P__law_drawn_term spDrawn := by
  refine F.ok sc__law_drawn_term (fun vs H Q E h => ?_) (fun cdv A outer s H vs Q E hr h => ?_)
  · obtain ⟨p, n, rfl, _⟩ := h
    rfl
  · obtain ⟨p, n, rfl, h1, h4, hd, q⟩ := h
    refine ⟨_, (pss_cons (ps_set (i := 2) sc__law_drawn_term.nd rfl (Or.inl rfl) (pe_disp (pps_cons pe_str pe_int (pps_cons pe_str pe_int (pps_cons pe_str pe_int (pps_cons pe_str pe_int (pps_cons pe_str pe_int pps_nil))))) rfl rfl (by simp) (by decide)))
      (pss_one (ps_ret (pe_call G__law_small_term (hr.mono (by decide)) rfl C__law_small_term.m C__law_small_term.k C__law_small_term.b .nil pass0 (pa_cons (pv 0) (pa_cons (pv 2) (pa_cons (pe_lst (pa_cons pe_str (pa_cons pe_str pa_nil))) (pa_cons (pv 1) (pa_cons pe_int pa_nil))))))))), ?_⟩
    refine fun s ns => ⟨upd_same, symsH, rfl, by decide, ?_⟩
    generalize g0 : L2.upd _ s (.dK (mergeK [] symsH)) = H0
    have s0 : Same H H0 := by
      subst g0
      intro b o e
      rw [upd_ne (ne_of_none e ns), upd_ne (ne_of_none e ns)]
      exact e
    have hs : H0 s = some (.dK symsH) := by
      subst g0
      rw [upd_same]
      rfl
    refine ⟨_, rfl, _, rfl, (szr rfl), fun p1 n1 => ?_⟩
    generalize g1 : upd _ p1 _ = H1; obtain ⟨e1, o1, t1⟩ := made n1 g1; clear g1
    have s1 := s0.trans (sameOf n1 o1)
    refine ⟨_, rfl, p, s, p1, n, rfl, h1, h4, hd.same s1, (o1 _ (ne_of_none hs n1)).trans hs, t1, fun v d H2 b2 d2 dx isT => ?_⟩
    exact q v d H2 ((But.ofS s1).trans b2) d2 dx isT
/-! ### the law's own look at nodes -/
def sixW : List PyData := [.str "a", .str "bb", .str "f", .str "k", .str "cons", .str "g"]
def isLeafL : PyData → Bool
  | .tuple [s, m] => if (tyN m == "bool") = true then false else if (tyN s == "str") = true then (if ([.int 0, .int 1, .int 2, .int 3] : List PyData).any (fun z => PyData.eqv z m) = true then (if sixW.any (fun z => PyData.eqv z s) = true then true else (if ([.str "_", .str "#"] : List PyData).any (fun z => PyData.eqv z s) = true then PyData.eqv m (.int 0) else false)) else false) else false
  | _ => false
def spLeafL : Sp := fun vs H Q _ => ∃ (v : V) (d : PyData), vs = [v] ∧ Dx H v d ∧ okN d = true ∧ ∀ H', Same H H' → Q (.bl (isLeafL d)) H'
theorem ok__law_is_leaf {f : Addr} {fd : FuncData} (F : Fun K "_law_is_leaf" "_law_is_leaf" s__law_is_leaf f fd) (T : Txt mg) (Z : TermZ K mg c) : FnOk P w K mg base CX0 1 f fd P__law_is_leaf spLeafL := by
  refine F.ok sc__law_is_leaf (fun vs H Q E h => ?_) (fun cdv A outer s H vs Q E hr h => ?_)
  · obtain ⟨v, d, rfl, _⟩ := h
    rfl
  · obtain ⟨v, d, rfl, hv, ho, q⟩ := h
    refine ⟨_, (pss_cons (ps_if (PW.pt (pw_or (pt_not (pt_val (pe_callB call_isi (by rfl) T.n_isinstance (by decide +kernel) (pa_cons (pv 0) (pa_cons (pe_bltn (v := .ty "tuple") rfl T.n_tuple (by decide +kernel) rfl) pa_nil))))) (pw_or (pt_cmpR op_ne (pe_callB call_len_seq (by rfl) T.n_len (by decide +kernel) (pa_cons (pv 0) pa_nil)) pe_int (nomark _)) (pw_or1 (pt_val (pe_callB call_isi (by rfl) T.n_isinstance (by decide +kernel) (pa_cons (pe_ix ix_tup (pv 0) pe_int (fun _ _ => rfl)) (pa_cons (pe_bltn (v := .ty "bool") rfl T.n_bool (by decide +kernel) rfl) pa_nil)))))))) (pss_one (ps_ret pe_bl)) pss_nil)
      (pss_cons (ps_if (PW.pt (pw_or (pt_not (pt_val (pe_callB call_isi (by rfl) T.n_isinstance (by decide +kernel) (pa_cons (pe_ix ix_tup (pv 0) pe_int (fun _ _ => rfl)) (pa_cons (pe_bltn (v := .ty "str") rfl T.n_str (by decide +kernel) rfl) pa_nil))))) (pw_or1 (pt_cmpR (op_notInX (hu65 hr)) (pe_ix ix_tup (pv 0) pe_int (fun _ _ => rfl)) (pe_lst (pa_cons pe_int (pa_cons pe_int (pa_cons pe_int (pa_cons pe_int pa_nil))))) (by first | rfl | with_unfolding_all rfl))))) (pss_one (ps_ret pe_bl)) pss_nil)
      (pss_one (ps_ret (pe_or (pe_cmpR (op_inX (hu65 hr)) (pe_ix ix_tup (pv 0) pe_int (fun _ _ => rfl)) (pe_lst (pa_cons pe_str (pa_cons pe_str (pa_cons pe_str (pa_cons pe_str (pa_cons pe_str (pa_cons pe_str pa_nil))))))) (by first | rfl | with_unfolding_all rfl)) (pe_one (pe_and (pe_cmpR (op_inX (hu65 hr)) (pe_ix ix_tup (pv 0) pe_int (fun _ _ => rfl)) (pe_lst (pa_cons pe_str (pa_cons pe_str pa_nil))) (by first | rfl | with_unfolding_all rfl)) (pe_one (pe_cmpR op_eq (pe_ix ix_tup (pv 0) pe_int (fun _ _ => rfl)) pe_int (nomark _)))))))))), ?_⟩
    refine ⟨_, rfl, _, _, _, _, _, rfl, .ty _, hv.ty, kit_tuple d, _, rfl, ?_⟩
    cases hv with
    | @tup a xs ds ha hx =>
      refine iteF ?_
      refine ⟨_, rfl, _, _, rfl, .inr (SqT.of ha), rfl, _, rfl, ?_⟩
      refine ite2 (fun g => ?_) (fun g => ?_)
      · have g' : ¬ V.int (xs.length : Int) = V.int 2 := of_decide_eq_false (by simpa using g)
        have hl : ds.length ≠ 2 := fun e => g' (by rw [hx.len, e]; rfl)
        have e : isLeafL (.tuple ds) = false := by
          match ds, hl with
          | [], _ => rfl
          | [_], _ => rfl
          | _ :: _ :: _ :: _, _ => rfl
        rw [e] at q
        exact q H (Same.refl H)
      · have g' : V.int (xs.length : Int) = V.int 2 := by simpa using g
        have hl : ds.length = 2 := by
          have := V.int.inj g'
          rw [hx.len] at this
          omega
        obtain ⟨s, m, rfl⟩ : ∃ s m, ds = [s, m] := by
          match ds, hl with
          | [s, m], _ => exact ⟨s, m, rfl⟩
        cases hx with
        | @cons vs _ _ _ h1 h2 =>
          cases h2 with
          | @cons vm _ _ _ h2 h3 =>
            cases h3
            have ho' : okE s = true ∧ okE m = true := by
              have := ho
              simpa only [okN, Bool.and_eq_true] using this
            obtain ⟨oS, o2⟩ := ho'
            have eL : isLeafL (.tuple [s, m]) = (if (tyN m == "bool") = true then false else if (tyN s == "str") = true then (if ([.int 0, .int 1, .int 2, .int 3] : List PyData).any (fun z => PyData.eqv z m) = true then (if sixW.any (fun z => PyData.eqv z s) = true then true else (if ([.str "_", .str "#"] : List PyData).any (fun z => PyData.eqv z s) = true then PyData.eqv m (.int 0) else false)) else false) else false) := rfl
            refine ⟨_, rfl, _, _, _, _, rfl, rfl, SqT.of ha, rfl, _, _, _, _, _, rfl, .ty _, h2.ty, kit_bool m, _, rfl, ?_⟩
            refine ite2 (fun g => ?_) (fun g => ?_)
            · rw [eL, if_pos g] at q
              exact q H (Same.refl H)
            · rw [eL, if_neg g] at q
              refine ⟨_, rfl, _, _, _, _, rfl, rfl, SqT.of ha, rfl, _, _, _, _, _, rfl, .ty _, h1.ty, kit_str s, _, rfl, ?_⟩
              cases gs : (tyN s == "str") with
              | false =>
                rw [gs, if_neg Bool.false_ne_true] at q
                exact iteT (q H (Same.refl H))
              | true =>
                rw [gs, if_pos rfl] at q
                refine iteF ?_
                refine ⟨_, rfl, _, _, _, _, rfl, rfl, SqT.of ha, rfl, (szr rfl), fun p1 n1 => ?_⟩
                generalize g1 : upd _ p1 _ = H1; obtain ⟨e1, o1, t1⟩ := made n1 g1; clear g1
                have s1 := sameOf n1 o1
                refine ⟨m, .list [.int 0, .int 1, .int 2, .int 3], _, (h2.same s1).dp (okE.d o2).2.1, Dx.dp (by walk_at "dx") rfl, (.inl rfl), (okE.d o2).2.2, (by decide +kernel), _, rfl, ?_⟩
                cases gm : ([.int 0, .int 1, .int 2, .int 3] : List PyData).any (fun z => PyData.eqv z m) with
                | false =>
                  rw [gm, if_neg Bool.false_ne_true] at q
                  exact iteT (q H1 s1)
                | true =>
                  rw [gm, if_pos rfl] at q
                  refine iteF ?_
                  refine ⟨_, rfl, _, _, _, _, rfl, rfl, SqT.of (s1 _ _ ha), rfl, (szr rfl), fun p2 n2 => ?_⟩
                  generalize g2 : upd _ p2 _ = H2; obtain ⟨e2, o2', t2⟩ := made n2 g2; clear g2
                  have s2 := sameOf n2 o2'
                  refine ⟨s, .list sixW, _, (h1.same (s1.trans s2)).dp (okE.d oS).2.1, Dx.dp (by unfold sixW; walk_at "dx") rfl, (.inl rfl), (okE.d oS).2.2, (by decide +kernel), _, rfl, ?_⟩
                  cases gw : sixW.any (fun z => PyData.eqv z s) with
                  | true =>
                    rw [gw, if_pos rfl] at q
                    exact iteT (q H2 (s1.trans s2))
                  | false =>
                    rw [gw, if_neg Bool.false_ne_true] at q
                    refine iteF ?_
                    refine ⟨_, rfl, _, _, _, _, rfl, rfl, SqT.of ((s1.trans s2) _ _ ha), rfl, (szr rfl), fun p3 n3 => ?_⟩
                    generalize g3 : upd _ p3 _ = H3; obtain ⟨e3, o3, t3⟩ := made n3 g3; clear g3
                    have s3 := sameOf n3 o3
                    have s13 := (s1.trans s2).trans s3
                    refine ⟨s, .list [.str "_", .str "#"], _, (h1.same s13).dp (okE.d oS).2.1, Dx.dp (by walk_at "dx") rfl, (.inl rfl), (okE.d oS).2.2, (by decide +kernel), _, rfl, ?_⟩
                    cases gl : ([.str "_", .str "#"] : List PyData).any (fun z => PyData.eqv z s) with
                    | false =>
                      rw [gl, if_neg Bool.false_ne_true] at q
                      exact iteF (q H3 s13)
                    | true =>
                      rw [gl, if_pos rfl] at q
                      refine iteT ?_
                      have key : ∃ i, m = .int i := by
                        cases m with
                        | int i => exact ⟨i, rfl⟩
                        | bool b => exact absurd (show ("bool" == "bool") = true from rfl) g
                        | _ => simp [PyData.eqv] at gm
                      obtain ⟨i, rfl⟩ := key
                      cases h2
                      refine ⟨_, rfl, _, _, _, _, rfl, rfl, SqT.of (s13 _ _ ha), rfl, rfl, ?_⟩
                      have e2 : PyData.eqv (.int i) (.int 0) = decide (V.int i = V.int 0) := by
                        by_cases z : i = 0
                        · subst z
                          rfl
                        · rw [decide_eq_false (fun w => z (V.int.inj w))]
                          simp [PyData.eqv, z]
                      rw [e2] at q
                      exact q H3 s13
    | _ => exact iteT (q H (Same.refl H))
/-! ### the law's own look at trees -/
def pairD : PyData → Str × Int
  | .tuple [.str x, .int k] => (x, k)
  | _ => ("", 0)
def lawT : List (Key × V) → Int → List (Str × Int) → Bool
  | _, m, [] => decide (V.int m = V.int 0)
  | seen, m, (x, k) :: r => if decide (m < 1) = true then false else if (!decide ((valV seen (.inr x)).getD (.int k) = V.int k)) = true then false else lawT (putK seen (.inr x) (.int k)) (m + k - 1) r
def isTreeL : PyData → Bool
  | .tuple ds => (decide (1 ≤ ds.length) && decide (ds.length ≤ 40)) && (ds.all isLeafL && lawT [] 1 (ds.map pairD))
  | _ => false
def okX (e : PyData) : Bool := okN e && (dictfree e && (e.canLay0 && decide (e.depth ≤ 60)))
def okTX : PyData → Bool
  | .tuple ds => ds.all okX
  | _ => true
theorem leafL_shape {d : PyData} (h : isLeafL d = true) : ∃ (x : Str) (k : Int), d = .tuple [.str x, .int k] ∧ 0 ≤ k ∧ k ≤ 3 := by
  match d, h with
  | .tuple [s, m], h =>
    have h' : (if (tyN m == "bool") = true then false else if (tyN s == "str") = true then (if ([.int 0, .int 1, .int 2, .int 3] : List PyData).any (fun z => PyData.eqv z m) = true then (if sixW.any (fun z => PyData.eqv z s) = true then true else (if ([.str "_", .str "#"] : List PyData).any (fun z => PyData.eqv z s) = true then PyData.eqv m (.int 0) else false)) else false) else false) = true := h
    split at h'
    · cases h'
    · rename_i nb
      split at h'
      · rename_i sS
        split at h'
        · rename_i gm
          have hs : ∃ x, s = .str x := by
            cases s with
            | str x => exact ⟨x, rfl⟩
            | none => exact absurd (show ("NoneType" == "str") = true from sS) (by decide)
            | bool _ => exact absurd (show ("bool" == "str") = true from sS) (by decide)
            | int _ => exact absurd (show ("int" == "str") = true from sS) (by decide)
            | list _ => exact absurd (show ("list" == "str") = true from sS) (by decide)
            | tuple _ => exact absurd (show ("tuple" == "str") = true from sS) (by decide)
            | dict _ => exact absurd (show ("dict" == "str") = true from sS) (by decide)
          obtain ⟨x, rfl⟩ := hs
          cases m with
          | int i =>
            refine ⟨x, i, rfl, ?_⟩
            simp [PyData.eqv] at gm
            omega
          | bool b => exact absurd (show ("bool" == "bool") = true from rfl) nb
          | _ => simp [PyData.eqv] at gm
        · cases h'
      · cases h'
theorem shaped_list {es : List PyData} (h : ∀ e ∈ es, e.canLay0 = true ∧ e.depth ≤ 60) : SeqAt.shaped (.list es) = true := by
  have a : PyData.canLayAll0 es = true ∧ PyData.depthAll es ≤ 60 := by
    induction es with
    | nil => exact ⟨rfl, Nat.zero_le _⟩
    | cons e es ih =>
      have r := ih fun x hx => h x (List.mem_cons_of_mem _ hx)
      have q := h e List.mem_cons_self
      refine ⟨?_, ?_⟩
      · simp only [PyData.canLayAll0, q.1, r.1, Bool.and_self]
      · simp only [PyData.depthAll]
        exact Nat.max_le.mpr ⟨q.2, r.2⟩
  have e1 : PyData.canLay0 (.list es) = PyData.canLayAll0 es := by simp only [PyData.canLay0]
  have e2 : PyData.depth (.list es) = PyData.depthAll es + 1 := by simp only [PyData.depth]
  show (PyData.canLay0 (.list es) && decide (PyData.depth (.list es) ≤ 64)) = true
  rw [e1, e2, a.1, Bool.true_and]
  exact decide_eq_true (by have := a.2; omega)
theorem okX.a {e : PyData} (h : okX e = true) : okN e = true ∧ dictfree e = true ∧ e.canLay0 = true ∧ e.depth ≤ 60 := by
  simp only [okX, Bool.and_eq_true, decide_eq_true_eq] at h
  exact ⟨h.1, h.2.1, h.2.2.1, h.2.2.2⟩
theorem dictfree_all {es : List PyData} (h : ∀ e ∈ es, dictfree e = true) : dictfreeAll es = true := by
  induction es with
  | nil => rfl
  | cons e es ih =>
    simp only [dictfreeAll, Bool.and_eq_true]
    exact ⟨h e List.mem_cons_self, ih fun x hx => h x (List.mem_cons_of_mem _ hx)⟩
def spTreeL : Sp := fun vs H Q _ => ∃ (v : V) (d : PyData), vs = [v] ∧ Dx H v d ∧ okTX d = true ∧ ∀ H', Same H H' → Q (.bl (isTreeL d)) H'
theorem ok__law_is_tree {f : Addr} {fd : FuncData} (F : Fun K "_law_is_tree" "_law_is_tree" s__law_is_tree f fd) (T : Txt mg) (Z : TermZ K mg c) {f__law_is_leaf : Addr} {fd__law_is_leaf : FuncData} (G__law_is_leaf : FnOk P w K mg base CX0 1 f__law_is_leaf fd__law_is_leaf P__law_is_leaf spLeafL) (C__law_is_leaf : Cal K mg "_law_is_leaf" f__law_is_leaf fd__law_is_leaf P__law_is_leaf) : FnOk P w K mg base CX0 3 f fd P__law_is_tree spTreeL := by
  refine F.ok sc__law_is_tree (fun vs H Q E h => ?_) (fun cdv A outer s H vs Q E hr h => ?_)
  · obtain ⟨v, d, rfl, _⟩ := h
    rfl
  · obtain ⟨v, d, rfl, hv, ho, q⟩ := h
    refine ⟨_, (pss_cons (ps_if (PW.pt (pw_or (pt_not (pt_val (pe_callB call_isi (by rfl) T.n_isinstance (by decide +kernel) (pa_cons (pv 0) (pa_cons (pe_bltn (v := .ty "tuple") rfl T.n_tuple (by decide +kernel) rfl) pa_nil))))) (pw_or1 (pt_not (pt_chain op_le op_le pe_int (pe_callB call_len_seq (by rfl) T.n_len (by decide +kernel) (pa_cons (pv 0) pa_nil)) pe_int))))) (pss_one (ps_ret pe_bl)) pss_nil)
      (pss_cons (ps_if (pt_cmpR (op_neD hr.units) (pe_lc (own := [("_law_one", 1)]) (g := gName 1) rfl sc__law_is_tree.nd (pi_tup (pv 0)) (blkOk_by (own := [("_law_one", 1)]) (N := ["_law_value", "_law_one", "_law_wanted", "_law_words", "_law_at"]) (sc := (defScope s__law_is_tree)) (by decide +kernel)) (fun _ _ _ _ _ => (pg_name (i := 1) sc__law_is_tree.nd rfl (Or.inl rfl))) (fun _ _ _ _ _ => (pts_one (pt_not (pt_val (pe_call G__law_is_leaf (hr.mono (by decide)) rfl C__law_is_leaf.m C__law_is_leaf.k C__law_is_leaf.b .nil pass0 (pa_cons (pv 1) pa_nil)))))) (fun _ _ _ _ _ => (pv 1))) (pe_lst pa_nil) (nomark _)) (pss_one (ps_ret pe_bl)) pss_nil)
      (pss_cons (ps_par (i := 2) (j := 3) (by rfl) sc__law_is_tree.nd rfl rfl (by decide) rfl rfl (pa_cons pe_int (pa_cons pe_dnewK pa_nil)) (by rfl))
      (pss_cons (ps_for PassesOwn.never rfl (pi_range1 (by rfl) T.n_range (pa_cons (pe_callB call_len_seq (by rfl) T.n_len (by decide +kernel) (pa_cons (pv 0) pa_nil)) pa_nil)) (pg_name (i := 4) sc__law_is_tree.nd rfl (Or.inl rfl)) (pss_cons (ps_if (PW.pt (pw_or (pt_cmpR op_lt (pv 2) pe_int (nomark _)) (pw_or1 (pt_cmpR op_ne (pe_dget2 (hu_of hr) (pv 3) (pe_ix ix_tup (pe_ix ix_tup (pv 0) (pv 4) (fun _ _ => rfl)) pe_int (fun _ _ => rfl)) (pe_ix ix_tup (pe_ix ix_tup (pv 0) (pv 4) (fun _ _ => rfl)) pe_int (fun _ _ => rfl)) ⟨rfl, rfl, rfl, rfl⟩) (pe_ix ix_tup (pe_ix ix_tup (pv 0) (pv 4) (fun _ _ => rfl)) pe_int (fun _ _ => rfl)) (nomark _))))) (pss_one (ps_ret pe_bl)) pss_nil)
      (pss_cons (ps_asg (pe_ix ix_tup (pe_ix ix_tup (pv 0) (pv 4) (fun _ _ => rfl)) pe_int (fun _ _ => rfl)) (pg_sub (pv 3) (pe_ix ix_tup (pe_ix ix_tup (pv 0) (pv 4) (fun _ _ => rfl)) pe_int (fun _ _ => rfl)) (set_dict (hu_of hr))))
      (pss_one (ps_set (i := 2) sc__law_is_tree.nd rfl (Or.inl rfl) (pe_op op_sub (pe_op op_add (pv 2) (pe_ix ix_tup (pe_ix ix_tup (pv 0) (pv 4) (fun _ _ => rfl)) pe_int (fun _ _ => rfl))) pe_int))))))
      (pss_one (ps_ret (pe_cmpR op_eq (pv 2) pe_int (nomark _)))))))), ?_⟩
    refine ⟨_, rfl, _, _, _, _, _, rfl, .ty _, hv.ty, kit_tuple d, _, rfl, ?_⟩
    cases hv with
    | @tup a xs ds ha hx =>
      refine iteF ?_
      refine ⟨_, rfl, _, _, rfl, .inr (SqT.of ha), _, _, rfl, rfl, _, rfl, ?_⟩
      have eT : isTreeL (.tuple ds) = ((decide (1 ≤ ds.length) && decide (ds.length ≤ 40)) && (ds.all isLeafL && lawT [] 1 (ds.map pairD))) := rfl
      rw [eT] at q
      have lx : xs.length = ds.length := hx.len
      refine ite2 (fun g1 => ?_) (fun g1 => ?_)
      case refine_2 =>
        have g1' := of_decide_eq_false (Bool.eq_false_iff.mpr g1)
        rw [decide_eq_false (show ¬ 1 ≤ ds.length by omega), Bool.false_and, Bool.false_and] at q
        refine ⟨_, rfl, ?_⟩
        exact iteT (q H (Same.refl H))
      have g1' := of_decide_eq_true g1
      rw [decide_eq_true (show 1 ≤ ds.length by omega), Bool.true_and] at q
      refine ⟨_, _, rfl, rfl, _, rfl, ?_⟩
      by_cases g2 : (xs.length : Int) ≤ 40
      case neg =>
        rw [decide_eq_false g2]
        rw [decide_eq_false (show ¬ ds.length ≤ 40 by omega), Bool.false_and] at q
        exact iteT (q H (Same.refl H))
      rw [decide_eq_true g2]
      rw [decide_eq_true (show ds.length ≤ 40 by omega), Bool.true_and] at q
      refine iteF ?_
      have okA : ∀ d ∈ ds, okX d = true := List.all_eq_true.mp ho
      refine ⟨_, rfl, _, rfl, ⟨_, SqT.of ha⟩, fun D hD => ?_⟩
      refine lc_tup (K := K) (xs := xs) (fun i H' => Same H H' ∧ ∃ acc, H' D = some (.lst acc) ∧ DxAll H acc ((ds.take i).filter fun d => !isLeafL d) ∧ acc.length ≤ i) ⟨sameOf hD (fun b hb => upd_ne hb), [], upd_same, .nil, Nat.le_refl _⟩ (fun i H' _ z => SqT.of (z.1 _ _ ha)) ?_ ?_
      · rintro i y H1 hi ⟨s1, acc, hacc, dacc, nacc⟩
        obtain ⟨d, hd, xd⟩ := hx.get hi
        have od := okX.a (okA d (List.mem_of_getElem? hd))
        have hi2 : i < 40 := by
          have := (List.getElem?_eq_some_iff.mp hd).1
          omega
        refine ⟨rfl, ?_⟩
        refine ⟨_, rfl, y, d, rfl, xd.same s1, od.1, fun H2 s2 => ⟨_, rfl, ?_⟩⟩
        have s12 := s1.trans s2
        have tk : (ds.take (i + 1)).filter (fun d => !isLeafL d) = (ds.take i).filter (fun d => !isLeafL d) ++ [d].filter (fun d => !isLeafL d) := by
          rw [List.take_add_one, hd, List.filter_append]
          rfl
        cases g : isLeafL d with
        | true =>
          refine iteF ?_
          refine ⟨s12, acc, s2 _ _ hacc, ?_, Nat.le_succ_of_le nacc⟩
          rw [tk, List.filter_cons_of_neg (by rw [g]; decide), List.filter_nil, List.append_nil]
          exact dacc
        | false =>
          refine iteT ?_
          refine ⟨_, rfl, _, s2 _ _ hacc, szlt (by omega), fun b o e => ?_, _, upd_same, ?_, by rw [List.length_append]; exact Nat.succ_le_succ nacc⟩
          · rw [upd_ne (ne_of_none e hD)]
            exact s12 _ _ e
          · rw [tk, List.filter_cons_of_pos (by rw [g]; decide), List.filter_nil]
            exact dacc.app (.cons xd .nil)
      · rintro H1 ⟨s1, acc, hacc, dacc, nacc⟩
        rw [lx, List.take_length] at dacc
        refine ⟨(szr rfl), fun p1 n1 => ?_⟩
        generalize gg1 : L2.upd _ p1 _ = H2; obtain ⟨eg1, og1, tg1⟩ := made n1 gg1; clear gg1
        have s2 := s1.trans (sameOf n1 og1)
        have mem : ∀ e ∈ ds.filter (fun d => !isLeafL d), okX e = true := fun e he => okA e (List.mem_filter.mp he).1
        have dl : Dx H2 (.ref D) (.list (ds.filter fun d => !isLeafL d)) := .lst ((sameOf n1 og1) _ _ hacc) (dacc.same s2)
        refine ⟨.list (ds.filter fun d => !isLeafL d), .list [], dl.dp (by simp only [dictfree]; exact dictfree_all fun e he => (okX.a (mem e he)).2.1), (Dx.lst tg1 .nil).dp rfl, shaped_list fun e he => ⟨(okX.a (mem e he)).2.2.1, (okX.a (mem e he)).2.2.2⟩, by decide +kernel, _, rfl, ?_⟩
        cases gf : ds.filter fun d => !isLeafL d with
        | cons e es =>
          have na : ds.all isLeafL = false := by
            cases z : ds.all isLeafL with
            | false => rfl
            | true =>
              have m : e ∈ ds.filter fun d => !isLeafL d := by
                rw [gf]
                exact List.mem_cons_self
              have m2 := List.mem_filter.mp m
              rw [List.all_eq_true.mp z e m2.1] at m2
              exact absurd m2.2 (by decide)
          rw [na, Bool.false_and] at q
          have eq : PyData.eqv (.list (e :: es)) (.list []) = false := by simp [PyData.eqv, PyData.eqvAll]
          rw [eq]
          exact iteT (q H2 s2)
        | nil =>
          have ya : ds.all isLeafL = true := List.all_eq_true.mpr fun e he => by
            cases z : isLeafL e with
            | true => rfl
            | false =>
              have m : e ∈ ds.filter fun d => !isLeafL d := List.mem_filter.mpr ⟨he, by rw [z]; rfl⟩
              rw [gf] at m
              cases m
          rw [ya, Bool.true_and] at q
          have eq : PyData.eqv (.list []) (.list []) = true := by simp [PyData.eqv, PyData.eqvAll]
          rw [eq]
          refine iteF ?_
          refine fun p2 n2 => ?_
          generalize gg2 : L2.upd _ p2 _ = H3; obtain ⟨eg2, og2, tg2⟩ := made n2 gg2; clear gg2
          have s3 := s2.trans (sameOf n2 og2)
          refine ⟨_, _, rfl, ?_⟩
          refine ⟨_, rfl, _, _, rfl, .inr (SqT.of (s3 _ _ ha)), _, rfl, by omega, by omega, ?_⟩
          have old2 : H p2 = none := by
            cases z : H p2 with
            | none => rfl
            | some o => rw [s2 _ _ z] at n2; cases n2
          refine for_range (lo := 0) (n := (xs.length : Int).toNat) (fun i σ H' => Same H H' ∧ ∃ (m : Int) (r : Addr) (seen : List (Key × V)) (a1 a4 : Option V), σ = [some (.ref a), a1, some (.int m), some (.ref r), a4] ∧ H r = none ∧ H' r = some (.dK seen) ∧ (∀ k v, valV seen k = some v → ∃ j : Int, v = .int j) ∧ seen.length ≤ i ∧ lawT [] 1 (ds.map pairD) = lawT seen m ((ds.drop i).map pairD))
            ⟨s3, 1, p2, [], _, _, rfl, old2, tg2, (fun k v e => by cases e), Nat.le_refl _, rfl⟩ ?_ ?_
          · rintro i σ H4 hi ⟨s4, m, r, seen, a1, a4, rfl, nr, hr1, hj, ls, e⟩
            have hi' : i < ds.length := by omega
            have hat := List.getElem?_eq_getElem hi'
            obtain ⟨y, hy⟩ : ∃ y, xs[i]? = some y := ⟨_, List.getElem?_eq_getElem (by omega)⟩
            obtain ⟨d, hd, xd⟩ := hx.get hy
            obtain ⟨x, k, rfl, k0, k3⟩ := leafL_shape (List.all_eq_true.mp ya d (List.mem_of_getElem? hd))
            have ed : (ds.drop i).map pairD = (x, k) :: (ds.drop (i + 1)).map pairD := by
              rw [List.drop_eq_getElem_cons hi', List.map_cons]
              rw [hat] at hd
              rw [Option.some.inj hd]
              rfl
            rw [ed] at e
            have e' : lawT [] 1 (ds.map pairD) = (if decide (m < 1) = true then false else if (!decide ((valV seen (.inr x)).getD (.int k) = V.int k)) = true then false else lawT (putK seen (.inr x) (.int k)) (m + k - 1) ((ds.drop (i + 1)).map pairD)) := e
            cases xd with
            | @tup cc _ _ hc h2 =>
              cases h2 with
              | cons b1 h2 =>
                cases h2 with
                | cons b2 h2 =>
                  cases h2
                  cases b1
                  cases b2
                  have hc4 := s4 _ _ hc
                  have hxs := SqT.of (K := K) (s4 _ _ ha)
                  have hyI : atI xs (0 + (i : Int)) = some (.ref cc) := by
                    rw [Int.zero_add]
                    exact atI_nat hy
                  refine ⟨_, rfl, _, _, rfl, rfl, _, rfl, ?_⟩
                  refine ite2 (fun g => ?_) (fun g => ?_)
                  · rw [e', if_pos g] at q
                    exact q H4 s4
                  · rw [if_neg g] at e'
                    obtain ⟨j, hw⟩ : ∃ j : Int, (valV seen (.inr x)).getD (.int k) = .int j := by
                      cases z : valV seen (.inr x) with
                      | none => exact ⟨k, rfl⟩
                      | some v =>
                        obtain ⟨j, rfl⟩ := hj _ _ z
                        exact ⟨j, rfl⟩
                    refine ⟨_, rfl, _, rfl, .inl ⟨_, .inl hr1⟩, _, rfl, _, rfl, _, _, _, _, rfl, rfl, hxs, hyI, _, _, _, _, rfl, rfl, SqT.of hc4, rfl, _, rfl, _, rfl, _, _, _, _, rfl, rfl, hxs, hyI, _, _, _, _, rfl, rfl, SqT.of hc4, rfl, _, DGet.k (k := .inr x) hr1, ?_⟩
                    rw [hw] at e' ⊢
                    refine ⟨_, rfl, _, rfl, _, _, _, _, rfl, rfl, hxs, hyI, _, _, _, _, rfl, rfl, SqT.of hc4, rfl, rfl, _, rfl, ?_⟩
                    refine ite2 (fun g2 => ?_) (fun g2 => ?_)
                    · rw [e', if_pos g2] at q
                      exact q H4 s4
                    · rw [if_neg g2] at e'
                      refine ⟨_, rfl, _, rfl, _, _, _, _, rfl, rfl, hxs, hyI, _, _, _, _, rfl, rfl, SqT.of hc4, rfl, _, rfl, _, rfl, _, rfl, _, _, _, _, rfl, rfl, hxs, hyI, _, _, _, _, rfl, rfl, SqT.of hc4, rfl, r, _, rfl, DPut.k (k := .inr x) hr1 (szlt (by omega)), ?_⟩
                      generalize gg5 : L2.upd H4 r _ = H5
                      have hr5 : H5 r = some (.dK (putK seen (.inr x) (.int k))) := by
                        rw [← gg5, upd_same]
                      have k5 : ∀ (b : Addr) (o : HO), H b = some o → H5 b = some o := fun b o e => by
                        rw [← gg5, upd_ne (ne_of_none e nr)]
                        exact s4 _ _ e
                      have hxs5 := SqT.of (K := K) (k5 _ _ ha)
                      refine ⟨_, rfl, _, rfl, _, rfl, _, _, _, _, rfl, rfl, hxs5, hyI, _, _, _, _, rfl, rfl, SqT.of (k5 _ _ hc), rfl, _, _, rfl, rfl, _, _, rfl, rfl, ?_⟩
                      refine ⟨k5, m + k - 1, r, _, _, _, rfl, nr, hr5, fun k' v' ev => ?_, Nat.le_trans (length_putK _ _ _) (Nat.succ_le_succ ls), e'⟩
                      rw [valV_put] at ev
                      split at ev
                      · exact ⟨k, (Option.some.inj ev).symm⟩
                      · exact hj _ _ ev
          · rintro σ H4 ⟨s4, m, r, seen, a1, a4, rfl, nr, hr1, hj, ls, e⟩
            have ez : ds.drop (xs.length : Int).toNat = [] := List.drop_eq_nil_of_le (by omega)
            rw [ez] at e
            rw [e] at q
            exact ⟨_, rfl, rfl, q H4 s4⟩
    | _ => exact iteT (q H (Same.refl H))
/-! ### nodes bent -/
def oddD : List PyData := [.tuple [.str "a", .int 0], .tuple [.str "_", .int 0], .tuple [.str "f", .int 2], .tuple [.str "k", .int 1], .tuple [.str "#", .int 0], .tuple [.str "a", .int 1], .tuple [.str "f", .int 0], .tuple [.str "_", .int 1], .tuple [.str "f", .int 4], .list [.str "a", .int 0], .none, .tuple [.str "a"]]
def poolD : List PyData := (wordsT.map fun p => .tuple [.str p.1, .int (p.2 : Nat)]) ++ oddD
theorem pool_ok : ∀ d ∈ poolD, okX d = true ∧ nodice d = true ∧ isNodeD d = isLeafL d := by decide +kernel
theorem odd_free : ∀ i d, oddD[i]? = some d → i ≠ 9 → listfree d = true ∧ dictfree d = true := by
  have z : ∀ i : Fin 12, i.val ≠ 9 → ∀ d, oddD[i.val]? = some d → listfree d = true ∧ dictfree d = true := by decide +kernel
  intro i d h n
  have hi : i < 12 := (List.getElem?_eq_some_iff.mp h).1
  exact z ⟨i, hi⟩ n d h
def Pooled (ds : List PyData) : Prop := ∀ d ∈ ds, d ∈ poolD
theorem Pooled.nodice {ds : List PyData} (h : Pooled ds) : nodiceAll ds = true := by
  induction ds with
  | nil => rfl
  | cons d ds ih =>
    simp only [nodiceAll, Bool.and_eq_true]
    exact ⟨(pool_ok d (h d List.mem_cons_self)).2.1, ih fun e he => h e (List.mem_cons_of_mem _ he)⟩
theorem Pooled.shaped {ds : List PyData} (h : Pooled ds) : SeqAt.shaped (.list ds) = true ∧ dictfree (.list ds) = true := by
  refine ⟨shaped_list fun e he => ⟨(okX.a (pool_ok e (h e he)).1).2.2.1, (okX.a (pool_ok e (h e he)).1).2.2.2⟩, ?_⟩
  simp only [dictfree]
  exact dictfree_all fun e he => (okX.a (pool_ok e (h e he)).1).2.1
theorem Pooled.app {ds es : List PyData} (h : Pooled ds) (k : Pooled es) : Pooled (ds ++ es) := fun d hd => (List.mem_append.mp hd).elim (h d) (k d)
theorem Pooled.take {ds : List PyData} (n : Nat) (h : Pooled ds) : Pooled (ds.take n) := fun d hd => h d (List.mem_of_mem_take hd)
theorem Pooled.drop {ds : List PyData} (n : Nat) (h : Pooled ds) : Pooled (ds.drop n) := fun d hd => h d (List.mem_of_mem_drop hd)
theorem DxAll.drop' {H : Hp} : ∀ {xs : List V} {ds : List PyData} (n : Nat), DxAll H xs ds → DxAll H (xs.drop n) (ds.drop n)
  | _, _, 0, h => h
  | _, _, n + 1, .nil => .nil
  | _, _, n + 1, .cons a t => DxAll.drop' n t
theorem eqv_nil (ds : List PyData) : PyData.eqv (.list ds) (.list []) = ds.isEmpty := by
  cases ds <;> simp [PyData.eqv, PyData.eqvAll]
theorem fresh_but {p q : Addr} {H Hk : Hp} (k : But p H Hk) (d : Dc Hk p) (n : Hk q = none) : H q = none := by
  cases z : H q with
  | none => rfl
  | some o =>
    by_cases e : q = p
    · subst e
      exact absurd rfl (d.ne n)
    · rw [k q o e z] at n
      cases n
set_option hygiene false in
local macro_rules | `(tactic| walk_at "catEnd") => `(tactic| (
  refine ⟨_, rfl, _, rfl, _, rfl, _, rfl, r, xs, rfl, SqL.of rk, fun c1 nc1 => ?_⟩
  generalize gc1 : L2.upd _ c1 _ = K1; obtain ⟨ec1, oc1, tc1⟩ := made nc1 gc1; clear gc1
  have sc1 := sameOf nc1 oc1
  refine ⟨_, _, _, _, rfl, rfl, sc1 _ _ rk, tc1, Nat.le_trans (show xs.length + (cutV xs (some at_) none).length ≤ 100000 by have := cutV_length xs (some at_) none; omega) (by decide), fun c2 nc2 => ?_⟩
  generalize gc2 : L2.upd _ c2 _ = K2; obtain ⟨ec2, oc2, tc2⟩ := made nc2 gc2; clear gc2
  have s15 := (sk.trans sc1).trans (sameOf nc2 oc2)
  have hx2 := hX15.same s15
  refine ⟨_, rfl, ?_⟩
  refine q c2 _ (ds ++ ((ds.drop (HT.sIx xs.length 0 (some at_))).take (HT.sIx xs.length xs.length none - HT.sIx xs.length 0 (some at_)))) K2 (b15.trans (But.ofS s15)) (d15.same s15) (fresh_but (b15.trans (But.ofS (sk.trans sc1))) (d15.same (sk.trans sc1)) nc2) tc2 (hx2.app ((DxAll.drop' _ hx2).take _)) (hP.app ((hP.drop _).take _)) ?_
  rw [List.length_append, List.length_take, List.length_drop]
  omega))
set_option hygiene false in
local macro_rules | `(tactic| walk_at "setEnd") => `(tactic| (
  refine ⟨_, rfl, rfl, _, rfl, ?_⟩
  refine ite2 (fun g2 => ?_) (fun g2 => ?_)
  · refine ⟨_, rfl, (szr rfl), fun q2 nq2 => ?_⟩
    generalize gq2 : L2.upd _ q2 _ = H17; obtain ⟨eq2, oq2, tq2⟩ := made nq2 gq2; clear gq2
    have sk := sk.trans (sameOf nq2 oq2)
    have rk := sk _ _ r15
    refine ⟨.list ds, .list [], (Dx.lst rk (hX15.same sk)).dp hP.shaped.2, (Dx.lst tq2 .nil).dp rfl, hP.shaped.1, by decide +kernel, _, rfl, ?_⟩
    rw [eqv_nil]
    cases gE : ds.isEmpty with
    | true =>
      refine iteF ?_
      walk_at "catEnd"
    | false =>
      refine iteT ?_
      have l0 : 0 < ds.length := List.length_pos_iff.mpr fun z => by rw [z] at gE; cases gE
      have m0 := Int.emod_nonneg at_ (b := (xs.length : Int)) (by omega)
      have m1 := Int.emod_lt_of_pos at_ (b := (xs.length : Int)) (by omega)
      refine ⟨_, rfl, _, rfl, _, rfl, _, rfl, _, _, rfl, .inl (SqL.of rk), _, _, rfl, rfl, (modc (by omega)), _, _, _, _, rfl, rfl, rk, (show ixN xs.length (at_ % (xs.length : Int)) = some (at_ % (xs.length : Int)).toNat by unfold ixN; rw [if_pos m0, if_pos m1]), ?_⟩
      refine ⟨_, rfl, ?_⟩
      have hj : (at_ % (xs.length : Int)).toNat < xs.length := by omega
      refine fin sk _ (ds.take (at_ % (xs.length : Int)).toNat ++ (d1 :: ds.drop ((at_ % (xs.length : Int)).toNat + 1))) ?_ ((hP.take _).app (P1.app (hP.drop _))) (by rw [List.length_append, List.length_take, List.length_cons, List.length_drop]; omega)
      rw [List.set_eq_take_append_cons_drop, if_pos hj]
      exact (DxAll.take _ (hX sk _)).app (.cons (hO sk _) (DxAll.drop' _ (hX sk _)))
  · walk_at "catEnd"))
def spBent (K : PySem.W.Frag) : Sp := fun vs H Q _ => ∃ (p a : Addr) (xs : List V) (ds : List PyData), vs = [.ref p, .ref a] ∧ Dc H p ∧ H a = some (.lst xs) ∧ DxAll H xs ds ∧ Pooled ds ∧ ds.length ≤ 1000 ∧
  ∀ (r : Addr) (ys : List V) (es : List PyData) (H' : Hp), But p H H' → Dc H' p → H r = none → H' r = some (.lst ys) → DxAll H' ys es → Pooled es → es.length ≤ 2 * ds.length + 1 → Q (.ref r) H'
theorem ok__law_bent {f : Addr} {fd : FuncData} (F : Fun K "_law_bent" "_law_bent" s__law_bent f fd) (T : Txt mg) (Z : TermZ K mg c) {f__law_roll : Addr} {fd__law_roll : FuncData} (G__law_roll : FnOk P w K mg base CX0 1 f__law_roll fd__law_roll P__law_roll spRoll) (C__law_roll : Cal K mg "_law_roll" f__law_roll fd__law_roll P__law_roll) {f__law_pick : Addr} {fd__law_pick : FuncData} (G__law_pick : FnOk P w K mg base CX0 2 f__law_pick fd__law_pick P__law_pick (spPick K)) (C__law_pick : Cal K mg "_law_pick" f__law_pick fd__law_pick P__law_pick) : FnOk P w K mg base CX0 3 f fd P__law_bent (spBent K) := by
  refine F.ok sc__law_bent (fun vs H Q E h => ?_) (fun cdv A outer s H vs Q E hr h => ?_)
  · obtain ⟨p, a, xs, ds, rfl, _⟩ := h
    rfl
  · obtain ⟨p, a, xs, ds, rfl, hd, ha, hx, hP, hl, q⟩ := h
    refine ⟨_, (pss_cons (ps_par (i := 2) (j := 3) (by rfl) sc__law_bent.nd rfl rfl (by decide) rfl rfl (pa_cons (pe_callTy call_list_of (by rfl) T.n_list (by decide +kernel) (pa_cons (pv 1) pa_nil)) (pa_cons (pe_call G__law_roll (hr.mono (by decide)) rfl C__law_roll.m C__law_roll.k C__law_roll.b .nil pass0 (pa_cons (pv 0) (pa_cons (pe_op op_add (pe_callB call_len_seq (by rfl) T.n_len (by decide +kernel) (pa_cons (pv 1) pa_nil)) pe_int) pa_nil))) pa_nil)) (by rfl))
      (pss_cons (ps_set (i := 4) sc__law_bent.nd rfl (Or.inl rfl) (pe_lst (pa_cons (pe_tup (pa_cons pe_str (pa_cons pe_int pa_nil))) (pa_cons (pe_tup (pa_cons pe_str (pa_cons pe_int pa_nil))) (pa_cons (pe_tup (pa_cons pe_str (pa_cons pe_int pa_nil))) (pa_cons (pe_tup (pa_cons pe_str (pa_cons pe_int pa_nil))) (pa_cons (pe_tup (pa_cons pe_str (pa_cons pe_int pa_nil))) (pa_cons (pe_tup (pa_cons pe_str (pa_cons pe_int pa_nil))) (pa_cons (pe_tup (pa_cons pe_str (pa_cons pe_int pa_nil))) (pa_cons (pe_tup (pa_cons pe_str (pa_cons pe_int pa_nil))) (pa_cons (pe_tup (pa_cons pe_str (pa_cons pe_int pa_nil))) (pa_cons (pe_lst (pa_cons pe_str (pa_cons pe_int pa_nil))) (pa_cons pe_non (pa_cons (pe_tup (pa_cons pe_str pa_nil)) pa_nil))))))))))))))
      (pss_cons (ps_par (i := 5) (j := 6) (by rfl) sc__law_bent.nd rfl rfl (by decide) rfl rfl (pa_cons (pe_call G__law_pick (hr.mono (by decide)) rfl C__law_pick.m C__law_pick.k C__law_pick.b .nil pass0 (pa_cons (pv 0) (pa_cons (pv 4) pa_nil))) (pa_cons (pe_call G__law_roll (hr.mono (by decide)) rfl C__law_roll.m C__law_roll.k C__law_roll.b .nil pass0 (pa_cons (pv 0) (pa_cons pe_int pa_nil))) pa_nil)) (by rfl))
      (pss_cons (ps_if (pt_cmpR op_eq (pv 6) pe_int (nomark _)) (pss_one (ps_expr (pe_bm PySem.F.plainAttrs_list PySem.F.slot_list_insert PySem.F.type_list_insert mt_insert (pv 2) (pa_cons (pv 3) (pa_cons (pv 5) pa_nil))))) (pss_one (ps_if (PW.pt (pw_and (pt_cmpR op_eq (pv 6) pe_int (nomark _)) (pw_and1 (pt_cmpR (op_neD hr.units) (pv 2) (pe_lst pa_nil) (nomark _))))) (pss_one (ps_expr (pe_bm PySem.F.plainAttrs_list PySem.F.slot_list_pop PySem.F.type_list_pop mt_popAt (pv 2) (pa_cons (pe_op op_mod (pv 3) (pe_callB call_len_seq (by rfl) T.n_len (by decide +kernel) (pa_cons (pv 2) pa_nil))) pa_nil)))) (pss_one (ps_if (PW.pt (pw_and (pt_cmpR op_eq (pv 6) pe_int (nomark _)) (pw_and1 (pt_cmpR (op_neD hr.units) (pv 2) (pe_lst pa_nil) (nomark _))))) (pss_one (ps_asg (pv 5) (pg_sub (pv 2) (pe_op op_mod (pv 3) (pe_callB call_len_seq (by rfl) T.n_len (by decide +kernel) (pa_cons (pv 2) pa_nil))) set_list))) (pss_one (ps_set (i := 2) sc__law_bent.nd rfl (Or.inl rfl) (pe_op op_cat (pv 2) (pe_slice sl_list (pv 2) (po_some (pv 3)) po_none)))))))))
      (pss_one (ps_ret (pv 2))))))), ?_⟩
    have lx : xs.length = ds.length := hx.len
    refine ⟨_, rfl, _, _, rfl, .inl (SqL.of ha), fun r nr => ?_⟩
    generalize gg1 : L2.upd _ r _ = H1; obtain ⟨eg1, og1, tg1⟩ := made nr gg1; clear gg1
    have s1 := sameOf nr og1
    refine ⟨_, rfl, _, rfl, _, _, rfl, .inl (SqL.of (s1 _ _ ha)), _, _, rfl, rfl, ?_⟩
    refine ⟨p, _, rfl, hd.same s1, by omega, by omega, fun at_ H1' at0 at1 e1' o1' d1' => ?_⟩
    have rp : r ≠ p := fun z => hd.ne nr z.symm
    have hr1 : H1' r = some (.lst xs) := (o1' r rp).trans tg1
    have b1 : But p H H1' := (But.ofS s1).trans (But.of1 o1')
    refine ⟨_, _, rfl, ?_⟩
    refine ⟨(szr rfl), fun p2 n2 => ?_⟩
    generalize g2 : upd _ p2 _ = H2; obtain ⟨e2, o2, t2⟩ := made n2 g2; clear g2
    refine ⟨(szr rfl), fun p3 n3 => ?_⟩
    generalize g3 : upd _ p3 _ = H3; obtain ⟨e3, o3, t3⟩ := made n3 g3; clear g3
    refine ⟨(szr rfl), fun p4 n4 => ?_⟩
    generalize g4 : upd _ p4 _ = H4; obtain ⟨e4, o4, t4⟩ := made n4 g4; clear g4
    refine ⟨(szr rfl), fun p5 n5 => ?_⟩
    generalize g5 : upd _ p5 _ = H5; obtain ⟨e5, o5, t5⟩ := made n5 g5; clear g5
    refine ⟨(szr rfl), fun p6 n6 => ?_⟩
    generalize g6 : upd _ p6 _ = H6; obtain ⟨e6, o6, t6⟩ := made n6 g6; clear g6
    refine ⟨(szr rfl), fun p7 n7 => ?_⟩
    generalize g7 : upd _ p7 _ = H7; obtain ⟨e7, o7, t7⟩ := made n7 g7; clear g7
    refine ⟨(szr rfl), fun p8 n8 => ?_⟩
    generalize g8 : upd _ p8 _ = H8; obtain ⟨e8, o8, t8⟩ := made n8 g8; clear g8
    refine ⟨(szr rfl), fun p9 n9 => ?_⟩
    generalize g9 : upd _ p9 _ = H9; obtain ⟨e9, o9, t9⟩ := made n9 g9; clear g9
    refine ⟨(szr rfl), fun p10 n10 => ?_⟩
    generalize g10 : upd _ p10 _ = H10; obtain ⟨e10, o10, t10⟩ := made n10 g10; clear g10
    refine ⟨(szr rfl), fun p11 n11 => ?_⟩
    generalize g11 : upd _ p11 _ = H11; obtain ⟨e11, o11, t11⟩ := made n11 g11; clear g11
    refine ⟨(szr rfl), fun p12 n12 => ?_⟩
    generalize g12 : upd _ p12 _ = H12; obtain ⟨e12, o12, t12⟩ := made n12 g12; clear g12
    refine ⟨(szr rfl), fun p13 n13 => ?_⟩
    generalize g13 : upd _ p13 _ = H13; obtain ⟨e13, o13, t13⟩ := made n13 g13; clear g13
    have u2 := sameOf n2 o2
    have u3 := sameOf n3 o3
    have u4 := sameOf n4 o4
    have u5 := sameOf n5 o5
    have u6 := sameOf n6 o6
    have u7 := sameOf n7 o7
    have u8 := sameOf n8 o8
    have u9 := sameOf n9 o9
    have u10 := sameOf n10 o10
    have u11 := sameOf n11 o11
    have u12 := sameOf n12 o12
    have u13 := sameOf n13 o13
    have w12 := u12.trans u13
    have w11 := u11.trans w12
    have w10 := u10.trans w11
    have w9 := u9.trans w10
    have w8 := u8.trans w9
    have w7 := u7.trans w8
    have w6 := u6.trans w7
    have w5 := u5.trans w6
    have w4 := u4.trans w5
    have w3 := u3.trans w4
    have w2 := u2.trans w3
    have odd : DxAll H13 [.ref p2, .ref p3, .ref p4, .ref p5, .ref p6, .ref p7, .ref p8, .ref p9, .ref p10, .ref p11, .non, .ref p12] oddD :=
      .cons (.tup (w3 _ _ t2) (.cons (.str _) (.cons (.int _) .nil))) (.cons (.tup (w4 _ _ t3) (.cons (.str _) (.cons (.int _) .nil))) (.cons (.tup (w5 _ _ t4) (.cons (.str _) (.cons (.int _) .nil))) (.cons (.tup (w6 _ _ t5) (.cons (.str _) (.cons (.int _) .nil))) (.cons (.tup (w7 _ _ t6) (.cons (.str _) (.cons (.int _) .nil)))
      (.cons (.tup (w8 _ _ t7) (.cons (.str _) (.cons (.int _) .nil))) (.cons (.tup (w9 _ _ t8) (.cons (.str _) (.cons (.int _) .nil))) (.cons (.tup (w10 _ _ t9) (.cons (.str _) (.cons (.int _) .nil))) (.cons (.tup (w11 _ _ t10) (.cons (.str _) (.cons (.int _) .nil))) (.cons (.lst (w12 _ _ t11) (.cons (.str _) (.cons (.int _) .nil)))
      (.cons .non (.cons (.tup (u13 _ _ t12) (.cons (.str _) .nil)) .nil)))))))))))
    have r13 := w2 _ _ hr1
    have d13 := d1'.same w2
    have p13p : p13 ≠ p := fun z => (d1'.same (u2.trans (u3.trans (u4.trans (u5.trans (u6.trans (u7.trans (u8.trans (u9.trans (u10.trans (u11.trans u12))))))))))).ne n13 z.symm
    have p11p : p11 ≠ p := fun z => (d1'.same (u2.trans (u3.trans (u4.trans (u5.trans (u6.trans (u7.trans (u8.trans (u9.trans u10))))))))).ne n11 z.symm
    have p11r : p11 ≠ r := Ne.symm (ne_of_none ((u2.trans (u3.trans (u4.trans (u5.trans (u6.trans (u7.trans (u8.trans (u9.trans u10)))))))) _ _ hr1) n11)
    have b13 := b1.trans (But.ofS w2)
    refine ⟨_, rfl, _, rfl, ?_⟩
    refine ⟨p, p13, _, rfl, d13, (pick_l t13 p13p).1, (pick_l t13 p13p).2, Nat.zero_lt_succ _, (show (12 : Nat) < 1000000 by decide), fun i one H14 hone e14 o14 d14 => ?_⟩
    refine ⟨_, rfl, ?_⟩
    refine ⟨p, 4, rfl, d14, by decide, by decide, fun way H15 way0 way1 e15 o15 d15 => ?_⟩
    refine ⟨_, _, rfl, ?_⟩
    have b15 := (b13.trans (But.of1 o14)).trans (But.of1 o15)
    have r15 : H15 r = some (.lst xs) := (o15 r rp).trans ((o14 r rp).trans r13)
    obtain ⟨d1, hd1, xd1⟩ := odd.get hone
    have pd1 : d1 ∈ poolD := List.mem_append_right _ (List.mem_of_getElem? hd1)
    have P1 : Pooled [d1] := fun d h => by
      rw [List.mem_singleton.mp h]
      exact pd1
    have hB : ∀ {Hk : Hp}, Same H15 Hk → ∀ zs : List V, But p H (L2.upd Hk r (.lst zs)) := fun {Hk} sk zs b o nb e => by
      rw [upd_ne (ne_of_none e nr)]
      exact sk _ _ (b15 b o nb e)
    have hX : ∀ {Hk : Hp}, Same H15 Hk → ∀ zs : List V, DxAll (L2.upd Hk r (.lst zs)) xs ds := fun sk zs => DxAll.but hd (hB sk zs) hx hP.nodice
    have hO : ∀ {Hk : Hp}, Same H15 Hk → ∀ zs : List V, Dx (L2.upd Hk r (.lst zs)) one d1 := fun {Hk} sk zs => by
      by_cases i9 : i = 9
      · subst i9
        have e1 : one = .ref p11 := (Option.some.inj hone).symm
        have e2 : d1 = .list [.str "a", .int 0] := (Option.some.inj hd1).symm
        subst e1 e2
        refine .lst ?_ (.cons (.str _) (.cons (.int _) .nil))
        rw [upd_ne p11r]
        exact sk _ _ ((o15 p11 p11p).trans ((o14 p11 p11p).trans (w12 _ _ t11)))
      · have fr := odd_free i d1 hd1 i9
        refine dx_tk (H := H13) (fun b xs e => ?_) xd1 fr.1 fr.2
        have nb : b ≠ p := fun z => by
          subst z
          obtain ⟨_, _, _, z⟩ := d13
          rw [z] at e
          cases e
        rw [upd_ne (fun z => by subst z; rw [r13] at e; cases e)]
        exact sk _ _ ((o15 b nb).trans ((o14 b nb).trans e))
    have fin : ∀ {Hk : Hp}, Same H15 Hk → ∀ (zs : List V) (es : List PyData), DxAll (L2.upd Hk r (.lst zs)) zs es → Pooled es → es.length ≤ 2 * ds.length + 1 → Q (.ref r) (L2.upd Hk r (.lst zs)) := fun sk zs es h1 h2 h3 => q r zs es _ (hB sk zs) (Dc.upd (d15.same sk) (Ne.symm rp)) nr upd_same h1 h2 h3
    have hX15 : DxAll H15 xs ds := DxAll.but hd b15 hx hP.nodice
    have sR := Same.refl H15
    refine ⟨_, rfl, rfl, _, rfl, ?_⟩
    refine ite2 (fun g => ?_) (fun g => ?_)
    · refine ⟨_, rfl, (.inl ⟨rfl, _, SqL.of r15⟩), _, rfl, _, rfl, _, _, _, _, rfl, rfl, r15, szlt (by omega), by omega, by omega, ?_⟩
      refine ⟨_, rfl, ?_⟩
      refine fin sR _ (ds.take at_.toNat ++ [d1] ++ ds.drop at_.toNat) ((DxAll.take _ (hX sR _)).app (.cons (hO sR _) .nil) |>.app (DxAll.drop' _ (hX sR _))) (((hP.take _).app P1).app (hP.drop _)) ?_
      rw [List.length_append, List.length_append, List.length_take, List.length_drop, List.length_singleton]
      omega
    · refine ⟨_, rfl, rfl, _, rfl, ?_⟩
      refine ite2 (fun g1 => ?_) (fun g1 => ?_)
      · refine ⟨_, rfl, (szr rfl), fun q1 nq1 => ?_⟩
        generalize gq1 : L2.upd _ q1 _ = H16; obtain ⟨eq1, oq1, tq1⟩ := made nq1 gq1; clear gq1
        have k16 := sameOf nq1 oq1
        have r16 := k16 _ _ r15
        refine ⟨.list ds, .list [], (Dx.lst r16 (hX15.same k16)).dp hP.shaped.2, (Dx.lst tq1 .nil).dp rfl, hP.shaped.1, by decide +kernel, _, rfl, ?_⟩
        rw [eqv_nil]
        cases gE0 : ds.isEmpty with
        | true =>
          refine iteF ?_
          have sk := k16
          have rk := r16
          walk_at "setEnd"
        | false =>
          refine iteT ?_
          have l0 : 0 < ds.length := List.length_pos_iff.mpr fun z => by rw [z] at gE0; cases gE0
          have m0 := Int.emod_nonneg at_ (b := (xs.length : Int)) (by omega)
          have m1 := Int.emod_lt_of_pos at_ (b := (xs.length : Int)) (by omega)
          have hj : (at_ % (xs.length : Int)).toNat < xs.length := by omega
          refine ⟨_, rfl, (.inl ⟨rfl, _, SqL.of r16⟩), _, rfl, _, rfl, _, _, rfl, .inl (SqL.of r16), _, _, rfl, rfl, (modc (by omega)), _, _, _, _, _, rfl, rfl, r16, by omega, by omega, seqIndex_of m0 m1, List.getElem?_eq_getElem hj, ?_⟩
          refine ⟨_, rfl, ?_⟩
          refine fin k16 _ (ds.take (at_ % (xs.length : Int)).toNat ++ ds.drop ((at_ % (xs.length : Int)).toNat + 1)) ?_ ((hP.take _).app (hP.drop _)) (by rw [List.length_append, List.length_take, List.length_drop]; omega)
          rw [List.eraseIdx_eq_take_drop_succ]
          exact (DxAll.take _ (hX k16 _)).app (DxAll.drop' _ (hX k16 _))
      · have sk := sR
        have rk := r15
        walk_at "setEnd"

/-! ### Term takes just what the law takes -/
theorem one_lt {m : Int} (h : 0 ≤ m) : decide (m < 1) = decide (V.int m = V.int 0) := by
  by_cases z : m = 0
  · subst z
    rfl
  · rw [decide_eq_false (show ¬ m < 1 by omega), decide_eq_false (fun w => z (V.int.inj w))]
/-! ### Term's own judge and the law's are one -/
def okS : List (Key × V) → List (Str × Int) → Bool
  | _, [] => true
  | seen, (x, k) :: r => decide ((valV seen (.inr x)).getD (.int k) = V.int k) && okS (putK seen (.inr x) (.int k)) r
theorem lawT_eq : ∀ (qs : List (Str × Int)) (seen : List (Key × V)) (m : Int), 0 ≤ m → (∀ q ∈ qs, 0 ≤ q.2) → lawT seen m qs = (oneTree m (qs.map Prod.snd) && okS seen qs)
  | [], _, m, _, _ => (Bool.and_true _).symm
  | (x, k) :: r, seen, m, h0, hk => by
    show (if decide (m < 1) = true then false else if (!decide ((valV seen (.inr x)).getD (.int k) = V.int k)) = true then false else lawT (putK seen (.inr x) (.int k)) (m + k - 1) r) =
      ((if decide (V.int m = V.int 0) = true then false else oneTree (m - 1 + k) (r.map Prod.snd)) && (decide ((valV seen (.inr x)).getD (.int k) = V.int k) && okS (putK seen (.inr x) (.int k)) r))
    rw [one_lt h0]
    by_cases z : m = 0
    · rw [decide_eq_true (by rw [z] : V.int m = V.int 0), if_pos rfl, if_pos rfl, Bool.false_and]
    · rw [decide_eq_false (fun w => z (V.int.inj w)), if_neg Bool.false_ne_true, if_neg Bool.false_ne_true]
      have k0 := hk _ List.mem_cons_self
      have ih := lawT_eq r (putK seen (.inr x) (.int k)) (m + k - 1) (by have : 0 ≤ k := k0; omega) fun q hq => hk q (List.mem_cons_of_mem _ hq)
      have e : m - 1 + k = m + k - 1 := by omega
      cases g : decide ((valV seen (.inr x)).getD (.int k) = V.int k) with
      | false => rw [Bool.not_false, if_pos rfl, Bool.false_and, Bool.and_false]
      | true => rw [Bool.not_true, if_neg Bool.false_ne_true, Bool.true_and, e, ih]
/-- what the dict holds are these pairs -/
def Holds (seen : List (Key × V)) (T : List (Str × Int)) : Prop := ∀ x v, valV seen (.inr x) = some v ↔ ∃ k, v = V.int k ∧ (x, k) ∈ T
theorem Holds.put {seen : List (Key × V)} {T : List (Str × Int)} {x : Str} {k : Int} (h : Holds seen T) (u : ∀ k', (x, k') ∈ T → k' = k) : Holds (putK seen (.inr x) (.int k)) (T ++ [(x, k)]) := fun y v => by
  rw [valV_put]
  by_cases e : y = x
  · subst e
    rw [if_pos rfl]
    constructor
    · intro z
      exact ⟨k, (Option.some.inj z).symm, List.mem_append_right _ (List.mem_singleton.mpr rfl)⟩
    · rintro ⟨k', rfl, hm⟩
      rcases List.mem_append.mp hm with hm | hm
      · rw [u k' hm]
      · cases List.mem_singleton.mp hm
        rfl
  · rw [if_neg (fun z => e (Sum.inr.inj z)), h y v]
    constructor
    · rintro ⟨k', rfl, hm⟩
      exact ⟨k', rfl, List.mem_append_left _ hm⟩
    · rintro ⟨k', rfl, hm⟩
      rcases List.mem_append.mp hm with hm | hm
      · exact ⟨k', rfl, hm⟩
      · cases List.mem_singleton.mp hm
        exact absurd rfl e
theorem okS_iff : ∀ (qs : List (Str × Int)) (seen : List (Key × V)) (T : List (Str × Int)), Holds seen T → OneEach T → (okS seen qs = true ↔ OneEach (T ++ qs))
  | [], seen, T, _, o => by
    rw [List.append_nil]
    exact ⟨fun _ => o, fun _ => rfl⟩
  | (x, k) :: r, seen, T, h, o => by
    show (decide ((valV seen (.inr x)).getD (.int k) = V.int k) && okS (putK seen (.inr x) (.int k)) r) = true ↔ _
    have here : (valV seen (.inr x)).getD (.int k) = V.int k ↔ ∀ k', (x, k') ∈ T → k' = k := by
      cases z : valV seen (.inr x) with
      | none =>
        refine ⟨fun _ k' hm => ?_, fun _ => rfl⟩
        have := (h x (.int k')).mpr ⟨k', rfl, hm⟩
        rw [z] at this
        cases this
      | some v =>
        obtain ⟨k1, rfl, hm1⟩ := (h x v).mp z
        constructor
        · intro e k' hm
          have e' : k1 = k := V.int.inj e
          rw [← e']
          exact o _ hm _ hm1 rfl
        · intro u
          show V.int k1 = V.int k
          rw [u k1 hm1]
    by_cases g : (valV seen (.inr x)).getD (.int k) = V.int k
    · have u := here.mp g
      rw [decide_eq_true g, Bool.true_and]
      have o' : OneEach (T ++ [(x, k)]) := fun p hp q hq e => by
        rcases List.mem_append.mp hp with hp | hp
        · rcases List.mem_append.mp hq with hq | hq
          · exact o p hp q hq e
          · cases List.mem_singleton.mp hq
            obtain ⟨px, pk⟩ := p
            cases (show px = x from e)
            exact u pk hp
        · cases List.mem_singleton.mp hp
          rcases List.mem_append.mp hq with hq | hq
          · obtain ⟨qx, qk⟩ := q
            cases (show x = qx from e)
            exact (u qk hq).symm
          · cases List.mem_singleton.mp hq
            rfl
      rw [okS_iff r _ _ (h.put u) o', List.append_assoc]
      rfl
    · rw [decide_eq_false g, Bool.false_and]
      refine ⟨fun z => (by cases z), fun w => absurd (here.mpr fun k' hm => ?_) g⟩
      exact w (x, k') (List.mem_append_left _ hm) (x, k) (List.mem_append_right _ List.mem_cons_self) rfl
theorem leaf_zero {x : Str} {k : Int} (h : isNodeD (.tuple [.str x, .int k]) = true) (l : isLeafD (.str x) = true) : k = 0 := by
  have h' : (if isLeafD (.str x) = true then (isArityD (.int k) && PyData.eqv (.int k) (.int 0)) else (isWordD (.str x) && isArityD (.int k))) = true := h
  rw [if_pos l, Bool.and_eq_true] at h'
  have := h'.2
  simpa [PyData.eqv] using this
theorem one_pairs {ds : List PyData} (h : ∀ d ∈ ds, isNodeD d = true) : OneEach (ds.map pairD) ↔ OneEach (prsOf ds) := by
  have mem : ∀ q, q ∈ prsOf ds → q ∈ ds.map pairD := fun q hq => by
    obtain ⟨d, hd, hq⟩ := List.mem_flatMap.mp hq
    obtain ⟨x, k, rfl, _⟩ := node_shape (h d hd)
    have hq' : q ∈ (if isLeafD (.str x) = true then [] else [(x, k)]) := hq
    split at hq'
    · cases hq'
    · exact List.mem_map.mpr ⟨_, hd, (List.mem_singleton.mp hq').symm⟩
  constructor
  · exact fun o p hp q hq e => o p (mem p hp) q (mem q hq) e
  · intro o p hp q hq e
    obtain ⟨d, hd, rfl⟩ := List.mem_map.mp hp
    obtain ⟨d', hd', rfl⟩ := List.mem_map.mp hq
    have n1 := h d hd
    have n2 := h d' hd'
    obtain ⟨x, k, rfl, _⟩ := node_shape n1
    obtain ⟨y, j, rfl, _⟩ := node_shape n2
    cases (show x = y from e)
    cases l : isLeafD (.str x) with
    | true =>
      show k = j
      rw [leaf_zero n1 l, leaf_zero n2 l]
    | false =>
      refine o (x, k) (List.mem_flatMap.mpr ⟨_, hd, ?_⟩) (x, j) (List.mem_flatMap.mpr ⟨_, hd', ?_⟩) rfl
      · rw [prOf_word l]
        exact List.mem_singleton.mpr rfl
      · rw [prOf_word l]
        exact List.mem_singleton.mpr rfl
theorem term_eq {ds : List PyData} (h : ∀ d ∈ ds, isNodeD d = isLeafL d) : isTermD (.tuple ds) = isTreeL (.tuple ds) := by
  show ((decide (ds.length ≤ 40) && (ds.all isNodeD && oneTree 1 (ds.map arOf))) && decide (OneEach (prsOf ds))) = ((decide (1 ≤ ds.length) && decide (ds.length ≤ 40)) && (ds.all isLeafL && lawT [] 1 (ds.map pairD)))
  have ea : ds.all isNodeD = ds.all isLeafL := by
    induction ds with
    | nil => rfl
    | cons d ds ih => rw [List.all_cons, List.all_cons, h d List.mem_cons_self, ih fun e he => h e (List.mem_cons_of_mem _ he)]
  rw [← ea]
  cases g : ds.all isNodeD with
  | false => simp
  | true =>
    have hn : ∀ d ∈ ds, isNodeD d = true := List.all_eq_true.mp g
    have ar : ds.map arOf = (ds.map pairD).map Prod.snd := by
      rw [List.map_map]
      refine List.map_congr_left fun d hd => ?_
      obtain ⟨x, k, rfl, _⟩ := node_shape (hn d hd)
      rfl
    have pos : ∀ q ∈ ds.map pairD, 0 ≤ q.2 := fun q hq => by
      obtain ⟨d, hd, rfl⟩ := List.mem_map.mp hq
      obtain ⟨x, k, rfl, h0, _⟩ := node_shape (hn d hd)
      exact h0
    have es : okS [] (ds.map pairD) = decide (OneEach (prsOf ds)) := by
      have a := okS_iff (ds.map pairD) [] [] (fun x v => ⟨fun z => (by cases z), fun ⟨_, _, z⟩ => (by cases z)⟩) (fun p hp => by cases hp)
      rw [List.nil_append, one_pairs hn] at a
      rw [Bool.eq_iff_iff, a, decide_eq_true_eq]
    rw [lawT_eq _ _ _ (by decide) pos, ← ar, es]
    cases ds with
    | nil => rfl
    | cons d ds =>
      rw [decide_eq_true (show 1 ≤ (d :: ds).length by rw [List.length_cons]; omega), Bool.true_and, Bool.true_and, Bool.true_and, Bool.and_assoc]

def spIsMade : Sp := fun vs H Q _ => ∃ (v : V) (d : PyData), vs = [v] ∧ Dx H v d ∧ okT d = true ∧ ∀ H', Same H H' → Q (.bl (isTermD d)) H'
theorem ok__law_is_made {f : Addr} {fd : FuncData} (F : Fun K "_law_is_made" "_law_is_made" s__law_is_made f fd) (T : Txt mg) (Z : TermZ K mg c) {fd_T_init : FuncData} (G_T_init : FnOk P w K mg base (L2.CX P w) 5 c.fi fd_T_init P_T_init (spInit c)) (B_T_init : Binds K fd_T_init P_T_init []) {fd_T_len : FuncData} (G_T_len : FnOk P w K mg base CX0 1 c.fl fd_T_len P_T_len (spLenT c)) (B_T_len : Binds K fd_T_len P_T_len []) : FnOk P w K mg base CX0 7 f fd P__law_is_made spIsMade := by
  refine F.ok sc__law_is_made (fun vs H Q E h => ?_) (fun cdv A outer s H vs Q E hr h => ?_)
  · obtain ⟨v, d, rfl, _⟩ := h
    rfl
  · obtain ⟨v, d, rfl, hv, ho, q⟩ := h
    refine ⟨_, (pss_one (ps_try_only (c := .ref c.X) rfl rfl ⟨rfl, by decide, .inl Z.g_X⟩ takes0 (fun W pn xe tk _ => (pss_one (ps_ret (pe_cmpR op_eq (pe_callB (call_lenO Z.len Z.lenF G_T_len B_T_len (hr.mono (by decide))) (by rfl) T.n_len (by decide +kernel) (pa_cons (pe_makeS (E := WE W) Z.mkc G_T_init B_T_init (hr.mono (by decide)) rfl Z.g_T (passAt tk) (pa_cons (pv 0) pa_nil)) pa_nil)) (pe_callB (call_len_k (K := K) ) (by rfl) T.n_len (by decide +kernel) (pa_cons (pv 0) pa_nil)) (nomark _))))) (fun a oe cls d pn _ _ => (pss_one (ps_ret pe_bl))))), ?_⟩
    refine ⟨_, rfl, fun x dx nx ndx nxd => ?_⟩
    have s1 := mk_new (C := c.T) nx ndx
    refine ⟨x, dx, v, d, rfl, upd_same, hv.same s1, ho, fun e H2 s2 => ⟨rfl, ?_⟩, fun e H2 s2 => ?_⟩
    · cases hv with
      | @tup a xs ds ha hx =>
        have s3 := mk_same (o := .ins c.T dx [("_nodes", .ref a)]) nx ndx s2
        have ha3 := s3 _ _ ha
        refine ⟨x, dx, _, rfl, upd_same, x, dx, a, xs, rfl, upd_same, ha3, xs.length, rfl, by omega, ?_, ?_⟩
        · have l40 : ds.length ≤ 40 := by
            have z : (isTreeD (.tuple ds) && decide (OneEach (prsOf ds))) = true := e
            rw [Bool.and_eq_true] at z
            have z2 : (decide (ds.length ≤ 40) && (ds.all isNodeD && oneTree 1 (ds.map arOf))) = true := z.1
            rw [Bool.and_eq_true] at z2
            exact of_decide_eq_true z2.1
          have := hx.len
          omega
        · refine ⟨_, rfl, _, _, rfl, .inr (SqT.of ha3), rfl, ?_⟩
          rw [e] at q
          have z := q _ s3
          rw [show (true : Bool) = decide (V.int (xs.length : Int) = V.int (xs.length : Int)) from (decide_eq_true rfl).symm] at z
          exact z
      | _ => cases e
    · rw [e] at q
      refine ⟨true, Z.exm, fun _ b nb => ?_, fun z => nomatch z⟩
      exact q H2 (s1.trans s2)
/-! ### built -/
def builtD (dw : PyData) (os : List (Option (List PyData))) : Bool := os.all (·.isSome) && isTermD (.tuple (.tuple [dw, .int os.length] :: os.flatMap (·.getD [])))
theorem TermAt.same {c : Ta} {H H' : Hp} {v : V} {ds : List PyData} (s : Same H H') (h : TermAt c H v ds) : TermAt c H' v ds := by
  obtain ⟨a, dx, q, xs, rfl, h1, h2, h3⟩ := h
  exact ⟨a, dx, q, xs, rfl, s _ _ h1, s _ _ h2, h3.same s⟩
theorem ArgAt.same {c : Ta} {H H' : Hp} {v : V} (s : Same H H') : ∀ {o : Option (List PyData)}, ArgAt c H v o → ArgAt c H' v o
  | some _, h => TermAt.same s h
  | none, ⟨d, h⟩ => ⟨d, h.same s⟩
def spBuilt (c : Ta) : Sp := fun vs H Q _ => ∃ (u : V) (a : Addr) (rest : List V) (dw : PyData) (os : List (Option (List PyData))), vs = [u, .ref a] ∧ Dx H u dw ∧ okE dw = true ∧ H a = some (.lst rest) ∧ rest.length ≤ 4 ∧ Paired (ArgAt c H) rest os ∧ (∀ o ∈ os, ∀ ds, o = some ds → ds.all okN = true ∧ ds.length ≤ 40) ∧
  ∀ H', Same H H' → Q (.bl (builtD dw os)) H'
theorem ne_len {n m : Nat} (h : n ≠ m) : ¬ decide (V.int (n : Int) = V.int (m : Int)) = true := fun z => h (by have := V.int.inj (of_decide_eq_true z); omega)
theorem len2 {α : Type} : ∀ {l : List α}, l.length = 2 → ∃ a b, l = [a, b]
  | [a, b], _ => ⟨a, b, rfl⟩
theorem len3 {α : Type} : ∀ {l : List α}, l.length = 3 → ∃ a b c, l = [a, b, c]
  | [a, b, c], _ => ⟨a, b, c, rfl⟩
set_option hygiene false in
local macro_rules | `(tactic| walk_at "builtEnd") => `(tactic| (
  refine callB s3 _ _ (fun x H' s' e => ⟨rfl, ?_⟩) (fun H' s' e => ?_)
  · have z := q H' (s3.trans s')
    rw [e] at z
    exact z
  · refine ⟨true, Z.exm, fun _ b nb => ?_, fun z => nomatch z⟩
    have z := q H' (s3.trans s')
    rw [e] at z
    exact z))
theorem ok__law_is_built {f : Addr} {fd : FuncData} (F : Fun K "_law_is_built" "_law_is_built" s__law_is_built f fd) (T : Txt mg) (Z : TermZ K mg c) (G_T_build : FnR P w K mg base (L2.CX P w) 8 c.gb (fun vs H Q E => ∃ ws rest, vs = ws ++ rest ∧ ws.length = ["cls", "word"].length ∧ rest.length ≤ sizeLine ∧ ∀ p, H p = Option.none → spB0 c (ws ++ [V.ref p]) (upd H p (.tup rest)) Q E)) : FnOk P w K mg base CX0 9 f fd P__law_is_built (spBuilt c) := by
  refine F.ok sc__law_is_built (fun vs H Q E h => ?_) (fun cdv A outer s H vs Q E hr h => ?_)
  · obtain ⟨u, a, rest, dw, os, rfl, _⟩ := h
    rfl
  · obtain ⟨u, a, rest, dw, os, rfl, hu, hw, ha, hz, hos, oks, q⟩ := h
    have len : rest.length = os.length := hos.length
    have callB : ∀ {Hk : Hp}, Same H Hk → ∀ (Qk : VK) (Ek : XK), (∀ x H', Same Hk H' → builtD dw os = true → Qk (.ref x) H') → (∀ H', Same Hk H' → builtD dw os = false → Ek (.ref c.X) none H') →
        ∃ ws rest', [V.ref c.T, u] ++ rest = ws ++ rest' ∧ ws.length = ["cls", "word"].length ∧ rest'.length ≤ sizeLine ∧ ∀ p, Hk p = Option.none → spB0 c (ws ++ [V.ref p]) (upd Hk p (.tup rest')) Qk Ek := fun {Hk} sk Qk Ek y n => by
      refine ⟨[.ref c.T, u], rest, rfl, rfl, Nat.le_trans (show rest.length ≤ 100000 by omega) (by decide), fun p np => ?_⟩
      have sp := sameOf np (fun b nb => upd_ne (o := .tup rest) nb)
      refine ⟨u, p, rest, dw, os, rfl, upd_same, hu.same (sk.trans sp), hw, hz, L2.Paired.mapP hos fun v o z => ArgAt.same (sk.trans sp) z, oks, fun h1 h2 x H' s' => y x H' (sp.trans s') ?_, fun h H' s' => n H' (sp.trans s') ?_⟩
      · rw [len] at h2
        show (_ && _) = true
        rw [h2, Bool.and_true]
        exact List.all_eq_true.mpr h1
      · cases z : builtD dw os with
        | false => rfl
        | true =>
          have z' : (os.all (·.isSome) && isTermD (.tuple (.tuple [dw, .int os.length] :: os.flatMap (·.getD [])))) = true := z
          rw [Bool.and_eq_true] at z'
          exact absurd ⟨List.all_eq_true.mp z'.1, by rw [len]; exact z'.2⟩ h
    refine ⟨_, (pss_cons (ps_set (i := 2) sc__law_is_built.nd rfl (Or.inl rfl) (pe_op op_cat (pe_callTy call_list_of (by rfl) T.n_list (by decide +kernel) (pa_cons (pv 1) pa_nil)) (pe_lst (pa_cons pe_non (pa_cons pe_non (pa_cons pe_non (pa_cons pe_non pa_nil)))))))
      (pss_one (ps_try_only (c := .ref c.X) rfl rfl ⟨rfl, by decide, .inl Z.g_X⟩ takes0 (fun W pn xe tk _ => (pss_cons (ps_if (pt_cmpR op_eq (pe_callB (call_len_k (K := K) ) (by rfl) T.n_len (by decide +kernel) (pa_cons (pv 1) pa_nil)) pe_int (nomark _)) (pss_one (ps_ret (pe_cmpR op_notN (pe_cmethS (E := WE W) (pe_glob (v := .ref c.T) rfl Z.g_T rfl) Z.read Z.met G_T_build (hr.mono (by decide)) (passAt tk) (pa_cons (pv 0) pa_nil)) pe_non (nomark _)))) pss_nil)
      (pss_cons (ps_if (pt_cmpR op_eq (pe_callB (call_len_k (K := K) ) (by rfl) T.n_len (by decide +kernel) (pa_cons (pv 1) pa_nil)) pe_int (nomark _)) (pss_one (ps_ret (pe_cmpR op_notN (pe_cmethS (E := WE W) (pe_glob (v := .ref c.T) rfl Z.g_T rfl) Z.read Z.met G_T_build (hr.mono (by decide)) (passAt tk) (pa_cons (pv 0) (pa_cons (pe_ix (ix_list_k (K := K) ) (pv 2) pe_int (fun _ _ => rfl)) pa_nil))) pe_non (nomark _)))) pss_nil)
      (pss_cons (ps_if (pt_cmpR op_eq (pe_callB (call_len_k (K := K) ) (by rfl) T.n_len (by decide +kernel) (pa_cons (pv 1) pa_nil)) pe_int (nomark _)) (pss_one (ps_ret (pe_cmpR op_notN (pe_cmethS (E := WE W) (pe_glob (v := .ref c.T) rfl Z.g_T rfl) Z.read Z.met G_T_build (hr.mono (by decide)) (passAt tk) (pa_cons (pv 0) (pa_cons (pe_ix (ix_list_k (K := K) ) (pv 2) pe_int (fun _ _ => rfl)) (pa_cons (pe_ix (ix_list_k (K := K) ) (pv 2) pe_int (fun _ _ => rfl)) pa_nil)))) pe_non (nomark _)))) pss_nil)
      (pss_cons (ps_if (pt_cmpR op_eq (pe_callB (call_len_k (K := K) ) (by rfl) T.n_len (by decide +kernel) (pa_cons (pv 1) pa_nil)) pe_int (nomark _)) (pss_one (ps_ret (pe_cmpR op_notN (pe_cmethS (E := WE W) (pe_glob (v := .ref c.T) rfl Z.g_T rfl) Z.read Z.met G_T_build (hr.mono (by decide)) (passAt tk) (pa_cons (pv 0) (pa_cons (pe_ix (ix_list_k (K := K) ) (pv 2) pe_int (fun _ _ => rfl)) (pa_cons (pe_ix (ix_list_k (K := K) ) (pv 2) pe_int (fun _ _ => rfl)) (pa_cons (pe_ix (ix_list_k (K := K) ) (pv 2) pe_int (fun _ _ => rfl)) pa_nil))))) pe_non (nomark _)))) pss_nil)
      (pss_one (ps_ret (pe_cmpR op_notN (pe_cmethS (E := WE W) (pe_glob (v := .ref c.T) rfl Z.g_T rfl) Z.read Z.met G_T_build (hr.mono (by decide)) (passAt tk) (pa_cons (pv 0) (pa_cons (pe_ix (ix_list_k (K := K) ) (pv 2) pe_int (fun _ _ => rfl)) (pa_cons (pe_ix (ix_list_k (K := K) ) (pv 2) pe_int (fun _ _ => rfl)) (pa_cons (pe_ix (ix_list_k (K := K) ) (pv 2) pe_int (fun _ _ => rfl)) (pa_cons (pe_ix (ix_list_k (K := K) ) (pv 2) pe_int (fun _ _ => rfl)) pa_nil)))))) pe_non (nomark _))))))))) (fun a oe cls d pn _ _ => (pss_one (ps_ret pe_bl)))))), ?_⟩
    refine ⟨_, rfl, _, _, rfl, .inl (SqL.of ha), fun p1 n1 => ?_⟩
    generalize g1 : upd _ p1 _ = H1; obtain ⟨e1, o1, t1⟩ := made n1 g1; clear g1
    refine ⟨(szr rfl), fun p2 n2 => ?_⟩
    generalize g2 : upd _ p2 _ = H2; obtain ⟨e2, o2, t2⟩ := made n2 g2; clear g2
    refine ⟨_, _, _, _, rfl, rfl, (o2 _ (ne_of_none t1 n2)).trans t1, t2, Nat.le_trans (show rest.length + 4 ≤ 100000 by omega) (by decide), fun p3 n3 => ?_⟩
    generalize g3 : upd _ p3 _ = H3; obtain ⟨e3, o3, t3⟩ := made n3 g3; clear g3
    have s3 := ((sameOf n1 o1).trans (sameOf n2 o2)).trans (sameOf n3 o3)
    have ha3 := SqL.of (K := K) (s3 _ _ ha)
    have hr3 := SqL.of (K := K) t3
    refine ⟨_, rfl, _, _, rfl, .inl ha3, rfl, _, rfl, ?_⟩
    refine ite2 (fun g => ?_) (fun g => ?_)
    · obtain rfl : rest = [] := List.length_eq_zero_iff.mp (by have := V.int.inj (of_decide_eq_true g); omega)
      refine ⟨rfl, _, rfl, ?_⟩
      walk_at "builtEnd"
    · have g0 : rest.length ≠ 0 := fun z => g (decide_eq_true (by rw [z]; rfl))
      refine ⟨_, rfl, _, _, rfl, .inl ha3, rfl, _, rfl, ?_⟩
      refine ite2 (fun g => ?_) (fun g => ?_)
      · obtain ⟨v0, rfl⟩ := List.length_eq_one_iff.mp (show rest.length = 1 by have := V.int.inj (of_decide_eq_true g); omega)
        refine ⟨rfl, _, rfl, _, rfl, _, _, _, _, rfl, rfl, hr3, rfl, ?_⟩
        walk_at "builtEnd"
      · have g1 : rest.length ≠ 1 := fun z => g (decide_eq_true (by rw [z]; rfl))
        refine ⟨_, rfl, _, _, rfl, .inl ha3, rfl, _, rfl, ?_⟩
        refine ite2 (fun g => ?_) (fun g => ?_)
        · obtain ⟨v0, v1, rfl⟩ := len2 (show rest.length = 2 by have := V.int.inj (of_decide_eq_true g); omega)
          refine ⟨rfl, _, rfl, _, rfl, _, _, _, _, rfl, rfl, hr3, rfl, _, rfl, _, _, _, _, rfl, rfl, hr3, rfl, ?_⟩
          walk_at "builtEnd"
        · have g2 : rest.length ≠ 2 := fun z => g (decide_eq_true (by rw [z]; rfl))
          refine ⟨_, rfl, _, _, rfl, .inl ha3, rfl, _, rfl, ?_⟩
          refine ite2 (fun g => ?_) (fun g => ?_)
          · obtain ⟨v0, v1, v2, rfl⟩ := len3 (show rest.length = 3 by have := V.int.inj (of_decide_eq_true g); omega)
            refine ⟨rfl, _, rfl, _, rfl, _, _, _, _, rfl, rfl, hr3, rfl, _, rfl, _, _, _, _, rfl, rfl, hr3, rfl, _, rfl, _, _, _, _, rfl, rfl, hr3, rfl, ?_⟩
            walk_at "builtEnd"
          · have g3 : rest.length ≠ 3 := fun z => g (decide_eq_true (by rw [z]; rfl))
            obtain ⟨v0, v1, v2, v3, rfl⟩ : ∃ v0 v1 v2 v3, rest = [v0, v1, v2, v3] := by
              match rest, hz, g0, g1, g2, g3 with
              | [], _, h, _, _, _ => exact absurd rfl h
              | [_], _, _, h, _, _ => exact absurd rfl h
              | [_, _], _, _, _, h, _ => exact absurd rfl h
              | [_, _, _], _, _, _, _, h => exact absurd rfl h
              | [v0, v1, v2, v3], _, _, _, _, _ => exact ⟨v0, v1, v2, v3, rfl⟩
              | _ :: _ :: _ :: _ :: _ :: _, h, _, _, _, _ => simp at h
            refine ⟨rfl, _, rfl, _, rfl, _, _, _, _, rfl, rfl, hr3, rfl, _, rfl, _, _, _, _, rfl, rfl, hr3, rfl, _, rfl, _, _, _, _, rfl, rfl, hr3, rfl, _, rfl, _, _, _, _, rfl, rfl, hr3, rfl, ?_⟩
            walk_at "builtEnd"
/-! ### terms built of drawn words and terms -/
def wordD : List PyData := [.str "a", .str "f", .str "k", .str "cons", .str "g", .str "_", .str "#", .str "A", .str "", .none, .int 0]
theorem word_tab : ∀ w ∈ wordD, okE w = true ∧ okX (.tuple [w, .int 0]) = true ∧ ∀ n ∈ [0, 1, 2, 3, 4], isNodeD (.tuple [w, .int (n : Nat)]) = isLeafL (.tuple [w, .int (n : Nat)]) ∧ okX (.tuple [w, .int (n : Nat)]) = true := by decide +kernel
theorem words_same : ∀ p ∈ wordsT, isNodeD (.tuple [.str p.1, .int (p.2 : Nat)]) = isLeafL (.tuple [.str p.1, .int (p.2 : Nat)]) ∧ okX (.tuple [.str p.1, .int (p.2 : Nat)]) = true := by decide +kernel
theorem nodes_free {n : Nat} {d : PyData} (h : IsT n d) : listfreeAll (nodesT n d) = true ∧ dictfreeAll (nodesT n d) = true := by
  have z : ∀ {es : List PyData}, (∀ e ∈ es, ∃ p ∈ wordsT, e = .tuple [.str p.1, .int (p.2 : Nat)]) → listfreeAll es = true ∧ dictfreeAll es = true := fun {es} he => by
    induction es with
    | nil => exact ⟨rfl, rfl⟩
    | cons e es ih =>
      obtain ⟨p, _, rfl⟩ := he e List.mem_cons_self
      obtain ⟨a, b⟩ := ih fun x hx => he x (List.mem_cons_of_mem _ hx)
      refine ⟨?_, ?_⟩
      · simp [listfreeAll, listfree, a]
      · simp [dictfreeAll, dictfree, b]
  exact z (nodes_mem h)
/-- a term stands where all but a list stays -/
theorem TermAt.keep {c : Ta} {H H' : Hp} {v : V} {n : Nat} {d : PyData} {D : Addr} {zs : List V} (hD : H D = some (.lst zs)) (k : ∀ b o, b ≠ D → H b = some o → H' b = some o) (isT : IsT n d) (h : TermAt c H v (nodesT n d)) : TermAt c H' v (nodesT n d) := by
  obtain ⟨a, dx, q, xs, rfl, h1, h2, h3⟩ := h
  have fr := nodes_free isT
  refine ⟨a, dx, q, xs, rfl, k _ _ (fun z => by subst z; rw [hD] at h1; cases h1) h1, k _ _ (fun z => by subst z; rw [hD] at h2; cases h2) h2, dxAll_tk (fun b ys e => k _ _ (fun z => by subst z; rw [hD] at e; cases e) e) h3 fr.1 fr.2⟩
def oddA : List PyData := [.none, .int 0, .str "a", .tuple [.str "a", .int 0], .tuple [.tuple [.str "a", .int 0]], .list [], .dict []]
theorem some_flat {ds : List PyData} : ((ds.map fun d => some (nodesT 3 d)).flatMap (·.getD [])) = ds.flatMap (nodesT 3) := by
  induction ds with
  | nil => rfl
  | cons d ds ih => rw [List.map_cons, List.flatMap_cons, List.flatMap_cons, ih]; rfl
theorem paired_drop {α β : Type} {R : α → β → Prop} : ∀ {a : List α} {b : List β} (n : Nat), Paired R a b → Paired R (a.drop n) (b.drop n)
  | _, _, 0, h => h
  | _, _, _ + 1, .nil => .nil
  | _, _, n + 1, .cons _ t => paired_drop n t
theorem odd_nodice : ∀ d ∈ oddA, nodice d = true := by decide +kernel
def spBR : Sp := fun vs H Q _ => ∃ (p : Addr), vs = [.ref p] ∧ Dc H p ∧ ∀ H', But p H H' → Dc H' p → Q (.bl true) H'
theorem ok__law_built_right {f : Addr} {fd : FuncData} (F : Fun K "_law_built_right" "_law_built_right" s__law_built_right f fd) (T : Txt mg) (Z : TermZ K mg c) {f__law_roll : Addr} {fd__law_roll : FuncData} (G__law_roll : FnOk P w K mg base CX0 1 f__law_roll fd__law_roll P__law_roll spRoll) (C__law_roll : Cal K mg "_law_roll" f__law_roll fd__law_roll P__law_roll) {f__law_pick : Addr} {fd__law_pick : FuncData} (G__law_pick : FnOk P w K mg base CX0 2 f__law_pick fd__law_pick P__law_pick (spPick K)) (C__law_pick : Cal K mg "_law_pick" f__law_pick fd__law_pick P__law_pick) {f__law_drawn_term : Addr} {fd__law_drawn_term : FuncData} (G__law_drawn_term : FnOk P w K mg base CX0 8 f__law_drawn_term fd__law_drawn_term P__law_drawn_term spDrawn) (C__law_drawn_term : Cal K mg "_law_drawn_term" f__law_drawn_term fd__law_drawn_term P__law_drawn_term) {f__law_nodes : Addr} {fd__law_nodes : FuncData} (G__law_nodes : FnOk P w K mg base CX0 5 f__law_nodes fd__law_nodes P__law_nodes (fun vs H Q E => ∃ n, n ≤ 4 ∧ spNodesL n vs H Q E)) (C__law_nodes : Cal K mg "_law_nodes" f__law_nodes fd__law_nodes P__law_nodes) {f__law_made_term : Addr} {fd__law_made_term : FuncData} (G__law_made_term : FnOk P w K mg base CX0 7 f__law_made_term fd__law_made_term P__law_made_term (spMade c)) (C__law_made_term : Cal K mg "_law_made_term" f__law_made_term fd__law_made_term P__law_made_term) {f__law_is_built : Addr} {fd__law_is_built : FuncData} (G__law_is_built : FnOk P w K mg base CX0 9 f__law_is_built fd__law_is_built P__law_is_built (spBuilt c)) (C__law_is_built : Cal K mg "_law_is_built" f__law_is_built fd__law_is_built P__law_is_built) {f__law_is_tree : Addr} {fd__law_is_tree : FuncData} (G__law_is_tree : FnOk P w K mg base CX0 3 f__law_is_tree fd__law_is_tree P__law_is_tree spTreeL) (C__law_is_tree : Cal K mg "_law_is_tree" f__law_is_tree fd__law_is_tree P__law_is_tree) : FnOk P w K mg base CX0 10 f fd P__law_built_right spBR := by
  refine F.ok sc__law_built_right (fun vs H Q E h => ?_) (fun cdv A outer s H vs Q E hr h => ?_)
  · obtain ⟨p, rfl, _⟩ := h
    rfl
  · obtain ⟨p, rfl, hd, q⟩ := h
    refine ⟨_, (pss_cons (ps_setLc (i := 1) (own := [("_law_turn", 2)]) (g := gName 2) (tt := tYes) rfl sc__law_built_right.nd rfl rfl (sw_true rfl rfl rfl (by decide +kernel)) (pi_range1 (by rfl) T.n_range (pa_cons (pe_call G__law_roll (hr.mono (by decide)) rfl C__law_roll.m C__law_roll.k C__law_roll.b .nil pass0 (pa_cons (pv 0) (pa_cons pe_int pa_nil))) pa_nil)) (blkOk_by (own := [("_law_turn", 2)]) (N := ["_law_dice_here", "_law_args", "_law_turn", "_law_word", "_law_nodes_here", "_law_one", "_law_made", "_law_odd"]) (sc := (defScope s__law_built_right)) (by decide +kernel)) (fun _ _ _ _ _ => (pg_name (i := 2) sc__law_built_right.nd rfl (Or.inl rfl))) (fun _ _ _ _ _ => pts_nil) (fun _ _ _ _ _ => (pe_call G__law_drawn_term (hr.mono (by decide)) rfl C__law_drawn_term.m C__law_drawn_term.k C__law_drawn_term.b .nil pass0 (pa_cons (pv 0) (pa_cons pe_int pa_nil)))))
      (pss_cons (ps_set (i := 3) sc__law_built_right.nd rfl (Or.inl rfl) (pe_call G__law_pick (hr.mono (by decide)) rfl C__law_pick.m C__law_pick.k C__law_pick.b .nil pass0 (pa_cons (pv 0) (pa_cons (pe_lst (pa_cons pe_str (pa_cons pe_str (pa_cons pe_str (pa_cons pe_str (pa_cons pe_str (pa_cons pe_str (pa_cons pe_str (pa_cons pe_str (pa_cons pe_str (pa_cons pe_non (pa_cons pe_int pa_nil)))))))))))) pa_nil))))
      (pss_cons (ps_set (i := 4) sc__law_built_right.nd rfl (Or.inl rfl) (pe_lst (pa_cons (pe_tup (pa_cons (pv 3) (pa_cons (pe_callB call_len_seq (by rfl) T.n_len (by decide +kernel) (pa_cons (pv 1) pa_nil)) pa_nil))) pa_nil)))
      (pss_cons (ps_for PassesOwn.never rfl (pi_list (pv 1)) (pg_name (i := 5) sc__law_built_right.nd rfl (Or.inl rfl)) (pss_one (ps_set (i := 4) sc__law_built_right.nd rfl (Or.inl rfl) (pe_op op_cat (pv 4) (pe_call G__law_nodes (hr.mono (by decide)) rfl C__law_nodes.m C__law_nodes.k C__law_nodes.b .nil pass0 (pa_cons (pv 5) pa_nil))))))
      (pss_cons (ps_setLc (i := 6) (own := [("_law_one", 5)]) (g := gName 5) (tt := tYes) rfl sc__law_built_right.nd rfl rfl (sw_true rfl rfl rfl (by decide +kernel)) (pi_list (pv 1)) (blkOk_by (own := [("_law_one", 5)]) (N := ["_law_dice_here", "_law_args", "_law_turn", "_law_word", "_law_nodes_here", "_law_one", "_law_made", "_law_odd"]) (sc := (defScope s__law_built_right)) (by decide +kernel)) (fun _ _ _ _ _ => (pg_name (i := 5) sc__law_built_right.nd rfl (Or.inl rfl))) (fun _ _ _ _ _ => pts_nil) (fun _ _ _ _ _ => (pe_call G__law_made_term (hr.mono (by decide)) rfl C__law_made_term.m C__law_made_term.k C__law_made_term.b .nil pass0 (pa_cons (pv 5) pa_nil))))
      (pss_cons (ps_if (pt_cmpR op_ne (pe_call G__law_is_built (hr.mono (by decide)) rfl C__law_is_built.m C__law_is_built.k C__law_is_built.b .nil pass0 (pa_cons (pv 3) (pa_cons (pv 6) pa_nil))) (pe_call G__law_is_tree (hr.mono (by decide)) rfl C__law_is_tree.m C__law_is_tree.k C__law_is_tree.b .nil pass0 (pa_cons (pe_callTy call_tuple_of (by rfl) T.n_tuple (by decide +kernel) (pa_cons (pv 4) pa_nil)) pa_nil)) (nomark _)) (pss_one (ps_ret pe_bl)) pss_nil)
      (pss_cons (ps_set (i := 7) sc__law_built_right.nd rfl (Or.inl rfl) (pe_call G__law_pick (hr.mono (by decide)) rfl C__law_pick.m C__law_pick.k C__law_pick.b .nil pass0 (pa_cons (pv 0) (pa_cons (pe_lst (pa_cons pe_non (pa_cons pe_int (pa_cons pe_str (pa_cons (pe_tup (pa_cons pe_str (pa_cons pe_int pa_nil))) (pa_cons (pe_tup (pa_cons (pe_tup (pa_cons pe_str (pa_cons pe_int pa_nil))) pa_nil)) (pa_cons (pe_lst pa_nil) (pa_cons pe_dnewK pa_nil)))))))) pa_nil))))
      (pss_one (ps_ret (pe_not (pe_call G__law_is_built (hr.mono (by decide)) rfl C__law_is_built.m C__law_is_built.k C__law_is_built.b .nil pass0 (pa_cons pe_str (pa_cons (pe_op op_cat (pe_slice sl_list (pv 6) po_none (po_some pe_int)) (pe_lst (pa_cons (pv 7) pa_nil))) pa_nil))))))))))))), ?_⟩
    refine ⟨_, rfl, p, 5, rfl, hd, by decide, by decide, fun r H1 r0 r1 e1 o1 d1 => ?_⟩
    refine ⟨_, rfl, by omega, by omega, fun D hD => ?_⟩
    have Dp : D ≠ p := fun z => by
      rw [z] at hD
      exact d1.ne hD rfl
    refine lc_range (lo := 0) (n := r.toNat) (fun i H' => But p H1 H' ∧ Dc H' p ∧ ∃ ws ds, H' D = some (.lst ws) ∧ DxAll H' ws ds ∧ ds.length = i ∧ ∀ e ∈ ds, IsT 3 e) ⟨But.ofS (sameOf hD fun b hb => upd_ne hb), d1.same (sameOf hD fun b hb => upd_ne hb), [], [], upd_same, .nil, rfl, fun e he => by cases he⟩ ?_ ?_
    · rintro i H2 hi ⟨b2, d2, ws, ds, hws, hdx, len, hT⟩
      refine ⟨rfl, ?_⟩
      refine ⟨_, rfl, p, 3, rfl, by decide, by decide, d2, fun v d H3 b3 d3 dx isT => ?_⟩
      have hw3 := But.at hws Dp b3
      have tk : ∀ (b : Addr) (xs : List V), H3 b = some (.tup xs) → (L2.upd H3 D (.lst (ws ++ [v]))) b = some (.tup xs) := fun b xs e => by
        rw [upd_ne (fun z => by rw [z, hw3] at e; cases e)]
        exact e
      refine ⟨_, hw3, szlt (by rw [hdx.len, len]; omega), ?_, Dc.upd d3 (Ne.symm Dp), ws ++ [v], ds ++ [d], upd_same, (dxTs tk hT (dxTs (But.tup d2 b3) hT hdx)).app (.cons (dxT tk isT dx) .nil), by rw [List.length_append, len]; rfl, fun e he => (List.mem_append.mp he).elim (hT e) (fun z => List.mem_singleton.mp z ▸ isT)⟩
      intro b o nb e
      rw [upd_ne (ne_of_none e hD)]
      exact (b2.trans b3) b o nb e
    · rintro H2 ⟨b2, d2, ws, ds, hws, hdx, len, hT⟩
      have l4 : ds.length ≤ 4 := by omega
      have lw : ws.length = ds.length := hdx.len
      have b02 : But p H H2 := (But.of1 o1).trans b2
      refine ⟨_, rfl, (szr rfl), fun p1 n1 => ?_⟩
      generalize g1 : L2.upd _ p1 _ = H3; obtain ⟨e3, o3, t3⟩ := made n1 g1; clear g1
      have s3 := sameOf n1 o3
      have d3 := d2.same s3
      have n1p : p1 ≠ p := fun z => d2.ne n1 z.symm
      refine ⟨p, p1, _, rfl, d3, (pick_l t3 n1p).1, (pick_l t3 n1p).2, Nat.zero_lt_succ _, (show (11 : Nat) < 1000000 by decide), fun i u H4 hu e4 o4 d4 => ?_⟩
      obtain ⟨dw, hdw, xdw⟩ : ∃ dw ∈ wordD, ∀ G, Dx G u dw := by
        have z : ∀ G, DxAll G [.str "a", .str "f", .str "k", .str "cons", .str "g", .str "_", .str "#", .str "A", .str "", .non, .int 0] wordD := fun G => .cons (.str _) (.cons (.str _) (.cons (.str _) (.cons (.str _) (.cons (.str _) (.cons (.str _) (.cons (.str _) (.cons (.str _) (.cons (.str _) (.cons .non (.cons (.int _) .nil))))))))))
        obtain ⟨dw, h1, _⟩ := (z H).get hu
        refine ⟨dw, List.mem_of_getElem? h1, fun G => ?_⟩
        obtain ⟨dw', h1', h2'⟩ := (z G).get hu
        rw [h1] at h1'
        rw [Option.some.inj h1']
        exact h2'
      have wt := word_tab dw hdw
      have b24 : But p H2 H4 := (But.ofS s3).trans (But.of1 o4)
      have hw4 := But.at hws Dp b24
      have hdx4 := dxTs (But.tup d2 b24) hT hdx
      have b04 := b02.trans b24
      refine ⟨_, rfl, _, rfl, _, _, rfl, .inl (SqL.of hw4), (szr rfl), fun p2 n2 => ?_⟩
      generalize g2 : L2.upd _ p2 _ = H5; obtain ⟨e5, o5, t5⟩ := made n2 g2; clear g2
      refine ⟨(szr rfl), fun p3 n3 => ?_⟩
      generalize g3 : L2.upd _ p3 _ = H6; obtain ⟨e6, o6, t6⟩ := made n3 g3; clear g3
      have s46 := (sameOf n2 o5).trans (sameOf n3 o6)
      have hw6 := s46 _ _ hw4
      refine ⟨_, rfl, _, rfl, ⟨_, SqL.of hw6⟩, ?_⟩
      refine for_list (K := K) (xs := ws) (fun i σ H' => Same H4 H' ∧ ∃ (r : Addr) (zs : List V) (a5 : Option V), σ = [some (.ref p), some (.ref D), none, some u, some (.ref r), a5, none, none] ∧ H' r = some (.lst zs) ∧ DxAll H' zs (.tuple [dw, .int ds.length] :: (ds.take i).flatMap (nodesT 3)))
        ⟨s46, p3, _, none, rfl, t6, .cons (.tup ((sameOf n3 o6) _ _ t5) (.cons (xdw _) (.cons (by rw [lw]; exact .int _) .nil))) .nil⟩ (fun i σ H' _ h => SqL.of (h.1 _ _ hw4)) ?_ ?_
      · rintro i y σ H7 hi ⟨s7, rr, zs, a5, rfl, hrr, hz⟩
        obtain ⟨d, hdd, xd⟩ := hdx4.get hi
        have isT := hT d (List.mem_of_getElem? hdd)
        have i4 : i < 4 := by
          have := (List.getElem?_eq_some_iff.mp hdd).1
          omega
        refine ⟨_, rfl, _, rfl, ?_⟩
        refine ⟨3, by decide, y, d, rfl, xd.same s7, isT, by decide, fun p4 us H8 s8 n4 h4 hus => ?_⟩
        have lz : zs.length ≤ 1 + 4 * 13 := by
          rw [hz.len, List.length_cons]
          have := flat_len (ds := ds.take i) (f := nodesT 3) (b := 13) fun e he => nodes_len (hT e (List.mem_of_mem_take he))
          rw [List.length_take] at this
          omega
        have lu : us.length ≤ 13 := by
          rw [hus.len]
          exact nodes_len isT
        refine ⟨_, _, _, _, rfl, rfl, s8 _ _ hrr, h4, Nat.le_trans (show zs.length + us.length ≤ 100000 by omega) (by decide), fun p5 n5 => ?_⟩
        generalize g5 : L2.upd _ p5 _ = H9; obtain ⟨e9, o9, t9⟩ := made n5 g5; clear g5
        have s9 := sameOf n5 o9
        refine ⟨(s7.trans s8).trans s9, p5, _, _, rfl, t9, ?_⟩
        rw [List.take_add_one, hdd, List.flatMap_append]
        have ap := ((hz.same s8).same s9).app (hus.same s9)
        simpa using ap
      · rintro σ H7 ⟨s7, rr, zs, a5, rfl, hrr, hz⟩
        rw [lw, List.take_length] at hz
        have d7 := d4.same s7
        have hw7 := s7 _ _ hw4
        refine ⟨_, rfl, _, rfl, ⟨_, SqL.of hw7⟩, fun E hE => ?_⟩
        refine lc_list (K := K) (xs := ws) (fun i H' => Same H7 H' ∧ ∃ ms, H' E = some (.lst ms) ∧ Paired (fun v d => TermAt c H' v (nodesT 3 d)) ms (ds.take i)) ⟨sameOf hE (fun b hb => upd_ne hb), [], upd_same, .nil⟩ (fun i H' _ z => SqL.of (z.1 _ _ hw7)) ?_ ?_
        · rintro i y H8 hi ⟨s8, ms, hms, hpm⟩
          obtain ⟨d, hdd, xd⟩ := hdx4.get hi
          have isT := hT d (List.mem_of_getElem? hdd)
          have i4 : i < 4 := by
            have := (List.getElem?_eq_some_iff.mp hdd).1
            omega
          refine ⟨rfl, ?_⟩
          refine ⟨_, rfl, y, 3, d, rfl, xd.same (s7.trans s8), isT, by decide, fun x H9 s9 tx => ?_⟩
          have hm9 := s9 _ _ hms
          have lm : ms.length ≤ 4 := by
            rw [hpm.length, List.length_take]
            omega
          have kE : ∀ b o, b ≠ E → H9 b = some o → L2.upd H9 E (.lst (ms ++ [x])) b = some o := fun b o nb e => by
            rw [upd_ne nb]
            exact e
          refine ⟨_, hm9, szlt (by omega), fun b o e => ?_, ms ++ [x], upd_same, ?_⟩
          · rw [upd_ne (ne_of_none e hE)]
            exact s9 _ _ (s8 _ _ e)
          · rw [List.take_add_one, hdd]
            refine paired_app (paired_memr hpm fun v d' hd' z => TermAt.keep hm9 kE (hT d' (List.mem_of_mem_take hd')) (TermAt.same s9 z)) (.cons (TermAt.keep hm9 kE isT tx) .nil)
        · rintro H8 ⟨s8, ms, hms, hpm⟩
          rw [lw, List.take_length] at hpm
          have lm : ms.length = ds.length := hpm.length
          have osL : (ds.map fun d => some (nodesT 3 d)).length = ds.length := List.length_map _
          have n04 : ds.length ∈ [0, 1, 2, 3, 4] := by
            match ds.length, l4 with
            | 0, _ => decide
            | 1, _ => decide
            | 2, _ => decide
            | 3, _ => decide
            | 4, _ => decide
          have wn := wt.2.2 _ n04
          have allN : ∀ e ∈ (.tuple [dw, .int ds.length] :: ds.flatMap (nodesT 3) : List PyData), isNodeD e = isLeafL e ∧ okX e = true := fun e he => by
            rcases List.mem_cons.mp he with rfl | he
            · exact wn
            · obtain ⟨d, hd1, he⟩ := List.mem_flatMap.mp he
              obtain ⟨pp, hp, rfl⟩ := nodes_mem (hT d hd1) e he
              exact words_same pp hp
          have bT : builtD dw (ds.map fun d => some (nodesT 3 d)) = isTreeL (.tuple (.tuple [dw, .int ds.length] :: ds.flatMap (nodesT 3))) := by
            rw [← term_eq fun e he => (allN e he).1]
            unfold builtD
            rw [osL, some_flat, List.all_eq_true.mpr (fun o ho => by obtain ⟨d, _, rfl⟩ := List.mem_map.mp ho; rfl), Bool.true_and]
          have oks : ∀ o ∈ (ds.map fun d => some (nodesT 3 d)), ∀ es, o = some es → es.all okN = true ∧ es.length ≤ 40 := fun o ho es e => by
            obtain ⟨d, hd1, rfl⟩ := List.mem_map.mp ho
            cases e
            exact (term_ok (hT d hd1) (by decide)).2
          have hargs : Paired (ArgAt c H8) ms (ds.map fun d => some (nodesT 3 d)) := paired_r (f := fun d => some (nodesT 3 d)) (S := fun v o => ArgAt c H8 v o) (fun v d z => z) hpm
          refine ⟨_, rfl, _, rfl, ?_⟩
          refine ⟨u, E, ms, dw, _, rfl, xdw _, wt.1, hms, by omega, hargs, oks, fun H9 s9 => ?_⟩
          rw [bT]
          have s79 := s8.trans s9
          refine ⟨_, rfl, _, _, rfl, .inl ⟨SqL.of (s79 _ _ hrr), fun p5 n5 => ?_⟩⟩
          generalize g5 : L2.upd _ p5 _ = H10; obtain ⟨e10, o10, t10⟩ := made n5 g5; clear g5
          have s10 := sameOf n5 o10
          refine ⟨.ref p5, _, rfl, .tup t10 (hz.same (s79.trans s10)), List.all_eq_true.mpr fun e he => (allN e he).2, fun H11 s11 => ?_⟩
          refine ⟨rfl, _, rfl, ?_⟩
          refine ite2 (fun g => ?_) (fun g => ?_)
          · exfalso
            have g' : (!decide (V.bl (isTreeL (.tuple (.tuple [dw, .int ds.length] :: ds.flatMap (nodesT 3)))) = V.bl (isTreeL (.tuple (.tuple [dw, .int ds.length] :: ds.flatMap (nodesT 3)))))) = true := g
            rw [decide_eq_true rfl] at g'
            cases g'
          · have s8B := (s9.trans s10).trans s11
            have d11 := d7.same (s8.trans s8B)
            have hm11 := s8B _ _ hms
            have hp11 : Paired (fun v d => TermAt c H11 v (nodesT 3 d)) ms ds := L2.Paired.mapP hpm fun v d z => TermAt.same s8B z
            have b11 := b04.trans (But.ofS (s7.trans (s8.trans s8B)))
            refine ⟨_, rfl, (szr rfl), fun p6 n6 => ?_⟩
            generalize g6 : L2.upd _ p6 _ = J1; obtain ⟨f1, j1, y1⟩ := made n6 g6; clear g6
            refine ⟨(szr rfl), fun p7 n7 => ?_⟩
            generalize g7 : L2.upd _ p7 _ = J2; obtain ⟨f2, j2, y2⟩ := made n7 g7; clear g7
            refine ⟨(szr rfl), fun p8 n8 => ?_⟩
            generalize g8 : L2.upd _ p8 _ = J3; obtain ⟨f3, j3, y3⟩ := made n8 g8; clear g8
            refine ⟨(szr rfl), fun p9 n9 => ?_⟩
            generalize g9 : L2.upd _ p9 _ = J4; obtain ⟨f4, j4, y4⟩ := made n9 g9; clear g9
            refine fun p10 n10 => ?_
            generalize g10 : L2.upd _ p10 _ = J5; obtain ⟨f5, j5, y5⟩ := made n10 g10; clear g10
            refine ⟨(szr rfl), fun p11 n11 => ?_⟩
            generalize g11 : L2.upd _ p11 _ = J6; obtain ⟨f6, j6, y6⟩ := made n11 g11; clear g11
            have v6 := sameOf n11 j6
            have v5 := (sameOf n10 j5).trans v6
            have v4 := (sameOf n9 j4).trans v5
            have v3 := (sameOf n8 j3).trans v4
            have v2 := (sameOf n7 j2).trans v3
            have v1 := (sameOf n6 j1).trans v2
            have odd : DxAll J6 [.non, .int 0, .str "a", .ref p6, .ref p8, .ref p9, .ref p10] oddA :=
              .cons .non (.cons (.int _) (.cons (.str _) (.cons (.tup (v2 _ _ y1) (.cons (.str _) (.cons (.int _) .nil))) (.cons (.tup (v4 _ _ y3) (.cons (.tup (v3 _ _ y2) (.cons (.str _) (.cons (.int _) .nil))) .nil)) (.cons (.lst (v5 _ _ y4) .nil) (.cons (.dct (v6 _ _ y5)) .nil))))))
            have dJ := d11.same v1
            have p11p : p11 ≠ p := fun z => (d11.same ((sameOf n6 j1).trans ((sameOf n7 j2).trans ((sameOf n8 j3).trans ((sameOf n9 j4).trans (sameOf n10 j5)))))).ne n11 z.symm
            refine ⟨p, p11, _, rfl, dJ, (pick_l y6 p11p).1, (pick_l y6 p11p).2, Nat.zero_lt_succ _, (show (7 : Nat) < 1000000 by decide), fun i2 one J7 hone e7 o7 dJ7 => ?_⟩
            obtain ⟨d1', hd1', xd1⟩ := odd.get hone
            have xd7 : Dx J7 one d1' := Dx.but dJ (But.of1 o7) xd1 (odd_nodice _ (List.mem_of_getElem? hd1'))
            obtain ⟨x0, x1, x2, hdJ⟩ := id dJ
            have mP7 : Paired (fun v d => TermAt c J7 v (nodesT 3 d)) ms ds := paired_memr hp11 fun v d hd2 z => TermAt.keep hdJ (fun b o nb e => (o7 b nb).trans e) (hT d hd2) (TermAt.same v1 z)
            have Ep : E ≠ p := fun z => by
              rw [z] at hE
              exact d7.ne hE rfl
            have hm7 : J7 E = some (.lst ms) := (o7 E Ep).trans (v1 _ _ hm11)
            refine ⟨_, rfl, _, rfl, E, ms, rfl, SqL.of hm7, fun c1 nc1 => ?_⟩
            generalize gc1 : L2.upd _ c1 _ = J8; obtain ⟨ec1, oc1, tc1⟩ := made nc1 gc1; clear gc1
            refine ⟨_, rfl, (szr rfl), fun c2 nc2 => ?_⟩
            generalize gc2 : L2.upd _ c2 _ = J9; obtain ⟨ec2, oc2, tc2⟩ := made nc2 gc2; clear gc2
            refine ⟨_, _, _, _, rfl, rfl, (sameOf nc2 oc2) _ _ tc1, tc2, Nat.le_trans (show (cutV ms none (some 2)).length + 1 ≤ 100000 by have := cutV_length ms none (some 2); omega) (by decide), fun c3 nc3 => ?_⟩
            generalize gc3 : L2.upd _ c3 _ = J10; obtain ⟨ec3, oc3, tc3⟩ := made nc3 gc3; clear gc3
            have s7J := ((sameOf nc1 oc1).trans (sameOf nc2 oc2)).trans (sameOf nc3 oc3)
            have hB0 : HT.sIx ms.length ms.length (some (2 : Int)) ≤ 2 := by
              have z := HT.sIx_nat ms.length ms.length 2
              have z' : HT.sIx ms.length ms.length (some (2 : Int)) = min 2 ms.length := z
              omega
            have cutL : (cutV ms none (some 2)).length ≤ 2 := by
              unfold cutV
              rw [List.length_take]
              omega
            have memE : ∀ d ∈ (ds.drop (HT.sIx ms.length 0 none)).take (HT.sIx ms.length ms.length (some 2) - HT.sIx ms.length 0 none), d ∈ ds := fun d hd2 => List.mem_of_mem_drop (List.mem_of_mem_take hd2)
            have cutP : Paired (fun v d => TermAt c J10 v (nodesT 3 d)) (cutV ms none (some 2)) ((ds.drop (HT.sIx ms.length 0 none)).take (HT.sIx ms.length ms.length (some 2) - HT.sIx ms.length 0 none)) :=
              paired_take _ (paired_drop _ (L2.Paired.mapP mP7 fun v d z => TermAt.same s7J z))
            generalize (ds.drop (HT.sIx ms.length 0 none)).take (HT.sIx ms.length ms.length (some 2) - HT.sIx ms.length 0 none) = es at cutP memE
            have hargs2 : Paired (ArgAt c J10) (cutV ms none (some 2) ++ [one]) ((es.map fun d => some (nodesT 3 d)) ++ [none]) :=
              paired_app (paired_r (f := fun d => some (nodesT 3 d)) (S := fun v o => ArgAt c J10 v o) (fun v d z => z) cutP) (.cons ⟨d1', xd7.same s7J⟩ .nil)
            refine ⟨.str "g", c3, _, .str "g", _, rfl, .str _, by decide +kernel, tc3, by rw [List.length_append, List.length_singleton]; omega, hargs2, fun o ho es' e => ?_, fun J11 s11J => ?_⟩
            · rcases List.mem_append.mp ho with ho | ho
              · obtain ⟨d, hd1, rfl⟩ := List.mem_map.mp ho
                cases e
                exact (term_ok (hT d (memE d hd1)) (by decide)).2
              · rw [List.mem_singleton.mp ho] at e
                cases e
            · have nb : builtD (.str "g") ((es.map fun d => some (nodesT 3 d)) ++ [none]) = false := by
                unfold builtD
                rw [List.all_append]
                simp
              rw [nb]
              refine ⟨_, rfl, ?_⟩
              exact q J11 (b11.trans ((But.ofS v1).trans ((But.of1 o7).trans (But.ofS (s7J.trans s11J))))) (dJ7.same (s7J.trans s11J))
/-! ### the law -/
def nearD (ds : List PyData) : List PyData := [.tuple ds, .tuple ds, .tuple ds, .tuple ds, .tuple ds, .tuple ds, .list ds, .tuple [], .none, .dict [], .str "a", .int 0]
theorem near_ok {ds : List PyData} (h : Pooled ds) : ∀ d ∈ nearD ds, nodice d = true ∧ okT d = true ∧ okTX d = true ∧ isTermD d = isTreeL d := by
  have t : nodice (.tuple ds) = true ∧ okT (.tuple ds) = true ∧ okTX (.tuple ds) = true ∧ isTermD (.tuple ds) = isTreeL (.tuple ds) := by
    refine ⟨?_, List.all_eq_true.mpr fun e he => (okX.a (pool_ok e (h e he)).1).1, List.all_eq_true.mpr fun e he => (pool_ok e (h e he)).1, term_eq fun e he => (pool_ok e (h e he)).2.2⟩
    simp only [nodice]
    exact h.nodice
  have l : nodice (.list ds) = true := by
    have th : three ds = false := by
      cases z : three ds with
      | false => rfl
      | true =>
        exfalso
        match ds, h, z with
        | .int x :: r, h, _ =>
          have q := (pool_ok _ (h _ List.mem_cons_self)).2.2
          have m := h _ List.mem_cons_self
          simp [poolD, wordsT, oddD] at m
        | .none :: _, _, z => simp [three] at z
        | .bool _ :: _, _, z => simp [three] at z
        | .str _ :: _, _, z => simp [three] at z
        | .list _ :: _, _, z => simp [three] at z
        | .tuple _ :: _, _, z => simp [three] at z
        | .dict _ :: _, _, z => simp [three] at z
        | [], _, z => simp [three] at z
    simp only [nodice, th, h.nodice]
    rfl
  intro d hd
  simp only [nearD, List.mem_cons, List.not_mem_nil, or_false] at hd
  rcases hd with rfl | rfl | rfl | rfl | rfl | rfl | rfl | rfl | rfl | rfl | rfl | rfl
  · exact t
  · exact t
  · exact t
  · exact t
  · exact t
  · exact t
  · exact ⟨l, rfl, rfl, rfl⟩
  · exact ⟨rfl, rfl, rfl, by decide +kernel⟩
  · exact ⟨rfl, rfl, rfl, rfl⟩
  · exact ⟨rfl, rfl, rfl, rfl⟩
  · exact ⟨rfl, rfl, rfl, rfl⟩
  · exact ⟨rfl, rfl, rfl, rfl⟩
def wideD (n : Nat) : List PyData := (List.replicate n ([.tuple [.str "f", .int 2], .tuple [.str "a", .int 0]] : List PyData)).flatten ++ [.tuple [.str "a", .int 0]]
theorem wide_ok : isTermD (.tuple (wideD 19)) = true ∧ isTermD (.tuple (wideD 20)) = false ∧ okT (.tuple (wideD 19)) = true ∧ okT (.tuple (wideD 20)) = true := by decide +kernel
theorem dx_rep {H : Hp} {xs : List V} {ds : List PyData} (h : DxAll H xs ds) : ∀ n, DxAll H (List.replicate n xs).flatten (List.replicate n ds).flatten
  | 0 => .nil
  | n + 1 => by
    rw [List.replicate_succ, List.replicate_succ, List.flatten_cons, List.flatten_cons]
    exact h.app (dx_rep h n)
theorem ok_law {f : Addr} {fd : FuncData} (F : Fun K "law" "law" s_law f fd) (T : Txt mg) (Z : TermZ K mg c) {f__law_dice : Addr} {fd__law_dice : FuncData} (G__law_dice : FnOk P w K mg base CX0 1 f__law_dice fd__law_dice P__law_dice (spDice K)) (C__law_dice : Cal K mg "_law_dice" f__law_dice fd__law_dice P__law_dice) {f__law_roll : Addr} {fd__law_roll : FuncData} (G__law_roll : FnOk P w K mg base CX0 1 f__law_roll fd__law_roll P__law_roll spRoll) (C__law_roll : Cal K mg "_law_roll" f__law_roll fd__law_roll P__law_roll) {f__law_pick : Addr} {fd__law_pick : FuncData} (G__law_pick : FnOk P w K mg base CX0 2 f__law_pick fd__law_pick P__law_pick (spPick K)) (C__law_pick : Cal K mg "_law_pick" f__law_pick fd__law_pick P__law_pick) {f__law_drawn_term : Addr} {fd__law_drawn_term : FuncData} (G__law_drawn_term : FnOk P w K mg base CX0 8 f__law_drawn_term fd__law_drawn_term P__law_drawn_term spDrawn) (C__law_drawn_term : Cal K mg "_law_drawn_term" f__law_drawn_term fd__law_drawn_term P__law_drawn_term) {f__law_nodes : Addr} {fd__law_nodes : FuncData} (G__law_nodes : FnOk P w K mg base CX0 5 f__law_nodes fd__law_nodes P__law_nodes (fun vs H Q E => ∃ n, n ≤ 4 ∧ spNodesL n vs H Q E)) (C__law_nodes : Cal K mg "_law_nodes" f__law_nodes fd__law_nodes P__law_nodes) {f__law_bent : Addr} {fd__law_bent : FuncData} (G__law_bent : FnOk P w K mg base CX0 3 f__law_bent fd__law_bent P__law_bent (spBent K)) (C__law_bent : Cal K mg "_law_bent" f__law_bent fd__law_bent P__law_bent) {f__law_is_made : Addr} {fd__law_is_made : FuncData} (G__law_is_made : FnOk P w K mg base CX0 7 f__law_is_made fd__law_is_made P__law_is_made spIsMade) (C__law_is_made : Cal K mg "_law_is_made" f__law_is_made fd__law_is_made P__law_is_made) {f__law_is_tree : Addr} {fd__law_is_tree : FuncData} (G__law_is_tree : FnOk P w K mg base CX0 3 f__law_is_tree fd__law_is_tree P__law_is_tree spTreeL) (C__law_is_tree : Cal K mg "_law_is_tree" f__law_is_tree fd__law_is_tree P__law_is_tree) {f__law_built_right : Addr} {fd__law_built_right : FuncData} (G__law_built_right : FnOk P w K mg base CX0 10 f__law_built_right fd__law_built_right P__law_built_right spBR) (C__law_built_right : Cal K mg "_law_built_right" f__law_built_right fd__law_built_right P__law_built_right) : FnOk P w K mg base CX0 11 f fd P_law (spLaw K) := by
  refine F.ok sc_law (fun vs H Q E h => ?_) (fun cdv A outer s H vs Q E hr h => ?_)
  · obtain ⟨a, ns, rfl, _⟩ := h
    rfl
  · obtain ⟨a, ns, rfl, hS, hlen, q⟩ := h
    refine ⟨_, (pss_cons (ps_for PassesOwn.never rfl (pi_range1 (by rfl) T.n_range (pa_cons (pe_callB (call_max2 rfl) (by rfl) T.n_max (by decide +kernel) (pa_cons pe_int (pa_cons (pe_callB (call_min2 rfl) (by rfl) T.n_min (by decide +kernel) (pa_cons pe_int (pa_cons (pe_callB call_len_seq (by rfl) T.n_len (by decide +kernel) (pa_cons (pv 0) pa_nil)) pa_nil))) pa_nil))) pa_nil)) (pg_name (i := 1) sc_law.nd rfl (Or.inl rfl)) (pss_cons (ps_set (i := 2) sc_law.nd rfl (Or.inl rfl) (pe_call G__law_dice (hr.mono (by decide)) rfl C__law_dice.m C__law_dice.k C__law_dice.b .nil pass0 (pa_cons (pv 0) (pa_cons (pv 1) pa_nil))))
      (pss_one (ps_for PassesOwn.never rfl (pi_range1 (by rfl) T.n_range (pa_cons pe_int pa_nil)) (pg_name (i := 3) sc_law.nd rfl (Or.inl rfl)) (pss_cons (ps_set (i := 4) sc_law.nd rfl (Or.inl rfl) (pe_call G__law_nodes (hr.mono (by decide)) rfl C__law_nodes.m C__law_nodes.k C__law_nodes.b .nil pass0 (pa_cons (pe_call G__law_drawn_term (hr.mono (by decide)) rfl C__law_drawn_term.m C__law_drawn_term.k C__law_drawn_term.b .nil pass0 (pa_cons (pv 2) (pa_cons pe_int pa_nil))) pa_nil)))
      (pss_cons (ps_for PassesOwn.never rfl (pi_range1 (by rfl) T.n_range (pa_cons (pe_call G__law_roll (hr.mono (by decide)) rfl C__law_roll.m C__law_roll.k C__law_roll.b .nil pass0 (pa_cons (pv 2) (pa_cons pe_int pa_nil))) pa_nil)) (pg_name (i := 5) sc_law.nd rfl (Or.inl rfl)) (pss_one (ps_set (i := 4) sc_law.nd rfl (Or.inl rfl) (pe_call G__law_bent (hr.mono (by decide)) rfl C__law_bent.m C__law_bent.k C__law_bent.b .nil pass0 (pa_cons (pv 2) (pa_cons (pv 4) pa_nil))))))
      (pss_cons (ps_set (i := 6) sc_law.nd rfl (Or.inl rfl) (pe_call G__law_pick (hr.mono (by decide)) rfl C__law_pick.m C__law_pick.k C__law_pick.b .nil pass0 (pa_cons (pv 2) (pa_cons (pe_op op_cat (pe_op op_rep (pe_lst (pa_cons (pe_callTy call_tuple_of (by rfl) T.n_tuple (by decide +kernel) (pa_cons (pv 4) pa_nil)) pa_nil)) pe_int) (pe_lst (pa_cons (pv 4) (pa_cons (pe_tup pa_nil) (pa_cons pe_non (pa_cons pe_dnewK (pa_cons pe_str (pa_cons pe_int pa_nil)))))))) pa_nil))))
      (pss_one (ps_if (PW.pt (pw_or (pt_cmpR op_ne (pe_call G__law_is_made (hr.mono (by decide)) rfl C__law_is_made.m C__law_is_made.k C__law_is_made.b .nil pass0 (pa_cons (pv 6) pa_nil)) (pe_call G__law_is_tree (hr.mono (by decide)) rfl C__law_is_tree.m C__law_is_tree.k C__law_is_tree.b .nil pass0 (pa_cons (pv 6) pa_nil)) (nomark _)) (pw_or1 (pt_not (pt_val (pe_call G__law_built_right (hr.mono (by decide)) rfl C__law_built_right.m C__law_built_right.k C__law_built_right.b .nil pass0 (pa_cons (pv 2) pa_nil))))))) (pss_one (ps_ret pe_bl)) pss_nil)))))))))
      (pss_cons (ps_set (i := 7) sc_law.nd rfl (Or.inl rfl) (pe_op op_catT (pe_op op_repT (pe_tup (pa_cons (pe_tup (pa_cons pe_str (pa_cons pe_int pa_nil))) (pa_cons (pe_tup (pa_cons pe_str (pa_cons pe_int pa_nil))) pa_nil))) pe_int) (pe_tup (pa_cons (pe_tup (pa_cons pe_str (pa_cons pe_int pa_nil))) pa_nil))))
      (pss_one (ps_ret (pe_and (pe_call G__law_is_made (hr.mono (by decide)) rfl C__law_is_made.m C__law_is_made.k C__law_is_made.b .nil pass0 (pa_cons (pv 7) pa_nil)) (pe_one (pe_not (pe_call G__law_is_made (hr.mono (by decide)) rfl C__law_is_made.m C__law_is_made.k C__law_is_made.b .nil pass0 (pa_cons (pe_op op_catT (pe_op op_repT (pe_tup (pa_cons (pe_tup (pa_cons pe_str (pa_cons pe_int pa_nil))) (pa_cons (pe_tup (pa_cons pe_str (pa_cons pe_int pa_nil))) pa_nil))) pe_int) (pe_tup (pa_cons (pe_tup (pa_cons pe_str (pa_cons pe_int pa_nil))) pa_nil))) pa_nil))))))))), ?_⟩
    have hb := turns (n := (ns.map V.int).length)
    refine ⟨_, rfl, _, _, rfl, .inl hS.1, _, _, rfl, _, _, rfl, _, rfl, by omega, by omega, ?_⟩
    generalize (if (if ((ns.map V.int).length : Int) < 8 then ((ns.map V.int).length : Int) else 8) > 1 then (if ((ns.map V.int).length : Int) < 8 then ((ns.map V.int).length : Int) else 8) else 1) = m at hb
    refine for_range (lo := 0) (n := m.toNat) (fun i σ H' => ∃ a1 a2 a3 a4 a5 a6, σ = [some (.ref a), a1, a2, a3, a4, a5, a6, none] ∧ Scr K H' a (ns.map V.int)) ⟨none, none, none, none, none, none, rfl, hS⟩ ?_ ?_
    · rintro i σ H1 hi ⟨a1, a2, a3, a4, a5, a6, rfl, hS1⟩
      refine ⟨_, rfl, _, rfl, a, ns, _, rfl, hS1.1, by omega, by omega, by omega, fun p H2 np e2 o2 d2 => ?_⟩
      refine ⟨_, rfl, by decide, by decide, ?_⟩
      refine for_range (lo := 0) (n := Int.toNat 8) (fun j σ H' => ∃ a1 a3 a4 a5 a6, σ = [some (.ref a), a1, some (.ref p), a3, a4, a5, a6, none] ∧ Scr K H' a (ns.map V.int) ∧ Dc H' p) ⟨_, _, _, _, _, rfl, hS1.mono e2, d2⟩ ?_ ?_
      · rintro j σ H3 hj ⟨b1, b3, b4, b5, b6, rfl, hS3, d3⟩
        refine ⟨_, rfl, p, 4, rfl, by decide, by decide, d3, fun v d H4 b34 d4 dx isT => ?_⟩
        refine ⟨4, by decide, v, d, rfl, dx, isT, by decide, fun r xs H5 s5 nr hr5 hx => ?_⟩
        have d5 := d4.same s5
        have b35 := b34.trans (But.ofS s5)
        refine ⟨_, rfl, p, 4, rfl, d5, by decide, by decide, fun rr H6 r0 r1 e6 o6 d6 => ?_⟩
        have rp : r ≠ p := fun z => d4.ne nr z.symm
        refine ⟨_, rfl, by omega, by omega, ?_⟩
        have hP0 : Pooled (nodesT 4 d) := fun e he => by
          obtain ⟨pp, hp, rfl⟩ := nodes_mem isT e he
          exact List.mem_append_left _ (List.mem_map.mpr ⟨pp, hp, rfl⟩)
        have b36 := b35.trans (But.of1 o6)
        have hn4 := term_ok isT (by decide)
        refine for_range (lo := 0) (n := rr.toNat) (fun k σ H' => ∃ (r : Addr) (xs : List V) (ds : List PyData) (a5 a6 : Option V), σ = [some (.ref a), b1, some (.ref p), some (.int (0 + (j : Int))), some (.ref r), a5, a6, none] ∧ But p H3 H' ∧ Dc H' p ∧ r ≠ p ∧ H' r = some (.lst xs) ∧ DxAll H' xs ds ∧ Pooled ds ∧ ds.length + 1 ≤ 41 * 2 ^ k)
          ⟨r, xs, _, _, _, rfl, b36, d6, rp, (o6 r rp).trans hr5, DxAll.but d5 (But.of1 o6) hx hP0.nodice, hP0, by rw [Nat.pow_zero]; omega⟩ ?_ ?_
        · rintro k σ H7 hk ⟨r, xs, ds, a5, a6, rfl, b7, d7, rp, hr, hx, hP, hl⟩
          have k8 : 2 ^ k ≤ 2 ^ 3 := Nat.pow_le_pow_right (by decide) (by omega)
          refine ⟨_, rfl, _, rfl, p, r, xs, ds, rfl, d7, hr, hx, hP, by omega, fun r' ys es H8 b8 d8 nr' hr' hes hPe hle => ?_⟩
          refine ⟨r', ys, es, _, _, rfl, b7.trans b8, d8, fun z => d7.ne nr' z.symm, hr', hes, hPe, ?_⟩
          rw [Nat.pow_succ]
          omega
        · rintro σ H7 ⟨r, xs, ds, a5, a6, rfl, b7, d7, rp, hr, hx, hP, hl⟩
          refine ⟨_, rfl, _, rfl, _, _, rfl, .inl ⟨SqL.of hr, fun p1 n1 => ?_⟩⟩
          generalize g1 : L2.upd _ p1 _ = H8; obtain ⟨e8, o8, t8⟩ := made n1 g1; clear g1
          refine ⟨(szr rfl), fun p2 n2 => ?_⟩
          generalize g2 : L2.upd _ p2 _ = H9; obtain ⟨e9, o9, t9⟩ := made n2 g2; clear g2
          refine ⟨_, _, _, rfl, rfl, t9, (by decide), (by decide), Nat.le_trans (show (6 : Nat) ≤ 100000 by decide) (by decide), fun p3 n3 => ?_⟩
          generalize g3 : L2.upd _ p3 _ = H10; obtain ⟨e10, o10, t10⟩ := made n3 g3; clear g3
          refine ⟨_, rfl, (szr rfl), fun p4 n4 => ?_⟩
          generalize g4 : L2.upd _ p4 _ = H11; obtain ⟨e11, o11, t11⟩ := made n4 g4; clear g4
          refine fun p5 n5 => ?_
          generalize g5 : L2.upd _ p5 _ = H12; obtain ⟨e12, o12, t12⟩ := made n5 g5; clear g5
          refine ⟨(szr rfl), fun p6 n6 => ?_⟩
          generalize g6 : L2.upd _ p6 _ = H13; obtain ⟨e13, o13, t13⟩ := made n6 g6; clear g6
          have z13 := sameOf n6 o13
          have z12 := (sameOf n5 o12).trans z13
          have z11 := (sameOf n4 o11).trans z12
          have z10 := (sameOf n3 o10).trans z11
          have z9 := (sameOf n2 o9).trans z10
          have z8 := (sameOf n1 o8).trans z9
          refine ⟨_, _, _, _, rfl, rfl, z11 _ _ t10, t13, Nat.le_trans (show (12 : Nat) ≤ 100000 by decide) (by decide), fun p7 n7 => ?_⟩
          generalize g7 : L2.upd _ p7 _ = H14; obtain ⟨e14, o14, t14⟩ := made n7 g7; clear g7
          have z14 := sameOf n7 o14
          have w8 := z8.trans z14
          have hx14 := hx.same w8
          have d14 := d7.same w8
          have p7p : p7 ≠ p := fun z => (d7.same z8).ne n7 z.symm
          have tupA : Dx H14 (.ref p1) (.tuple ds) := .tup ((z9.trans z14) _ _ t8) hx14
          have near : DxAll H14 [.ref p1, .ref p1, .ref p1, .ref p1, .ref p1, .ref p1, .ref r, .ref p4, .non, .ref p5, .str "a", .int 0] (nearD ds) :=
            .cons tupA (.cons tupA (.cons tupA (.cons tupA (.cons tupA (.cons tupA (.cons (.lst (w8 _ _ hr) hx14) (.cons (.tup ((z12.trans z14) _ _ t11) .nil) (.cons .non (.cons (.dct ((z13.trans z14) _ _ t12)) (.cons (.str _) (.cons (.int _) .nil)))))))))))
          refine ⟨p, p7, _, rfl, d14, (pick_l t14 p7p).1, (pick_l t14 p7p).2, Nat.zero_lt_succ _, (show (12 : Nat) < 1000000 by decide), fun i1 val H15 hval e15 o15 d15 => ?_⟩
          obtain ⟨dv, hdv, xdv⟩ := near.get hval
          obtain ⟨ok1, ok2, ok3, ok4⟩ := near_ok hP dv (List.mem_of_getElem? hdv)
          have xd15 := Dx.but d14 (But.of1 o15) xdv ok1
          refine ⟨_, rfl, val, dv, rfl, xd15, ok2, fun H16 s16 => ?_⟩
          refine ⟨_, rfl, val, dv, rfl, xd15.same s16, ok3, fun H17 s17 => ?_⟩
          rw [ok4]
          refine ⟨rfl, _, rfl, ?_⟩
          have b17 : But p H3 H17 := ((b7.trans (But.ofS w8)).trans (But.of1 o15)).trans (But.ofS (s16.trans s17))
          have d17 := d15.same (s16.trans s17)
          refine ite2 (fun g => ?_) (fun g => ?_)
          · exfalso
            have g' : (!decide (V.bl (isTreeL dv) = V.bl (isTreeL dv))) = true := g
            rw [decide_eq_true rfl] at g'
            cases g'
          · refine ⟨_, rfl, p, rfl, d17, fun H18 b18 d18 => ?_⟩
            refine ⟨_, rfl, ?_⟩
            refine iteF ?_
            exact ⟨_, _, _, _, _, rfl, hS3.mono ((b17.trans b18).ev d3 d18), d18⟩
      · rintro σ H3 ⟨b1, b3, b4, b5, b6, rfl, hS3, d3⟩
        exact ⟨_, _, _, _, _, _, rfl, hS3⟩
    · rintro σ H1 ⟨a1, a2, a3, a4, a5, a6, rfl, hS1⟩
      refine ⟨(szr rfl), fun p8 n8 => ?_⟩
      generalize g8 : L2.upd _ p8 _ = H2; obtain ⟨e2, o2, t2⟩ := made n8 g8; clear g8
      refine ⟨(szr rfl), fun p9 n9 => ?_⟩
      generalize g9 : L2.upd _ p9 _ = H3; obtain ⟨e3, o3, t3⟩ := made n9 g9; clear g9
      refine ⟨(szr rfl), fun p10 n10 => ?_⟩
      generalize g10 : L2.upd _ p10 _ = H4; obtain ⟨e4, o4, t4⟩ := made n10 g10; clear g10
      have u4 := sameOf n10 o4
      have u3 := (sameOf n9 o3).trans u4
      have pair : DxAll H4 [.ref p8, .ref p9] [.tuple [.str "f", .int 2], .tuple [.str "a", .int 0]] := .cons (.tup (u3 _ _ t2) (.cons (.str _) (.cons (.int _) .nil))) (.cons (.tup (u4 _ _ t3) (.cons (.str _) (.cons (.int _) .nil))) .nil)
      refine ⟨_, _, _, rfl, rfl, SqT.of t4, (by simp), (by decide), (by decide), (by simp), fun p11 n11 => ?_⟩
      generalize g11 : L2.upd _ p11 _ = H5; obtain ⟨e5, o5, t5⟩ := made n11 g11; clear g11
      refine ⟨(szr rfl), fun p12 n12 => ?_⟩
      generalize g12 : L2.upd _ p12 _ = H6; obtain ⟨e6, o6, t6⟩ := made n12 g12; clear g12
      refine ⟨(szr rfl), fun p13 n13 => ?_⟩
      generalize g13 : L2.upd _ p13 _ = H7; obtain ⟨e7, o7, t7⟩ := made n13 g13; clear g13
      have u7 := sameOf n13 o7
      have u6 := (sameOf n12 o6).trans u7
      have u5 := (sameOf n11 o5).trans u6
      refine ⟨_, _, _, _, rfl, rfl, SqT.of (u6 _ _ t5), SqT.of t7, (by simp), Nat.le_trans (show (39 : Nat) ≤ 100000 by decide) (by decide), (fun z => by cases z), fun _ p14 n14 => ?_⟩
      generalize g14 : L2.upd _ p14 _ = H8; obtain ⟨e8, o8, t8⟩ := made n14 g14; clear g14
      have u8 := sameOf n14 o8
      have s48 := u5.trans u8
      have w19 : Dx H8 (.ref p14) (.tuple (wideD 19)) := .tup t8 ((dx_rep (pair.same s48) 19).app (.cons (.tup ((u7.trans u8) _ _ t6) (.cons (.str _) (.cons (.int _) .nil))) .nil))
      refine ⟨_, rfl, .ref p14, _, rfl, w19, wide_ok.2.2.1, fun H9 s9 => ?_⟩
      rw [wide_ok.1]
      refine ⟨_, rfl, iteT ?_⟩
      refine ⟨(szr rfl), fun q8 m8 => ?_⟩
      generalize g8 : L2.upd _ q8 _ = G2; obtain ⟨f2, r2, y2⟩ := made m8 g8; clear g8
      refine ⟨(szr rfl), fun q9 m9 => ?_⟩
      generalize g9 : L2.upd _ q9 _ = G3; obtain ⟨f3, r3, y3⟩ := made m9 g9; clear g9
      refine ⟨(szr rfl), fun q10 m10 => ?_⟩
      generalize g10 : L2.upd _ q10 _ = G4; obtain ⟨f4, r4, y4⟩ := made m10 g10; clear g10
      have v4 := sameOf m10 r4
      have v3 := (sameOf m9 r3).trans v4
      have pair2 : DxAll G4 [.ref q8, .ref q9] [.tuple [.str "f", .int 2], .tuple [.str "a", .int 0]] := .cons (.tup (v3 _ _ y2) (.cons (.str _) (.cons (.int _) .nil))) (.cons (.tup (v4 _ _ y3) (.cons (.str _) (.cons (.int _) .nil))) .nil)
      refine ⟨_, _, _, rfl, rfl, SqT.of y4, (by simp), (by decide), (by decide), (by simp), fun q11 m11 => ?_⟩
      generalize g11 : L2.upd _ q11 _ = G5; obtain ⟨f5, r5, y5⟩ := made m11 g11; clear g11
      refine ⟨(szr rfl), fun q12 m12 => ?_⟩
      generalize g12 : L2.upd _ q12 _ = G6; obtain ⟨f6, r6, y6⟩ := made m12 g12; clear g12
      refine ⟨(szr rfl), fun q13 m13 => ?_⟩
      generalize g13 : L2.upd _ q13 _ = G7; obtain ⟨f7, r7, y7⟩ := made m13 g13; clear g13
      have v7 := sameOf m13 r7
      have v6 := (sameOf m12 r6).trans v7
      have v5 := (sameOf m11 r5).trans v6
      refine ⟨_, _, _, _, rfl, rfl, SqT.of (v6 _ _ y5), SqT.of y7, (by simp), Nat.le_trans (show (41 : Nat) ≤ 100000 by decide) (by decide), (fun z => by cases z), fun _ q14 m14 => ?_⟩
      generalize g14 : L2.upd _ q14 _ = G8; obtain ⟨f8, r8, y8⟩ := made m14 g14; clear g14
      have v8 := sameOf m14 r8
      have w20 : Dx G8 (.ref q14) (.tuple (wideD 20)) := .tup y8 ((dx_rep (pair2.same (v5.trans v8)) 20).app (.cons (.tup ((v7.trans v8) _ _ y6) (.cons (.str _) (.cons (.int _) .nil))) .nil))
      refine ⟨.ref q14, _, rfl, w20, wide_ok.2.2.2, fun G9 s9' => ?_⟩
      rw [wide_ok.2.1]
      refine ⟨_, rfl, ?_⟩
      exact q G9

end
theorem all_mk {l : PySem.W.OpenLaw} {w : World} {K : PySem.W.Frag} {h : Heap} {mg : Str → Option Value} {fa f_is_integer f_is_word f_is_arity f_is_leaf f_is_node f_makes_one_tree f_is_tree f_part_end f_part_at f_symbols_in f__law_dice f__law_roll f__law_pick f__law_nodes f__law_made_term f__law_term f__law_small_term f__law_drawn_term f__law_is_leaf f__law_is_tree f__law_bent f__law_is_made f__law_is_built f__law_built_right f_law : Addr} (X : K.In h) (G : h.Ns mainGlobals mg) (hfa : mg "law" = some (.ref fa))
    {od0 an0 od1 an1 od2 an2 od3 an3 od4 an4 od5 an5 od6 an6 od7 an7 od8 an8 od9 an9 od10 an10 od11 an11 od12 an12 od13 an13 od14 an14 od15 an15 od16 an16 od17 an17 od18 an18 od19 an19 od20 an20 od21 an21 od22 an22 od23 an23 od24 an24 : Option Addr} {sl0 sl1 sl2 sl3 sl4 sl5 sl6 sl7 sl8 sl9 sl10 sl11 sl12 sl13 sl14 sl15 sl16 sl17 sl18 sl19 sl20 sl21 sl22 sl23 sl24 : Array (Option Value)} {oc0 kV0 dc0 pm0 cd0 ct0 oc1 kV1 dc1 pm1 cd1 ct1 oc2 kV2 dc2 pm2 cd2 ct2 oc3 kV3 dc3 pm3 cd3 ct3 oc4 kV4 dc4 pm4 cd4 ct4 oc5 kV5 dc5 pm5 cd5 ct5 oc6 kV6 dc6 pm6 cd6 ct6 oc7 kV7 dc7 pm7 cd7 ct7 oc8 kV8 dc8 pm8 cd8 ct8 oc9 kV9 dc9 pm9 cd9 ct9 oc10 kV10 dc10 pm10 cd10 ct10 oc11 kV11 dc11 pm11 cd11 ct11 oc12 kV12 dc12 pm12 cd12 ct12 oc13 kV13 dc13 pm13 cd13 ct13 oc14 kV14 dc14 pm14 cd14 ct14 oc15 kV15 dc15 pm15 cd15 ct15 oc16 kV16 dc16 pm16 cd16 ct16 oc17 kV17 dc17 pm17 cd17 ct17 oc18 kV18 dc18 pm18 cd18 ct18 oc19 kV19 dc19 pm19 cd19 ct19 oc20 kV20 dc20 pm20 cd20 ct20 oc21 kV21 dc21 pm21 cd21 ct21 oc22 kV22 dc22 pm22 cd22 ct22 oc23 kV23 dc23 pm23 cd23 ct23 oc24 kV24 dc24 pm24 cd24 ct24 : Value}
    (a0 : PySem.W.nsIn K mainGlobals "is_integer" = some (some (.ref f_is_integer))) (l0 : K.lookup f_is_integer = some ⟨oc0, od0, .func (PySem.W.fnOf "is_integer" "is_integer" (defArgs s_is_integer) (defBody s_is_integer) (defScope s_is_integer) .none kV0 dc0 pm0 an0 cd0 ct0), sl0⟩) (c0 : PySem.W.codeIn K cd0 "is_integer" = true) (k0 : PySem.W.keepIn K (.ref f_is_integer) = true)
    (a1 : PySem.W.nsIn K mainGlobals "is_word" = some (some (.ref f_is_word))) (l1 : K.lookup f_is_word = some ⟨oc1, od1, .func (PySem.W.fnOf "is_word" "is_word" (defArgs s_is_word) (defBody s_is_word) (defScope s_is_word) .none kV1 dc1 pm1 an1 cd1 ct1), sl1⟩) (c1 : PySem.W.codeIn K cd1 "is_word" = true) (k1 : PySem.W.keepIn K (.ref f_is_word) = true)
    (a2 : PySem.W.nsIn K mainGlobals "is_arity" = some (some (.ref f_is_arity))) (l2 : K.lookup f_is_arity = some ⟨oc2, od2, .func (PySem.W.fnOf "is_arity" "is_arity" (defArgs s_is_arity) (defBody s_is_arity) (defScope s_is_arity) .none kV2 dc2 pm2 an2 cd2 ct2), sl2⟩) (c2 : PySem.W.codeIn K cd2 "is_arity" = true) (k2 : PySem.W.keepIn K (.ref f_is_arity) = true)
    (a3 : PySem.W.nsIn K mainGlobals "is_leaf" = some (some (.ref f_is_leaf))) (l3 : K.lookup f_is_leaf = some ⟨oc3, od3, .func (PySem.W.fnOf "is_leaf" "is_leaf" (defArgs s_is_leaf) (defBody s_is_leaf) (defScope s_is_leaf) .none kV3 dc3 pm3 an3 cd3 ct3), sl3⟩) (c3 : PySem.W.codeIn K cd3 "is_leaf" = true) (k3 : PySem.W.keepIn K (.ref f_is_leaf) = true)
    (a4 : PySem.W.nsIn K mainGlobals "is_node" = some (some (.ref f_is_node))) (l4 : K.lookup f_is_node = some ⟨oc4, od4, .func (PySem.W.fnOf "is_node" "is_node" (defArgs s_is_node) (defBody s_is_node) (defScope s_is_node) .none kV4 dc4 pm4 an4 cd4 ct4), sl4⟩) (c4 : PySem.W.codeIn K cd4 "is_node" = true) (k4 : PySem.W.keepIn K (.ref f_is_node) = true)
    (a5 : PySem.W.nsIn K mainGlobals "makes_one_tree" = some (some (.ref f_makes_one_tree))) (l5 : K.lookup f_makes_one_tree = some ⟨oc5, od5, .func (PySem.W.fnOf "makes_one_tree" "makes_one_tree" (defArgs s_makes_one_tree) (defBody s_makes_one_tree) (defScope s_makes_one_tree) .none kV5 dc5 pm5 an5 cd5 ct5), sl5⟩) (c5 : PySem.W.codeIn K cd5 "makes_one_tree" = true) (k5 : PySem.W.keepIn K (.ref f_makes_one_tree) = true)
    (a6 : PySem.W.nsIn K mainGlobals "is_tree" = some (some (.ref f_is_tree))) (l6 : K.lookup f_is_tree = some ⟨oc6, od6, .func (PySem.W.fnOf "is_tree" "is_tree" (defArgs s_is_tree) (defBody s_is_tree) (defScope s_is_tree) .none kV6 dc6 pm6 an6 cd6 ct6), sl6⟩) (c6 : PySem.W.codeIn K cd6 "is_tree" = true) (k6 : PySem.W.keepIn K (.ref f_is_tree) = true)
    (a7 : PySem.W.nsIn K mainGlobals "part_end" = some (some (.ref f_part_end))) (l7 : K.lookup f_part_end = some ⟨oc7, od7, .func (PySem.W.fnOf "part_end" "part_end" (defArgs s_part_end) (defBody s_part_end) (defScope s_part_end) .none kV7 dc7 pm7 an7 cd7 ct7), sl7⟩) (c7 : PySem.W.codeIn K cd7 "part_end" = true) (k7 : PySem.W.keepIn K (.ref f_part_end) = true)
    (a8 : PySem.W.nsIn K mainGlobals "part_at" = some (some (.ref f_part_at))) (l8 : K.lookup f_part_at = some ⟨oc8, od8, .func (PySem.W.fnOf "part_at" "part_at" (defArgs s_part_at) (defBody s_part_at) (defScope s_part_at) .none kV8 dc8 pm8 an8 cd8 ct8), sl8⟩) (c8 : PySem.W.codeIn K cd8 "part_at" = true) (k8 : PySem.W.keepIn K (.ref f_part_at) = true)
    (a9 : PySem.W.nsIn K mainGlobals "symbols_in" = some (some (.ref f_symbols_in))) (l9 : K.lookup f_symbols_in = some ⟨oc9, od9, .func (PySem.W.fnOf "symbols_in" "symbols_in" (defArgs s_symbols_in) (defBody s_symbols_in) (defScope s_symbols_in) .none kV9 dc9 pm9 an9 cd9 ct9), sl9⟩) (c9 : PySem.W.codeIn K cd9 "symbols_in" = true) (k9 : PySem.W.keepIn K (.ref f_symbols_in) = true)
    (a10 : PySem.W.nsIn K mainGlobals "_law_dice" = some (some (.ref f__law_dice))) (l10 : K.lookup f__law_dice = some ⟨oc10, od10, .func (PySem.W.fnOf "_law_dice" "_law_dice" (defArgs s__law_dice) (defBody s__law_dice) (defScope s__law_dice) .none kV10 dc10 pm10 an10 cd10 ct10), sl10⟩) (c10 : PySem.W.codeIn K cd10 "_law_dice" = true) (k10 : PySem.W.keepIn K (.ref f__law_dice) = true)
    (a11 : PySem.W.nsIn K mainGlobals "_law_roll" = some (some (.ref f__law_roll))) (l11 : K.lookup f__law_roll = some ⟨oc11, od11, .func (PySem.W.fnOf "_law_roll" "_law_roll" (defArgs s__law_roll) (defBody s__law_roll) (defScope s__law_roll) .none kV11 dc11 pm11 an11 cd11 ct11), sl11⟩) (c11 : PySem.W.codeIn K cd11 "_law_roll" = true) (k11 : PySem.W.keepIn K (.ref f__law_roll) = true)
    (a12 : PySem.W.nsIn K mainGlobals "_law_pick" = some (some (.ref f__law_pick))) (l12 : K.lookup f__law_pick = some ⟨oc12, od12, .func (PySem.W.fnOf "_law_pick" "_law_pick" (defArgs s__law_pick) (defBody s__law_pick) (defScope s__law_pick) .none kV12 dc12 pm12 an12 cd12 ct12), sl12⟩) (c12 : PySem.W.codeIn K cd12 "_law_pick" = true) (k12 : PySem.W.keepIn K (.ref f__law_pick) = true)
    (a13 : PySem.W.nsIn K mainGlobals "_law_nodes" = some (some (.ref f__law_nodes))) (l13 : K.lookup f__law_nodes = some ⟨oc13, od13, .func (PySem.W.fnOf "_law_nodes" "_law_nodes" (defArgs s__law_nodes) (defBody s__law_nodes) (defScope s__law_nodes) .none kV13 dc13 pm13 an13 cd13 ct13), sl13⟩) (c13 : PySem.W.codeIn K cd13 "_law_nodes" = true) (k13 : PySem.W.keepIn K (.ref f__law_nodes) = true)
    (a14 : PySem.W.nsIn K mainGlobals "_law_made_term" = some (some (.ref f__law_made_term))) (l14 : K.lookup f__law_made_term = some ⟨oc14, od14, .func (PySem.W.fnOf "_law_made_term" "_law_made_term" (defArgs s__law_made_term) (defBody s__law_made_term) (defScope s__law_made_term) .none kV14 dc14 pm14 an14 cd14 ct14), sl14⟩) (c14 : PySem.W.codeIn K cd14 "_law_made_term" = true) (k14 : PySem.W.keepIn K (.ref f__law_made_term) = true)
    (a15 : PySem.W.nsIn K mainGlobals "_law_term" = some (some (.ref f__law_term))) (l15 : K.lookup f__law_term = some ⟨oc15, od15, .func (PySem.W.fnOf "_law_term" "_law_term" (defArgs s__law_term) (defBody s__law_term) (defScope s__law_term) .none kV15 dc15 pm15 an15 cd15 ct15), sl15⟩) (c15 : PySem.W.codeIn K cd15 "_law_term" = true) (k15 : PySem.W.keepIn K (.ref f__law_term) = true)
    (a16 : PySem.W.nsIn K mainGlobals "_law_small_term" = some (some (.ref f__law_small_term))) (l16 : K.lookup f__law_small_term = some ⟨oc16, od16, .func (PySem.W.fnOf "_law_small_term" "_law_small_term" (defArgs s__law_small_term) (defBody s__law_small_term) (defScope s__law_small_term) .none kV16 dc16 pm16 an16 cd16 ct16), sl16⟩) (c16 : PySem.W.codeIn K cd16 "_law_small_term" = true) (k16 : PySem.W.keepIn K (.ref f__law_small_term) = true)
    (a17 : PySem.W.nsIn K mainGlobals "_law_drawn_term" = some (some (.ref f__law_drawn_term))) (l17 : K.lookup f__law_drawn_term = some ⟨oc17, od17, .func (PySem.W.fnOf "_law_drawn_term" "_law_drawn_term" (defArgs s__law_drawn_term) (defBody s__law_drawn_term) (defScope s__law_drawn_term) .none kV17 dc17 pm17 an17 cd17 ct17), sl17⟩) (c17 : PySem.W.codeIn K cd17 "_law_drawn_term" = true) (k17 : PySem.W.keepIn K (.ref f__law_drawn_term) = true)
    (a18 : PySem.W.nsIn K mainGlobals "_law_is_leaf" = some (some (.ref f__law_is_leaf))) (l18 : K.lookup f__law_is_leaf = some ⟨oc18, od18, .func (PySem.W.fnOf "_law_is_leaf" "_law_is_leaf" (defArgs s__law_is_leaf) (defBody s__law_is_leaf) (defScope s__law_is_leaf) .none kV18 dc18 pm18 an18 cd18 ct18), sl18⟩) (c18 : PySem.W.codeIn K cd18 "_law_is_leaf" = true) (k18 : PySem.W.keepIn K (.ref f__law_is_leaf) = true)
    (a19 : PySem.W.nsIn K mainGlobals "_law_is_tree" = some (some (.ref f__law_is_tree))) (l19 : K.lookup f__law_is_tree = some ⟨oc19, od19, .func (PySem.W.fnOf "_law_is_tree" "_law_is_tree" (defArgs s__law_is_tree) (defBody s__law_is_tree) (defScope s__law_is_tree) .none kV19 dc19 pm19 an19 cd19 ct19), sl19⟩) (c19 : PySem.W.codeIn K cd19 "_law_is_tree" = true) (k19 : PySem.W.keepIn K (.ref f__law_is_tree) = true)
    (a20 : PySem.W.nsIn K mainGlobals "_law_bent" = some (some (.ref f__law_bent))) (l20 : K.lookup f__law_bent = some ⟨oc20, od20, .func (PySem.W.fnOf "_law_bent" "_law_bent" (defArgs s__law_bent) (defBody s__law_bent) (defScope s__law_bent) .none kV20 dc20 pm20 an20 cd20 ct20), sl20⟩) (c20 : PySem.W.codeIn K cd20 "_law_bent" = true) (k20 : PySem.W.keepIn K (.ref f__law_bent) = true)
    (a21 : PySem.W.nsIn K mainGlobals "_law_is_made" = some (some (.ref f__law_is_made))) (l21 : K.lookup f__law_is_made = some ⟨oc21, od21, .func (PySem.W.fnOf "_law_is_made" "_law_is_made" (defArgs s__law_is_made) (defBody s__law_is_made) (defScope s__law_is_made) .none kV21 dc21 pm21 an21 cd21 ct21), sl21⟩) (c21 : PySem.W.codeIn K cd21 "_law_is_made" = true) (k21 : PySem.W.keepIn K (.ref f__law_is_made) = true)
    (a22 : PySem.W.nsIn K mainGlobals "_law_is_built" = some (some (.ref f__law_is_built))) (l22 : K.lookup f__law_is_built = some ⟨oc22, od22, .func (PySem.W.fnOf "_law_is_built" "_law_is_built" (defArgs s__law_is_built) (defBody s__law_is_built) (defScope s__law_is_built) .none kV22 dc22 pm22 an22 cd22 ct22), sl22⟩) (c22 : PySem.W.codeIn K cd22 "_law_is_built" = true) (k22 : PySem.W.keepIn K (.ref f__law_is_built) = true)
    (a23 : PySem.W.nsIn K mainGlobals "_law_built_right" = some (some (.ref f__law_built_right))) (l23 : K.lookup f__law_built_right = some ⟨oc23, od23, .func (PySem.W.fnOf "_law_built_right" "_law_built_right" (defArgs s__law_built_right) (defBody s__law_built_right) (defScope s__law_built_right) .none kV23 dc23 pm23 an23 cd23 ct23), sl23⟩) (c23 : PySem.W.codeIn K cd23 "_law_built_right" = true) (k23 : PySem.W.keepIn K (.ref f__law_built_right) = true)
    (a24 : PySem.W.nsIn K mainGlobals "law" = some (some (.ref f_law))) (l24 : K.lookup f_law = some ⟨oc24, od24, .func (PySem.W.fnOf "law" "law" (defArgs s_law) (defBody s_law) (defScope s_law) .none kV24 dc24 pm24 an24 cd24 ct24), sl24⟩) (c24 : PySem.W.codeIn K cd24 "law" = true) (k24 : PySem.W.keepIn K (.ref f_law) = true)
    {A_T A_X A_fi A_fl A_pn A_gn A_pb A_gb : Addr} {rp rb : List Value} {od_T_init an_T_init od_T_len an_T_len od_T_nodes an_T_nodes od_T_build an_T_build : Option Addr} {sl_T_init sl_T_len sl_T_nodes sl_T_build : Array (Option Value)} {oc_T_init kV_T_init dc_T_init pm_T_init cd_T_init ct_T_init oc_T_len kV_T_len dc_T_len pm_T_len cd_T_len ct_T_len oc_T_nodes kV_T_nodes dc_T_nodes pm_T_nodes cd_T_nodes ct_T_nodes oc_T_build kV_T_build dc_T_build pm_T_build cd_T_build ct_T_build : Value}
    (nT : PySem.W.nsIn K mainGlobals "Term" = some (some (.ref A_T))) (nX : PySem.W.nsIn K mainGlobals "InvalidTerm" = some (some (.ref A_X)))
    (xI : PySem.W.findIn K (.ref A_T) "__init__" = some (some (.ref A_fi))) (xL : PySem.W.findIn K (.ref A_T) "__len__" = some (some (.ref A_fl))) (xP : PySem.W.findIn K (.ref A_T) "nodes" = some (some (.ref A_pn))) (xG : PySem.W.recIn K A_pn "property" = some (.ref A_gn :: rp))
    (xM : PySem.W.findCls K (.ref A_T) mcT "build" = some (.get (.builtin "classmethod.__get__") (.ref A_pb) .none (.ref A_T))) (xB : PySem.W.recIn K A_pb "classmethod" = some (.ref A_gb :: rb))
    (l_T_init : K.lookup A_fi = some ⟨oc_T_init, od_T_init, .func (PySem.W.fnOf "__init__" "Term.__init__" (defArgs s_T_init) (defBody s_T_init) (defScope s_T_init) .none kV_T_init dc_T_init pm_T_init an_T_init cd_T_init ct_T_init), sl_T_init⟩) (c_T_init : PySem.W.codeIn K cd_T_init "Term.__init__" = true) (k_T_init : PySem.W.keepIn K (.ref A_fi) = true)
    (l_T_len : K.lookup A_fl = some ⟨oc_T_len, od_T_len, .func (PySem.W.fnOf "__len__" "Term.__len__" (defArgs s_T_len) (defBody s_T_len) (defScope s_T_len) .none kV_T_len dc_T_len pm_T_len an_T_len cd_T_len ct_T_len), sl_T_len⟩) (c_T_len : PySem.W.codeIn K cd_T_len "Term.__len__" = true) (k_T_len : PySem.W.keepIn K (.ref A_fl) = true)
    (l_T_nodes : K.lookup A_gn = some ⟨oc_T_nodes, od_T_nodes, .func (PySem.W.fnOf "nodes" "Term.nodes" (defArgs s_T_nodes) (defBody s_T_nodes) (defScope s_T_nodes) .none kV_T_nodes dc_T_nodes pm_T_nodes an_T_nodes cd_T_nodes ct_T_nodes), sl_T_nodes⟩) (c_T_nodes : PySem.W.codeIn K cd_T_nodes "Term.nodes" = true) (k_T_nodes : PySem.W.keepIn K (.ref A_gn) = true)
    (l_T_build : K.lookup A_gb = some ⟨oc_T_build, od_T_build, .func (PySem.W.fnOf "build" "Term.build" (defArgs s_T_build) (defBody s_T_build) (defScope s_T_build) .none kV_T_build dc_T_build pm_T_build an_T_build cd_T_build ct_T_build), sl_T_build⟩) (c_T_build : PySem.W.codeIn K cd_T_build "Term.build" = true) (k_T_build : PySem.W.keepIn K (.ref A_gb) = true)
    (tB : termB K ⟨A_T, A_X, A_fi, A_fl, A_pn, A_gn, A_pb, A_gb⟩ = true) (tK : kitsB K A_T = true) (tC : clB4 K A_T = true) (tX : invB K A_X = true)
    {t_MAX_LETTERS t_MAX_ARITY t_ANY t_LOST t_MAX_NODES : Tok}
    (z0 : PySem.W.nsIn K mainGlobals "len" = some none)
    (z1 : PySem.W.nsIn K mainGlobals "int" = some none)
    (z2 : PySem.W.nsIn K mainGlobals "abs" = some none)
    (z3 : PySem.W.nsIn K mainGlobals "isinstance" = some none)
    (z4 : PySem.W.nsIn K mainGlobals "bool" = some none)
    (z5 : PySem.W.nsIn K mainGlobals "all" = some none)
    (z6 : PySem.W.nsIn K mainGlobals "str" = some none)
    (z7 : PySem.W.nsIn K mainGlobals "tuple" = some none)
    (z8 : PySem.W.nsIn K mainGlobals "dict" = some none)
    (z9 : PySem.W.nsIn K mainGlobals "sorted" = some none)
    (z10 : PySem.W.nsIn K mainGlobals "list" = some none)
    (z11 : PySem.W.nsIn K mainGlobals "range" = some none)
    (z12 : PySem.W.nsIn K mainGlobals "max" = some none)
    (z13 : PySem.W.nsIn K mainGlobals "min" = some none)
    (z14 : PySem.W.nsIn K mainGlobals "MAX_LETTERS" = some (some (.int 8 t_MAX_LETTERS)))
    (z15 : PySem.W.nsIn K mainGlobals "MAX_ARITY" = some (some (.int 3 t_MAX_ARITY)))
    (z16 : PySem.W.nsIn K mainGlobals "ANY" = some (some (.str "_" t_ANY)))
    (z17 : PySem.W.nsIn K mainGlobals "LOST" = some (some (.str "#" t_LOST)))
    (z18 : PySem.W.nsIn K mainGlobals "MAX_NODES" = some (some (.int 40 t_MAX_NODES)))
    : ∃ fd : FuncData, (∀ (s : Shared) (v : Value), BindsTo s fd ⟨[v], []⟩ [("_law_script", v)]) ∧ ∀ base : Heap, K.In base → base.Ns mainGlobals mg → FnOk l.prog w K mg base CX0 11 fa fd ["_law_script"] (spLaw K) := by
  have e := hfa.symm.trans (PySem.W.mg_of X G a24)
  cases e
  have T : Txt mg := ⟨PySem.W.mg_none_of X G z0, PySem.W.mg_none_of X G z1, PySem.W.mg_none_of X G z2, PySem.W.mg_none_of X G z3, PySem.W.mg_none_of X G z4, PySem.W.mg_none_of X G z5, PySem.W.mg_none_of X G z6, PySem.W.mg_none_of X G z7, PySem.W.mg_none_of X G z8, PySem.W.mg_none_of X G z9, PySem.W.mg_none_of X G z10, PySem.W.mg_none_of X G z11, PySem.W.mg_none_of X G z12, PySem.W.mg_none_of X G z13, ⟨_, PySem.W.mg_of X G z14⟩, ⟨_, PySem.W.mg_of X G z15⟩, ⟨_, PySem.W.mg_of X G z16⟩, ⟨_, PySem.W.mg_of X G z17⟩, ⟨_, PySem.W.mg_of X G z18⟩⟩
  have Z : TermZ K mg ⟨A_T, A_X, A_fi, A_fl, A_pn, A_gn, A_pb, A_gb⟩ := termZ (PySem.W.mg_of X G nT) (PySem.W.mg_of X G nX) xI xL xP xG xM xB tB tK tC tX
  have F_T_init := fun_mk (st := s_T_init) l_T_init c_T_init k_T_init
  have B_T_init : Binds K _ P_T_init [] := F_T_init.binds fun _ _ _ _ _ _ us hl => match us, hl with | [_, _], _ => rfl
  have F_T_len := fun_mk (st := s_T_len) l_T_len c_T_len k_T_len
  have B_T_len : Binds K _ P_T_len [] := F_T_len.binds fun _ _ _ _ _ _ us hl => match us, hl with | [_], _ => rfl
  have F_T_nodes := fun_mk (st := s_T_nodes) l_T_nodes c_T_nodes k_T_nodes
  have B_T_nodes : Binds K _ P_T_nodes [] := F_T_nodes.binds fun _ _ _ _ _ _ us hl => match us, hl with | [_], _ => rfl
  have F_T_build := fun_mk (st := s_T_build) l_T_build c_T_build k_T_build
  have F_is_integer := fun_mk (st := s_is_integer) l0 c0 k0
  have C_is_integer : Cal K mg "is_integer" f_is_integer _ P_is_integer := ⟨PySem.W.mg_of X G a0, k0, F_is_integer.binds fun _ _ _ _ _ _ us hl => match us, hl with | [_], _ => rfl⟩
  have F_is_word := fun_mk (st := s_is_word) l1 c1 k1
  have C_is_word : Cal K mg "is_word" f_is_word _ P_is_word := ⟨PySem.W.mg_of X G a1, k1, F_is_word.binds fun _ _ _ _ _ _ us hl => match us, hl with | [_], _ => rfl⟩
  have F_is_arity := fun_mk (st := s_is_arity) l2 c2 k2
  have C_is_arity : Cal K mg "is_arity" f_is_arity _ P_is_arity := ⟨PySem.W.mg_of X G a2, k2, F_is_arity.binds fun _ _ _ _ _ _ us hl => match us, hl with | [_], _ => rfl⟩
  have F_is_leaf := fun_mk (st := s_is_leaf) l3 c3 k3
  have C_is_leaf : Cal K mg "is_leaf" f_is_leaf _ P_is_leaf := ⟨PySem.W.mg_of X G a3, k3, F_is_leaf.binds fun _ _ _ _ _ _ us hl => match us, hl with | [_], _ => rfl⟩
  have F_is_node := fun_mk (st := s_is_node) l4 c4 k4
  have C_is_node : Cal K mg "is_node" f_is_node _ P_is_node := ⟨PySem.W.mg_of X G a4, k4, F_is_node.binds fun _ _ _ _ _ _ us hl => match us, hl with | [_], _ => rfl⟩
  have F_makes_one_tree := fun_mk (st := s_makes_one_tree) l5 c5 k5
  have C_makes_one_tree : Cal K mg "makes_one_tree" f_makes_one_tree _ P_makes_one_tree := ⟨PySem.W.mg_of X G a5, k5, F_makes_one_tree.binds fun _ _ _ _ _ _ us hl => match us, hl with | [_], _ => rfl⟩
  have F_is_tree := fun_mk (st := s_is_tree) l6 c6 k6
  have C_is_tree : Cal K mg "is_tree" f_is_tree _ P_is_tree := ⟨PySem.W.mg_of X G a6, k6, F_is_tree.binds fun _ _ _ _ _ _ us hl => match us, hl with | [_], _ => rfl⟩
  have F_part_end := fun_mk (st := s_part_end) l7 c7 k7
  have C_part_end : Cal K mg "part_end" f_part_end _ P_part_end := ⟨PySem.W.mg_of X G a7, k7, F_part_end.binds fun _ _ _ _ _ _ us hl => match us, hl with | [_, _], _ => rfl⟩
  have F_part_at := fun_mk (st := s_part_at) l8 c8 k8
  have C_part_at : Cal K mg "part_at" f_part_at _ P_part_at := ⟨PySem.W.mg_of X G a8, k8, F_part_at.binds fun _ _ _ _ _ _ us hl => match us, hl with | [_, _], _ => rfl⟩
  have F_symbols_in := fun_mk (st := s_symbols_in) l9 c9 k9
  have C_symbols_in : Cal K mg "symbols_in" f_symbols_in _ P_symbols_in := ⟨PySem.W.mg_of X G a9, k9, F_symbols_in.binds fun _ _ _ _ _ _ us hl => match us, hl with | [_], _ => rfl⟩
  have F__law_dice := fun_mk (st := s__law_dice) l10 c10 k10
  have C__law_dice : Cal K mg "_law_dice" f__law_dice _ P__law_dice := ⟨PySem.W.mg_of X G a10, k10, F__law_dice.binds fun _ _ _ _ _ _ us hl => match us, hl with | [_, _], _ => rfl⟩
  have F__law_roll := fun_mk (st := s__law_roll) l11 c11 k11
  have C__law_roll : Cal K mg "_law_roll" f__law_roll _ P__law_roll := ⟨PySem.W.mg_of X G a11, k11, F__law_roll.binds fun _ _ _ _ _ _ us hl => match us, hl with | [_, _], _ => rfl⟩
  have F__law_pick := fun_mk (st := s__law_pick) l12 c12 k12
  have C__law_pick : Cal K mg "_law_pick" f__law_pick _ P__law_pick := ⟨PySem.W.mg_of X G a12, k12, F__law_pick.binds fun _ _ _ _ _ _ us hl => match us, hl with | [_, _], _ => rfl⟩
  have F__law_nodes := fun_mk (st := s__law_nodes) l13 c13 k13
  have C__law_nodes : Cal K mg "_law_nodes" f__law_nodes _ P__law_nodes := ⟨PySem.W.mg_of X G a13, k13, F__law_nodes.binds fun _ _ _ _ _ _ us hl => match us, hl with | [_], _ => rfl⟩
  have F__law_made_term := fun_mk (st := s__law_made_term) l14 c14 k14
  have C__law_made_term : Cal K mg "_law_made_term" f__law_made_term _ P__law_made_term := ⟨PySem.W.mg_of X G a14, k14, F__law_made_term.binds fun _ _ _ _ _ _ us hl => match us, hl with | [_], _ => rfl⟩
  have F__law_term := fun_mk (st := s__law_term) l15 c15 k15
  have C__law_term : Cal K mg "_law_term" f__law_term _ P__law_term := ⟨PySem.W.mg_of X G a15, k15, F__law_term.binds fun _ _ _ _ _ _ us hl => match us, hl with | [_, _, _, _], _ => rfl⟩
  have F__law_small_term := fun_mk (st := s__law_small_term) l16 c16 k16
  have C__law_small_term : Cal K mg "_law_small_term" f__law_small_term _ P__law_small_term := ⟨PySem.W.mg_of X G a16, k16, F__law_small_term.binds fun _ _ _ _ _ _ us hl => match us, hl with | [_, _, _, _, _], _ => rfl⟩
  have F__law_drawn_term := fun_mk (st := s__law_drawn_term) l17 c17 k17
  have C__law_drawn_term : Cal K mg "_law_drawn_term" f__law_drawn_term _ P__law_drawn_term := ⟨PySem.W.mg_of X G a17, k17, F__law_drawn_term.binds fun _ _ _ _ _ _ us hl => match us, hl with | [_, _], _ => rfl⟩
  have F__law_is_leaf := fun_mk (st := s__law_is_leaf) l18 c18 k18
  have C__law_is_leaf : Cal K mg "_law_is_leaf" f__law_is_leaf _ P__law_is_leaf := ⟨PySem.W.mg_of X G a18, k18, F__law_is_leaf.binds fun _ _ _ _ _ _ us hl => match us, hl with | [_], _ => rfl⟩
  have F__law_is_tree := fun_mk (st := s__law_is_tree) l19 c19 k19
  have C__law_is_tree : Cal K mg "_law_is_tree" f__law_is_tree _ P__law_is_tree := ⟨PySem.W.mg_of X G a19, k19, F__law_is_tree.binds fun _ _ _ _ _ _ us hl => match us, hl with | [_], _ => rfl⟩
  have F__law_bent := fun_mk (st := s__law_bent) l20 c20 k20
  have C__law_bent : Cal K mg "_law_bent" f__law_bent _ P__law_bent := ⟨PySem.W.mg_of X G a20, k20, F__law_bent.binds fun _ _ _ _ _ _ us hl => match us, hl with | [_, _], _ => rfl⟩
  have F__law_is_made := fun_mk (st := s__law_is_made) l21 c21 k21
  have C__law_is_made : Cal K mg "_law_is_made" f__law_is_made _ P__law_is_made := ⟨PySem.W.mg_of X G a21, k21, F__law_is_made.binds fun _ _ _ _ _ _ us hl => match us, hl with | [_], _ => rfl⟩
  have F__law_is_built := fun_mk (st := s__law_is_built) l22 c22 k22
  have C__law_is_built : Cal K mg "_law_is_built" f__law_is_built _ P__law_is_built := ⟨PySem.W.mg_of X G a22, k22, F__law_is_built.binds fun _ _ _ _ _ _ us hl => match us, hl with | [_, _], _ => rfl⟩
  have F__law_built_right := fun_mk (st := s__law_built_right) l23 c23 k23
  have C__law_built_right : Cal K mg "_law_built_right" f__law_built_right _ P__law_built_right := ⟨PySem.W.mg_of X G a23, k23, F__law_built_right.binds fun _ _ _ _ _ _ us hl => match us, hl with | [_], _ => rfl⟩
  have F_law := fun_mk (st := s_law) l24 c24 k24
  refine ⟨PySem.W.fnOf "law" "law" (defArgs s_law) (defBody s_law) (defScope s_law) .none kV24 dc24 pm24 an24 cd24 ct24, fun s v => .of_eq rfl, fun base _ _ => ?_⟩
  have GI := ok_is_integer (P := l.prog) (w := w) (base := base) F_is_integer T Z
  have GW := ok_is_word (P := l.prog) (w := w) (base := base) F_is_word T Z
  have GA := ok_is_arity (P := l.prog) (w := w) (base := base) F_is_arity T Z GI C_is_integer
  have GL := ok_is_leaf (P := l.prog) (w := w) (base := base) F_is_leaf T Z
  have GN := ok_is_node (P := l.prog) (w := w) (base := base) F_is_node T Z GW C_is_word GA C_is_arity GL C_is_leaf
  have GO := ok_makes_one_tree (P := l.prog) (w := w) (base := base) F_makes_one_tree T Z
  have GT := ok_is_tree (P := l.prog) (w := w) (base := base) F_is_tree T Z GN C_is_node GO C_makes_one_tree
  have GS := ok_symbols_in (P := l.prog) (w := w) (base := base) F_symbols_in T Z GL C_is_leaf
  have GTi := ok_T_init (P := l.prog) (w := w) (base := base) F_T_init T Z GT C_is_tree GS C_symbols_in
  have GTl := ok_T_len (P := l.prog) (w := w) (base := base) F_T_len T Z
  have GTn := ok_T_nodes (P := l.prog) (w := w) (base := base) F_T_nodes T Z
  have GTb := ok_T_build (P := l.prog) (w := w) (base := base) F_T_build T Z GTi B_T_init GTn B_T_nodes
  have GD := ok__law_dice (P := l.prog) (w := w) (base := base) F__law_dice T Z
  have GR := ok__law_roll (P := l.prog) (w := w) (base := base) F__law_roll T Z
  have GP := ok__law_pick (P := l.prog) (w := w) (base := base) F__law_pick T Z GR C__law_roll
  have GNa := fn_depth (ok__law_nodes (P := l.prog) (w := w) (base := base) F__law_nodes T Z C__law_nodes (fun _ _ _ _ ⟨_, _, _, _, h, _⟩ => h))
  have GM := ok__law_made_term (P := l.prog) (w := w) (base := base) F__law_made_term T Z GNa C__law_nodes GTi B_T_init
  have GTa := fn_depth (ok__law_term (P := l.prog) (w := w) (base := base) F__law_term T Z C__law_term GR C__law_roll GP C__law_pick (fun _ _ _ _ ⟨_, _, _, _, h, _⟩ => absurd h (by decide)))
  have GSm := ok__law_small_term (P := l.prog) (w := w) (base := base) F__law_small_term T Z GTa C__law_term GNa C__law_nodes GP C__law_pick
  have GDr := ok__law_drawn_term (P := l.prog) (w := w) (base := base) F__law_drawn_term T Z GSm C__law_small_term
  have GLf := ok__law_is_leaf (P := l.prog) (w := w) (base := base) F__law_is_leaf T Z
  have GTr := ok__law_is_tree (P := l.prog) (w := w) (base := base) F__law_is_tree T Z GLf C__law_is_leaf
  have GB := ok__law_bent (P := l.prog) (w := w) (base := base) F__law_bent T Z GR C__law_roll GP C__law_pick
  have GIm := ok__law_is_made (P := l.prog) (w := w) (base := base) F__law_is_made T Z GTi B_T_init GTl B_T_len
  have GIb := ok__law_is_built (P := l.prog) (w := w) (base := base) F__law_is_built T Z GTb
  have GBr := ok__law_built_right (P := l.prog) (w := w) (base := base) F__law_built_right T Z GR C__law_roll GP C__law_pick GDr C__law_drawn_term GNa C__law_nodes GM C__law_made_term GIb C__law_is_built GTr C__law_is_tree
  exact ok_law F_law T Z GD C__law_dice GR C__law_roll GP C__law_pick GDr C__law_drawn_term GNa C__law_nodes GB C__law_bent GIm C__law_is_made GTr C__law_is_tree GBr C__law_built_right
theorem walk {l : PySem.W.OpenLaw} {q : Program} {loose : List Str} {XP : (Str → Option Value) → Heap → Prop} {YP : World → Heap → Prop} {d : DefRec} {K : Params → PySem.W.Frag} (hn : l.most = some 63) (hdf : d.params.defaults = [])
    (hY : ∀ (w : World) (h : Heap), YP w h → (K w.params).In h)
    (F : ∀ (w : World) (mg : Str → Option Value) (fa : Addr) (h : Heap), (K w.params).In h → h.Ns mainGlobals mg → mg d.name = some (.ref fa) →
      ∃ fd : FuncData, (∀ (s : Shared) (u : Value), BindsTo s fd ⟨[u], []⟩ [("_law_script", u)]) ∧ ∀ base : Heap, (K w.params).In base → base.Ns mainGlobals mg → FnOk l.prog w (K w.params) mg base CX0 11 fa fd ["_law_script"] (spLaw (K w.params))) :
    PySem.W.WalkO q loose XP YP l.row.toRowW d [] (fun f vs => PySem.call f vs) :=
  L2.walk_of (n := 63) (k := 11) (x := "_law_script") (CX := fun _ => CX0) (sp := fun w => spLaw (K w.params)) hn (by decide) hdf ⟨rfl, by decide, by decide⟩ hY F (fun _ _ a ns hl hO hS => ⟨a, ns, rfl, scr_of hO hS, hl, fun _ => rfl⟩) fun _ _ _ _ _ z => z
end K07
open PySem PySem.W PyProof.Rows
set_option maxRecDepth 100000 in
set_option maxHeartbeats 0 in
theorem PySem.Challenge.cw_firstneed_k07_tuples_of_nodes_judged_holds : PySem.Challenge.rw_firstneed_k07_tuples_of_nodes_judged.Holds := by
  w_on; o_law; k_head; (case hw => w_witness2)
  k_fill
  refine K07.walk (l := PySem.Challenge.rw_firstneed_k07_tuples_of_nodes_judged) rfl rfl (fun w h Y => PySem.W.kIn_of Y) ?F
  case F =>
    intro w mg fa h KX G hmg
    refine' K07.all_mk KX G hmg ?a0 ?l0 ?c0 ?k0 ?a1 ?l1 ?c1 ?k1 ?a2 ?l2 ?c2 ?k2 ?a3 ?l3 ?c3 ?k3 ?a4 ?l4 ?c4 ?k4 ?a5 ?l5 ?c5 ?k5 ?a6 ?l6 ?c6 ?k6 ?a7 ?l7 ?c7 ?k7 ?a8 ?l8 ?c8 ?k8 ?a9 ?l9 ?c9 ?k9 ?a10 ?l10 ?c10 ?k10 ?a11 ?l11 ?c11 ?k11 ?a12 ?l12 ?c12 ?k12 ?a13 ?l13 ?c13 ?k13 ?a14 ?l14 ?c14 ?k14 ?a15 ?l15 ?c15 ?k15 ?a16 ?l16 ?c16 ?k16 ?a17 ?l17 ?c17 ?k17 ?a18 ?l18 ?c18 ?k18 ?a19 ?l19 ?c19 ?k19 ?a20 ?l20 ?c20 ?k20 ?a21 ?l21 ?c21 ?k21 ?a22 ?l22 ?c22 ?k22 ?a23 ?l23 ?c23 ?k23 ?a24 ?l24 ?c24 ?k24 ?nT ?nX ?xI ?xL ?xP ?xG ?xM ?xB ?l_T_init ?c_T_init ?k_T_init ?l_T_len ?c_T_len ?k_T_len ?l_T_nodes ?c_T_nodes ?k_T_nodes ?l_T_build ?c_T_build ?k_T_build ?tB ?tK ?tC ?tX ?z0 ?z1 ?z2 ?z3 ?z4 ?z5 ?z6 ?z7 ?z8 ?z9 ?z10 ?z11 ?z12 ?z13 ?z14 ?z15 ?z16 ?z17 ?z18
    (case a0 => k_is)
    (case l0 => k_is)
    (case c0 => k_is)
    (case k0 => k_is)
    (case a1 => k_is)
    (case l1 => k_is)
    (case c1 => k_is)
    (case k1 => k_is)
    (case a2 => k_is)
    (case l2 => k_is)
    (case c2 => k_is)
    (case k2 => k_is)
    (case a3 => k_is)
    (case l3 => k_is)
    (case c3 => k_is)
    (case k3 => k_is)
    (case a4 => k_is)
    (case l4 => k_is)
    (case c4 => k_is)
    (case k4 => k_is)
    (case a5 => k_is)
    (case l5 => k_is)
    (case c5 => k_is)
    (case k5 => k_is)
    (case a6 => k_is)
    (case l6 => k_is)
    (case c6 => k_is)
    (case k6 => k_is)
    (case a7 => k_is)
    (case l7 => k_is)
    (case c7 => k_is)
    (case k7 => k_is)
    (case a8 => k_is)
    (case l8 => k_is)
    (case c8 => k_is)
    (case k8 => k_is)
    (case a9 => k_is)
    (case l9 => k_is)
    (case c9 => k_is)
    (case k9 => k_is)
    (case a10 => k_is)
    (case l10 => k_is)
    (case c10 => k_is)
    (case k10 => k_is)
    (case a11 => k_is)
    (case l11 => k_is)
    (case c11 => k_is)
    (case k11 => k_is)
    (case a12 => k_is)
    (case l12 => k_is)
    (case c12 => k_is)
    (case k12 => k_is)
    (case a13 => k_is)
    (case l13 => k_is)
    (case c13 => k_is)
    (case k13 => k_is)
    (case a14 => k_is)
    (case l14 => k_is)
    (case c14 => k_is)
    (case k14 => k_is)
    (case a15 => k_is)
    (case l15 => k_is)
    (case c15 => k_is)
    (case k15 => k_is)
    (case a16 => k_is)
    (case l16 => k_is)
    (case c16 => k_is)
    (case k16 => k_is)
    (case a17 => k_is)
    (case l17 => k_is)
    (case c17 => k_is)
    (case k17 => k_is)
    (case a18 => k_is)
    (case l18 => k_is)
    (case c18 => k_is)
    (case k18 => k_is)
    (case a19 => k_is)
    (case l19 => k_is)
    (case c19 => k_is)
    (case k19 => k_is)
    (case a20 => k_is)
    (case l20 => k_is)
    (case c20 => k_is)
    (case k20 => k_is)
    (case a21 => k_is)
    (case l21 => k_is)
    (case c21 => k_is)
    (case k21 => k_is)
    (case a22 => k_is)
    (case l22 => k_is)
    (case c22 => k_is)
    (case k22 => k_is)
    (case a23 => k_is)
    (case l23 => k_is)
    (case c23 => k_is)
    (case k23 => k_is)
    (case a24 => k_is)
    (case l24 => k_is)
    (case c24 => k_is)
    (case k24 => k_is)
    (case nT => k_is)
    (case nX => k_is)
    (case xI => k_is)
    (case xL => k_is)
    (case xP => k_is)
    (case xG => k_is)
    (case xM => k_is)
    (case xB => k_is)
    (case l_T_init => k_is)
    (case c_T_init => k_is)
    (case k_T_init => k_is)
    (case l_T_len => k_is)
    (case c_T_len => k_is)
    (case k_T_len => k_is)
    (case l_T_nodes => k_is)
    (case c_T_nodes => k_is)
    (case k_T_nodes => k_is)
    (case l_T_build => k_is)
    (case c_T_build => k_is)
    (case k_T_build => k_is)
    (case tB => first | kernel_rfl | k_is)
    (case tK => first | kernel_rfl | k_is)
    (case tC => first | kernel_rfl | k_is)
    (case tX => first | kernel_rfl | k_is)
    (case z0 => k_is)
    (case z1 => k_is)
    (case z2 => k_is)
    (case z3 => k_is)
    (case z4 => k_is)
    (case z5 => k_is)
    (case z6 => k_is)
    (case z7 => k_is)
    (case z8 => k_is)
    (case z9 => k_is)
    (case z10 => k_is)
    (case z11 => k_is)
    (case z12 => k_is)
    (case z13 => k_is)
    (case z14 => k_is)
    (case z15 => k_is)
    (case z16 => k_is)
    (case z17 => k_is)
    (case z18 => k_is)
