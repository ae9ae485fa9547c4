import PyProof.Rows.All
import Wide.All
import OpenK.AllK
import Wide.FinOn
import HandS.ForMost
import HandS.IsInst
import HandS.Deep
import HandS.Walk
import PySem.Challenge.RW_firstneed_k03_nodes_judged
set_option Elab.async false
set_option maxRecDepth 100000
/-! Rules and promises that all laws share: powers of great numbers, repr of a truth value, the dice. -/
namespace Fn
open PySem PySem.Spec PyProof.Rows L2
section
variable {X : Cx}
def CPowW (i j : Int) : Prop := 0 ≤ j ∧ (Builtin.Int.intBits i : Int) * j ≤ 2 ^ 27
theorem op_powW : OpR X (binaryOp .Pow) (rI CPowW fun i j => .int (i ^ j.toNat)) := opI fun _ _ _ _ _ _ _ hc q => pow_int hc.1 hc.2 q
theorem call_repr_b : CallR X (.builtin "repr") (fun xs H Q => ∃ b, xs = [.bl b] ∧ Q (.str (if b then "True" else "False")) H) := by
  intro pins s σ H xs us Q I r h
  obtain ⟨b, rfl, q⟩ := h
  obtain ⟨u, rfl, r1⟩ := vals1 r
  cases r1
  exact PySem.P.repr_of_bool ⟨.str _, H, I.tok _, ⟨_, rfl⟩, q⟩
end
theorem powOk {i j : Int} (h : (decide (0 ≤ j) && decide ((Builtin.Int.intBits i : Int) * j ≤ 2 ^ 27)) = true) : CPowW i j := by
  rw [Bool.and_eq_true] at h
  exact ⟨of_decide_eq_true h.1, of_decide_eq_true h.2⟩
theorem modc {j : Int} (h : 0 < j) : 0 < j := h
theorem szr {α : Type} {xs : List α} (h : Nat.ble xs.length 100000 = true) : xs.length ≤ sizeLine := Nat.le_trans (Nat.le_of_ble_eq_true h) (by decide)
theorem szl {α : Type} {xs : List α} (h : xs.length ≤ 100000) : xs.length ≤ sizeLine := Nat.le_trans h (by decide)
theorem szlt {n : Nat} (h : n ≤ 100000) : n < sizeLine := Nat.lt_of_le_of_lt h (by decide)
theorem script_at {ns : List Int} {k : Int} (h0 : 0 ≤ k) (h : k < (ns.length : Int)) : ∃ c : Int, atI (ns.map V.int) k = some (.int c) := by
  have hlt : k.toNat < ns.length := by omega
  have ek : ((k.toNat : Nat) : Int) = k := by omega
  have g : atI (ns.map V.int) ((k.toNat : Nat) : Int) = some (.int ns[k.toNat]) := atI_nat (by rw [List.getElem?_map, List.getElem?_eq_getElem hlt] <;> rfl)
  rw [ek] at g
  exact ⟨_, g⟩
/-! ### places in the text: the scope of a comprehension -/
def kidsE : Expr → List Expr
  | .BoolOp _ vs _ => vs
  | .BinOp a _ b _ => [a, b]
  | .UnaryOp _ a _ => [a]
  | .IfExp t a b _ => [t, a, b]
  | .ListComp e gs _ _ => e :: gs.flatMap fun c => c.iter :: c.ifs
  | .Compare l _ cs _ => l :: cs
  | .Call f xs _ _ => f :: xs
  | .Attribute v _ _ => [v]
  | .Subscript a b _ => [a, b]
  | .List es _ => es
  | .Tuple es _ _ => es
  | _ => []
def goE (e : Expr) (path : List Nat) : Expr := path.foldl (fun e i => (kidsE e).getD i e) e
def stE : Stmt → Expr
  | .Return (some e) _ => e
  | .Assign _ e _ => e
  | .AugAssign _ _ e _ => e
  | .For _ e _ _ _ => e
  | .While e _ _ _ => e
  | .If e _ _ _ => e
  | .Expr e _ => e
  | _ => .Name "" ⟨0, 0, 0, 0⟩
def stB : Stmt → List Stmt
  | .For _ _ a b _ => a ++ b
  | .While _ a b _ => a ++ b
  | .If _ a b _ => a ++ b
  | _ => []
def goS (body : List Stmt) (path : List Nat) : Stmt := match path with
  | [] => .Pass ⟨0, 0, 0, 0⟩
  | i :: r => r.foldl (fun s j => (stB s).getD j s) (body.getD i (.Pass ⟨0, 0, 0, 0⟩))
def lcSc : Expr → Scope
  | .ListComp _ _ sc _ => sc
  | _ => { kind := .function, names := [], isGenerator := false, isCoroutine := false }
theorem mulL {i j : Int} (h : -(2 ^ 64) < i ∧ i < 2 ^ 64) : CMul i j := Or.inl h
theorem mulR {i j : Int} (h : -(2 ^ 64) < j ∧ j < 2 ^ 64) : CMul i j := Or.inr h
/-- a def as a callee: its name, its object, how its arguments bind -/
structure Cal (K : PySem.W.Frag) (mg : Str → Option Value) (x : Str) (f : Addr) (fd : FuncData) (ps : List Str) : Prop where
  m : mg x = some (.ref f)
  k : PySem.W.keepIn K (.ref f) = true
  b : Binds K fd ps []
/-- three ints: the dice -/
def dl (x y z : Int) : HO := .lst [.int x, .int y, .int z]
theorem sq_upd {K : PySem.W.Frag} {H : Hp} {p a : Addr} {o : HO} {xs : List V} (h : a ≠ p) (hs : H a = some (.lst xs)) : SqL K (upd H p o) a xs := SqL.of (by rw [upd_ne h]; exact hs)

/-! ### what stays: all but the contents of lists -/
def Ev2 (H H' : Hp) : Prop := ∀ (a : Addr) (o : HO), H a = some o → (∃ xs ys, o = .lst xs ∧ H' a = some (.lst ys)) ∨ H' a = some o
theorem Ev2.refl (H : Hp) : Ev2 H H := fun _ _ h => .inr h
theorem Ev2.trans {H H1 H2 : Hp} (a : Ev2 H H1) (b : Ev2 H1 H2) : Ev2 H H2 := fun x o h => by
  rcases a x o h with ⟨xs, ys, rfl, h1⟩ | h1
  · rcases b x _ h1 with ⟨_, zs, _, h2⟩ | h2
    · exact .inl ⟨_, zs, rfl, h2⟩
    · exact .inl ⟨_, ys, rfl, h2⟩
  · exact b x o h1
theorem Ev2.new {H : Hp} {p : Addr} {o : HO} (h : H p = none) : Ev2 H (upd H p o) := fun a u e => .inr (by
  rw [upd_ne (ne_of_none e h)]
  exact e)
theorem Ev2.lst {H : Hp} {p : Addr} {xs ys : List V} (h : H p = some (.lst xs)) : Ev2 H (upd H p (.lst ys)) := fun a u e => by
  by_cases q : a = p
  · subst q
    rw [h] at e
    exact .inl ⟨xs, ys, (Option.some.inj e).symm, upd_same⟩
  · exact .inr (by rw [upd_ne q]; exact e)
theorem Ev2.tup {H H' : Hp} {a : Addr} {xs : List V} (h : H a = some (.tup xs)) (e : Ev2 H H') : H' a = some (.tup xs) := by
  rcases e a _ h with ⟨_, _, q, _⟩ | q
  · cases q
  · exact q
theorem Ev2.frz {H H' : Hp} {a : Addr} {o : Obj} {u : HO} (h : H a = some (.frz o u)) (e : Ev2 H H') : H' a = some (.frz o u) := by
  rcases e a _ h with ⟨_, _, q, _⟩ | q
  · cases q
  · exact q
theorem Ev2.dK {H H' : Hp} {a : Addr} {kvs : List (Key × V)} (h : H a = some (.dK kvs)) (e : Ev2 H H') : H' a = some (.dK kvs) := by
  rcases e a _ h with ⟨_, _, q, _⟩ | q
  · cases q
  · exact q
theorem Ev2.isL {H H' : Hp} {a : Addr} {xs : List V} (h : H a = some (.lst xs)) (e : Ev2 H H') : ∃ ys, H' a = some (.lst ys) := by
  rcases e a _ h with ⟨_, ys, _, q⟩ | q
  · exact ⟨ys, q⟩
  · exact ⟨xs, q⟩
theorem Ev2.some {H H' : Hp} {a : Addr} {o : HO} (h : H a = some o) (e : Ev2 H H') : ∃ u, H' a = some u := by
  rcases e a _ h with ⟨_, ys, _, q⟩ | q
  · exact ⟨_, q⟩
  · exact ⟨_, q⟩
theorem Ev2.fresh {H H' : Hp} {a : Addr} (e : Ev2 H H') (h : H' a = none) : H a = none := by
  cases q : H a with
  | none => rfl
  | some o =>
    obtain ⟨u, z⟩ := Ev2.some q e
    rw [z] at h
    cases h
theorem ne_new {H H' : Hp} {a p : Addr} {o : HO} (h : H a = some o) (e : Ev2 H H') (hp : H' p = none) : a ≠ p := ne_of_none h (e.fresh hp)
/-- a new object: the heap behind is named -/
theorem made {H H1 : Hp} {p : Addr} {o : HO} (n : H p = none) (g : upd H p o = H1) : Ev2 H H1 ∧ (∀ b, b ≠ p → H1 b = H b) ∧ H1 p = some o := by
  subst g
  exact ⟨Ev2.new n, fun _ hb => upd_ne hb, upd_same⟩
/-- the script, in a heap that knows nothing else -/
def Scr (K : PySem.W.Frag) (H : Hp) (a : Addr) (xs : List V) : Prop := SqL K H a xs ∧ ∀ H', Ev2 H H' → SqL K H' a xs
theorem scr_of {K : PySem.W.Frag} {H : Hp} {a : Addr} {xs : List V} (hO : Only H) (h : SqL K H a xs) : Scr K H a xs := by
  refine ⟨h, fun H' e => ?_⟩
  rcases h with (h | ⟨o, h⟩) | h
  · rcases hO a with q | ⟨o, ys, q⟩
    · rw [q] at h
      cases h
    · rw [q] at h
      cases h
  · exact .inl (.inr ⟨o, Ev2.frz h e⟩)
  · exact .inr h
theorem Scr.mono {K : PySem.W.Frag} {H H' : Hp} {a : Addr} {xs : List V} (h : Scr K H a xs) (e : Ev2 H H') : Scr K H' a xs := ⟨h.2 _ e, fun _ e2 => h.2 _ (e.trans e2)⟩
/-- kinds of values that are looked at by isinstance -/
def Ty (K : PySem.W.Frag) (H : Hp) (v : V) (n : String) : Prop := match v with
  | .non => n = "NoneType" | .bl _ => n = "bool" | .int _ => n = "int" | .str _ => n = "str"
  | .ref a => (n = "list" ∧ ∃ xs, H a = some (.lst xs)) ∨ (n = "tuple" ∧ ∃ xs, H a = some (.tup xs)) ∨ (n = "dict" ∧ ∃ kvs, H a = some (.dK kvs))
  | _ => False
theorem Ty.x {K : PySem.W.Frag} {H : Hp} {v : V} {n : String} (h : Ty K H v n) : TyX K H v (.type n) := by
  cases v with
  | non => cases (show n = "NoneType" from h); exact .base .non
  | bl b => cases (show n = "bool" from h); exact .base (.bl b)
  | int i => cases (show n = "int" from h); exact .base (.int i)
  | str x => cases (show n = "str" from h); exact .base (.str x)
  | byt b => exact h.elim
  | flt b => exact h.elim
  | ty b => exact h.elim
  | ref a =>
    rcases h with ⟨rfl, xs, e⟩ | ⟨rfl, xs, e⟩ | ⟨rfl, xs, e⟩
    · exact .base (.lst e)
    · exact .base (.tup e)
    · exact .base (.dK e)
theorem Ty.mono {K : PySem.W.Frag} {H H' : Hp} {v : V} {n : String} (h : Ty K H v n) (e : Ev2 H H') : Ty K H' v n := by
  cases v with
  | ref a =>
    rcases h with ⟨rfl, xs, q⟩ | ⟨rfl, xs, q⟩ | ⟨rfl, xs, q⟩
    · exact .inl ⟨rfl, Ev2.isL q e⟩
    · exact .inr (.inl ⟨rfl, xs, Ev2.tup q e⟩)
    · exact .inr (.inr ⟨rfl, xs, Ev2.dK q e⟩)
  | non => exact h
  | bl b => exact h
  | int i => exact h
  | str x => exact h
  | byt b => exact h
  | flt b => exact h
  | ty b => exact h
/-- the dice stand at p -/
def Dc (H : Hp) (p : Addr) : Prop := ∃ x y z : Int, H p = some (dl x y z)
/-- only what stands at p is another -/
def Only1 (H H' : Hp) (p : Addr) : Prop := ∀ b, b ≠ p → H' b = H b
theorem keepAt {H H1 : Hp} {a p : Addr} {o : HO} (t : H a = some o) (n : H p = none) (k : ∀ b, b ≠ p → H1 b = H b) : H1 a = some o := (k a (ne_of_none t n)).trans t
theorem sameOf {H H1 : Hp} {p : Addr} (n : H p = none) (k : ∀ b, b ≠ p → H1 b = H b) : Same H H1 := fun _ _ e => keepAt e n k
theorem Ev2.same {H H1 : Hp} (s : Same H H1) : Ev2 H H1 := fun a o e => .inr (s a o e)
theorem Dc.keep {H H1 : Hp} {a p : Addr} (t : Dc H a) (n : H p = none) (k : ∀ b, b ≠ p → H1 b = H b) : Dc H1 a := by
  obtain ⟨x, y, z, t⟩ := t
  exact ⟨x, y, z, keepAt t n k⟩
theorem Dc.ne {H : Hp} {a p : Addr} (t : Dc H a) (n : H p = none) : a ≠ p := by
  obtain ⟨x, y, z, t⟩ := t
  exact ne_of_none t n
/-- all but what stands at p is the same -/
def But (p : Addr) (H H' : Hp) : Prop := ∀ a o, a ≠ p → H a = some o → H' a = some o
theorem But.refl (p : Addr) (H : Hp) : But p H H := fun _ _ _ h => h
theorem But.trans {p : Addr} {H H1 H2 : Hp} (x : But p H H1) (y : But p H1 H2) : But p H H2 := fun a o n h => y a o n (x a o n h)
theorem But.of1 {p : Addr} {H H' : Hp} (k : Only1 H H' p) : But p H H' := fun a o n h => (k a n).trans h
theorem But.ofS {p : Addr} {H H' : Hp} (k : Same H H') : But p H H' := fun a o _ h => k a o h
theorem But.ev {p : Addr} {H H' : Hp} (k : But p H H') (d : Dc H p) (d' : Dc H' p) : Ev2 H H' := fun a o h => by
  by_cases e : a = p
  · subst e
    obtain ⟨x, y, z, h1⟩ := d
    obtain ⟨x', y', z', h2⟩ := d'
    rw [h1] at h
    exact .inl ⟨_, _, (Option.some.inj h).symm, h2⟩
  · exact .inr (k a o e h)
theorem But.at {p : Addr} {H H' : Hp} {a : Addr} {o : HO} (h : H a = some o) (n : a ≠ p) (k : But p H H') : H' a = some o := k a o n h
theorem Dc.same {H H' : Hp} {p : Addr} (d : Dc H p) (s : Same H H') : Dc H' p := by
  obtain ⟨x, y, z, h⟩ := d
  exact ⟨x, y, z, s _ _ h⟩
theorem Dc.neOf {H : Hp} {a p : Addr} {xs : List V} (d : Dc H p) (h : H a = some (.lst xs)) (n : ∀ x y z : Int, xs ≠ [.int x, .int y, .int z]) : a ≠ p := by
  rintro rfl
  obtain ⟨x, y, z, h1⟩ := d
  rw [h1] at h
  exact n x y z (HO.lst.inj (Option.some.inj h)).symm
def spDice (K : PySem.W.Frag) : Sp := fun vs H Q _ => ∃ (a : Addr) (ns : List Int) (k : Int), vs = [.ref a, .int k] ∧ SqL K H a (ns.map V.int) ∧ ns.length ≤ 1000 ∧ 0 ≤ k ∧ k < 1000 ∧
  ∀ (p : Addr) (H' : Hp), H p = none → Ev2 H H' → Only1 H H' p → Dc H' p → Q (.ref p) H'
def spRoll : Sp := fun vs H Q _ => ∃ (p : Addr) (n : Int), vs = [.ref p, .int n] ∧ Dc H p ∧ 0 < n ∧ n < 1000000 ∧
  ∀ (r : Int) (H' : Hp), 0 ≤ r → r < n → Ev2 H H' → Only1 H H' p → Dc H' p → Q (.int r) H'
def spPick (K : PySem.W.Frag) : Sp := fun vs H Q _ => ∃ (p a : Addr) (xs : List V), vs = [.ref p, .ref a] ∧ Dc H p ∧ SqL K H a xs ∧ (∀ H', Ev2 H H' → Only1 H H' p → SqL K H' a xs) ∧ 0 < xs.length ∧ xs.length < 1000000 ∧
  ∀ (i : Nat) (v : V) (H' : Hp), xs[i]? = some v → Ev2 H H' → Only1 H H' p → Dc H' p → Q v H'
theorem perm_erase {α : Type} : ∀ {zs : List α} {i : Nat} (h : i < zs.length), ([zs[i]] ++ zs.eraseIdx i).Perm zs
  | z :: zs, 0, _ => List.Perm.refl _
  | z :: zs, i + 1, h => by
    have h' : i < zs.length := by simpa using h
    have ih := perm_erase h'
    exact (List.Perm.swap z (zs[i]'h') _).trans (List.Perm.cons z ih)
/-- some of a list, taken without putting back -/
def spSome (K : PySem.W.Frag) : Sp := fun vs H Q _ => ∃ (p a : Addr) (xs : List V) (n : Int), vs = [.ref p, .ref a, .int n] ∧ Dc H p ∧ H a = some (.lst xs) ∧ 0 ≤ n ∧ n ≤ 1000 ∧ xs.length ≤ 1000 ∧
  ∀ (l : Addr) (ys zs : List V) (H' : Hp), But p H H' → Dc H' p → H l = none → l ≠ p → H' l = some (.lst ys) → (ys ++ zs).Perm xs → (ys.length : Int) = (if (xs.length : Int) < n then (xs.length : Int) else n) → Q (.ref l) H'
theorem Dc.set {H : Hp} {p : Addr} (h : Dc H p) (x y z : Int) : Ev2 H (upd H p (dl x y z)) ∧ Only1 H (upd H p (dl x y z)) p ∧ Dc (upd H p (dl x y z)) p := by
  obtain ⟨x0, y0, z0, h⟩ := h
  exact ⟨Ev2.lst h, fun _ hb => upd_ne hb, x, y, z, upd_same⟩
/-- the list that is picked from is not the dice -/
theorem pick_l {K : PySem.W.Frag} {H : Hp} {a p : Addr} {xs : List V} (h : H a = some (.lst xs)) (d : a ≠ p) : SqL K H a xs ∧ ∀ H', Ev2 H H' → Only1 H H' p → SqL K H' a xs :=
  ⟨SqL.of h, fun H' _ k => SqL.of ((k a d).trans h)⟩
def spLaw (K : PySem.W.Frag) : Sp := fun vs H Q _ => ∃ (a : Addr) (ns : List Int), vs = [.ref a] ∧ Scr K H a (ns.map V.int) ∧ ns.length ≤ 63 ∧ ∀ H', Q (.bl true) H'
/-- the number of turns of a law: between 1 and 8 -/
theorem turns {n : Nat} : 0 ≤ (if (if (n : Int) < 8 then (n : Int) else 8) > 1 then (if (n : Int) < 8 then (n : Int) else 8) else 1) ∧ (if (if (n : Int) < 8 then (n : Int) else 8) > 1 then (if (n : Int) < 8 then (n : Int) else 8) else 1) ≤ 8 := by
  split <;> split <;> omega
end Fn

set_option Elab.async false
set_option maxRecDepth 100000
/-! Data at an address: values that are told as PyData; what is in a list or tuple of data. -/
namespace Fn
open PySem PySem.Spec PyProof.Rows L2
mutual
inductive Dx (H : Hp) : V → PyData → Prop
  | non : Dx H .non .none
  | bl (b : Bool) : Dx H (.bl b) (.bool b)
  | int (i : Int) : Dx H (.int i) (.int i)
  | str (x : Str) : Dx H (.str x) (.str x)
  | lst {a : Addr} {xs : List V} {ds : List PyData} : H a = some (.lst xs) → DxAll H xs ds → Dx H (.ref a) (.list ds)
  | tup {a : Addr} {xs : List V} {ds : List PyData} : H a = some (.tup xs) → DxAll H xs ds → Dx H (.ref a) (.tuple ds)
  | dct {a : Addr} : H a = some (.dK []) → Dx H (.ref a) (.dict [])
inductive DxAll (H : Hp) : List V → List PyData → Prop
  | nil : DxAll H [] []
  | cons {v : V} {vs : List V} {d : PyData} {ds : List PyData} : Dx H v d → DxAll H vs ds → DxAll H (v :: vs) (d :: ds)
end
theorem DxAll.len {H : Hp} : ∀ {ds : List PyData} {vs : List V}, DxAll H vs ds → vs.length = ds.length
  | [], _, h => by cases h; rfl
  | d :: ds, _, h => by
    cases h with
    | cons h1 h2 =>
      show _ + 1 = _ + 1
      rw [DxAll.len h2]
theorem DxAll.get {H : Hp} : ∀ {ds : List PyData} {vs : List V} {i : Nat} {v : V}, DxAll H vs ds → vs[i]? = some v → ∃ d, ds[i]? = some d ∧ Dx H v d
  | [], _, i, v, h, e => by cases h; simp at e
  | d :: ds, _, 0, v, h, e => by
    cases h with
    | cons h1 h2 =>
      cases (show some _ = some v from e)
      exact ⟨d, rfl, h1⟩
  | d :: ds, _, i + 1, v, h, e => by
    cases h with
    | cons h1 h2 => exact DxAll.get (i := i) h2 (by simpa using e)
mutual
def dictfree : PyData → Bool
  | .list xs => dictfreeAll xs
  | .tuple xs => dictfreeAll xs
  | .dict _ => false
  | _ => true
def dictfreeAll : List PyData → Bool
  | [] => true
  | d :: ds => dictfree d && dictfreeAll ds
end
mutual
def listfree : PyData → Bool
  | .list _ => false
  | .tuple xs => listfreeAll xs
  | _ => true
def listfreeAll : List PyData → Bool
  | [] => true
  | d :: ds => listfree d && listfreeAll ds
end
mutual
theorem Dx.dp {K : PySem.W.Frag} {H : Hp} : ∀ {d : PyData} {v : V}, Dx H v d → dictfree d = true → Dp K H v d
  | .none, _, h, _ => by cases h; exact .non
  | .bool b, _, h, _ => by cases h; exact .bl b
  | .int i, _, h, _ => by cases h; exact .int i
  | .str x, _, h, _ => by cases h; exact .str x
  | .list ds, _, h, f => by
    cases h with
    | lst h1 h2 => exact .lst (SqL.of h1) (DxAll.dp h2 (by simpa only [dictfree] using f))
  | .tuple ds, _, h, f => by
    cases h with
    | tup h1 h2 => exact .tup (SqT.of h1) (DxAll.dp h2 (by simpa only [dictfree] using f))
  | .dict kvs, _, h, f => by
    simp only [dictfree] at f
    cases f
theorem DxAll.dp {K : PySem.W.Frag} {H : Hp} : ∀ {ds : List PyData} {vs : List V}, DxAll H vs ds → dictfreeAll ds = true → DpAll K H vs ds
  | [], _, h, _ => by cases h; exact .nil
  | d :: ds, _, h, f => by
    simp only [dictfreeAll, Bool.and_eq_true] at f
    cases h with
    | cons h1 h2 => exact .cons (Dx.dp h1 f.1) (DxAll.dp h2 f.2)
end
mutual
theorem Dx.mono {H H' : Hp} (e : Ev2 H H') : ∀ {d : PyData} {v : V}, Dx H v d → listfree d = true → Dx H' v d
  | .none, _, h, _ => by cases h; exact .non
  | .bool b, _, h, _ => by cases h; exact .bl b
  | .int i, _, h, _ => by cases h; exact .int i
  | .str x, _, h, _ => by cases h; exact .str x
  | .list ds, _, h, f => by
    simp only [listfree] at f
    cases f
  | .tuple ds, _, h, f => by
    cases h with
    | tup h1 h2 => exact .tup (Ev2.tup h1 e) (DxAll.mono e h2 (by simpa only [listfree] using f))
  | .dict kvs, _, h, f => by
    cases h with
    | dct h1 => exact .dct (Ev2.dK h1 e)
theorem DxAll.mono {H H' : Hp} (e : Ev2 H H') : ∀ {ds : List PyData} {vs : List V}, DxAll H vs ds → listfreeAll ds = true → DxAll H' vs ds
  | [], _, h, _ => by cases h; exact .nil
  | d :: ds, _, h, f => by
    simp only [listfreeAll, Bool.and_eq_true] at f
    cases h with
    | cons h1 h2 => exact .cons (Dx.mono e h1 f.1) (DxAll.mono e h2 f.2)
end
mutual
theorem Dx.same {H H' : Hp} (e : Same H H') : ∀ {d : PyData} {v : V}, Dx H v d → Dx H' v d
  | .none, _, h => by cases h; exact .non
  | .bool b, _, h => by cases h; exact .bl b
  | .int i, _, h => by cases h; exact .int i
  | .str x, _, h => by cases h; exact .str x
  | .list ds, _, h => by
    cases h with
    | lst h1 h2 => exact .lst (e _ _ h1) (DxAll.same e h2)
  | .tuple ds, _, h => by
    cases h with
    | tup h1 h2 => exact .tup (e _ _ h1) (DxAll.same e h2)
  | .dict kvs, _, h => by
    cases h with
    | dct h1 => exact .dct (e _ _ h1)
theorem DxAll.same {H H' : Hp} (e : Same H H') : ∀ {ds : List PyData} {vs : List V}, DxAll H vs ds → DxAll H' vs ds
  | [], _, h => by cases h; exact .nil
  | d :: ds, _, h => by
    cases h with
    | cons h1 h2 => exact .cons (Dx.same e h1) (DxAll.same e h2)
end
def three : List PyData → Bool
  | [.int _, .int _, .int _] => true
  | _ => false
mutual
/-- no list of three ints is within: so no list that is told is the dice -/
def nodice : PyData → Bool
  | .list ds => !three ds && nodiceAll ds
  | .tuple ds => nodiceAll ds
  | _ => true
def nodiceAll : List PyData → Bool
  | [] => true
  | d :: ds => nodice d && nodiceAll ds
end
theorem nodice_list {ds : List PyData} (h : nodice (.list ds) = true) : nodiceAll ds = true ∧ ∀ x y z, ds ≠ [.int x, .int y, .int z] := by
  simp only [nodice, Bool.and_eq_true] at h
  refine ⟨h.2, fun x y z e => ?_⟩
  subst e
  exact Bool.noConfusion h.1
mutual
theorem Dx.but {H H' : Hp} {p : Addr} (hd : Dc H p) (o : But p H H') : ∀ {d : PyData} {v : V}, Dx H v d → nodice d = true → Dx H' v d
  | .none, _, h, _ => by cases h; exact .non
  | .bool b, _, h, _ => by cases h; exact .bl b
  | .int i, _, h, _ => by cases h; exact .int i
  | .str x, _, h, _ => by cases h; exact .str x
  | .list ds, _, h, f => by
    obtain ⟨f1, f2⟩ := nodice_list f
    cases h with
    | @lst a xs _ h1 h2 =>
      have hne : a ≠ p := by
        rintro rfl
        obtain ⟨x, y, z, hp⟩ := hd
        rw [hp] at h1
        cases (HO.lst.inj (Option.some.inj h1))
        cases h2 with
        | cons q1 h2 =>
          cases h2 with
          | cons q2 h2 =>
            cases h2 with
            | cons q3 h2 =>
              cases h2
              cases q1
              cases q2
              cases q3
              exact f2 _ _ _ rfl
      exact .lst (o _ _ hne h1) (DxAll.but hd o h2 f1)
  | .tuple ds, _, h, f => by
    cases h with
    | @tup a xs _ h1 h2 =>
      have hne : a ≠ p := by
        rintro rfl
        obtain ⟨x, y, z, hp⟩ := hd
        rw [hp] at h1
        cases h1
      exact .tup (o _ _ hne h1) (DxAll.but hd o h2 (by simpa only [nodice] using f))
  | .dict kvs, _, h, f => by
    cases h with
    | @dct a h1 =>
      have hne : a ≠ p := by
        rintro rfl
        obtain ⟨x, y, z, hp⟩ := hd
        rw [hp] at h1
        cases h1
      exact .dct (o _ _ hne h1)
theorem DxAll.but {H H' : Hp} {p : Addr} (hd : Dc H p) (o : But p H H') : ∀ {ds : List PyData} {vs : List V}, DxAll H vs ds → nodiceAll ds = true → DxAll H' vs ds
  | [], _, h, _ => by cases h; exact .nil
  | d :: ds, _, h, f => by
    simp only [nodiceAll, Bool.and_eq_true] at f
    cases h with
    | cons h1 h2 => exact .cons (Dx.but hd o h1 f.1) (DxAll.but hd o h2 f.2)
end
theorem Dx.only {H H' : Hp} {p : Addr} (hd : Dc H p) (o : Only1 H H' p) {d : PyData} {v : V} (h : Dx H v d) (f : nodice d = true) : Dx H' v d := Dx.but hd (But.of1 o) h f
theorem DxAll.only {H H' : Hp} {p : Addr} (hd : Dc H p) (o : Only1 H H' p) {ds : List PyData} {vs : List V} (h : DxAll H vs ds) (f : nodiceAll ds = true) : DxAll H' vs ds := DxAll.but hd (But.of1 o) h f
theorem nodiceAll_get : ∀ {ds : List PyData} {i : Nat} {d : PyData}, nodiceAll ds = true → ds[i]? = some d → nodice d = true
  | [], _, _, _, e => by simp at e
  | d :: ds, 0, _, h, e => by
    simp only [nodiceAll, Bool.and_eq_true] at h
    cases (show some d = some _ from e)
    exact h.1
  | d :: ds, i + 1, _, h, e => by
    simp only [nodiceAll, Bool.and_eq_true] at h
    exact nodiceAll_get (i := i) h.2 (by simpa using e)
theorem pick_dx {H G : Hp} {p : Addr} {xs : List V} {ds : List PyData} {i : Nat} {v : V} (hx : DxAll H xs ds) (hv : xs[i]? = some v) (hd : Dc H p) (o : Only1 H G p) (hn : nodiceAll ds = true) : ∃ d, ds[i]? = some d ∧ Dx G v d := by
  obtain ⟨d, h1, h2⟩ := hx.get hv
  exact ⟨d, h1, Dx.only hd o h2 (nodiceAll_get hn h1)⟩
theorem Same.at {H H' : Hp} {a : Addr} {o : HO} (h : H a = some o) (e : Same H H') : H' a = some o := e _ _ h
/-- the name of the type of data -/
def tyN : PyData → String
  | .none => "NoneType" | .bool _ => "bool" | .int _ => "int" | .str _ => "str" | .list _ => "list" | .tuple _ => "tuple" | .dict _ => "dict"
theorem Dx.ty {K : PySem.W.Frag} {H : Hp} {v : V} {d : PyData} (h : Dx H v d) : TyX K H v (.type (tyN d)) := by
  cases h with
  | non => exact .base .non
  | bl b => exact .base (.bl b)
  | int i => exact .base (.int i)
  | str x => exact .base (.str x)
  | lst h1 h2 => exact .base (.lst h1)
  | tup h1 h2 => exact .base (.tup h1)
  | dct h1 => exact .base (.dK h1)
def tyNs : List String := ["NoneType", "bool", "int", "str", "list", "tuple", "dict"]
theorem tyN_mem (d : PyData) : tyN d ∈ tyNs := by cases d <;> (simp only [tyN]; decide)
theorem kit_all : ∀ n ∈ tyNs, kitB n "int" = some (n == "int" || n == "bool") ∧ kitB n "bool" = some (n == "bool") ∧ kitB n "str" = some (n == "str") ∧ kitB n "tuple" = some (n == "tuple") ∧ kitB n "list" = some (n == "list") ∧ kitB n "dict" = some (n == "dict") := by decide +kernel
section
variable {K : PySem.W.Frag} (d : PyData)
theorem kit_int : PySem.W.kitOne K (.type (tyN d)) (.type "int") = some (tyN d == "int" || tyN d == "bool") := kit_ty (kit_all _ (tyN_mem d)).1
theorem kit_bool : PySem.W.kitOne K (.type (tyN d)) (.type "bool") = some (tyN d == "bool") := kit_ty (kit_all _ (tyN_mem d)).2.1
theorem kit_str : PySem.W.kitOne K (.type (tyN d)) (.type "str") = some (tyN d == "str") := kit_ty (kit_all _ (tyN_mem d)).2.2.1
theorem kit_tuple : PySem.W.kitOne K (.type (tyN d)) (.type "tuple") = some (tyN d == "tuple") := kit_ty (kit_all _ (tyN_mem d)).2.2.2.1
theorem kit_list : PySem.W.kitOne K (.type (tyN d)) (.type "list") = some (tyN d == "list") := kit_ty (kit_all _ (tyN_mem d)).2.2.2.2.1
theorem kit_dict : PySem.W.kitOne K (.type (tyN d)) (.type "dict") = some (tyN d == "dict") := kit_ty (kit_all _ (tyN_mem d)).2.2.2.2.2
end
/-- x in a list or a tuple of data -/
def rInX (K : PySem.W.Frag) (neg : Bool) : R2 := fun x y H Q => ∃ d c ds, Dp K H x d ∧ Dp K H y c ∧ (c = .list ds ∨ c = .tuple ds) ∧ SeqAt.shaped d = true ∧ SeqAt.shaped c = true ∧ Q (.bl (if neg then !(ds.any fun z => PyData.eqv z d) else ds.any fun z => PyData.eqv z d)) H
section
variable {X : Cx}
theorem op_inX (hu : X.A.units + 65 < cLine) : OpR X (compareOp .In) (rInX X.K false) := by
  intro pins s σ H x y v u Q I rx ry h
  obtain ⟨d, c, ds, hd, he, hc, sd, se, q⟩ := h
  obtain ⟨as, r1⟩ := Dp.reads I d x v hd rx
  obtain ⟨bs, r2⟩ := Dp.reads I c y u he ry
  rcases hc with rfl | rfl
  · exact SeqAt.in_list_reads r2 r1 (SeqAt.canLay_of_shaped se) (SeqAt.canLay_of_shaped sd) (room_in_shaped sd hu) ⟨.bl _, H, I, rfl, q⟩
  · exact SeqAt.in_tuple_reads r2 r1 (SeqAt.canLay_of_shaped se) (SeqAt.canLay_of_shaped sd) (room_in_shaped sd hu) ⟨.bl _, H, I, rfl, q⟩
theorem op_notInX (hu : X.A.units + 65 < cLine) : OpR X (compareOp .NotIn) (rInX X.K true) := by
  intro pins s σ H x y v u Q I rx ry h
  obtain ⟨d, c, ds, hd, he, hc, sd, se, q⟩ := h
  obtain ⟨as, r1⟩ := Dp.reads I d x v hd rx
  obtain ⟨bs, r2⟩ := Dp.reads I c y u he ry
  rcases hc with rfl | rfl
  · exact SeqAt.notIn_list_reads r2 r1 (SeqAt.canLay_of_shaped se) (SeqAt.canLay_of_shaped sd) (room_in_shaped sd hu) ⟨.bl _, H, I, rfl, q⟩
  · exact SeqAt.notIn_tuple_reads r2 r1 (SeqAt.canLay_of_shaped se) (SeqAt.canLay_of_shaped sd) (room_in_shaped sd hu) ⟨.bl _, H, I, rfl, q⟩
end
theorem hu65 {A : Around} {k : Nat} (hr : Room k A) : A.units + 65 < cLine := by
  have := hr.un
  omega
/-! ### rules whose readings name the written part: with a letter of its own for it (within comprehensions) -/
def rLenK (K : PySem.W.Frag) : List V → Hp → VK → Prop := fun xs H Q => ∃ p ys, xs = [.ref p] ∧ (SqL K H p ys ∨ SqT K H p ys) ∧ Q (.int ys.length) H
def rListK (K : PySem.W.Frag) : List V → Hp → VK → Prop := fun xs H Q => ∃ p ys, xs = [.ref p] ∧ (SqL K H p ys ∨ SqT K H p ys) ∧ ∀ l, H l = none → Q (.ref l) (upd H l (.lst ys))
section
variable {X : Cx}
theorem call_len_k {K : PySem.W.Frag} (hK : X.K = K := by rfl) : CallR X (.builtin "len") (rLenK K) := by subst hK; exact call_len_seq
theorem call_list_k {K : PySem.W.Frag} (hK : X.K = K := by rfl) : CallR X (.type "list") (rListK K) := by subst hK; exact call_list_of
theorem call_isi_k {K : PySem.W.Frag} (hK : X.K = K := by rfl) : CallR X (.builtin "isinstance") (rIsi K) := by subst hK; exact call_isi
theorem cr_all_k {K : PySem.W.Frag} (hc : X.calm = true) (hK : X.K = K := by rfl) : CallR X (.builtin "all") (rAll K) := by subst hK; exact cr_all hc
theorem cr_any_k {K : PySem.W.Frag} (hc : X.calm = true) (hK : X.K = K := by rfl) : CallR X (.builtin "any") (rAny K) := by subst hK; exact cr_any hc
theorem ix_list_k {K : PySem.W.Frag} (hK : X.K = K := by rfl) : IxR X (rIxL K) := by subst hK; exact ix_list
theorem ix_tup_k {K : PySem.W.Frag} (hK : X.K = K := by rfl) : IxR X (rIxT K) := by subst hK; exact ix_tup
theorem sl_list_k {K : PySem.W.Frag} (hK : X.K = K := by rfl) : SlR X (rSlL K) := by subst hK; exact sl_list
theorem sl_tup_k {K : PySem.W.Frag} (hK : X.K = K := by rfl) : SlR X (rSlT K) := by subst hK; exact sl_tup
theorem op_inX_k {K : PySem.W.Frag} (hu : X.A.units + 65 < cLine) (hK : X.K = K := by rfl) : OpR X (compareOp .In) (rInX K false) := by subst hK; exact op_inX hu
theorem op_notInX_k {K : PySem.W.Frag} (hu : X.A.units + 65 < cLine) (hK : X.K = K := by rfl) : OpR X (compareOp .NotIn) (rInX K true) := by subst hK; exact op_notInX hu
theorem op_eqD_k {K : PySem.W.Frag} (hu : X.A.units + 64 < cLine) (hK : X.K = K := by rfl) : OpR X (compareOp .Eq) (rEqD K) := by subst hK; exact op_eqD hu
theorem op_neD_k {K : PySem.W.Frag} (hu : X.A.units + 64 < cLine) (hK : X.K = K := by rfl) : OpR X (compareOp .NotEq) (rNeD K) := by subst hK; exact op_neD hu
theorem pi_list_k {tg l : Expr} {tl : TE} {K : PySem.W.Frag} (hl : PE X l tl) (hK : X.K = K := by rfl) : PI X tg l (iList K tl) := by subst hK; exact pi_list hl
theorem pi_tup_k {tg l : Expr} {tl : TE} {K : PySem.W.Frag} (hl : PE X l tl) (hK : X.K = K := by rfl) : PI X tg l (iTup K tl) := by subst hK; exact pi_tup hl
variable {o e : Expr} {es : List Expr} {to : TE} {t : TA} {name : Str} {apos cpos : Pos} {T id : String} {r : V → List V → Hp → VK → Prop}
theorem pe_bm_k {K : PySem.W.Frag} (pa : PlainAttrs T) (slot : Slot T name id) (hty : typeOf (.builtin id) = pure (.type "method_descriptor")) (hm : MtR X id r) (ho : PE X o to) (ha : PA X (e :: es) t)
    (hbase : attributeBase o name X.env (eval o X.env) = eval o X.env := by rfl)
    (hfew : ((backTo cpos (starEach (e :: es) X.env)).all (fun x => !x.1) && (backToKw cpos (keywordEach [] X.env)).all (fun x => x.1.isSome)
      && decide ((e :: es).length + ([] : List Keyword).length + (if ([] : List Keyword).isEmpty then 0 else 1) < 30)) = true := by rfl)
    (hline : (apos.endLine == cpos.line) = true := by rfl) (hs : starEach (e :: es) X.env = (false, eval e X.env) :: starEach es X.env := by rfl) (hplain : (backTo cpos (starEach es X.env)).any (·.1) = false := by rfl) (hK : X.K = K := by rfl) :
    PE X (.Call (.Attribute o name apos) (e :: es) [] cpos) (tBM K T r to t) := by
  subst hK
  exact pe_bm pa slot hty hm ho ha hbase hfew hline hs hplain
def tJoin (K : PySem.W.Frag) (to te : TE) : TE := tM1 (fun x xs H Q => ∃ a p, ∃ ys : List Str, x = .str a ∧ xs = [.ref p] ∧ (SqL K H p (ys.map V.str) ∨ SqT K H p (ys.map V.str)) ∧
      (ys.map (·.length)).sum + ys.length * a.length ≤ 16777216 ∧ Q (.str (Txt.join a ys)) H) to te
theorem pe_join_k {te : TE} {K : PySem.W.Frag} (ho : PE X o to) (he : PE X e te) (hs : starEach [e] X.env = [(false, eval e X.env)] := by rfl) (hbase : attributeBase o "join" X.env (eval o X.env) = eval o X.env := by rfl) (hline : (apos.endLine == cpos.line) = true := by rfl) (hK : X.K = K := by rfl) :
    PE X (.Call (.Attribute o "join" apos) [e] [] cpos) (tJoin K to te) := by
  subst hK
  exact pe_join ho he hs hbase hline
end
/-! ### list(text) -/
def signV (z : Str) : List V := z.cps.toList.map fun c => V.str ⟨#[c]⟩
theorem paired_get {α β : Type} {R : α → β → Prop} : ∀ {xs : List α} {us : List β}, xs.length = us.length → (∀ (j : Nat) (x : α) (u : β), xs[j]? = some x → us[j]? = some u → R x u) → Paired R xs us
  | [], [], _, _ => .nil
  | [], _ :: _, h, _ => by cases h
  | _ :: _, [], h, _ => by cases h
  | x :: xs, u :: us, h, k => .cons (k 0 x u rfl rfl) (paired_get (by simpa using h) fun j y v h1 h2 => k (j + 1) y v (by simpa using h1) (by simpa using h2))
theorem call_listS {X : Cx} (hcalm : X.calm = true) : CallR X (.type "list") (fun xs H Q => ∃ z, xs = [.str z] ∧ z.length ≤ sizeLine ∧ ∀ p, H p = none → Q (.ref p) (upd H p (.lst (signV z)))) := by
  intro pins s σ H xs us Q I r h
  obtain ⟨z, rfl, hz, q⟩ := h
  obtain ⟨u, rfl, t, rfl⟩ := vals1 r
  refine call_list_str (I.ok.hd hcalm) z t (hn := hz) fun h' tk acc' c' hk hS' hacc => ?_
  have hl : (signV z).length = z.length := by
    unfold signV
    rw [List.length_map, Array.length_toList]
    rfl
  have hv : Vals (signV z) acc'.toList := by
    refine paired_get (R := RelV) (by rw [hl, Array.length_toList, hacc.1]; rfl) fun j x u h1 h2 => ?_
    obtain ⟨c, t', hc, rfl⟩ := hacc.2 j u (by rw [← Array.getElem?_toList]; exact h2)
    unfold signV at h1
    rw [List.getElem?_map, Array.getElem?_toList, hc] at h1
    cases (show some (V.str ⟨#[c]⟩) = some x from h1)
    exact ⟨t', rfl⟩
  exact ⟨.ref s.heap.objs.size, upd H s.heap.objs.size (.lst (signV z)), I.laid (t' := tk) hk (Nat.le_refl _)
    (show ObjOk X.prog X.w _ _ _ (.lst (signV z)) from ⟨by rw [hl]; exact hz, acc'.toList, c', hv, by rw [Array.toArray_toList]; exact hS'⟩), rfl, q _ (I.hok.fresh (Nat.le_refl _))⟩
/-! ### the program's judges, on data -/
def isIntD : PyData → Bool
  | .int i => decide ((if i < 0 then -i else i) < 10 ^ Int.toNat 60)
  | _ => false
def lowZ (c : Nat) : Bool := (!decide ([c] < [97])) && (!decide ([122] < [c]))
def isWordS (x : Str) : Bool := (decide (1 ≤ x.length) && decide (x.length ≤ 8)) && x.cps.toList.all lowZ
def isWordD : PyData → Bool
  | .str x => isWordS x
  | _ => false
def isArityD : PyData → Bool
  | .int i => isIntD (.int i) && (decide (0 ≤ i) && decide (i ≤ 3))
  | _ => false
def isLeafD (d : PyData) : Bool := ([.str "_", .str "#"] : List PyData).any fun z => PyData.eqv z d
def isNodeD : PyData → Bool
  | .tuple [s, m] => if isLeafD s then (isArityD m && PyData.eqv m (.int 0)) else (isWordD s && isArityD m)
  | _ => false
end Fn

set_option Elab.async false
set_option maxRecDepth 100000
set_option maxHeartbeats 4000000
namespace K03
open PySem PySem.Spec PyProof.Rows L2 Fn
local macro_rules | `(tactic| walk_at "ev") => `(tactic| first | exact Ev2.refl _ | assumption | (refine Ev2.trans (by assumption) ?_; walk_at "ev"))
local macro_rules | `(tactic| walk_at "sm") => `(tactic| first | exact Same.refl _ | assumption | (refine Same.trans (by assumption) ?_; walk_at "sm"))
local macro_rules | `(tactic| walk_at "dx") => `(tactic| first
  | exact DxAll.nil | exact Dx.str _ | exact Dx.int _ | exact Dx.bl _ | exact Dx.non
  | assumption
  | (refine DxAll.cons ?_ ?_ <;> walk_at "dx")
  | (refine Dx.same (by walk_at "sm") (by assumption))
  | (refine Dx.tup (Same.at (by assumption) (by walk_at "sm")) ?_; walk_at "dx")
  | (refine Dx.lst (Same.at (by assumption) (by walk_at "sm")) ?_; walk_at "dx")
  | (refine Dx.dct (Same.at (by assumption) (by walk_at "sm"))))
def top (i : Nat) : Stmt := PySem.Challenge.pw_firstneed_k03_nodes_judged.main.body.getD i (.Pass ⟨0, 0, 0, 0⟩)
abbrev s_is_integer : Stmt := top 5
abbrev N_is_integer : List Str := ["value"]
abbrev P_is_integer : List Str := ["value"]
theorem sc_is_integer : FnScope N_is_integer P_is_integer (defScope s_is_integer) := ⟨rfl, rfl, rfl, by decide +kernel, rfl, by decide +kernel, by decide +kernel⟩
abbrev s_is_word : Stmt := top 6
abbrev N_is_word : List Str := ["value", "letter"]
abbrev P_is_word : List Str := ["value"]
theorem sc_is_word : FnScope N_is_word P_is_word (defScope s_is_word) := ⟨rfl, rfl, rfl, by decide +kernel, rfl, by decide +kernel, by decide +kernel⟩
abbrev s_is_arity : Stmt := top 7
abbrev N_is_arity : List Str := ["value"]
abbrev P_is_arity : List Str := ["value"]
theorem sc_is_arity : FnScope N_is_arity P_is_arity (defScope s_is_arity) := ⟨rfl, rfl, rfl, by decide +kernel, rfl, by decide +kernel, by decide +kernel⟩
abbrev s_is_leaf : Stmt := top 8
abbrev N_is_leaf : List Str := ["sign"]
abbrev P_is_leaf : List Str := ["sign"]
theorem sc_is_leaf : FnScope N_is_leaf P_is_leaf (defScope s_is_leaf) := ⟨rfl, rfl, rfl, by decide +kernel, rfl, by decide +kernel, by decide +kernel⟩
abbrev s_is_node : Stmt := top 9
abbrev N_is_node : List Str := ["value", "sign", "arity"]
abbrev P_is_node : List Str := ["value"]
theorem sc_is_node : FnScope N_is_node P_is_node (defScope s_is_node) := ⟨rfl, rfl, rfl, by decide +kernel, rfl, by decide +kernel, by decide +kernel⟩
abbrev s__law_dice : Stmt := top 11
abbrev N__law_dice : List Str := ["_law_script", "_law_spot", "_law_cell", "_law_great", "_law_blend"]
abbrev P__law_dice : List Str := ["_law_script", "_law_spot"]
theorem sc__law_dice : FnScope N__law_dice P__law_dice (defScope s__law_dice) := ⟨rfl, rfl, rfl, by decide +kernel, rfl, by decide +kernel, by decide +kernel⟩
abbrev s__law_roll : Stmt := top 12
abbrev N__law_roll : List Str := ["_law_dice_here", "_law_total", "_law_found", "_law_one", "_law_two"]
abbrev P__law_roll : List Str := ["_law_dice_here", "_law_total"]
theorem sc__law_roll : FnScope N__law_roll P__law_roll (defScope s__law_roll) := ⟨rfl, rfl, rfl, by decide +kernel, rfl, by decide +kernel, by decide +kernel⟩
abbrev s__law_pick : Stmt := top 13
abbrev N__law_pick : List Str := ["_law_dice_here", "_law_items"]
abbrev P__law_pick : List Str := ["_law_dice_here", "_law_items"]
theorem sc__law_pick : FnScope N__law_pick P__law_pick (defScope s__law_pick) := ⟨rfl, rfl, rfl, by decide +kernel, rfl, by decide +kernel, by decide +kernel⟩
abbrev s__law_is_leaf : Stmt := top 14
abbrev N__law_is_leaf : List Str := ["_law_sign", "_law_many"]
abbrev P__law_is_leaf : List Str := ["_law_sign", "_law_many"]
theorem sc__law_is_leaf : FnScope N__law_is_leaf P__law_is_leaf (defScope s__law_is_leaf) := ⟨rfl, rfl, rfl, by decide +kernel, rfl, by decide +kernel, by decide +kernel⟩
abbrev s__law_right : Stmt := top 15
abbrev N__law_right : List Str := ["_law_dice_here", "_law_sign", "_law_many", "_law_odd"]
abbrev P__law_right : List Str := ["_law_dice_here"]
theorem sc__law_right : FnScope N__law_right P__law_right (defScope s__law_right) := ⟨rfl, rfl, rfl, by decide +kernel, rfl, by decide +kernel, by decide +kernel⟩
abbrev s_law : Stmt := top 16
abbrev N_law : List Str := ["_law_script", "_law_spot", "_law_dice_here", "_law_turn", "_law_some", "_law_one"]
abbrev P_law : List Str := ["_law_script"]
theorem sc_law : FnScope N_law P_law (defScope s_law) := ⟨rfl, rfl, rfl, by decide +kernel, rfl, by decide +kernel, by decide +kernel⟩
structure Txt (mg : Str → Option Value) : Prop where
  n_len : mg "len" = none
  n_int : mg "int" = none
  n_abs : mg "abs" = none
  n_max : mg "max" = none
  n_min : mg "min" = none
  n_isinstance : mg "isinstance" = none
  n_bool : mg "bool" = none
  n_repr : mg "repr" = none
  n_range : mg "range" = none
  n_all : mg "all" = none
  n_str : mg "str" = none
  n_tuple : mg "tuple" = none
  m_MAX_LETTERS : ∃ t, mg "MAX_LETTERS" = some (.int 8 t)
  m_MAX_ARITY : ∃ t, mg "MAX_ARITY" = some (.int 3 t)
  m_ANY : ∃ t, mg "ANY" = some (.str "_" t)
  m_LOST : ∃ t, mg "LOST" = some (.str "#" t)
section
variable {P : Program} {w : World} {K : PySem.W.Frag} {mg : Str → Option Value} {base : Heap}
theorem ok__law_dice {f : Addr} {fd : FuncData} (F : Fun K "_law_dice" "_law_dice" s__law_dice f fd) (T : Txt mg) : FnOk P w K mg base CX0 1 f fd P__law_dice (spDice K) := by
  refine F.ok sc__law_dice (fun vs H Q E h => ?_) (fun cdv A outer s H vs Q E hr h => ?_)
  · obtain ⟨a, ns, k, rfl, _⟩ := h
    rfl
  · obtain ⟨a, ns, k, rfl, hS, hlen, h0, hk, q⟩ := h
    refine ⟨_, (pss_cons (ps_set (i := 2) sc__law_dice.nd rfl (Or.inl rfl) (pe_op op_add (pe_op op_mul pe_int (pv 1)) pe_int))
      (pss_cons (ps_if (pt_cmpR op_lt (pv 1) (pe_callB call_len_seq (by rfl) T.n_len (by decide +kernel) (pa_cons (pv 0) pa_nil)) (nomark _)) (pss_one (ps_set (i := 2) sc__law_dice.nd rfl (Or.inl rfl) (pe_ix ix_list (pv 0) (pv 1) (fun _ _ => rfl)))) pss_nil)
      (pss_cons (ps_set (i := 3) sc__law_dice.nd rfl (Or.inl rfl) (pe_op op_mod (pe_callTy call_int1 (by rfl) T.n_int (by decide +kernel) (pa_cons (pe_callB call_abs (by rfl) T.n_abs (by decide +kernel) (pa_cons (pv 2) pa_nil)) pa_nil)) (pe_op op_powW (pe_op op_powW pe_int pe_int) pe_int)))
      (pss_cons (ps_set (i := 4) sc__law_dice.nd rfl (Or.inl rfl) (pe_op op_add (pe_op op_add (pe_op op_add (pe_op op_mul (pe_op op_mod (pe_callTy call_int1 (by rfl) T.n_int (by decide +kernel) (pa_cons (pv 3) pa_nil)) pe_int) pe_int) (pe_op op_mul pe_int (pv 1))) (pe_op op_mul pe_int (pe_callTy call_int1 (by rfl) T.n_int (by decide +kernel) (pa_cons (pe_cmpR op_lt (pv 2) pe_int (nomark _)) pa_nil)))) pe_int))
      (pss_one (ps_ret (pe_lst (pa_cons (pe_callB (call_max2 rfl) (by rfl) T.n_max (by decide +kernel) (pa_cons pe_int (pa_cons (pe_op op_sub (pv 3) (pe_op op_powW pe_int pe_int)) pa_nil))) (pa_cons (pe_op op_mod (pe_callTy call_int1 (by rfl) T.n_int (by decide +kernel) (pa_cons (pv 4) pa_nil)) pe_int) (pa_cons pe_int pa_nil)))))))))), ?_⟩
    refine ⟨_, rfl, _, _, rfl, rfl, mulL (by decide), _, _, rfl, rfl, ?_⟩
    refine ⟨_, rfl, _, rfl, _, _, rfl, .inl hS, _, _, rfl, rfl, _, rfl, ?_⟩
    refine ite2 (fun hc => ?_) (fun hc => ?_)
    · have hc' := of_decide_eq_true hc
      rw [List.length_map] at hc'
      obtain ⟨c, hat⟩ := script_at h0 hc'
      refine ⟨_, rfl, _, rfl, _, _, _, _, rfl, rfl, hS, hat, ?_⟩
      refine ⟨_, rfl, _, rfl, .inl ⟨_, rfl, _, _, rfl, rfl, (powOk (by decide +kernel)), _, _, rfl, rfl, (powOk (by decide +kernel)), _, _, rfl, rfl, (modc (by decide +kernel)), ?_⟩⟩
      refine ⟨_, rfl, .inl ⟨_, rfl, _, _, rfl, rfl, (modc (by decide)), _, _, rfl, rfl, mulR (by decide), _, rfl, _, _, rfl, rfl, mulL (by decide), _, _, rfl, rfl, _, rfl, _, _, rfl, rfl, .inr ⟨_, rfl, _, _, rfl, rfl, mulL (by decide), _, _, rfl, rfl, _, _, rfl, rfl, ?_⟩⟩⟩
      refine ⟨_, rfl, _, _, rfl, rfl, (powOk (by decide +kernel)), _, _, rfl, rfl, _, _, rfl, _, rfl, .inl ⟨_, rfl, _, _, rfl, rfl, (modc (by decide)), (szr rfl), fun p hp => ?_⟩⟩
      exact q p _ hp (Ev2.new hp) (fun _ hb => upd_ne hb) ⟨_, _, _, upd_same⟩
    · generalize 53 * k + 29 = c
      refine ⟨_, rfl, _, rfl, .inl ⟨_, rfl, _, _, rfl, rfl, (powOk (by decide +kernel)), _, _, rfl, rfl, (powOk (by decide +kernel)), _, _, rfl, rfl, (modc (by decide +kernel)), ?_⟩⟩
      refine ⟨_, rfl, .inl ⟨_, rfl, _, _, rfl, rfl, (modc (by decide)), _, _, rfl, rfl, mulR (by decide), _, rfl, _, _, rfl, rfl, mulL (by decide), _, _, rfl, rfl, _, rfl, _, _, rfl, rfl, .inr ⟨_, rfl, _, _, rfl, rfl, mulL (by decide), _, _, rfl, rfl, _, _, rfl, rfl, ?_⟩⟩⟩
      refine ⟨_, rfl, _, _, rfl, rfl, (powOk (by decide +kernel)), _, _, rfl, rfl, _, _, rfl, _, rfl, .inl ⟨_, rfl, _, _, rfl, rfl, (modc (by decide)), (szr rfl), fun p hp => ?_⟩⟩
      exact q p _ hp (Ev2.new hp) (fun _ hb => upd_ne hb) ⟨_, _, _, upd_same⟩
theorem ok__law_roll {f : Addr} {fd : FuncData} (F : Fun K "_law_roll" "_law_roll" s__law_roll f fd) (T : Txt mg) : FnOk P w K mg base CX0 1 f fd P__law_roll spRoll := by
  refine F.ok sc__law_roll (fun vs H Q E h => ?_) (fun cdv A outer s H vs Q E hr h => ?_)
  · obtain ⟨p, n, rfl, _⟩ := h
    rfl
  · obtain ⟨p, n, rfl, hd, h0, hn, q⟩ := h
    obtain ⟨x, y, z, hp⟩ := id hd
    have a0 : ∀ x y z : Int, atI [V.int x, .int y, .int z] 0 = some (.int x) := fun _ _ _ => rfl
    have a1 : ∀ x y z : Int, atI [V.int x, .int y, .int z] 1 = some (.int y) := fun _ _ _ => rfl
    have a2 : ∀ x y z : Int, atI [V.int x, .int y, .int z] 2 = some (.int z) := fun _ _ _ => rfl
    refine ⟨_, (pss_cons (ps_if (pt_cmpR op_gt (pe_ix ix_list (pv 0) pe_int (fun _ _ => rfl)) pe_int (nomark _)) (pss_cons (ps_set (i := 2) sc__law_roll.nd rfl (Or.inl rfl) (pe_op op_mod (pe_callTy call_int1 (by rfl) T.n_int (by decide +kernel) (pa_cons (pe_ix ix_list (pv 0) pe_int (fun _ _ => rfl)) pa_nil)) (pv 1)))
      (pss_cons (ps_asg (pe_op op_fdiv (pe_ix ix_list (pv 0) pe_int (fun _ _ => rfl)) (pv 1)) (pg_sub (pv 0) pe_int set_list))
      (pss_one (ps_ret (pv 2))))) pss_nil)
      (pss_cons (ps_asg (pe_op op_add (pe_ix ix_list (pv 0) pe_int (fun _ _ => rfl)) pe_int) (pg_sub (pv 0) pe_int set_list))
      (pss_cons (ps_set (i := 3) sc__law_roll.nd rfl (Or.inl rfl) (pe_op op_mod (pe_callTy call_int1 (by rfl) T.n_int (by decide +kernel) (pa_cons (pe_op op_add (pe_ix ix_list (pv 0) pe_int (fun _ _ => rfl)) (pe_op op_mul pe_int (pe_ix ix_list (pv 0) pe_int (fun _ _ => rfl)))) pa_nil)) pe_int))
      (pss_cons (ps_set (i := 4) sc__law_roll.nd rfl (Or.inl rfl) (pe_op op_add (pe_op op_mul (pe_op op_mod (pe_callTy call_int1 (by rfl) T.n_int (by decide +kernel) (pa_cons (pe_op op_mul (pv 3) (pv 3)) pa_nil)) pe_int) (pv 3)) (pe_op op_mul pe_int (pe_ix ix_list (pv 0) pe_int (fun _ _ => rfl)))))
      (pss_cons (ps_set (i := 4) sc__law_roll.nd rfl (Or.inl rfl) (pe_op op_mod (pe_callTy call_int1 (by rfl) T.n_int (by decide +kernel) (pa_cons (pv 4) pa_nil)) pe_int))
      (pss_one (ps_ret (pe_op op_mod (pe_callTy call_int1 (by rfl) T.n_int (by decide +kernel) (pa_cons (pe_op op_fdiv (pv 4) pe_int) pa_nil)) (pv 1))))))))), ?_⟩
    refine ⟨_, rfl, _, _, _, _, rfl, rfl, SqL.of hp, a0 _ _ _, _, _, rfl, rfl, _, rfl, ?_⟩
    refine ite2 (fun hc => ?_) (fun hc => ?_)
    · refine ⟨_, rfl, _, _, _, _, rfl, rfl, SqL.of hp, a0 _ _ _, .inl ⟨_, rfl, _, rfl, _, _, rfl, rfl, (modc h0), ?_⟩⟩
      refine ⟨_, rfl, _, _, _, _, rfl, rfl, SqL.of hp, a0 _ _ _, _, rfl, _, _, rfl, rfl, ⟨h0, by omega⟩, _, rfl, _, _, _, _, rfl, rfl, hp, rfl, ?_⟩
      refine ⟨_, rfl, ?_⟩
      exact q _ _ (Int.emod_nonneg _ (by omega)) (Int.emod_lt_of_pos _ h0) (hd.set _ _ _).1 (hd.set _ _ _).2.1 (hd.set _ _ _).2.2
    · refine ⟨_, rfl, _, _, _, _, rfl, rfl, SqL.of hp, a2 _ _ _, _, _, rfl, rfl, _, rfl, _, _, _, _, rfl, rfl, hp, rfl, ?_⟩
      have hp2 : (upd H p (dl x y (z + 1))) p = some (dl x y (z + 1)) := upd_same
      refine ⟨_, rfl, _, _, _, _, rfl, rfl, SqL.of hp2, a1 _ _ _, _, rfl, _, _, _, _, rfl, rfl, SqL.of hp2, a2 _ _ _, _, _, rfl, rfl, mulL (by decide), _, _, rfl, rfl, .inl ⟨_, rfl, _, _, rfl, rfl, (modc (by decide)), ?_⟩⟩
      have b1 := Int.emod_nonneg (y + 998244341 * (z + 1)) (b := 2305843009213693951) (by decide)
      have b2 := Int.emod_lt_of_pos (y + 998244341 * (z + 1)) (b := 2305843009213693951) (by decide)
      generalize (y + 998244341 * (z + 1)) % 2305843009213693951 = one at b1 b2
      refine ⟨_, rfl, _, rfl, _, _, rfl, rfl, mulL (by omega), .inl ⟨_, rfl, _, _, rfl, rfl, (modc (by decide)), _, rfl, _, _, rfl, rfl, mulR (by omega), _, rfl, _, _, _, _, rfl, rfl, SqL.of hp2, a2 _ _ _, _, _, rfl, rfl, mulL (by decide), _, _, rfl, rfl, ?_⟩⟩
      refine ⟨_, rfl, .inl ⟨_, rfl, _, _, rfl, rfl, (modc (by decide)), ?_⟩⟩
      refine ⟨_, rfl, _, _, rfl, rfl, ⟨by decide, by decide⟩, .inl ⟨_, rfl, _, rfl, _, _, rfl, rfl, (modc h0), ?_⟩⟩
      exact q _ _ (Int.emod_nonneg _ (by omega)) (Int.emod_lt_of_pos _ h0) (hd.set _ _ _).1 (hd.set _ _ _).2.1 (hd.set _ _ _).2.2
theorem ok__law_pick {f : Addr} {fd : FuncData} (F : Fun K "_law_pick" "_law_pick" s__law_pick f fd) (T : Txt mg) {f__law_roll : Addr} {fd__law_roll : FuncData} (G__law_roll : FnOk P w K mg base CX0 1 f__law_roll fd__law_roll P__law_roll spRoll) (C__law_roll : Cal K mg "_law_roll" f__law_roll fd__law_roll P__law_roll) : FnOk P w K mg base CX0 2 f fd P__law_pick (spPick K) := by
  refine F.ok sc__law_pick (fun vs H Q E h => ?_) (fun cdv A outer s H vs Q E hr h => ?_)
  · obtain ⟨p, a, xs, rfl, _⟩ := h
    rfl
  · obtain ⟨p, a, xs, rfl, hp, hS, hS2, h0, hn, q⟩ := h
    refine ⟨_, (pss_one (ps_ret (pe_ix ix_list (pv 1) (pe_call G__law_roll (hr.mono (by decide)) rfl C__law_roll.m C__law_roll.k C__law_roll.b .nil pass0 (pa_cons (pv 0) (pa_cons (pe_callB call_len_seq (by rfl) T.n_len (by decide +kernel) (pa_cons (pv 1) pa_nil)) pa_nil))) (fun _ _ => rfl)))), ?_⟩
    refine ⟨_, rfl, _, rfl, _, rfl, _, _, rfl, .inl hS, ?_⟩
    refine ⟨p, _, rfl, hp, by omega, by omega, fun r H' r0 r1 e1 o1 d1 => ?_⟩
    have hlt : r.toNat < xs.length := by omega
    have hat : atI xs ((r.toNat : Nat) : Int) = some xs[r.toNat] := atI_nat (List.getElem?_eq_getElem hlt)
    rw [show ((r.toNat : Nat) : Int) = r by omega] at hat
    exact ⟨_, _, _, _, rfl, rfl, hS2 _ e1 o1, hat, q _ _ _ (List.getElem?_eq_getElem hlt) e1 o1 d1⟩

def spA (f : PyData → Bool) : Sp := fun vs H Q _ => ∃ v d, vs = [v] ∧ Dx H v d ∧ Q (.bl (f d)) H
abbrev spInt := spA isIntD
theorem ok_is_integer {f : Addr} {fd : FuncData} (F : Fun K "is_integer" "is_integer" s_is_integer f fd) (T : Txt mg) : FnOk P w K mg base CX0 1 f fd P_is_integer spInt := by
  refine F.ok sc_is_integer (fun vs H Q E h => ?_) (fun cdv A outer s H vs Q E hr h => ?_)
  · obtain ⟨v, d, rfl, _⟩ := h
    rfl
  · obtain ⟨v, d, rfl, hv, q⟩ := h
    refine ⟨_, (pss_one (ps_ret (pe_and (pe_callB call_isi (by rfl) T.n_isinstance (by decide +kernel) (pa_cons (pv 0) (pa_cons (pe_bltn (v := .ty "int") rfl T.n_int (by decide +kernel) rfl) pa_nil))) (pe_and (pe_not (pe_callB call_isi (by rfl) T.n_isinstance (by decide +kernel) (pa_cons (pv 0) (pa_cons (pe_bltn (v := .ty "bool") rfl T.n_bool (by decide +kernel) rfl) pa_nil)))) (pe_one (pe_cmpR op_lt (pe_callB call_abs (by rfl) T.n_abs (by decide +kernel) (pa_cons (pv 0) pa_nil)) (pe_op op_powW pe_int pe_int) (nomark _))))))), ?_⟩
    refine ⟨_, rfl, _, _, _, _, _, rfl, .ty _, hv.ty, kit_int d, _, rfl, ?_⟩
    cases hv with
    | int i =>
      refine iteT ?_
      refine ⟨_, rfl, _, _, _, _, false, rfl, .ty _, .base (.int i), (kit_ty (by decide +kernel)), _, rfl, _, rfl, ?_⟩
      refine iteT ?_
      refine ⟨_, rfl, _, rfl, _, _, rfl, rfl, (powOk (by decide +kernel)), _, _, rfl, rfl, ?_⟩
      exact q
    | bl b =>
      refine iteT ?_
      refine ⟨_, rfl, _, _, _, _, true, rfl, .ty _, .base (.bl b), (kit_ty (by decide +kernel)), _, rfl, _, rfl, ?_⟩
      refine iteF ?_
      exact q
    | _ => exact iteF q
def spWord : Sp := fun vs H Q _ => ∃ v d, vs = [v] ∧ Dx H v d ∧ (∀ x, d = .str x → x.length ≤ 100000) ∧ ∀ H', Same H H' → Q (.bl (isWordD d)) H'
theorem ok_is_word {f : Addr} {fd : FuncData} (F : Fun K "is_word" "is_word" s_is_word f fd) (T : Txt mg) : FnOk P w K mg base CX0 1 f fd P_is_word spWord := by
  refine F.ok sc_is_word (fun vs H Q E h => ?_) (fun cdv A outer s H vs Q E hr h => ?_)
  · obtain ⟨v, d, rfl, _⟩ := h
    rfl
  · obtain ⟨v, d, rfl, hv, hz, q⟩ := h
    refine ⟨_, (pss_cons (ps_if (PW.pt (pw_or (pt_not (pt_val (pe_callB call_isi (by rfl) T.n_isinstance (by decide +kernel) (pa_cons (pv 0) (pa_cons (pe_bltn (v := .ty "str") rfl T.n_str (by decide +kernel) rfl) pa_nil))))) (pw_or1 (pt_not (pt_chain op_le op_le pe_int (pe_callB call_len_str (by rfl) T.n_len (by decide +kernel) (pa_cons (pv 0) pa_nil)) (pe_glob (v := .int 8) rfl T.m_MAX_LETTERS.choose_spec ⟨_, rfl⟩)))))) (pss_one (ps_ret pe_bl)) pss_nil)
      (pss_one (ps_ret (pe_callB (cr_all rfl) (by rfl) T.n_all (by decide +kernel) (pa_cons (pe_lc (own := [("letter", 1)]) (g := gName 1) (tt := tYes) rfl sc_is_word.nd (pi_str (pv 0)) (blkOk_by (own := [("letter", 1)]) (N := ["value", "letter"]) (sc := (defScope s_is_word)) (by decide +kernel)) (fun _ _ _ _ _ => (pg_name (i := 1) sc_is_word.nd rfl (Or.inl rfl))) (fun _ _ _ _ _ => pts_nil) (fun _ _ _ _ _ => (pe_chain op_le_str op_le_str pe_str (pv 1) pe_str))) pa_nil))))), ?_⟩
    refine ⟨_, rfl, _, _, _, _, _, rfl, .ty _, hv.ty, kit_str d, _, rfl, ?_⟩
    cases hv with
    | str x =>
      have hx := hz x rfl
      refine iteF ?_
      refine ⟨_, rfl, _, rfl, Nat.le_trans hx (by decide), _, _, rfl, rfl, _, rfl, ?_⟩
      refine ite2 (fun h1 => ?_) (fun h1 => ?_)
      · refine ⟨_, _, rfl, rfl, _, rfl, ?_⟩
        have h1' := of_decide_eq_true h1
        by_cases h2 : (x.length : Int) ≤ 8
        · rw [decide_eq_true h2]
          refine iteF ?_
          have hl : isWordD (.str x) = ((x.cps.toList.map lowZ).all id) := by
            show ((decide (1 ≤ x.length) && decide (x.length ≤ 8)) && x.cps.toList.all lowZ) = _
            rw [decide_eq_true (show 1 ≤ x.length by omega), decide_eq_true (show x.length ≤ 8 by omega), List.all_map]
            rfl
          refine ⟨_, rfl, _, rfl, fun D hD => lc_it (walk_str (z := x)) (fun i H' => Same H H' ∧ H' D = some (.lst ((x.cps.toList.take i).map fun c => V.bl (lowZ c))))
            ⟨fun b o e => by rw [upd_ne (ne_of_none e hD)]; exact e, upd_same⟩ (fun _ _ _ _ => trivial) ?_ ?_⟩
          · rintro i v H1 H2 hi ⟨sm, hl1⟩ ⟨rfl, c, hc, rfl⟩
            refine ⟨rfl, ?_⟩
            have hlen : ((x.cps.toList.take i).map fun c => V.bl (lowZ c)).length < sizeLine := szlt (by
              have ecs : x.cps.size = x.length := rfl
              rw [List.length_map, List.length_take, Array.length_toList]
              omega)
            have hc2 : x.cps.toList[i]? = some c := by rw [Array.getElem?_toList]; exact hc
            have fin : Same H (upd H2 D (.lst (((x.cps.toList.take i).map fun c => V.bl (lowZ c)) ++ [V.bl (lowZ c)]))) ∧ (upd H2 D (.lst (((x.cps.toList.take i).map fun c => V.bl (lowZ c)) ++ [V.bl (lowZ c)]))) D = some (.lst ((x.cps.toList.take (i + 1)).map fun c => V.bl (lowZ c))) := by
              refine ⟨fun b o e => by rw [upd_ne (ne_of_none e hD)]; exact sm b o e, ?_⟩
              rw [upd_same, List.take_add_one, List.map_append, hc2]
              rfl
            have e : lowZ c = ((!decide ([c] < [97])) && (!decide ([122] < [c]))) := rfl
            refine ⟨_, rfl, _, _, rfl, rfl, _, rfl, ?_⟩
            refine ite2 (fun g1 => ?_) (fun g1 => ?_)
            · refine ⟨_, _, rfl, rfl, ?_⟩
              have g2 : lowZ c = !decide ([122] < [c]) := by
                rw [e, show (!decide ([c] < [97])) = true from g1, Bool.true_and]
              rw [g2] at fin
              exact ⟨_, hl1, hlen, fin⟩
            · have g2 : lowZ c = false := by
                rw [e, show (!decide ([c] < [97])) = false from Bool.eq_false_iff.mpr g1, Bool.false_and]
              rw [g2] at fin
              exact ⟨_, hl1, hlen, fin⟩
          · rintro H1 ⟨sm, hl1⟩
            rw [List.take_of_length_le (by rw [Array.length_toList] <;> exact Nat.le_refl _)] at hl1
            refine ⟨_, x.cps.toList.map lowZ, rfl, SqL.of (by rw [hl1, List.map_map]; rfl), ?_⟩
            rw [← hl]
            exact q H1 sm
        · rw [decide_eq_false h2]
          refine iteT ?_
          have hl : isWordD (.str x) = false := by
            show ((decide (1 ≤ x.length) && decide (x.length ≤ 8)) && x.cps.toList.all lowZ) = false
            rw [decide_eq_false (show ¬ x.length ≤ 8 by omega), Bool.and_false, Bool.false_and]
          rw [hl] at q
          exact q H (Same.refl H)
      · have h1' := of_decide_eq_false (Bool.eq_false_iff.mpr h1)
        refine ⟨_, rfl, ?_⟩
        refine iteT ?_
        have hl : isWordD (.str x) = false := by
          show ((decide (1 ≤ x.length) && decide (x.length ≤ 8)) && x.cps.toList.all lowZ) = false
          rw [decide_eq_false (show ¬ 1 ≤ x.length by omega), Bool.false_and, Bool.false_and]
        rw [hl] at q
        exact q H (Same.refl H)
    | _ => exact iteT (q H (Same.refl H))
def spD (f : PyData → Bool) : Sp := fun vs H Q _ => ∃ v d, vs = [v] ∧ Dx H v d ∧ (listfree d = true ∧ dictfree d = true ∧ SeqAt.shaped d = true) ∧ ∀ H', Same H H' → Q (.bl (f d)) H'
theorem ok_is_arity {f : Addr} {fd : FuncData} (F : Fun K "is_arity" "is_arity" s_is_arity f fd) (T : Txt mg) {f_is_integer : Addr} {fd_is_integer : FuncData} (G_is_integer : FnOk P w K mg base CX0 1 f_is_integer fd_is_integer P_is_integer spInt) (C_is_integer : Cal K mg "is_integer" f_is_integer fd_is_integer P_is_integer) : FnOk P w K mg base CX0 2 f fd P_is_arity (spA isArityD) := by
  refine F.ok sc_is_arity (fun vs H Q E h => ?_) (fun cdv A outer s H vs Q E hr h => ?_)
  · obtain ⟨v, d, rfl, _⟩ := h
    rfl
  · obtain ⟨v, d, rfl, hv, q⟩ := h
    refine ⟨_, (pss_one (ps_ret (pe_and (pe_call G_is_integer (hr.mono (by decide)) rfl C_is_integer.m C_is_integer.k C_is_integer.b .nil pass0 (pa_cons (pv 0) pa_nil)) (pe_one (pe_chain op_le op_le pe_int (pv 0) (pe_glob (v := .int 3) rfl T.m_MAX_ARITY.choose_spec ⟨_, rfl⟩)))))), ?_⟩
    refine ⟨_, rfl, _, _, rfl, hv, _, rfl, ?_⟩
    refine ite2 (fun g => ?_) (fun g => ?_)
    · cases hv with
      | int i =>
        refine ⟨_, rfl, _, _, rfl, rfl, _, rfl, ?_⟩
        refine ite2 (fun h1 => ?_) (fun h1 => ?_)
        · refine ⟨_, _, rfl, rfl, ?_⟩
          have e : isArityD (.int i) = decide (i ≤ 3) := by
            show (isIntD (.int i) && (decide (0 ≤ i) && decide (i ≤ 3))) = _
            rw [g, show decide (0 ≤ i) = true from h1, Bool.true_and, Bool.true_and]
          rw [e] at q
          exact q
        · have e : isArityD (.int i) = false := by
            show (isIntD (.int i) && (decide (0 ≤ i) && decide (i ≤ 3))) = _
            rw [show decide (0 ≤ i) = false from Bool.eq_false_iff.mpr h1, Bool.false_and, Bool.and_false]
          rw [e] at q
          exact q
      | _ => cases g
    · have e : isArityD d = false := by
        cases d with
        | int i =>
          show (isIntD (.int i) && (decide (0 ≤ i) && decide (i ≤ 3))) = _
          rw [Bool.eq_false_iff.mpr g, Bool.false_and]
        | _ => rfl
      rw [e] at q
      exact q
theorem ok_is_leaf {f : Addr} {fd : FuncData} (F : Fun K "is_leaf" "is_leaf" s_is_leaf f fd) (T : Txt mg) : FnOk P w K mg base CX0 1 f fd P_is_leaf (spD isLeafD) := by
  refine F.ok sc_is_leaf (fun vs H Q E h => ?_) (fun cdv A outer s H vs Q E hr h => ?_)
  · obtain ⟨v, d, rfl, _⟩ := h
    rfl
  · obtain ⟨v, d, rfl, hv, ⟨f1, f2, f3⟩, q⟩ := h
    refine ⟨_, (pss_one (ps_ret (pe_cmpR (op_inX (hu65 hr)) (pv 0) (pe_tup (pa_cons (pe_glob (v := .str "_") rfl T.m_ANY.choose_spec ⟨_, rfl⟩) (pa_cons (pe_glob (v := .str "#") rfl T.m_LOST.choose_spec ⟨_, rfl⟩) pa_nil))) (by first | rfl | with_unfolding_all rfl)))), ?_⟩
    refine ⟨_, rfl, (szr rfl), fun p1 n1 => ?_⟩
    generalize g1 : upd _ p1 _ = H1; obtain ⟨e1, o1, t1⟩ := made n1 g1; clear g1
    have sm := sameOf n1 o1
    refine ⟨_, _, _, (hv.same sm).dp f2, (Dx.tup t1 (.cons (.str _) (.cons (.str _) .nil))).dp rfl, (.inr rfl), f3, (by decide +kernel), ?_⟩
    exact q H1 sm

def okE (d : PyData) : Bool := (listfree d && dictfree d) && (SeqAt.shaped d && (match d with | .str x => decide (x.length ≤ 100000) | _ => true))
def okN : PyData → Bool
  | .tuple [s, m] => okE s && okE m
  | _ => true
theorem okE.d {d : PyData} (h : okE d = true) : listfree d = true ∧ dictfree d = true ∧ SeqAt.shaped d = true := by
  simp only [okE, Bool.and_eq_true] at h
  exact ⟨h.1.1, h.1.2, h.2.1⟩
theorem okE.s {d : PyData} (h : okE d = true) : ∀ x, d = .str x → x.length ≤ 100000 := by
  rintro x rfl
  simp only [okE, Bool.and_eq_true] at h
  exact of_decide_eq_true h.2.2
def spNode : Sp := fun vs H Q _ => ∃ v d, vs = [v] ∧ Dx H v d ∧ okN d = true ∧ ∀ H', Same H H' → Q (.bl (isNodeD d)) H'
theorem ok_is_node {f : Addr} {fd : FuncData} (F : Fun K "is_node" "is_node" s_is_node f fd) (T : Txt mg) {f_is_word : Addr} {fd_is_word : FuncData} (G_is_word : FnOk P w K mg base CX0 1 f_is_word fd_is_word P_is_word spWord) (C_is_word : Cal K mg "is_word" f_is_word fd_is_word P_is_word) {f_is_arity : Addr} {fd_is_arity : FuncData} (G_is_arity : FnOk P w K mg base CX0 2 f_is_arity fd_is_arity P_is_arity (spA isArityD)) (C_is_arity : Cal K mg "is_arity" f_is_arity fd_is_arity P_is_arity) {f_is_leaf : Addr} {fd_is_leaf : FuncData} (G_is_leaf : FnOk P w K mg base CX0 1 f_is_leaf fd_is_leaf P_is_leaf (spD isLeafD)) (C_is_leaf : Cal K mg "is_leaf" f_is_leaf fd_is_leaf P_is_leaf) : FnOk P w K mg base CX0 3 f fd P_is_node spNode := by
  refine F.ok sc_is_node (fun vs H Q E h => ?_) (fun cdv A outer s H vs Q E hr h => ?_)
  · obtain ⟨v, d, rfl, _⟩ := h
    rfl
  · obtain ⟨v, d, rfl, hv, ho, q⟩ := h
    refine ⟨_, (pss_cons (ps_if (PW.pt (pw_or (pt_not (pt_val (pe_callB call_isi (by rfl) T.n_isinstance (by decide +kernel) (pa_cons (pv 0) (pa_cons (pe_bltn (v := .ty "tuple") rfl T.n_tuple (by decide +kernel) rfl) pa_nil))))) (pw_or1 (pt_cmpR op_ne (pe_callB call_len_seq (by rfl) T.n_len (by decide +kernel) (pa_cons (pv 0) pa_nil)) pe_int (nomark _))))) (pss_one (ps_ret pe_bl)) pss_nil)
      (pss_cons (ps_asg (pv 0) (pg_tup rfl (pgs_cons (pg_name (i := 1) sc_is_node.nd rfl (Or.inl rfl)) (pgs_cons (pg_name (i := 2) sc_is_node.nd rfl (Or.inl rfl)) pgs_nil))))
      (pss_cons (ps_if (pt_val (pe_call G_is_leaf (hr.mono (by decide)) rfl C_is_leaf.m C_is_leaf.k C_is_leaf.b .nil pass0 (pa_cons (pv 1) pa_nil))) (pss_one (ps_ret (pe_and (pe_call G_is_arity (hr.mono (by decide)) rfl C_is_arity.m C_is_arity.k C_is_arity.b .nil pass0 (pa_cons (pv 2) pa_nil)) (pe_one (pe_cmpR op_eq (pv 2) pe_int (nomark _)))))) pss_nil)
      (pss_one (ps_ret (pe_and (pe_call G_is_word (hr.mono (by decide)) rfl C_is_word.m C_is_word.k C_is_word.b .nil pass0 (pa_cons (pv 1) pa_nil)) (pe_one (pe_call G_is_arity (hr.mono (by decide)) rfl C_is_arity.m C_is_arity.k C_is_arity.b .nil pass0 (pa_cons (pv 2) pa_nil))))))))), ?_⟩
    refine ⟨_, rfl, _, _, _, _, _, rfl, .ty _, hv.ty, kit_tuple d, _, rfl, ?_⟩
    cases hv with
    | @tup a xs ds ha hx =>
      refine iteF ?_
      refine ⟨_, rfl, _, _, rfl, .inr (SqT.of ha), rfl, _, rfl, ?_⟩
      refine ite2 (fun g => ?_) (fun g => ?_)
      · have g' : ¬ V.int (xs.length : Int) = V.int 2 := of_decide_eq_false (by simpa using g)
        have hl : ds.length ≠ 2 := fun e => g' (by rw [hx.len, e]; rfl)
        have e : isNodeD (.tuple ds) = false := by
          match ds, hl with
          | [], _ => rfl
          | [_], _ => rfl
          | _ :: _ :: _ :: _, _ => rfl
        rw [e] at q
        exact q H (Same.refl H)
      · have g' : V.int (xs.length : Int) = V.int 2 := by simpa using g
        have hl : ds.length = 2 := by
          have := V.int.inj g'
          rw [hx.len] at this
          omega
        obtain ⟨s, m, rfl⟩ : ∃ s m, ds = [s, m] := by
          match ds, hl with
          | [s, m], _ => exact ⟨s, m, rfl⟩
        cases hx with
        | @cons vs _ _ _ h1 h2 =>
          cases h2 with
          | @cons vm _ _ _ h2 h3 =>
            cases h3
            have ho' : okE s = true ∧ okE m = true := by
              have := ho
              simpa only [okN, Bool.and_eq_true] using this
            refine ⟨_, rfl, _, _, rfl, SqT.of ha, rfl, _, _, rfl, _, _, rfl, rfl, ?_⟩
            refine ⟨_, rfl, vs, s, rfl, h1, okE.d ho'.1, fun H1 s1 => ?_⟩
            refine ⟨_, rfl, ?_⟩
            refine ite2 (fun g => ?_) (fun g => ?_)
            · refine ⟨_, rfl, vm, m, rfl, h2.same s1, _, rfl, ?_⟩
              have e : isNodeD (.tuple [s, m]) = (isArityD m && PyData.eqv m (.int 0)) := by
                show (if isLeafD s = true then _ else _) = _
                rw [if_pos g]
              rw [e] at q
              refine ite2 (fun g2 => ?_) (fun g2 => ?_)
              · rw [g2, Bool.true_and] at q
                cases h2 with
                | int i =>
                  refine ⟨_, rfl, rfl, ?_⟩
                  have e2 : PyData.eqv (.int i) (.int 0) = decide (V.int i = V.int 0) := by
                    by_cases z : i = 0
                    · subst z
                      rfl
                    · rw [decide_eq_false (fun w => z (V.int.inj w))]
                      simp [PyData.eqv, z]
                  rw [e2] at q
                  exact q H1 s1
                | _ => cases g2
              · rw [Bool.eq_false_iff.mpr g2, Bool.false_and] at q
                exact q H1 s1
            · refine ⟨_, rfl, vs, s, rfl, h1.same s1, okE.s ho'.1, fun H2 s2 => ?_⟩
              have e : isNodeD (.tuple [s, m]) = (isWordD s && isArityD m) := by
                show (if isLeafD s = true then _ else _) = _
                rw [if_neg g]
              rw [e] at q
              refine ⟨_, rfl, ?_⟩
              refine ite2 (fun g2 => ?_) (fun g2 => ?_)
              · rw [g2, Bool.true_and] at q
                exact ⟨_, rfl, vm, m, rfl, h2.same (s1.trans s2), q H2 (s1.trans s2)⟩
              · rw [Bool.eq_false_iff.mpr g2, Bool.false_and] at q
                exact q H2 (s1.trans s2)
    | _ => exact iteT (q H (Same.refl H))

def signD : List PyData := [.str "a", .str "f", .str "cons", .str "zzzzzzzz", .str "_", .str "#", .str "F", .str "", .str "__", .str "abcdefghi", .none, .int 0, .tuple [.str "a"], .str "a "]
def manyD : List PyData := [.int 0, .int 0, .int 0, .int 1, .int 2, .int 3, .int 4, .int (-1), .none, .str "0", .bool true, .bool false, .tuple [.int 0], .int (10 ^ Int.toNat 20)]
def oddD (s m : PyData) : List PyData := [.list [s, m], .tuple [s], .tuple [s, m, .tuple []], .tuple [m, s], .none, .int 0, .str "a", .tuple [], .dict [], .tuple [.tuple [s, m]], s]
def leafLaw (s m : PyData) : Bool :=
  if (tyN m == "bool" || !([.int 0, .int 1, .int 2, .int 3] : List PyData).any fun z => PyData.eqv z m) = true then false
  else ((([.str "a", .str "f", .str "cons", .str "zzzzzzzz"] : List PyData).any fun z => PyData.eqv z s) || ((([.str "_", .str "#"] : List PyData).any fun z => PyData.eqv z s) && PyData.eqv m (.int 0)))
def spLeaf : Sp := fun vs H Q _ => ∃ v1 v2 s m, vs = [v1, v2] ∧ Dx H v1 s ∧ Dx H v2 m ∧ okE s = true ∧ okE m = true ∧ ∀ H', Same H H' → Q (.bl (leafLaw s m)) H'
theorem ok__law_is_leaf {f : Addr} {fd : FuncData} (F : Fun K "_law_is_leaf" "_law_is_leaf" s__law_is_leaf f fd) (T : Txt mg) : FnOk P w K mg base CX0 1 f fd P__law_is_leaf spLeaf := by
  refine F.ok sc__law_is_leaf (fun vs H Q E h => ?_) (fun cdv A outer s H vs Q E hr h => ?_)
  · obtain ⟨v1, v2, s, m, rfl, _⟩ := h
    rfl
  · obtain ⟨v1, v2, s, m, rfl, h1, h2, oS, o2, q⟩ := h
    refine ⟨_, (pss_cons (ps_if (PW.pt (pw_or (pt_val (pe_callB call_isi (by rfl) T.n_isinstance (by decide +kernel) (pa_cons (pv 1) (pa_cons (pe_bltn (v := .ty "bool") rfl T.n_bool (by decide +kernel) rfl) pa_nil)))) (pw_or1 (pt_cmpR (op_notInX (hu65 hr)) (pv 1) (pe_lst (pa_cons pe_int (pa_cons pe_int (pa_cons pe_int (pa_cons pe_int pa_nil))))) (by first | rfl | with_unfolding_all rfl))))) (pss_one (ps_ret pe_bl)) pss_nil)
      (pss_one (ps_ret (pe_or (pe_cmpR (op_inX (hu65 hr)) (pv 0) (pe_lst (pa_cons pe_str (pa_cons pe_str (pa_cons pe_str (pa_cons pe_str pa_nil))))) (by first | rfl | with_unfolding_all rfl)) (pe_one (pe_and (pe_cmpR (op_inX (hu65 hr)) (pv 0) (pe_lst (pa_cons pe_str (pa_cons pe_str pa_nil))) (by first | rfl | with_unfolding_all rfl)) (pe_one (pe_cmpR op_eq (pv 1) pe_int (nomark _))))))))), ?_⟩
    refine ⟨_, rfl, _, _, _, _, _, rfl, .ty _, h2.ty, kit_bool m, _, rfl, ?_⟩
    refine ite2 (fun g => ?_) (fun g => ?_)
    · have e : leafLaw s m = false := by
        unfold leafLaw
        rw [show (tyN m == "bool") = true from g, Bool.true_or, if_pos rfl]
      rw [e] at q
      refine iteT ?_
      exact q H (Same.refl H)
    · have g' : (tyN m == "bool") = false := Bool.eq_false_iff.mpr g
      refine ⟨_, rfl, (szr rfl), fun p1 n1 => ?_⟩
      generalize g1 : upd _ p1 _ = H1; obtain ⟨e1, o1, t1⟩ := made n1 g1; clear g1
      have s1 := sameOf n1 o1
      refine ⟨m, .list [.int 0, .int 1, .int 2, .int 3], _, (h2.same s1).dp (okE.d o2).2.1, Dx.dp (by walk_at "dx") rfl, (.inl rfl), (okE.d o2).2.2, (by decide +kernel), _, rfl, ?_⟩
      refine ite2 (fun k => ?_) (fun k => ?_)
      · have e : leafLaw s m = false := by
          unfold leafLaw
          rw [show (!([.int 0, .int 1, .int 2, .int 3] : List PyData).any fun z => PyData.eqv z m) = true from k, Bool.or_true, if_pos rfl]
        rw [e] at q
        exact q H1 s1
      · have k' : (!([.int 0, .int 1, .int 2, .int 3] : List PyData).any fun z => PyData.eqv z m) = false := Bool.eq_false_iff.mpr k
        have e : leafLaw s m = ((([.str "a", .str "f", .str "cons", .str "zzzzzzzz"] : List PyData).any fun z => PyData.eqv z s) || ((([.str "_", .str "#"] : List PyData).any fun z => PyData.eqv z s) && PyData.eqv m (.int 0))) := by
          unfold leafLaw
          rw [g', k', Bool.false_or, if_neg Bool.false_ne_true]
        rw [e] at q
        clear e
        refine ⟨_, rfl, (szr rfl), fun p2 n2 => ?_⟩
        generalize g2 : upd _ p2 _ = H2; obtain ⟨e2, o2', t2⟩ := made n2 g2; clear g2
        have s2 := sameOf n2 o2'
        refine ⟨s, .list [.str "a", .str "f", .str "cons", .str "zzzzzzzz"], _, (h1.same (s1.trans s2)).dp (okE.d oS).2.1, Dx.dp (by walk_at "dx") rfl, (.inl rfl), (okE.d oS).2.2, (by decide +kernel), _, rfl, ?_⟩
        refine ite2 (fun k1 => ?_) (fun k1 => ?_)
        · have k1' : (([.str "a", .str "f", .str "cons", .str "zzzzzzzz"] : List PyData).any fun z => PyData.eqv z s) = true := k1
          rw [k1', Bool.true_or] at q
          exact q H2 (s1.trans s2)
        · have k1' : (([.str "a", .str "f", .str "cons", .str "zzzzzzzz"] : List PyData).any fun z => PyData.eqv z s) = false := Bool.eq_false_iff.mpr k1
          rw [k1', Bool.false_or] at q
          refine ⟨_, rfl, (szr rfl), fun p3 n3 => ?_⟩
          generalize g3 : upd _ p3 _ = H3; obtain ⟨e3, o3, t3⟩ := made n3 g3; clear g3
          have s3 := sameOf n3 o3
          have s13 := (s1.trans s2).trans s3
          refine ⟨s, .list [.str "_", .str "#"], _, (h1.same s13).dp (okE.d oS).2.1, Dx.dp (by walk_at "dx") rfl, (.inl rfl), (okE.d oS).2.2, (by decide +kernel), _, rfl, ?_⟩
          refine ite2 (fun k2 => ?_) (fun k2 => ?_)
          · have k2' : (([.str "_", .str "#"] : List PyData).any fun z => PyData.eqv z s) = true := k2
            rw [k2', Bool.true_and] at q
            have k3 := k'
            rw [Bool.not_eq_false'] at k3
            have key : ∃ i, m = .int i := by
              cases m with
              | int i => exact ⟨i, rfl⟩
              | bool b => cases (show ("bool" == "bool") = false from g')
              | _ => simp [PyData.eqv] at k3
            obtain ⟨i, rfl⟩ := key
            cases h2
            refine ⟨_, rfl, rfl, ?_⟩
            have e2 : PyData.eqv (.int i) (.int 0) = decide (V.int i = V.int 0) := by
              by_cases z : i = 0
              · subst z
                rfl
              · rw [decide_eq_false (fun w => z (V.int.inj w))]
                simp [PyData.eqv, z]
            rw [e2] at q
            exact q H3 s13
          · have k2' : (([.str "_", .str "#"] : List PyData).any fun z => PyData.eqv z s) = false := Bool.eq_false_iff.mpr k2
            rw [k2', Bool.false_and] at q
            exact q H3 s13
theorem tabS : ∀ s ∈ signD, nodice s = true ∧ okE s = true := by decide +kernel
theorem tabM : ∀ m ∈ manyD, nodice m = true ∧ okE m = true := by decide +kernel
theorem tab : ∀ s ∈ signD, ∀ m ∈ manyD, isNodeD (.tuple [s, m]) = leafLaw s m ∧ nodiceAll (oddD s m) = true ∧ ∀ d ∈ oddD s m, isNodeD d = false ∧ okN d = true := by decide +kernel
def someD : List PyData := [.tuple [.str "f", .int 3], .tuple [.str "_", .int 0], .tuple [.str "#", .int 1], .tuple [.str "f", .int 4], .tuple [.str "#", .int 0], .tuple [.str "a", .int 0]]
theorem tabO : ∀ d ∈ someD, okN d = true := by decide +kernel
def spRight : Sp := fun vs H Q _ => ∃ (p : Addr), vs = [.ref p] ∧ Dc H p ∧ ∀ H', Ev2 H H' → Dc H' p → Q (.bl true) H'
theorem ok__law_right {f : Addr} {fd : FuncData} (F : Fun K "_law_right" "_law_right" s__law_right f fd) (T : Txt mg) {f__law_pick : Addr} {fd__law_pick : FuncData} (G__law_pick : FnOk P w K mg base CX0 2 f__law_pick fd__law_pick P__law_pick (spPick K)) (C__law_pick : Cal K mg "_law_pick" f__law_pick fd__law_pick P__law_pick) {f_is_node : Addr} {fd_is_node : FuncData} (G_is_node : FnOk P w K mg base CX0 3 f_is_node fd_is_node P_is_node spNode) (C_is_node : Cal K mg "is_node" f_is_node fd_is_node P_is_node) {f__law_is_leaf : Addr} {fd__law_is_leaf : FuncData} (G__law_is_leaf : FnOk P w K mg base CX0 1 f__law_is_leaf fd__law_is_leaf P__law_is_leaf spLeaf) (C__law_is_leaf : Cal K mg "_law_is_leaf" f__law_is_leaf fd__law_is_leaf P__law_is_leaf) : FnOk P w K mg base CX0 4 f fd P__law_right spRight := by
  refine F.ok sc__law_right (fun vs H Q E h => ?_) (fun cdv A outer s H vs Q E hr h => ?_)
  · obtain ⟨p, rfl, _⟩ := h
    rfl
  · obtain ⟨p, rfl, hp, q⟩ := h
    refine ⟨_, (pss_cons (ps_set (i := 1) sc__law_right.nd rfl (Or.inl rfl) (pe_call G__law_pick (hr.mono (by decide)) rfl C__law_pick.m C__law_pick.k C__law_pick.b .nil pass0 (pa_cons (pv 0) (pa_cons (pe_lst (pa_cons pe_str (pa_cons pe_str (pa_cons pe_str (pa_cons pe_str (pa_cons pe_str (pa_cons pe_str (pa_cons pe_str (pa_cons pe_str (pa_cons pe_str (pa_cons pe_str (pa_cons pe_non (pa_cons pe_int (pa_cons (pe_tup (pa_cons pe_str pa_nil)) (pa_cons pe_str pa_nil))))))))))))))) pa_nil))))
      (pss_cons (ps_set (i := 2) sc__law_right.nd rfl (Or.inl rfl) (pe_call G__law_pick (hr.mono (by decide)) rfl C__law_pick.m C__law_pick.k C__law_pick.b .nil pass0 (pa_cons (pv 0) (pa_cons (pe_lst (pa_cons pe_int (pa_cons pe_int (pa_cons pe_int (pa_cons pe_int (pa_cons pe_int (pa_cons pe_int (pa_cons pe_int (pa_cons (pe_un un_neg pe_int) (pa_cons pe_non (pa_cons pe_str (pa_cons pe_bl (pa_cons pe_bl (pa_cons (pe_tup (pa_cons pe_int pa_nil)) (pa_cons (pe_op op_powW pe_int pe_int) pa_nil))))))))))))))) pa_nil))))
      (pss_cons (ps_if (pt_cmpR op_ne (pe_callB call_repr_b (by rfl) T.n_repr (by decide +kernel) (pa_cons (pe_call G_is_node (hr.mono (by decide)) rfl C_is_node.m C_is_node.k C_is_node.b .nil pass0 (pa_cons (pe_tup (pa_cons (pv 1) (pa_cons (pv 2) pa_nil))) pa_nil)) pa_nil)) (pe_callB call_repr_b (by rfl) T.n_repr (by decide +kernel) (pa_cons (pe_call G__law_is_leaf (hr.mono (by decide)) rfl C__law_is_leaf.m C__law_is_leaf.k C__law_is_leaf.b .nil pass0 (pa_cons (pv 1) (pa_cons (pv 2) pa_nil))) pa_nil)) (nomark _)) (pss_one (ps_ret pe_bl)) pss_nil)
      (pss_cons (ps_set (i := 3) sc__law_right.nd rfl (Or.inl rfl) (pe_lst (pa_cons (pe_lst (pa_cons (pv 1) (pa_cons (pv 2) pa_nil))) (pa_cons (pe_tup (pa_cons (pv 1) pa_nil)) (pa_cons (pe_tup (pa_cons (pv 1) (pa_cons (pv 2) (pa_cons (pe_tup pa_nil) pa_nil)))) (pa_cons (pe_tup (pa_cons (pv 2) (pa_cons (pv 1) pa_nil))) (pa_cons pe_non (pa_cons pe_int (pa_cons pe_str (pa_cons (pe_tup pa_nil) (pa_cons pe_dnewK (pa_cons (pe_tup (pa_cons (pe_tup (pa_cons (pv 1) (pa_cons (pv 2) pa_nil))) pa_nil)) (pa_cons (pv 1) pa_nil)))))))))))))
      (pss_one (ps_ret (pe_not (pe_call G_is_node (hr.mono (by decide)) rfl C_is_node.m C_is_node.k C_is_node.b .nil pass0 (pa_cons (pe_call G__law_pick (hr.mono (by decide)) rfl C__law_pick.m C__law_pick.k C__law_pick.b .nil pass0 (pa_cons (pv 0) (pa_cons (pv 3) pa_nil))) pa_nil))))))))), ?_⟩
    -- _law_sign
    refine ⟨_, rfl, (szr rfl), fun p1 n1 => ?_⟩
    generalize g1 : upd _ p1 _ = H1; obtain ⟨e1, o1, t1⟩ := made n1 g1; clear g1
    have s1 := sameOf n1 o1
    refine ⟨(szr rfl), fun p2 n2 => ?_⟩
    generalize g2 : upd _ p2 _ = H2; obtain ⟨e2, o2, t2⟩ := made n2 g2; clear g2
    have s2 := sameOf n2 o2
    have d2 := (hp.keep n1 o1).keep n2 o2
    have k2 := pick_l (K := K) t2 ((hp.keep n1 o1).ne n2).symm
    refine ⟨p, p2, _, rfl, d2, k2.1, k2.2, (by show 0 < 14; decide), (by show 14 < 1000000; decide), fun i vs G1 hv f1 u1 d1 => ?_⟩
    obtain ⟨s, hs, xs⟩ := pick_dx (ds := signD) (by walk_at "dx") hv d2 u1 (by decide +kernel)
    have ms := List.mem_of_getElem? hs
    have S := tabS s ms
    clear hv hs t1 t2 s1 s2 n1 n2 o1 o2 k2
    -- _law_many
    refine ⟨_, rfl, _, rfl, (szr rfl), fun p3 n3 => ?_⟩
    generalize g3 : upd _ p3 _ = H3; obtain ⟨e3, o3, t3⟩ := made n3 g3; clear g3
    have s3 := sameOf n3 o3
    refine ⟨_, _, rfl, rfl, (powOk (by decide +kernel)), (szr rfl), fun p4 n4 => ?_⟩
    generalize g4 : upd _ p4 _ = H4; obtain ⟨e4, o4, t4⟩ := made n4 g4; clear g4
    have s4 := sameOf n4 o4
    have d4 := (d1.keep n3 o3).keep n4 o4
    have k4 := pick_l (K := K) t4 ((d1.keep n3 o3).ne n4).symm
    have xs4 := xs.same (s3.trans s4)
    refine ⟨p, p4, _, rfl, d4, k4.1, k4.2, (by show 0 < 14; decide), (by show 14 < 1000000; decide), fun i vm G2 hv f2 u2 d2 => ?_⟩
    obtain ⟨m, hm, xm⟩ := pick_dx (ds := manyD) (by walk_at "dx") hv d4 u2 (by decide +kernel)
    have mm := List.mem_of_getElem? hm
    have M := tabM m mm
    have xs := xs4.only d4 u2 S.1
    clear hv hm t3 t4 s3 s4 n3 n4 o3 o4 k4 xs4
    have B := tab s ms m mm
    -- is_node((sign, many))
    refine ⟨_, rfl, _, rfl, (szr rfl), fun p5 n5 => ?_⟩
    generalize g5 : upd _ p5 _ = H5; obtain ⟨e5, o5, t5⟩ := made n5 g5; clear g5
    have s5 := sameOf n5 o5
    have d5 := d2.keep n5 o5
    have xs5 := xs.same s5
    have xm5 := xm.same s5
    refine ⟨.ref p5, .tuple [s, m], rfl, .tup t5 (by walk_at "dx"), (by simp only [okN, S.2, M.2, Bool.and_true]), fun H6 s6 => ?_⟩
    refine ⟨_, rfl, _, rfl, _, rfl, ?_⟩
    refine ⟨vs, vm, s, m, rfl, xs5.same s6, xm5.same s6, S.2, M.2, fun H7 s7 => ?_⟩
    refine ⟨_, rfl, rfl, _, rfl, ?_⟩
    refine iteNS (by rw [B.1]) ?_
    have s57 := s6.trans s7
    have d7 : Dc H7 p := by
      obtain ⟨x, y, z, h⟩ := d5
      exact ⟨x, y, z, s57 _ _ h⟩
    have xs7 := xs5.same s57
    have xm7 := xm5.same s57
    -- _law_odd
    refine ⟨_, rfl, _, rfl, (szr rfl), fun p6 n6 => ?_⟩
    generalize g6 : upd _ p6 _ = H8; obtain ⟨e6, o6, t6⟩ := made n6 g6; clear g6
    have s8 := sameOf n6 o6
    refine ⟨_, rfl, (szr rfl), fun p7 n7 => ?_⟩
    generalize g7 : upd _ p7 _ = H9; obtain ⟨e7, o7, t7⟩ := made n7 g7; clear g7
    have s9 := sameOf n7 o7
    refine ⟨_, rfl, _, rfl, (szr rfl), fun p8 n8 => ?_⟩
    generalize g8 : upd _ p8 _ = H10; obtain ⟨e8, o8, t8⟩ := made n8 g8; clear g8
    have s10 := sameOf n8 o8
    refine ⟨(szr rfl), fun p9 n9 => ?_⟩
    generalize g9 : upd _ p9 _ = H11; obtain ⟨e9, o9, t9⟩ := made n9 g9; clear g9
    have s11 := sameOf n9 o9
    refine ⟨_, rfl, _, rfl, (szr rfl), fun p10 n10 => ?_⟩
    generalize g10 : upd _ p10 _ = H12; obtain ⟨e10, o10, t10⟩ := made n10 g10; clear g10
    have s12 := sameOf n10 o10
    refine ⟨(szr rfl), fun p11 n11 => ?_⟩
    generalize g11 : upd _ p11 _ = H13; obtain ⟨e11, o11, t11⟩ := made n11 g11; clear g11
    have s13 := sameOf n11 o11
    refine fun p12 n12 => ?_
    generalize g12 : upd _ p12 _ = H14; obtain ⟨e12, o12, t12⟩ := made n12 g12; clear g12
    have s14 := sameOf n12 o12
    refine ⟨_, rfl, _, rfl, (szr rfl), fun p13 n13 => ?_⟩
    generalize g13 : upd _ p13 _ = H15; obtain ⟨e13, o13, t13⟩ := made n13 g13; clear g13
    have s15 := sameOf n13 o13
    refine ⟨(szr rfl), fun p14 n14 => ?_⟩
    generalize g14 : upd _ p14 _ = H16; obtain ⟨e14, o14, t14⟩ := made n14 g14; clear g14
    have s16 := sameOf n14 o14
    refine ⟨_, rfl, (szr rfl), fun p15 n15 => ?_⟩
    generalize g15 : upd _ p15 _ = H17; obtain ⟨e15, o15, t15⟩ := made n15 g15; clear g15
    have s17 := sameOf n15 o15
    have s7t : Same H7 H16 := by walk_at "sm"
    have d16 : Dc H16 p := by
      obtain ⟨x, y, z, h⟩ := d7
      exact ⟨x, y, z, s7t _ _ h⟩
    have d17 := d16.keep n15 o15
    have k17 := pick_l (K := K) t15 (d16.ne n15).symm
    have X : DxAll H17 [V.ref p6, .ref p7, .ref p9, .ref p10, .non, .int 0, .str "a", .ref p11, .ref p12, .ref p14, vs] (oddD s m) := by
      refine .cons (.lst (Same.at t6 (by walk_at "sm")) ?_) (.cons (.tup (Same.at t7 (by walk_at "sm")) ?_) (.cons (.tup (Same.at t9 (by walk_at "sm")) ?_) (.cons (.tup (Same.at t10 (by walk_at "sm")) ?_) (.cons .non (.cons (.int _) (.cons (.str _) (.cons (.tup (Same.at t11 (by walk_at "sm")) .nil) (.cons (.dct (Same.at t12 (by walk_at "sm"))) (.cons (.tup (Same.at t14 (by walk_at "sm")) (.cons (.tup (Same.at t13 (by walk_at "sm")) ?_) .nil)) (.cons (xs7.same (by walk_at "sm")) .nil))))))))))
      · exact .cons (xs7.same (by walk_at "sm")) (.cons (xm7.same (by walk_at "sm")) .nil)
      · exact .cons (xs7.same (by walk_at "sm")) .nil
      · exact .cons (xs7.same (by walk_at "sm")) (.cons (xm7.same (by walk_at "sm")) (.cons (.tup (Same.at t8 (by walk_at "sm")) .nil) .nil))
      · exact .cons (xm7.same (by walk_at "sm")) (.cons (xs7.same (by walk_at "sm")) .nil)
      · exact .cons (xs7.same (by walk_at "sm")) (.cons (xm7.same (by walk_at "sm")) .nil)
    have e77 : Ev2 H7 H17 := Ev2.same (by walk_at "sm")
    have e07 : Ev2 H H7 := ((((e1.trans e2).trans f1).trans ((e3.trans e4).trans f2)).trans e5).trans (Ev2.same s57)
    refine ⟨_, rfl, _, rfl, p, p15, _, rfl, d17, k17.1, k17.2, (by show 0 < 11; decide), (by show 11 < 1000000; decide), fun i vo G3 hv f3 u3 d3 => ?_⟩
    obtain ⟨d, hd, xd⟩ := pick_dx X hv d17 u3 B.2.1
    have D := B.2.2 d (List.mem_of_getElem? hd)
    refine ⟨vo, d, rfl, xd, D.2, fun H18 s18 => ?_⟩
    refine ⟨_, rfl, ?_⟩
    rw [D.1]
    refine q H18 ((e07.trans e77).trans (f3.trans (Ev2.same s18))) ?_
    obtain ⟨x, y, z, h⟩ := d3
    exact ⟨x, y, z, s18 _ _ h⟩
theorem ok_law {f : Addr} {fd : FuncData} (F : Fun K "law" "law" s_law f fd) (T : Txt mg) {f__law_dice : Addr} {fd__law_dice : FuncData} (G__law_dice : FnOk P w K mg base CX0 1 f__law_dice fd__law_dice P__law_dice (spDice K)) (C__law_dice : Cal K mg "_law_dice" f__law_dice fd__law_dice P__law_dice) {f__law_right : Addr} {fd__law_right : FuncData} (G__law_right : FnOk P w K mg base CX0 4 f__law_right fd__law_right P__law_right spRight) (C__law_right : Cal K mg "_law_right" f__law_right fd__law_right P__law_right) {f_is_node : Addr} {fd_is_node : FuncData} (G_is_node : FnOk P w K mg base CX0 3 f_is_node fd_is_node P_is_node spNode) (C_is_node : Cal K mg "is_node" f_is_node fd_is_node P_is_node) : FnOk P w K mg base CX0 5 f fd P_law (spLaw K) := by
  refine F.ok sc_law (fun vs H Q E h => ?_) (fun cdv A outer s H vs Q E hr h => ?_)
  · obtain ⟨a, ns, rfl, _⟩ := h
    rfl
  · obtain ⟨a, ns, rfl, hS, hlen, q⟩ := h
    refine ⟨_, (pss_cons (ps_for PassesOwn.never rfl (pi_range1 (by rfl) T.n_range (pa_cons (pe_callB (call_max2 rfl) (by rfl) T.n_max (by decide +kernel) (pa_cons pe_int (pa_cons (pe_callB (call_min2 rfl) (by rfl) T.n_min (by decide +kernel) (pa_cons pe_int (pa_cons (pe_callB call_len_seq (by rfl) T.n_len (by decide +kernel) (pa_cons (pv 0) pa_nil)) pa_nil))) pa_nil))) pa_nil)) (pg_name (i := 1) sc_law.nd rfl (Or.inl rfl)) (pss_cons (ps_set (i := 2) sc_law.nd rfl (Or.inl rfl) (pe_call G__law_dice (hr.mono (by decide)) rfl C__law_dice.m C__law_dice.k C__law_dice.b .nil pass0 (pa_cons (pv 0) (pa_cons (pv 1) pa_nil))))
      (pss_one (ps_for PassesOwn.never rfl (pi_range1 (by rfl) T.n_range (pa_cons pe_int pa_nil)) (pg_name (i := 3) sc_law.nd rfl (Or.inl rfl)) (pss_one (ps_if (pt_not (pt_val (pe_call G__law_right (hr.mono (by decide)) rfl C__law_right.m C__law_right.k C__law_right.b .nil pass0 (pa_cons (pv 2) pa_nil)))) (pss_one (ps_ret pe_bl)) pss_nil))))))
      (pss_cons (ps_set (i := 4) sc_law.nd rfl (Or.inl rfl) (pe_lst (pa_cons (pe_tup (pa_cons pe_str (pa_cons pe_int pa_nil))) (pa_cons (pe_tup (pa_cons pe_str (pa_cons pe_int pa_nil))) (pa_cons (pe_tup (pa_cons pe_str (pa_cons pe_int pa_nil))) (pa_cons (pe_tup (pa_cons pe_str (pa_cons pe_int pa_nil))) (pa_cons (pe_tup (pa_cons pe_str (pa_cons pe_int pa_nil))) (pa_cons (pe_tup (pa_cons pe_str (pa_cons pe_int pa_nil))) pa_nil))))))))
      (pss_one (ps_ret (pe_cmpR (op_eqD hr.units) (pe_lc (own := [("_law_one", 5)]) (g := gName 5) (tt := tYes) rfl sc_law.nd (pi_list (pv 4)) (blkOk_by (own := [("_law_one", 5)]) (N := ["_law_script", "_law_spot", "_law_dice_here", "_law_turn", "_law_some", "_law_one"]) (sc := (defScope s_law)) (by decide +kernel)) (fun _ _ _ _ _ => (pg_name (i := 5) sc_law.nd rfl (Or.inl rfl))) (fun _ _ _ _ _ => pts_nil) (fun _ _ _ _ _ => (pe_call G_is_node (hr.mono (by decide)) rfl C_is_node.m C_is_node.k C_is_node.b .nil pass0 (pa_cons (pv 5) pa_nil)))) (pe_lst (pa_cons pe_bl (pa_cons pe_bl (pa_cons pe_bl (pa_cons pe_bl (pa_cons pe_bl (pa_cons pe_bl pa_nil))))))) (nomark _)))))), ?_⟩
    have hb := turns (n := (ns.map V.int).length)
    refine ⟨_, rfl, _, _, rfl, .inl hS.1, _, _, rfl, _, _, rfl, _, rfl, by omega, by omega, ?_⟩
    generalize (if (if ((ns.map V.int).length : Int) < 8 then ((ns.map V.int).length : Int) else 8) > 1 then (if ((ns.map V.int).length : Int) < 8 then ((ns.map V.int).length : Int) else 8) else 1) = m at hb
    refine for_range (lo := 0) (n := m.toNat) (fun i σ H' => ∃ a1 a2 a3 a4 a5, σ = [some (.ref a), a1, a2, a3, a4, a5] ∧ Scr K H' a (ns.map V.int)) ⟨none, none, none, none, none, rfl, hS⟩ ?_ ?_
    · rintro i σ H1 hi ⟨a1, a2, a3, a4, a5, rfl, hS1⟩
      refine ⟨_, rfl, _, rfl, a, ns, _, rfl, hS1.1, by omega, by omega, by omega, fun p H2 np e2 o2 d2 => ?_⟩
      refine ⟨_, rfl, by decide, by decide, ?_⟩
      refine for_range (lo := 0) (n := Int.toNat 25) (fun j σ H' => ∃ a1 a3 a4 a5, σ = [some (.ref a), a1, some (.ref p), a3, a4, a5] ∧ Scr K H' a (ns.map V.int) ∧ Dc H' p) ⟨_, _, _, _, rfl, hS1.mono e2, d2⟩ ?_ ?_
      · rintro j σ H3 hj ⟨b1, b3, b4, b5, rfl, hS3, d3⟩
        refine ⟨_, rfl, p, rfl, d3, fun H4 e4 d4 => ?_⟩
        refine ⟨_, rfl, ?_⟩
        exact iteF ⟨_, _, _, _, rfl, hS3.mono e4, d4⟩
      · rintro σ H3 ⟨b1, b3, b4, b5, rfl, hS3, d3⟩
        exact ⟨_, _, _, _, _, rfl, hS3⟩
    · rintro σ H1 ⟨a1, a2, a3, a4, a5, rfl, hS1⟩
      refine ⟨(szr rfl), fun p1 n1 => ?_⟩
      generalize g1 : upd _ p1 _ = H2; obtain ⟨e1, o1, t1⟩ := made n1 g1; clear g1
      have s1 := sameOf n1 o1
      refine ⟨(szr rfl), fun p2 n2 => ?_⟩
      generalize g2 : upd _ p2 _ = H3; obtain ⟨e2, o2, t2⟩ := made n2 g2; clear g2
      have s2 := sameOf n2 o2
      refine ⟨(szr rfl), fun p3 n3 => ?_⟩
      generalize g3 : upd _ p3 _ = H4; obtain ⟨e3, o3, t3⟩ := made n3 g3; clear g3
      have s3 := sameOf n3 o3
      refine ⟨(szr rfl), fun p4 n4 => ?_⟩
      generalize g4 : upd _ p4 _ = H5; obtain ⟨e4, o4, t4⟩ := made n4 g4; clear g4
      have s4 := sameOf n4 o4
      refine ⟨(szr rfl), fun p5 n5 => ?_⟩
      generalize g5 : upd _ p5 _ = H6; obtain ⟨e5, o5, t5⟩ := made n5 g5; clear g5
      have s5 := sameOf n5 o5
      refine ⟨(szr rfl), fun p6 n6 => ?_⟩
      generalize g6 : upd _ p6 _ = H7; obtain ⟨e6, o6, t6⟩ := made n6 g6; clear g6
      have s6 := sameOf n6 o6
      refine ⟨(szr rfl), fun p7 n7 => ?_⟩
      generalize g7 : upd _ p7 _ = H8; obtain ⟨e7, o7, t7⟩ := made n7 g7; clear g7
      have s7 := sameOf n7 o7
      have X : DxAll H8 [V.ref p1, .ref p2, .ref p3, .ref p4, .ref p5, .ref p6] someD := by walk_at "dx"
      refine ⟨_, rfl, _, rfl, ⟨_, SqL.of t7⟩, fun D hD => ?_⟩
      refine lc_list (K := K) (xs := [V.ref p1, .ref p2, .ref p3, .ref p4, .ref p5, .ref p6]) (fun i H' => Same H8 H' ∧ H' D = some (.lst ((someD.take i).map fun d => V.bl (isNodeD d)))) ⟨sameOf hD (fun b hb => upd_ne hb), upd_same⟩ (fun i H' _ h => SqL.of (h.1 _ _ t7)) ?_ ?_
      · rintro i y H' hi ⟨sm, hl⟩
        obtain ⟨d, hd, xd⟩ := X.get hi
        have ok := tabO d (List.mem_of_getElem? hd)
        have hi2 : i < 6 := (List.getElem?_eq_some_iff.mp hi).1
        refine ⟨rfl, ?_⟩
        refine ⟨_, rfl, y, d, rfl, xd.same sm, ok, fun H9 s9 => ?_⟩
        refine ⟨_, s9 _ _ hl, szlt (by rw [List.length_map, List.length_take]; omega), fun b o e => ?_, ?_⟩
        · rw [upd_ne (ne_of_none e hD)]
          exact s9 _ _ (sm _ _ e)
        · rw [upd_same, List.take_add_one, List.map_append, hd]
          rfl
      · rintro H9 ⟨sm, hl⟩
        refine ⟨(szr rfl), fun p8 n8 => ?_⟩
        generalize g8 : upd _ p8 _ = H10; obtain ⟨e8, o8, t8⟩ := made n8 g8; clear g8
        have hl' := keepAt hl n8 o8
        refine ⟨_, _, .lst (SqL.of hl') (.cons (.bl _) (.cons (.bl _) (.cons (.bl _) (.cons (.bl _) (.cons (.bl _) (.cons (.bl _) .nil)))))), .lst (SqL.of t8) (.cons (.bl _) (.cons (.bl _) (.cons (.bl _) (.cons (.bl _) (.cons (.bl _) (.cons (.bl _) .nil)))))), by decide +kernel, by decide +kernel, ?_⟩
        rw [show PyData.eqv (.list [.bool (isNodeD (.tuple [.str "f", .int 3])), .bool (isNodeD (.tuple [.str "_", .int 0])), .bool (isNodeD (.tuple [.str "#", .int 1])), .bool (isNodeD (.tuple [.str "f", .int 4])), .bool (isNodeD (.tuple [.str "#", .int 0])), .bool (isNodeD (.tuple [.str "a", .int 0]))]) (.list [.bool true, .bool true, .bool false, .bool false, .bool true, .bool true]) = true by decide +kernel]
        exact q H10
end
theorem all_mk {l : PySem.W.OpenLaw} {w : World} {K : PySem.W.Frag} {h : Heap} {mg : Str → Option Value} {fa f_is_integer f_is_word f_is_arity f_is_leaf f_is_node f__law_dice f__law_roll f__law_pick f__law_is_leaf f__law_right f_law : Addr} (X : K.In h) (G : h.Ns mainGlobals mg) (hfa : mg "law" = some (.ref fa))
    {od0 an0 od1 an1 od2 an2 od3 an3 od4 an4 od5 an5 od6 an6 od7 an7 od8 an8 od9 an9 od10 an10 : Option Addr} {sl0 sl1 sl2 sl3 sl4 sl5 sl6 sl7 sl8 sl9 sl10 : Array (Option Value)} {oc0 kV0 dc0 pm0 cd0 ct0 oc1 kV1 dc1 pm1 cd1 ct1 oc2 kV2 dc2 pm2 cd2 ct2 oc3 kV3 dc3 pm3 cd3 ct3 oc4 kV4 dc4 pm4 cd4 ct4 oc5 kV5 dc5 pm5 cd5 ct5 oc6 kV6 dc6 pm6 cd6 ct6 oc7 kV7 dc7 pm7 cd7 ct7 oc8 kV8 dc8 pm8 cd8 ct8 oc9 kV9 dc9 pm9 cd9 ct9 oc10 kV10 dc10 pm10 cd10 ct10 : Value}
    (a0 : PySem.W.nsIn K mainGlobals "is_integer" = some (some (.ref f_is_integer))) (l0 : K.lookup f_is_integer = some ⟨oc0, od0, .func (PySem.W.fnOf "is_integer" "is_integer" (defArgs s_is_integer) (defBody s_is_integer) (defScope s_is_integer) .none kV0 dc0 pm0 an0 cd0 ct0), sl0⟩) (c0 : PySem.W.codeIn K cd0 "is_integer" = true) (k0 : PySem.W.keepIn K (.ref f_is_integer) = true)
    (a1 : PySem.W.nsIn K mainGlobals "is_word" = some (some (.ref f_is_word))) (l1 : K.lookup f_is_word = some ⟨oc1, od1, .func (PySem.W.fnOf "is_word" "is_word" (defArgs s_is_word) (defBody s_is_word) (defScope s_is_word) .none kV1 dc1 pm1 an1 cd1 ct1), sl1⟩) (c1 : PySem.W.codeIn K cd1 "is_word" = true) (k1 : PySem.W.keepIn K (.ref f_is_word) = true)
    (a2 : PySem.W.nsIn K mainGlobals "is_arity" = some (some (.ref f_is_arity))) (l2 : K.lookup f_is_arity = some ⟨oc2, od2, .func (PySem.W.fnOf "is_arity" "is_arity" (defArgs s_is_arity) (defBody s_is_arity) (defScope s_is_arity) .none kV2 dc2 pm2 an2 cd2 ct2), sl2⟩) (c2 : PySem.W.codeIn K cd2 "is_arity" = true) (k2 : PySem.W.keepIn K (.ref f_is_arity) = true)
    (a3 : PySem.W.nsIn K mainGlobals "is_leaf" = some (some (.ref f_is_leaf))) (l3 : K.lookup f_is_leaf = some ⟨oc3, od3, .func (PySem.W.fnOf "is_leaf" "is_leaf" (defArgs s_is_leaf) (defBody s_is_leaf) (defScope s_is_leaf) .none kV3 dc3 pm3 an3 cd3 ct3), sl3⟩) (c3 : PySem.W.codeIn K cd3 "is_leaf" = true) (k3 : PySem.W.keepIn K (.ref f_is_leaf) = true)
    (a4 : PySem.W.nsIn K mainGlobals "is_node" = some (some (.ref f_is_node))) (l4 : K.lookup f_is_node = some ⟨oc4, od4, .func (PySem.W.fnOf "is_node" "is_node" (defArgs s_is_node) (defBody s_is_node) (defScope s_is_node) .none kV4 dc4 pm4 an4 cd4 ct4), sl4⟩) (c4 : PySem.W.codeIn K cd4 "is_node" = true) (k4 : PySem.W.keepIn K (.ref f_is_node) = true)
    (a5 : PySem.W.nsIn K mainGlobals "_law_dice" = some (some (.ref f__law_dice))) (l5 : K.lookup f__law_dice = some ⟨oc5, od5, .func (PySem.W.fnOf "_law_dice" "_law_dice" (defArgs s__law_dice) (defBody s__law_dice) (defScope s__law_dice) .none kV5 dc5 pm5 an5 cd5 ct5), sl5⟩) (c5 : PySem.W.codeIn K cd5 "_law_dice" = true) (k5 : PySem.W.keepIn K (.ref f__law_dice) = true)
    (a6 : PySem.W.nsIn K mainGlobals "_law_roll" = some (some (.ref f__law_roll))) (l6 : K.lookup f__law_roll = some ⟨oc6, od6, .func (PySem.W.fnOf "_law_roll" "_law_roll" (defArgs s__law_roll) (defBody s__law_roll) (defScope s__law_roll) .none kV6 dc6 pm6 an6 cd6 ct6), sl6⟩) (c6 : PySem.W.codeIn K cd6 "_law_roll" = true) (k6 : PySem.W.keepIn K (.ref f__law_roll) = true)
    (a7 : PySem.W.nsIn K mainGlobals "_law_pick" = some (some (.ref f__law_pick))) (l7 : K.lookup f__law_pick = some ⟨oc7, od7, .func (PySem.W.fnOf "_law_pick" "_law_pick" (defArgs s__law_pick) (defBody s__law_pick) (defScope s__law_pick) .none kV7 dc7 pm7 an7 cd7 ct7), sl7⟩) (c7 : PySem.W.codeIn K cd7 "_law_pick" = true) (k7 : PySem.W.keepIn K (.ref f__law_pick) = true)
    (a8 : PySem.W.nsIn K mainGlobals "_law_is_leaf" = some (some (.ref f__law_is_leaf))) (l8 : K.lookup f__law_is_leaf = some ⟨oc8, od8, .func (PySem.W.fnOf "_law_is_leaf" "_law_is_leaf" (defArgs s__law_is_leaf) (defBody s__law_is_leaf) (defScope s__law_is_leaf) .none kV8 dc8 pm8 an8 cd8 ct8), sl8⟩) (c8 : PySem.W.codeIn K cd8 "_law_is_leaf" = true) (k8 : PySem.W.keepIn K (.ref f__law_is_leaf) = true)
    (a9 : PySem.W.nsIn K mainGlobals "_law_right" = some (some (.ref f__law_right))) (l9 : K.lookup f__law_right = some ⟨oc9, od9, .func (PySem.W.fnOf "_law_right" "_law_right" (defArgs s__law_right) (defBody s__law_right) (defScope s__law_right) .none kV9 dc9 pm9 an9 cd9 ct9), sl9⟩) (c9 : PySem.W.codeIn K cd9 "_law_right" = true) (k9 : PySem.W.keepIn K (.ref f__law_right) = true)
    (a10 : PySem.W.nsIn K mainGlobals "law" = some (some (.ref f_law))) (l10 : K.lookup f_law = some ⟨oc10, od10, .func (PySem.W.fnOf "law" "law" (defArgs s_law) (defBody s_law) (defScope s_law) .none kV10 dc10 pm10 an10 cd10 ct10), sl10⟩) (c10 : PySem.W.codeIn K cd10 "law" = true) (k10 : PySem.W.keepIn K (.ref f_law) = true)
    {t_MAX_LETTERS t_MAX_ARITY t_ANY t_LOST : Tok}
    (z0 : PySem.W.nsIn K mainGlobals "len" = some none)
    (z1 : PySem.W.nsIn K mainGlobals "int" = some none)
    (z2 : PySem.W.nsIn K mainGlobals "abs" = some none)
    (z3 : PySem.W.nsIn K mainGlobals "max" = some none)
    (z4 : PySem.W.nsIn K mainGlobals "min" = some none)
    (z5 : PySem.W.nsIn K mainGlobals "isinstance" = some none)
    (z6 : PySem.W.nsIn K mainGlobals "bool" = some none)
    (z7 : PySem.W.nsIn K mainGlobals "repr" = some none)
    (z8 : PySem.W.nsIn K mainGlobals "range" = some none)
    (z9 : PySem.W.nsIn K mainGlobals "all" = some none)
    (z10 : PySem.W.nsIn K mainGlobals "str" = some none)
    (z11 : PySem.W.nsIn K mainGlobals "tuple" = some none)
    (z12 : PySem.W.nsIn K mainGlobals "MAX_LETTERS" = some (some (.int 8 t_MAX_LETTERS)))
    (z13 : PySem.W.nsIn K mainGlobals "MAX_ARITY" = some (some (.int 3 t_MAX_ARITY)))
    (z14 : PySem.W.nsIn K mainGlobals "ANY" = some (some (.str "_" t_ANY)))
    (z15 : PySem.W.nsIn K mainGlobals "LOST" = some (some (.str "#" t_LOST)))
    : ∃ fd : FuncData, (∀ (s : Shared) (v : Value), BindsTo s fd ⟨[v], []⟩ [("_law_script", v)]) ∧ ∀ base : Heap, K.In base → base.Ns mainGlobals mg → FnOk l.prog w K mg base CX0 5 fa fd ["_law_script"] (spLaw K) := by
  have e := hfa.symm.trans (PySem.W.mg_of X G a10)
  cases e
  have T : Txt mg := ⟨PySem.W.mg_none_of X G z0, PySem.W.mg_none_of X G z1, PySem.W.mg_none_of X G z2, PySem.W.mg_none_of X G z3, PySem.W.mg_none_of X G z4, PySem.W.mg_none_of X G z5, PySem.W.mg_none_of X G z6, PySem.W.mg_none_of X G z7, PySem.W.mg_none_of X G z8, PySem.W.mg_none_of X G z9, PySem.W.mg_none_of X G z10, PySem.W.mg_none_of X G z11, ⟨_, PySem.W.mg_of X G z12⟩, ⟨_, PySem.W.mg_of X G z13⟩, ⟨_, PySem.W.mg_of X G z14⟩, ⟨_, PySem.W.mg_of X G z15⟩⟩
  have F_is_integer := fun_mk (st := s_is_integer) l0 c0 k0
  have C_is_integer : Cal K mg "is_integer" f_is_integer _ P_is_integer := ⟨PySem.W.mg_of X G a0, k0, F_is_integer.binds fun _ _ _ _ _ _ us hl => match us, hl with | [_], _ => rfl⟩
  have F_is_word := fun_mk (st := s_is_word) l1 c1 k1
  have C_is_word : Cal K mg "is_word" f_is_word _ P_is_word := ⟨PySem.W.mg_of X G a1, k1, F_is_word.binds fun _ _ _ _ _ _ us hl => match us, hl with | [_], _ => rfl⟩
  have F_is_arity := fun_mk (st := s_is_arity) l2 c2 k2
  have C_is_arity : Cal K mg "is_arity" f_is_arity _ P_is_arity := ⟨PySem.W.mg_of X G a2, k2, F_is_arity.binds fun _ _ _ _ _ _ us hl => match us, hl with | [_], _ => rfl⟩
  have F_is_leaf := fun_mk (st := s_is_leaf) l3 c3 k3
  have C_is_leaf : Cal K mg "is_leaf" f_is_leaf _ P_is_leaf := ⟨PySem.W.mg_of X G a3, k3, F_is_leaf.binds fun _ _ _ _ _ _ us hl => match us, hl with | [_], _ => rfl⟩
  have F_is_node := fun_mk (st := s_is_node) l4 c4 k4
  have C_is_node : Cal K mg "is_node" f_is_node _ P_is_node := ⟨PySem.W.mg_of X G a4, k4, F_is_node.binds fun _ _ _ _ _ _ us hl => match us, hl with | [_], _ => rfl⟩
  have F__law_dice := fun_mk (st := s__law_dice) l5 c5 k5
  have C__law_dice : Cal K mg "_law_dice" f__law_dice _ P__law_dice := ⟨PySem.W.mg_of X G a5, k5, F__law_dice.binds fun _ _ _ _ _ _ us hl => match us, hl with | [_, _], _ => rfl⟩
  have F__law_roll := fun_mk (st := s__law_roll) l6 c6 k6
  have C__law_roll : Cal K mg "_law_roll" f__law_roll _ P__law_roll := ⟨PySem.W.mg_of X G a6, k6, F__law_roll.binds fun _ _ _ _ _ _ us hl => match us, hl with | [_, _], _ => rfl⟩
  have F__law_pick := fun_mk (st := s__law_pick) l7 c7 k7
  have C__law_pick : Cal K mg "_law_pick" f__law_pick _ P__law_pick := ⟨PySem.W.mg_of X G a7, k7, F__law_pick.binds fun _ _ _ _ _ _ us hl => match us, hl with | [_, _], _ => rfl⟩
  have F__law_is_leaf := fun_mk (st := s__law_is_leaf) l8 c8 k8
  have C__law_is_leaf : Cal K mg "_law_is_leaf" f__law_is_leaf _ P__law_is_leaf := ⟨PySem.W.mg_of X G a8, k8, F__law_is_leaf.binds fun _ _ _ _ _ _ us hl => match us, hl with | [_, _], _ => rfl⟩
  have F__law_right := fun_mk (st := s__law_right) l9 c9 k9
  have C__law_right : Cal K mg "_law_right" f__law_right _ P__law_right := ⟨PySem.W.mg_of X G a9, k9, F__law_right.binds fun _ _ _ _ _ _ us hl => match us, hl with | [_], _ => rfl⟩
  have F_law := fun_mk (st := s_law) l10 c10 k10
  refine ⟨PySem.W.fnOf "law" "law" (defArgs s_law) (defBody s_law) (defScope s_law) .none kV10 dc10 pm10 an10 cd10 ct10, fun s v => .of_eq rfl, fun base _ _ => ?_⟩
  have GD := ok__law_dice (P := l.prog) (w := w) (base := base) F__law_dice T
  have GR := ok__law_roll (P := l.prog) (w := w) (base := base) F__law_roll T
  have GP := ok__law_pick (P := l.prog) (w := w) (base := base) F__law_pick T GR C__law_roll
  have GI := ok_is_integer (P := l.prog) (w := w) (base := base) F_is_integer T
  have GW := ok_is_word (P := l.prog) (w := w) (base := base) F_is_word T
  have GA := ok_is_arity (P := l.prog) (w := w) (base := base) F_is_arity T GI C_is_integer
  have GL := ok_is_leaf (P := l.prog) (w := w) (base := base) F_is_leaf T
  have GN := ok_is_node (P := l.prog) (w := w) (base := base) F_is_node T GW C_is_word GA C_is_arity GL C_is_leaf
  have GJ := ok__law_is_leaf (P := l.prog) (w := w) (base := base) F__law_is_leaf T
  have GG := ok__law_right (P := l.prog) (w := w) (base := base) F__law_right T GP C__law_pick GN C_is_node GJ C__law_is_leaf
  exact ok_law F_law T GD C__law_dice GG C__law_right GN C_is_node
theorem walk {l : PySem.W.OpenLaw} {q : Program} {loose : List Str} {XP : (Str → Option Value) → Heap → Prop} {YP : World → Heap → Prop} {d : DefRec} {K : Params → PySem.W.Frag} (hn : l.most = some 63) (hdf : d.params.defaults = [])
    (hY : ∀ (w : World) (h : Heap), YP w h → (K w.params).In h)
    (F : ∀ (w : World) (mg : Str → Option Value) (fa : Addr) (h : Heap), (K w.params).In h → h.Ns mainGlobals mg → mg d.name = some (.ref fa) →
      ∃ fd : FuncData, (∀ (s : Shared) (u : Value), BindsTo s fd ⟨[u], []⟩ [("_law_script", u)]) ∧ ∀ base : Heap, (K w.params).In base → base.Ns mainGlobals mg → FnOk l.prog w (K w.params) mg base CX0 5 fa fd ["_law_script"] (spLaw (K w.params))) :
    PySem.W.WalkO q loose XP YP l.row.toRowW d [] (fun f vs => PySem.call f vs) :=
  L2.walk_of (n := 63) (k := 5) (x := "_law_script") (CX := fun _ => CX0) (sp := fun w => spLaw (K w.params)) hn (by decide) hdf ⟨rfl, by decide, by decide⟩ hY F (fun _ _ a ns hl hO hS => ⟨a, ns, rfl, scr_of hO hS, hl, fun _ => rfl⟩) fun _ _ _ _ _ z => z
end K03
open PySem PySem.W PyProof.Rows
set_option maxRecDepth 100000 in
set_option maxHeartbeats 0 in
theorem PySem.Challenge.cw_firstneed_k03_nodes_judged_holds : PySem.Challenge.rw_firstneed_k03_nodes_judged.Holds := by
  w_on; o_law; k_head; (case hw => w_witness2)
  k_fill
  refine K03.walk (l := PySem.Challenge.rw_firstneed_k03_nodes_judged) rfl rfl (fun w h Y => PySem.W.kIn_of Y) ?F
  case F =>
    intro w mg fa h KX G hmg
    refine' K03.all_mk KX G hmg ?a0 ?l0 ?c0 ?k0 ?a1 ?l1 ?c1 ?k1 ?a2 ?l2 ?c2 ?k2 ?a3 ?l3 ?c3 ?k3 ?a4 ?l4 ?c4 ?k4 ?a5 ?l5 ?c5 ?k5 ?a6 ?l6 ?c6 ?k6 ?a7 ?l7 ?c7 ?k7 ?a8 ?l8 ?c8 ?k8 ?a9 ?l9 ?c9 ?k9 ?a10 ?l10 ?c10 ?k10 ?z0 ?z1 ?z2 ?z3 ?z4 ?z5 ?z6 ?z7 ?z8 ?z9 ?z10 ?z11 ?z12 ?z13 ?z14 ?z15
    (case a0 => k_is)
    (case l0 => k_is)
    (case c0 => k_is)
    (case k0 => k_is)
    (case a1 => k_is)
    (case l1 => k_is)
    (case c1 => k_is)
    (case k1 => k_is)
    (case a2 => k_is)
    (case l2 => k_is)
    (case c2 => k_is)
    (case k2 => k_is)
    (case a3 => k_is)
    (case l3 => k_is)
    (case c3 => k_is)
    (case k3 => k_is)
    (case a4 => k_is)
    (case l4 => k_is)
    (case c4 => k_is)
    (case k4 => k_is)
    (case a5 => k_is)
    (case l5 => k_is)
    (case c5 => k_is)
    (case k5 => k_is)
    (case a6 => k_is)
    (case l6 => k_is)
    (case c6 => k_is)
    (case k6 => k_is)
    (case a7 => k_is)
    (case l7 => k_is)
    (case c7 => k_is)
    (case k7 => k_is)
    (case a8 => k_is)
    (case l8 => k_is)
    (case c8 => k_is)
    (case k8 => k_is)
    (case a9 => k_is)
    (case l9 => k_is)
    (case c9 => k_is)
    (case k9 => k_is)
    (case a10 => k_is)
    (case l10 => k_is)
    (case c10 => k_is)
    (case k10 => k_is)
    (case z0 => k_is)
    (case z1 => k_is)
    (case z2 => k_is)
    (case z3 => k_is)
    (case z4 => k_is)
    (case z5 => k_is)
    (case z6 => k_is)
    (case z7 => k_is)
    (case z8 => k_is)
    (case z9 => k_is)
    (case z10 => k_is)
    (case z11 => k_is)
    (case z12 => k_is)
    (case z13 => k_is)
    (case z14 => k_is)
    (case z15 => k_is)
