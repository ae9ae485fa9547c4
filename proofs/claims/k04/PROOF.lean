import PyProof.Rows.All
import Wide.All
import OpenK.AllK
import Wide.FinOn
import HandS.ForMost
import HandS.IsInst
import HandS.Deep
import HandS.Walk
import KE.KDictWalk
import KE.KDictCopyH
import KE.KeyNested
import HandS.Small
import HandS.Style
import PySem.Challenge.RW_firstneed_k04_symbols_judged
set_option Elab.async false
set_option maxRecDepth 100000
/-! Rules and promises that all laws share: powers of great numbers, repr of a truth value, the dice. -/
namespace Fn
open PySem PySem.Spec PyProof.Rows L2
section
variable {X : Cx}
def CPowW (i j : Int) : Prop := 0 ≤ j ∧ (Builtin.Int.intBits i : Int) * j ≤ 2 ^ 27
theorem op_powW : OpR X (binaryOp .Pow) (rI CPowW fun i j => .int (i ^ j.toNat)) := opI fun _ _ _ _ _ _ _ hc q => pow_int hc.1 hc.2 q
theorem call_repr_b : CallR X (.builtin "repr") (fun xs H Q => ∃ b, xs = [.bl b] ∧ Q (.str (if b then "True" else "False")) H) := by
  intro pins s σ H xs us Q I r h
  obtain ⟨b, rfl, q⟩ := h
  obtain ⟨u, rfl, r1⟩ := vals1 r
  cases r1
  exact PySem.P.repr_of_bool ⟨.str _, H, I.tok _, ⟨_, rfl⟩, q⟩
end
theorem powOk {i j : Int} (h : (decide (0 ≤ j) && decide ((Builtin.Int.intBits i : Int) * j ≤ 2 ^ 27)) = true) : CPowW i j := by
  rw [Bool.and_eq_true] at h
  exact ⟨of_decide_eq_true h.1, of_decide_eq_true h.2⟩
theorem modc {j : Int} (h : 0 < j) : 0 < j := h
theorem szr {α : Type} {xs : List α} (h : Nat.ble xs.length 100000 = true) : xs.length ≤ sizeLine := Nat.le_trans (Nat.le_of_ble_eq_true h) (by decide)
theorem szl {α : Type} {xs : List α} (h : xs.length ≤ 100000) : xs.length ≤ sizeLine := Nat.le_trans h (by decide)
theorem szlt {n : Nat} (h : n ≤ 100000) : n < sizeLine := Nat.lt_of_le_of_lt h (by decide)
theorem script_at {ns : List Int} {k : Int} (h0 : 0 ≤ k) (h : k < (ns.length : Int)) : ∃ c : Int, atI (ns.map V.int) k = some (.int c) := by
  have hlt : k.toNat < ns.length := by omega
  have ek : ((k.toNat : Nat) : Int) = k := by omega
  have g : atI (ns.map V.int) ((k.toNat : Nat) : Int) = some (.int ns[k.toNat]) := atI_nat (by rw [List.getElem?_map, List.getElem?_eq_getElem hlt] <;> rfl)
  rw [ek] at g
  exact ⟨_, g⟩
/-! ### places in the text: the scope of a comprehension -/
def kidsE : Expr → List Expr
  | .BoolOp _ vs _ => vs
  | .BinOp a _ b _ => [a, b]
  | .UnaryOp _ a _ => [a]
  | .IfExp t a b _ => [t, a, b]
  | .ListComp e gs _ _ => e :: gs.flatMap fun c => c.iter :: c.ifs
  | .Compare l _ cs _ => l :: cs
  | .Call f xs _ _ => f :: xs
  | .Attribute v _ _ => [v]
  | .Subscript a b _ => [a, b]
  | .List es _ => es
  | .Tuple es _ _ => es
  | _ => []
def goE (e : Expr) (path : List Nat) : Expr := path.foldl (fun e i => (kidsE e).getD i e) e
def stE : Stmt → Expr
  | .Return (some e) _ => e
  | .Assign _ e _ => e
  | .AugAssign _ _ e _ => e
  | .For _ e _ _ _ => e
  | .While e _ _ _ => e
  | .If e _ _ _ => e
  | .Expr e _ => e
  | _ => .Name "" ⟨0, 0, 0, 0⟩
def stB : Stmt → List Stmt
  | .For _ _ a b _ => a ++ b
  | .While _ a b _ => a ++ b
  | .If _ a b _ => a ++ b
  | _ => []
def goS (body : List Stmt) (path : List Nat) : Stmt := match path with
  | [] => .Pass ⟨0, 0, 0, 0⟩
  | i :: r => r.foldl (fun s j => (stB s).getD j s) (body.getD i (.Pass ⟨0, 0, 0, 0⟩))
def lcSc : Expr → Scope
  | .ListComp _ _ sc _ => sc
  | _ => { kind := .function, names := [], isGenerator := false, isCoroutine := false }
theorem mulL {i j : Int} (h : -(2 ^ 64) < i ∧ i < 2 ^ 64) : CMul i j := Or.inl h
theorem mulR {i j : Int} (h : -(2 ^ 64) < j ∧ j < 2 ^ 64) : CMul i j := Or.inr h
/-- a def as a callee: its name, its object, how its arguments bind -/
structure Cal (K : PySem.W.Frag) (mg : Str → Option Value) (x : Str) (f : Addr) (fd : FuncData) (ps : List Str) : Prop where
  m : mg x = some (.ref f)
  k : PySem.W.keepIn K (.ref f) = true
  b : Binds K fd ps []
/-- three ints: the dice -/
def dl (x y z : Int) : HO := .lst [.int x, .int y, .int z]
theorem sq_upd {K : PySem.W.Frag} {H : Hp} {p a : Addr} {o : HO} {xs : List V} (h : a ≠ p) (hs : H a = some (.lst xs)) : SqL K (upd H p o) a xs := SqL.of (by rw [upd_ne h]; exact hs)

/-! ### what stays: all but the contents of lists -/
def Ev2 (H H' : Hp) : Prop := ∀ (a : Addr) (o : HO), H a = some o → (∃ xs ys, o = .lst xs ∧ H' a = some (.lst ys)) ∨ H' a = some o
theorem Ev2.refl (H : Hp) : Ev2 H H := fun _ _ h => .inr h
theorem Ev2.trans {H H1 H2 : Hp} (a : Ev2 H H1) (b : Ev2 H1 H2) : Ev2 H H2 := fun x o h => by
  rcases a x o h with ⟨xs, ys, rfl, h1⟩ | h1
  · rcases b x _ h1 with ⟨_, zs, _, h2⟩ | h2
    · exact .inl ⟨_, zs, rfl, h2⟩
    · exact .inl ⟨_, ys, rfl, h2⟩
  · exact b x o h1
theorem Ev2.new {H : Hp} {p : Addr} {o : HO} (h : H p = none) : Ev2 H (upd H p o) := fun a u e => .inr (by
  rw [upd_ne (ne_of_none e h)]
  exact e)
theorem Ev2.lst {H : Hp} {p : Addr} {xs ys : List V} (h : H p = some (.lst xs)) : Ev2 H (upd H p (.lst ys)) := fun a u e => by
  by_cases q : a = p
  · subst q
    rw [h] at e
    exact .inl ⟨xs, ys, (Option.some.inj e).symm, upd_same⟩
  · exact .inr (by rw [upd_ne q]; exact e)
theorem Ev2.tup {H H' : Hp} {a : Addr} {xs : List V} (h : H a = some (.tup xs)) (e : Ev2 H H') : H' a = some (.tup xs) := by
  rcases e a _ h with ⟨_, _, q, _⟩ | q
  · cases q
  · exact q
theorem Ev2.frz {H H' : Hp} {a : Addr} {o : Obj} {u : HO} (h : H a = some (.frz o u)) (e : Ev2 H H') : H' a = some (.frz o u) := by
  rcases e a _ h with ⟨_, _, q, _⟩ | q
  · cases q
  · exact q
theorem Ev2.dK {H H' : Hp} {a : Addr} {kvs : List (Key × V)} (h : H a = some (.dK kvs)) (e : Ev2 H H') : H' a = some (.dK kvs) := by
  rcases e a _ h with ⟨_, _, q, _⟩ | q
  · cases q
  · exact q
theorem Ev2.isL {H H' : Hp} {a : Addr} {xs : List V} (h : H a = some (.lst xs)) (e : Ev2 H H') : ∃ ys, H' a = some (.lst ys) := by
  rcases e a _ h with ⟨_, ys, _, q⟩ | q
  · exact ⟨ys, q⟩
  · exact ⟨xs, q⟩
theorem Ev2.some {H H' : Hp} {a : Addr} {o : HO} (h : H a = some o) (e : Ev2 H H') : ∃ u, H' a = some u := by
  rcases e a _ h with ⟨_, ys, _, q⟩ | q
  · exact ⟨_, q⟩
  · exact ⟨_, q⟩
theorem Ev2.fresh {H H' : Hp} {a : Addr} (e : Ev2 H H') (h : H' a = none) : H a = none := by
  cases q : H a with
  | none => rfl
  | some o =>
    obtain ⟨u, z⟩ := Ev2.some q e
    rw [z] at h
    cases h
theorem ne_new {H H' : Hp} {a p : Addr} {o : HO} (h : H a = some o) (e : Ev2 H H') (hp : H' p = none) : a ≠ p := ne_of_none h (e.fresh hp)
/-- a new object: the heap behind is named -/
theorem made {H H1 : Hp} {p : Addr} {o : HO} (n : H p = none) (g : upd H p o = H1) : Ev2 H H1 ∧ (∀ b, b ≠ p → H1 b = H b) ∧ H1 p = some o := by
  subst g
  exact ⟨Ev2.new n, fun _ hb => upd_ne hb, upd_same⟩
/-- the script, in a heap that knows nothing else -/
def Scr (K : PySem.W.Frag) (H : Hp) (a : Addr) (xs : List V) : Prop := SqL K H a xs ∧ ∀ H', Ev2 H H' → SqL K H' a xs
theorem scr_of {K : PySem.W.Frag} {H : Hp} {a : Addr} {xs : List V} (hO : Only H) (h : SqL K H a xs) : Scr K H a xs := by
  refine ⟨h, fun H' e => ?_⟩
  rcases h with (h | ⟨o, h⟩) | h
  · rcases hO a with q | ⟨o, ys, q⟩
    · rw [q] at h
      cases h
    · rw [q] at h
      cases h
  · exact .inl (.inr ⟨o, Ev2.frz h e⟩)
  · exact .inr h
theorem Scr.mono {K : PySem.W.Frag} {H H' : Hp} {a : Addr} {xs : List V} (h : Scr K H a xs) (e : Ev2 H H') : Scr K H' a xs := ⟨h.2 _ e, fun _ e2 => h.2 _ (e.trans e2)⟩
/-- kinds of values that are looked at by isinstance -/
def Ty (K : PySem.W.Frag) (H : Hp) (v : V) (n : String) : Prop := match v with
  | .non => n = "NoneType" | .bl _ => n = "bool" | .int _ => n = "int" | .str _ => n = "str"
  | .ref a => (n = "list" ∧ ∃ xs, H a = some (.lst xs)) ∨ (n = "tuple" ∧ ∃ xs, H a = some (.tup xs)) ∨ (n = "dict" ∧ ∃ kvs, H a = some (.dK kvs))
  | _ => False
theorem Ty.x {K : PySem.W.Frag} {H : Hp} {v : V} {n : String} (h : Ty K H v n) : TyX K H v (.type n) := by
  cases v with
  | non => cases (show n = "NoneType" from h); exact .base .non
  | bl b => cases (show n = "bool" from h); exact .base (.bl b)
  | int i => cases (show n = "int" from h); exact .base (.int i)
  | str x => cases (show n = "str" from h); exact .base (.str x)
  | byt b => exact h.elim
  | flt b => exact h.elim
  | ty b => exact h.elim
  | ref a =>
    rcases h with ⟨rfl, xs, e⟩ | ⟨rfl, xs, e⟩ | ⟨rfl, xs, e⟩
    · exact .base (.lst e)
    · exact .base (.tup e)
    · exact .base (.dK e)
theorem Ty.mono {K : PySem.W.Frag} {H H' : Hp} {v : V} {n : String} (h : Ty K H v n) (e : Ev2 H H') : Ty K H' v n := by
  cases v with
  | ref a =>
    rcases h with ⟨rfl, xs, q⟩ | ⟨rfl, xs, q⟩ | ⟨rfl, xs, q⟩
    · exact .inl ⟨rfl, Ev2.isL q e⟩
    · exact .inr (.inl ⟨rfl, xs, Ev2.tup q e⟩)
    · exact .inr (.inr ⟨rfl, xs, Ev2.dK q e⟩)
  | non => exact h
  | bl b => exact h
  | int i => exact h
  | str x => exact h
  | byt b => exact h
  | flt b => exact h
  | ty b => exact h
/-- the dice stand at p -/
def Dc (H : Hp) (p : Addr) : Prop := ∃ x y z : Int, H p = some (dl x y z)
/-- only what stands at p is another -/
def Only1 (H H' : Hp) (p : Addr) : Prop := ∀ b, b ≠ p → H' b = H b
theorem keepAt {H H1 : Hp} {a p : Addr} {o : HO} (t : H a = some o) (n : H p = none) (k : ∀ b, b ≠ p → H1 b = H b) : H1 a = some o := (k a (ne_of_none t n)).trans t
theorem sameOf {H H1 : Hp} {p : Addr} (n : H p = none) (k : ∀ b, b ≠ p → H1 b = H b) : Same H H1 := fun _ _ e => keepAt e n k
theorem Ev2.same {H H1 : Hp} (s : Same H H1) : Ev2 H H1 := fun a o e => .inr (s a o e)
theorem Dc.keep {H H1 : Hp} {a p : Addr} (t : Dc H a) (n : H p = none) (k : ∀ b, b ≠ p → H1 b = H b) : Dc H1 a := by
  obtain ⟨x, y, z, t⟩ := t
  exact ⟨x, y, z, keepAt t n k⟩
theorem Dc.ne {H : Hp} {a p : Addr} (t : Dc H a) (n : H p = none) : a ≠ p := by
  obtain ⟨x, y, z, t⟩ := t
  exact ne_of_none t n
/-- all but what stands at p is the same -/
def But (p : Addr) (H H' : Hp) : Prop := ∀ a o, a ≠ p → H a = some o → H' a = some o
theorem But.refl (p : Addr) (H : Hp) : But p H H := fun _ _ _ h => h
theorem But.trans {p : Addr} {H H1 H2 : Hp} (x : But p H H1) (y : But p H1 H2) : But p H H2 := fun a o n h => y a o n (x a o n h)
theorem But.of1 {p : Addr} {H H' : Hp} (k : Only1 H H' p) : But p H H' := fun a o n h => (k a n).trans h
theorem But.ofS {p : Addr} {H H' : Hp} (k : Same H H') : But p H H' := fun a o _ h => k a o h
theorem But.ev {p : Addr} {H H' : Hp} (k : But p H H') (d : Dc H p) (d' : Dc H' p) : Ev2 H H' := fun a o h => by
  by_cases e : a = p
  · subst e
    obtain ⟨x, y, z, h1⟩ := d
    obtain ⟨x', y', z', h2⟩ := d'
    rw [h1] at h
    exact .inl ⟨_, _, (Option.some.inj h).symm, h2⟩
  · exact .inr (k a o e h)
theorem But.at {p : Addr} {H H' : Hp} {a : Addr} {o : HO} (h : H a = some o) (n : a ≠ p) (k : But p H H') : H' a = some o := k a o n h
theorem Dc.same {H H' : Hp} {p : Addr} (d : Dc H p) (s : Same H H') : Dc H' p := by
  obtain ⟨x, y, z, h⟩ := d
  exact ⟨x, y, z, s _ _ h⟩
theorem Dc.neOf {H : Hp} {a p : Addr} {xs : List V} (d : Dc H p) (h : H a = some (.lst xs)) (n : ∀ x y z : Int, xs ≠ [.int x, .int y, .int z]) : a ≠ p := by
  rintro rfl
  obtain ⟨x, y, z, h1⟩ := d
  rw [h1] at h
  exact n x y z (HO.lst.inj (Option.some.inj h)).symm
def spDice (K : PySem.W.Frag) : Sp := fun vs H Q _ => ∃ (a : Addr) (ns : List Int) (k : Int), vs = [.ref a, .int k] ∧ SqL K H a (ns.map V.int) ∧ ns.length ≤ 1000 ∧ 0 ≤ k ∧ k < 1000 ∧
  ∀ (p : Addr) (H' : Hp), H p = none → Ev2 H H' → Only1 H H' p → Dc H' p → Q (.ref p) H'
def spRoll : Sp := fun vs H Q _ => ∃ (p : Addr) (n : Int), vs = [.ref p, .int n] ∧ Dc H p ∧ 0 < n ∧ n < 1000000 ∧
  ∀ (r : Int) (H' : Hp), 0 ≤ r → r < n → Ev2 H H' → Only1 H H' p → Dc H' p → Q (.int r) H'
def spPick (K : PySem.W.Frag) : Sp := fun vs H Q _ => ∃ (p a : Addr) (xs : List V), vs = [.ref p, .ref a] ∧ Dc H p ∧ SqL K H a xs ∧ (∀ H', Ev2 H H' → Only1 H H' p → SqL K H' a xs) ∧ 0 < xs.length ∧ xs.length < 1000000 ∧
  ∀ (i : Nat) (v : V) (H' : Hp), xs[i]? = some v → Ev2 H H' → Only1 H H' p → Dc H' p → Q v H'
theorem perm_erase {α : Type} : ∀ {zs : List α} {i : Nat} (h : i < zs.length), ([zs[i]] ++ zs.eraseIdx i).Perm zs
  | z :: zs, 0, _ => List.Perm.refl _
  | z :: zs, i + 1, h => by
    have h' : i < zs.length := by simpa using h
    have ih := perm_erase h'
    exact (List.Perm.swap z (zs[i]'h') _).trans (List.Perm.cons z ih)
/-- some of a list, taken without putting back -/
def spSome (K : PySem.W.Frag) : Sp := fun vs H Q _ => ∃ (p a : Addr) (xs : List V) (n : Int), vs = [.ref p, .ref a, .int n] ∧ Dc H p ∧ H a = some (.lst xs) ∧ 0 ≤ n ∧ n ≤ 1000 ∧ xs.length ≤ 1000 ∧
  ∀ (l : Addr) (ys zs : List V) (H' : Hp), But p H H' → Dc H' p → H l = none → l ≠ p → H' l = some (.lst ys) → (ys ++ zs).Perm xs → (ys.length : Int) = (if (xs.length : Int) < n then (xs.length : Int) else n) → Q (.ref l) H'
theorem Dc.set {H : Hp} {p : Addr} (h : Dc H p) (x y z : Int) : Ev2 H (upd H p (dl x y z)) ∧ Only1 H (upd H p (dl x y z)) p ∧ Dc (upd H p (dl x y z)) p := by
  obtain ⟨x0, y0, z0, h⟩ := h
  exact ⟨Ev2.lst h, fun _ hb => upd_ne hb, x, y, z, upd_same⟩
/-- the list that is picked from is not the dice -/
theorem pick_l {K : PySem.W.Frag} {H : Hp} {a p : Addr} {xs : List V} (h : H a = some (.lst xs)) (d : a ≠ p) : SqL K H a xs ∧ ∀ H', Ev2 H H' → Only1 H H' p → SqL K H' a xs :=
  ⟨SqL.of h, fun H' _ k => SqL.of ((k a d).trans h)⟩
def spLaw (K : PySem.W.Frag) : Sp := fun vs H Q _ => ∃ (a : Addr) (ns : List Int), vs = [.ref a] ∧ Scr K H a (ns.map V.int) ∧ ns.length ≤ 63 ∧ ∀ H', Q (.bl true) H'
/-- the number of turns of a law: between 1 and 8 -/
theorem turns {n : Nat} : 0 ≤ (if (if (n : Int) < 8 then (n : Int) else 8) > 1 then (if (n : Int) < 8 then (n : Int) else 8) else 1) ∧ (if (if (n : Int) < 8 then (n : Int) else 8) > 1 then (if (n : Int) < 8 then (n : Int) else 8) else 1) ≤ 8 := by
  split <;> split <;> omega
end Fn

set_option Elab.async false
set_option maxRecDepth 100000
/-! Data at an address: values that are told as PyData; what is in a list or tuple of data. -/
namespace Fn
open PySem PySem.Spec PyProof.Rows L2
mutual
inductive Dx (H : Hp) : V → PyData → Prop
  | non : Dx H .non .none
  | bl (b : Bool) : Dx H (.bl b) (.bool b)
  | int (i : Int) : Dx H (.int i) (.int i)
  | str (x : Str) : Dx H (.str x) (.str x)
  | lst {a : Addr} {xs : List V} {ds : List PyData} : H a = some (.lst xs) → DxAll H xs ds → Dx H (.ref a) (.list ds)
  | tup {a : Addr} {xs : List V} {ds : List PyData} : H a = some (.tup xs) → DxAll H xs ds → Dx H (.ref a) (.tuple ds)
  | dct {a : Addr} : H a = some (.dK []) → Dx H (.ref a) (.dict [])
inductive DxAll (H : Hp) : List V → List PyData → Prop
  | nil : DxAll H [] []
  | cons {v : V} {vs : List V} {d : PyData} {ds : List PyData} : Dx H v d → DxAll H vs ds → DxAll H (v :: vs) (d :: ds)
end
theorem DxAll.len {H : Hp} : ∀ {ds : List PyData} {vs : List V}, DxAll H vs ds → vs.length = ds.length
  | [], _, h => by cases h; rfl
  | d :: ds, _, h => by
    cases h with
    | cons h1 h2 =>
      show _ + 1 = _ + 1
      rw [DxAll.len h2]
theorem DxAll.get {H : Hp} : ∀ {ds : List PyData} {vs : List V} {i : Nat} {v : V}, DxAll H vs ds → vs[i]? = some v → ∃ d, ds[i]? = some d ∧ Dx H v d
  | [], _, i, v, h, e => by cases h; simp at e
  | d :: ds, _, 0, v, h, e => by
    cases h with
    | cons h1 h2 =>
      cases (show some _ = some v from e)
      exact ⟨d, rfl, h1⟩
  | d :: ds, _, i + 1, v, h, e => by
    cases h with
    | cons h1 h2 => exact DxAll.get (i := i) h2 (by simpa using e)
mutual
def dictfree : PyData → Bool
  | .list xs => dictfreeAll xs
  | .tuple xs => dictfreeAll xs
  | .dict _ => false
  | _ => true
def dictfreeAll : List PyData → Bool
  | [] => true
  | d :: ds => dictfree d && dictfreeAll ds
end
mutual
def listfree : PyData → Bool
  | .list _ => false
  | .tuple xs => listfreeAll xs
  | _ => true
def listfreeAll : List PyData → Bool
  | [] => true
  | d :: ds => listfree d && listfreeAll ds
end
mutual
theorem Dx.dp {K : PySem.W.Frag} {H : Hp} : ∀ {d : PyData} {v : V}, Dx H v d → dictfree d = true → Dp K H v d
  | .none, _, h, _ => by cases h; exact .non
  | .bool b, _, h, _ => by cases h; exact .bl b
  | .int i, _, h, _ => by cases h; exact .int i
  | .str x, _, h, _ => by cases h; exact .str x
  | .list ds, _, h, f => by
    cases h with
    | lst h1 h2 => exact .lst (SqL.of h1) (DxAll.dp h2 (by simpa only [dictfree] using f))
  | .tuple ds, _, h, f => by
    cases h with
    | tup h1 h2 => exact .tup (SqT.of h1) (DxAll.dp h2 (by simpa only [dictfree] using f))
  | .dict kvs, _, h, f => by
    simp only [dictfree] at f
    cases f
theorem DxAll.dp {K : PySem.W.Frag} {H : Hp} : ∀ {ds : List PyData} {vs : List V}, DxAll H vs ds → dictfreeAll ds = true → DpAll K H vs ds
  | [], _, h, _ => by cases h; exact .nil
  | d :: ds, _, h, f => by
    simp only [dictfreeAll, Bool.and_eq_true] at f
    cases h with
    | cons h1 h2 => exact .cons (Dx.dp h1 f.1) (DxAll.dp h2 f.2)
end
mutual
theorem Dx.mono {H H' : Hp} (e : Ev2 H H') : ∀ {d : PyData} {v : V}, Dx H v d → listfree d = true → Dx H' v d
  | .none, _, h, _ => by cases h; exact .non
  | .bool b, _, h, _ => by cases h; exact .bl b
  | .int i, _, h, _ => by cases h; exact .int i
  | .str x, _, h, _ => by cases h; exact .str x
  | .list ds, _, h, f => by
    simp only [listfree] at f
    cases f
  | .tuple ds, _, h, f => by
    cases h with
    | tup h1 h2 => exact .tup (Ev2.tup h1 e) (DxAll.mono e h2 (by simpa only [listfree] using f))
  | .dict kvs, _, h, f => by
    cases h with
    | dct h1 => exact .dct (Ev2.dK h1 e)
theorem DxAll.mono {H H' : Hp} (e : Ev2 H H') : ∀ {ds : List PyData} {vs : List V}, DxAll H vs ds → listfreeAll ds = true → DxAll H' vs ds
  | [], _, h, _ => by cases h; exact .nil
  | d :: ds, _, h, f => by
    simp only [listfreeAll, Bool.and_eq_true] at f
    cases h with
    | cons h1 h2 => exact .cons (Dx.mono e h1 f.1) (DxAll.mono e h2 f.2)
end
mutual
theorem Dx.same {H H' : Hp} (e : Same H H') : ∀ {d : PyData} {v : V}, Dx H v d → Dx H' v d
  | .none, _, h => by cases h; exact .non
  | .bool b, _, h => by cases h; exact .bl b
  | .int i, _, h => by cases h; exact .int i
  | .str x, _, h => by cases h; exact .str x
  | .list ds, _, h => by
    cases h with
    | lst h1 h2 => exact .lst (e _ _ h1) (DxAll.same e h2)
  | .tuple ds, _, h => by
    cases h with
    | tup h1 h2 => exact .tup (e _ _ h1) (DxAll.same e h2)
  | .dict kvs, _, h => by
    cases h with
    | dct h1 => exact .dct (e _ _ h1)
theorem DxAll.same {H H' : Hp} (e : Same H H') : ∀ {ds : List PyData} {vs : List V}, DxAll H vs ds → DxAll H' vs ds
  | [], _, h => by cases h; exact .nil
  | d :: ds, _, h => by
    cases h with
    | cons h1 h2 => exact .cons (Dx.same e h1) (DxAll.same e h2)
end
def three : List PyData → Bool
  | [.int _, .int _, .int _] => true
  | _ => false
mutual
/-- no list of three ints is within: so no list that is told is the dice -/
def nodice : PyData → Bool
  | .list ds => !three ds && nodiceAll ds
  | .tuple ds => nodiceAll ds
  | _ => true
def nodiceAll : List PyData → Bool
  | [] => true
  | d :: ds => nodice d && nodiceAll ds
end
theorem nodice_list {ds : List PyData} (h : nodice (.list ds) = true) : nodiceAll ds = true ∧ ∀ x y z, ds ≠ [.int x, .int y, .int z] := by
  simp only [nodice, Bool.and_eq_true] at h
  refine ⟨h.2, fun x y z e => ?_⟩
  subst e
  exact Bool.noConfusion h.1
mutual
theorem Dx.but {H H' : Hp} {p : Addr} (hd : Dc H p) (o : But p H H') : ∀ {d : PyData} {v : V}, Dx H v d → nodice d = true → Dx H' v d
  | .none, _, h, _ => by cases h; exact .non
  | .bool b, _, h, _ => by cases h; exact .bl b
  | .int i, _, h, _ => by cases h; exact .int i
  | .str x, _, h, _ => by cases h; exact .str x
  | .list ds, _, h, f => by
    obtain ⟨f1, f2⟩ := nodice_list f
    cases h with
    | @lst a xs _ h1 h2 =>
      have hne : a ≠ p := by
        rintro rfl
        obtain ⟨x, y, z, hp⟩ := hd
        rw [hp] at h1
        cases (HO.lst.inj (Option.some.inj h1))
        cases h2 with
        | cons q1 h2 =>
          cases h2 with
          | cons q2 h2 =>
            cases h2 with
            | cons q3 h2 =>
              cases h2
              cases q1
              cases q2
              cases q3
              exact f2 _ _ _ rfl
      exact .lst (o _ _ hne h1) (DxAll.but hd o h2 f1)
  | .tuple ds, _, h, f => by
    cases h with
    | @tup a xs _ h1 h2 =>
      have hne : a ≠ p := by
        rintro rfl
        obtain ⟨x, y, z, hp⟩ := hd
        rw [hp] at h1
        cases h1
      exact .tup (o _ _ hne h1) (DxAll.but hd o h2 (by simpa only [nodice] using f))
  | .dict kvs, _, h, f => by
    cases h with
    | @dct a h1 =>
      have hne : a ≠ p := by
        rintro rfl
        obtain ⟨x, y, z, hp⟩ := hd
        rw [hp] at h1
        cases h1
      exact .dct (o _ _ hne h1)
theorem DxAll.but {H H' : Hp} {p : Addr} (hd : Dc H p) (o : But p H H') : ∀ {ds : List PyData} {vs : List V}, DxAll H vs ds → nodiceAll ds = true → DxAll H' vs ds
  | [], _, h, _ => by cases h; exact .nil
  | d :: ds, _, h, f => by
    simp only [nodiceAll, Bool.and_eq_true] at f
    cases h with
    | cons h1 h2 => exact .cons (Dx.but hd o h1 f.1) (DxAll.but hd o h2 f.2)
end
theorem Dx.only {H H' : Hp} {p : Addr} (hd : Dc H p) (o : Only1 H H' p) {d : PyData} {v : V} (h : Dx H v d) (f : nodice d = true) : Dx H' v d := Dx.but hd (But.of1 o) h f
theorem DxAll.only {H H' : Hp} {p : Addr} (hd : Dc H p) (o : Only1 H H' p) {ds : List PyData} {vs : List V} (h : DxAll H vs ds) (f : nodiceAll ds = true) : DxAll H' vs ds := DxAll.but hd (But.of1 o) h f
theorem nodiceAll_get : ∀ {ds : List PyData} {i : Nat} {d : PyData}, nodiceAll ds = true → ds[i]? = some d → nodice d = true
  | [], _, _, _, e => by simp at e
  | d :: ds, 0, _, h, e => by
    simp only [nodiceAll, Bool.and_eq_true] at h
    cases (show some d = some _ from e)
    exact h.1
  | d :: ds, i + 1, _, h, e => by
    simp only [nodiceAll, Bool.and_eq_true] at h
    exact nodiceAll_get (i := i) h.2 (by simpa using e)
theorem pick_dx {H G : Hp} {p : Addr} {xs : List V} {ds : List PyData} {i : Nat} {v : V} (hx : DxAll H xs ds) (hv : xs[i]? = some v) (hd : Dc H p) (o : Only1 H G p) (hn : nodiceAll ds = true) : ∃ d, ds[i]? = some d ∧ Dx G v d := by
  obtain ⟨d, h1, h2⟩ := hx.get hv
  exact ⟨d, h1, Dx.only hd o h2 (nodiceAll_get hn h1)⟩
theorem Same.at {H H' : Hp} {a : Addr} {o : HO} (h : H a = some o) (e : Same H H') : H' a = some o := e _ _ h
/-- the name of the type of data -/
def tyN : PyData → String
  | .none => "NoneType" | .bool _ => "bool" | .int _ => "int" | .str _ => "str" | .list _ => "list" | .tuple _ => "tuple" | .dict _ => "dict"
theorem Dx.ty {K : PySem.W.Frag} {H : Hp} {v : V} {d : PyData} (h : Dx H v d) : TyX K H v (.type (tyN d)) := by
  cases h with
  | non => exact .base .non
  | bl b => exact .base (.bl b)
  | int i => exact .base (.int i)
  | str x => exact .base (.str x)
  | lst h1 h2 => exact .base (.lst h1)
  | tup h1 h2 => exact .base (.tup h1)
  | dct h1 => exact .base (.dK h1)
def tyNs : List String := ["NoneType", "bool", "int", "str", "list", "tuple", "dict"]
theorem tyN_mem (d : PyData) : tyN d ∈ tyNs := by cases d <;> (simp only [tyN]; decide)
theorem kit_all : ∀ n ∈ tyNs, kitB n "int" = some (n == "int" || n == "bool") ∧ kitB n "bool" = some (n == "bool") ∧ kitB n "str" = some (n == "str") ∧ kitB n "tuple" = some (n == "tuple") ∧ kitB n "list" = some (n == "list") ∧ kitB n "dict" = some (n == "dict") := by decide +kernel
section
variable {K : PySem.W.Frag} (d : PyData)
theorem kit_int : PySem.W.kitOne K (.type (tyN d)) (.type "int") = some (tyN d == "int" || tyN d == "bool") := kit_ty (kit_all _ (tyN_mem d)).1
theorem kit_bool : PySem.W.kitOne K (.type (tyN d)) (.type "bool") = some (tyN d == "bool") := kit_ty (kit_all _ (tyN_mem d)).2.1
theorem kit_str : PySem.W.kitOne K (.type (tyN d)) (.type "str") = some (tyN d == "str") := kit_ty (kit_all _ (tyN_mem d)).2.2.1
theorem kit_tuple : PySem.W.kitOne K (.type (tyN d)) (.type "tuple") = some (tyN d == "tuple") := kit_ty (kit_all _ (tyN_mem d)).2.2.2.1
theorem kit_list : PySem.W.kitOne K (.type (tyN d)) (.type "list") = some (tyN d == "list") := kit_ty (kit_all _ (tyN_mem d)).2.2.2.2.1
theorem kit_dict : PySem.W.kitOne K (.type (tyN d)) (.type "dict") = some (tyN d == "dict") := kit_ty (kit_all _ (tyN_mem d)).2.2.2.2.2
end
/-- x in a list or a tuple of data -/
def rInX (K : PySem.W.Frag) (neg : Bool) : R2 := fun x y H Q => ∃ d c ds, Dp K H x d ∧ Dp K H y c ∧ (c = .list ds ∨ c = .tuple ds) ∧ SeqAt.shaped d = true ∧ SeqAt.shaped c = true ∧ Q (.bl (if neg then !(ds.any fun z => PyData.eqv z d) else ds.any fun z => PyData.eqv z d)) H
section
variable {X : Cx}
theorem op_inX (hu : X.A.units + 65 < cLine) : OpR X (compareOp .In) (rInX X.K false) := by
  intro pins s σ H x y v u Q I rx ry h
  obtain ⟨d, c, ds, hd, he, hc, sd, se, q⟩ := h
  obtain ⟨as, r1⟩ := Dp.reads I d x v hd rx
  obtain ⟨bs, r2⟩ := Dp.reads I c y u he ry
  rcases hc with rfl | rfl
  · exact SeqAt.in_list_reads r2 r1 (SeqAt.canLay_of_shaped se) (SeqAt.canLay_of_shaped sd) (room_in_shaped sd hu) ⟨.bl _, H, I, rfl, q⟩
  · exact SeqAt.in_tuple_reads r2 r1 (SeqAt.canLay_of_shaped se) (SeqAt.canLay_of_shaped sd) (room_in_shaped sd hu) ⟨.bl _, H, I, rfl, q⟩
theorem op_notInX (hu : X.A.units + 65 < cLine) : OpR X (compareOp .NotIn) (rInX X.K true) := by
  intro pins s σ H x y v u Q I rx ry h
  obtain ⟨d, c, ds, hd, he, hc, sd, se, q⟩ := h
  obtain ⟨as, r1⟩ := Dp.reads I d x v hd rx
  obtain ⟨bs, r2⟩ := Dp.reads I c y u he ry
  rcases hc with rfl | rfl
  · exact SeqAt.notIn_list_reads r2 r1 (SeqAt.canLay_of_shaped se) (SeqAt.canLay_of_shaped sd) (room_in_shaped sd hu) ⟨.bl _, H, I, rfl, q⟩
  · exact SeqAt.notIn_tuple_reads r2 r1 (SeqAt.canLay_of_shaped se) (SeqAt.canLay_of_shaped sd) (room_in_shaped sd hu) ⟨.bl _, H, I, rfl, q⟩
end
theorem hu65 {A : Around} {k : Nat} (hr : Room k A) : A.units + 65 < cLine := by
  have := hr.un
  omega
/-! ### rules whose readings name the written part: with a letter of its own for it (within comprehensions) -/
def rLenK (K : PySem.W.Frag) : List V → Hp → VK → Prop := fun xs H Q => ∃ p ys, xs = [.ref p] ∧ (SqL K H p ys ∨ SqT K H p ys) ∧ Q (.int ys.length) H
def rListK (K : PySem.W.Frag) : List V → Hp → VK → Prop := fun xs H Q => ∃ p ys, xs = [.ref p] ∧ (SqL K H p ys ∨ SqT K H p ys) ∧ ∀ l, H l = none → Q (.ref l) (upd H l (.lst ys))
section
variable {X : Cx}
theorem call_len_k {K : PySem.W.Frag} (hK : X.K = K := by rfl) : CallR X (.builtin "len") (rLenK K) := by subst hK; exact call_len_seq
theorem call_list_k {K : PySem.W.Frag} (hK : X.K = K := by rfl) : CallR X (.type "list") (rListK K) := by subst hK; exact call_list_of
theorem call_isi_k {K : PySem.W.Frag} (hK : X.K = K := by rfl) : CallR X (.builtin "isinstance") (rIsi K) := by subst hK; exact call_isi
theorem cr_all_k {K : PySem.W.Frag} (hc : X.calm = true) (hK : X.K = K := by rfl) : CallR X (.builtin "all") (rAll K) := by subst hK; exact cr_all hc
theorem cr_any_k {K : PySem.W.Frag} (hc : X.calm = true) (hK : X.K = K := by rfl) : CallR X (.builtin "any") (rAny K) := by subst hK; exact cr_any hc
theorem ix_list_k {K : PySem.W.Frag} (hK : X.K = K := by rfl) : IxR X (rIxL K) := by subst hK; exact ix_list
theorem ix_tup_k {K : PySem.W.Frag} (hK : X.K = K := by rfl) : IxR X (rIxT K) := by subst hK; exact ix_tup
theorem sl_list_k {K : PySem.W.Frag} (hK : X.K = K := by rfl) : SlR X (rSlL K) := by subst hK; exact sl_list
theorem sl_tup_k {K : PySem.W.Frag} (hK : X.K = K := by rfl) : SlR X (rSlT K) := by subst hK; exact sl_tup
theorem op_inX_k {K : PySem.W.Frag} (hu : X.A.units + 65 < cLine) (hK : X.K = K := by rfl) : OpR X (compareOp .In) (rInX K false) := by subst hK; exact op_inX hu
theorem op_notInX_k {K : PySem.W.Frag} (hu : X.A.units + 65 < cLine) (hK : X.K = K := by rfl) : OpR X (compareOp .NotIn) (rInX K true) := by subst hK; exact op_notInX hu
theorem op_eqD_k {K : PySem.W.Frag} (hu : X.A.units + 64 < cLine) (hK : X.K = K := by rfl) : OpR X (compareOp .Eq) (rEqD K) := by subst hK; exact op_eqD hu
theorem op_neD_k {K : PySem.W.Frag} (hu : X.A.units + 64 < cLine) (hK : X.K = K := by rfl) : OpR X (compareOp .NotEq) (rNeD K) := by subst hK; exact op_neD hu
theorem pi_list_k {tg l : Expr} {tl : TE} {K : PySem.W.Frag} (hl : PE X l tl) (hK : X.K = K := by rfl) : PI X tg l (iList K tl) := by subst hK; exact pi_list hl
theorem pi_tup_k {tg l : Expr} {tl : TE} {K : PySem.W.Frag} (hl : PE X l tl) (hK : X.K = K := by rfl) : PI X tg l (iTup K tl) := by subst hK; exact pi_tup hl
variable {o e : Expr} {es : List Expr} {to : TE} {t : TA} {name : Str} {apos cpos : Pos} {T id : String} {r : V → List V → Hp → VK → Prop}
theorem pe_bm_k {K : PySem.W.Frag} (pa : PlainAttrs T) (slot : Slot T name id) (hty : typeOf (.builtin id) = pure (.type "method_descriptor")) (hm : MtR X id r) (ho : PE X o to) (ha : PA X (e :: es) t)
    (hbase : attributeBase o name X.env (eval o X.env) = eval o X.env := by rfl)
    (hfew : ((backTo cpos (starEach (e :: es) X.env)).all (fun x => !x.1) && (backToKw cpos (keywordEach [] X.env)).all (fun x => x.1.isSome)
      && decide ((e :: es).length + ([] : List Keyword).length + (if ([] : List Keyword).isEmpty then 0 else 1) < 30)) = true := by rfl)
    (hline : (apos.endLine == cpos.line) = true := by rfl) (hs : starEach (e :: es) X.env = (false, eval e X.env) :: starEach es X.env := by rfl) (hplain : (backTo cpos (starEach es X.env)).any (·.1) = false := by rfl) (hK : X.K = K := by rfl) :
    PE X (.Call (.Attribute o name apos) (e :: es) [] cpos) (tBM K T r to t) := by
  subst hK
  exact pe_bm pa slot hty hm ho ha hbase hfew hline hs hplain
def tJoin (K : PySem.W.Frag) (to te : TE) : TE := tM1 (fun x xs H Q => ∃ a p, ∃ ys : List Str, x = .str a ∧ xs = [.ref p] ∧ (SqL K H p (ys.map V.str) ∨ SqT K H p (ys.map V.str)) ∧
      (ys.map (·.length)).sum + ys.length * a.length ≤ 16777216 ∧ Q (.str (Txt.join a ys)) H) to te
theorem pe_join_k {te : TE} {K : PySem.W.Frag} (ho : PE X o to) (he : PE X e te) (hs : starEach [e] X.env = [(false, eval e X.env)] := by rfl) (hbase : attributeBase o "join" X.env (eval o X.env) = eval o X.env := by rfl) (hline : (apos.endLine == cpos.line) = true := by rfl) (hK : X.K = K := by rfl) :
    PE X (.Call (.Attribute o "join" apos) [e] [] cpos) (tJoin K to te) := by
  subst hK
  exact pe_join ho he hs hbase hline
end
/-! ### list(text) -/
def signV (z : Str) : List V := z.cps.toList.map fun c => V.str ⟨#[c]⟩
theorem paired_get {α β : Type} {R : α → β → Prop} : ∀ {xs : List α} {us : List β}, xs.length = us.length → (∀ (j : Nat) (x : α) (u : β), xs[j]? = some x → us[j]? = some u → R x u) → Paired R xs us
  | [], [], _, _ => .nil
  | [], _ :: _, h, _ => by cases h
  | _ :: _, [], h, _ => by cases h
  | x :: xs, u :: us, h, k => .cons (k 0 x u rfl rfl) (paired_get (by simpa using h) fun j y v h1 h2 => k (j + 1) y v (by simpa using h1) (by simpa using h2))
theorem call_listS {X : Cx} (hcalm : X.calm = true) : CallR X (.type "list") (fun xs H Q => ∃ z, xs = [.str z] ∧ z.length ≤ sizeLine ∧ ∀ p, H p = none → Q (.ref p) (upd H p (.lst (signV z)))) := by
  intro pins s σ H xs us Q I r h
  obtain ⟨z, rfl, hz, q⟩ := h
  obtain ⟨u, rfl, t, rfl⟩ := vals1 r
  refine call_list_str (I.ok.hd hcalm) z t (hn := hz) fun h' tk acc' c' hk hS' hacc => ?_
  have hl : (signV z).length = z.length := by
    unfold signV
    rw [List.length_map, Array.length_toList]
    rfl
  have hv : Vals (signV z) acc'.toList := by
    refine paired_get (R := RelV) (by rw [hl, Array.length_toList, hacc.1]; rfl) fun j x u h1 h2 => ?_
    obtain ⟨c, t', hc, rfl⟩ := hacc.2 j u (by rw [← Array.getElem?_toList]; exact h2)
    unfold signV at h1
    rw [List.getElem?_map, Array.getElem?_toList, hc] at h1
    cases (show some (V.str ⟨#[c]⟩) = some x from h1)
    exact ⟨t', rfl⟩
  exact ⟨.ref s.heap.objs.size, upd H s.heap.objs.size (.lst (signV z)), I.laid (t' := tk) hk (Nat.le_refl _)
    (show ObjOk X.prog X.w _ _ _ (.lst (signV z)) from ⟨by rw [hl]; exact hz, acc'.toList, c', hv, by rw [Array.toArray_toList]; exact hS'⟩), rfl, q _ (I.hok.fresh (Nat.le_refl _))⟩
/-! ### the program's judges, on data -/
def isIntD : PyData → Bool
  | .int i => decide ((if i < 0 then -i else i) < 10 ^ Int.toNat 60)
  | _ => false
def lowZ (c : Nat) : Bool := (!decide ([c] < [97])) && (!decide ([122] < [c]))
def isWordS (x : Str) : Bool := (decide (1 ≤ x.length) && decide (x.length ≤ 8)) && x.cps.toList.all lowZ
def isWordD : PyData → Bool
  | .str x => isWordS x
  | _ => false
def isArityD : PyData → Bool
  | .int i => isIntD (.int i) && (decide (0 ≤ i) && decide (i ≤ 3))
  | _ => false
def isLeafD (d : PyData) : Bool := ([.str "_", .str "#"] : List PyData).any fun z => PyData.eqv z d
def isNodeD : PyData → Bool
  | .tuple [s, m] => if isLeafD s then (isArityD m && PyData.eqv m (.int 0)) else (isWordD s && isArityD m)
  | _ => false
end Fn

set_option Elab.async false
set_option maxRecDepth 100000
set_option maxHeartbeats 4000000
/-! A dict with any keys, told by its pairs of values: read by len, isinstance, walks; a key of another kind put into a dict of texts. -/
namespace Fn
open PySem PySem.Spec PyProof.Rows L2
def EntV (kvs : List (V × V)) (es : Array DictEntry) : Prop := es.size = kvs.length ∧ ∀ (i : Nat) (k v : V), kvs[i]? = some (k, v) → ∃ en, es[i]? = some en ∧ RelV k en.key ∧ RelV v en.val
def MxO (d : Addr) (kvs : List (V × V)) : HO := .ext fun h => (d == sysModules) = false ∧ kvs.length ≤ sizeLine ∧ ∃ es ep, h.DictRaw d es ep ∧ EntV kvs es
inductive DM (d : Addr) : HO → List (V × V) → Prop
  | mx (kvs : List (V × V)) : DM d (MxO d kvs) kvs
  | dk (ks : List (Key × V)) : DM d (.dK ks) (ks.map fun p => (kV p.1, p.2))
theorem DM.mut {d : Addr} {u : HO} {kvs : List (V × V)} (D : DM d u kvs) : Mut (some u) := by
  cases D <;> exact True.intro
theorem EntV.of_kv {P : Program} {w : World} {ks : List (Key × V)} {vs : List (Key × Value)} {es : Array DictEntry} (kv : KV ks vs) (hz : es.size = vs.length)
    (he : ∀ i (hi : i < es.size) k v, vs[i]? = some (k, v) → (mixKind P w).is k es[i].key = true ∧ es[i].val = v) : EntV (ks.map fun p => (kV p.1, p.2)) es := by
  refine ⟨by rw [List.length_map, hz]; exact (Paired.length kv).symm, fun i k v e => ?_⟩
  rw [List.getElem?_map] at e
  cases hk : ks[i]? with
  | none => rw [hk] at e; cases e
  | some p =>
    obtain ⟨kk, x⟩ := p
    rw [hk] at e
    cases (show some (kV kk, x) = some (k, v) from e)
    obtain ⟨u, hu, ru⟩ := kv_get kv hk
    have hi : i < es.size := by
      rw [hz]
      exact (List.getElem?_eq_some_iff.mp hu).1
    obtain ⟨h1, h2⟩ := he i hi _ _ hu
    exact ⟨es[i], Array.getElem?_eq_getElem hi, relV_key (show keyIs kk _ = true from h1), by rw [h2]; exact ru⟩
theorem DM.raw {P : Program} {w : World} {H : Hp} {h : Heap} {d : Addr} {u : HO} {kvs : List (V × V)} (D : DM d u kvs) (x : ObjOk P w H h d u) :
    (d == sysModules) = false ∧ kvs.length ≤ sizeLine ∧ ∃ es ep, h.DictRaw d es ep ∧ EntV kvs es := by
  cases D with
  | mx => exact x.1
  | dk ks =>
    obtain ⟨z, hd, vs, kv, dd⟩ := x
    obtain ⟨es, ep, r, hz, he⟩ := dd.raw
    exact ⟨hd, by rw [List.length_map]; exact z, es, ep, r, EntV.of_kv kv hz he⟩
section
variable {X : Cx} {pins : List (Addr × Obj)} {σ : L2.St} {H : Hp} {s : Shared} {d : Addr} {o : Obj} {u : HO} {kvs : List (V × V)}
theorem frzM (I : Inv X pins σ H s) (h : H d = some (.frz o u)) (D : DM d u kvs) :
    (d == sysModules) = false ∧ kvs.length ≤ sizeLine ∧ ∃ es ep, o.data = .dict es ep ∧ s.heap.DictRaw d es ep ∧ EntV kvs es := by
  obtain ⟨h1, h2⟩ := I.hok d _ h
  obtain ⟨a, b, es, ep, r, e⟩ := D.raw h2
  obtain ⟨o', ho, hx, hd⟩ := id r
  rw [h1] at ho
  cases ho
  exact ⟨a, b, es, ep, hd, r, e⟩
end
def Mtk (d : Addr) (o : Obj) (u : HO) (kvs : List (V × V)) : It :=
  ⟨fun i H => H d = some (.frz o u) ∧ i < kvs.length, fun i H x H' => H' = H ∧ ∃ v, kvs[i]? = some (x, v), fun i H => H d = some (.frz o u) ∧ kvs.length ≤ i⟩
def Mtd (d : Addr) (o : Obj) (u : HO) (kvs : List (V × V)) : It :=
  ⟨fun i H => H d = some (.frz o u) ∧ i < kvs.length, fun i H x H' => H' = H ∧ ∃ k, kvs[i]? = some (k, x), fun i H => H d = some (.frz o u) ∧ kvs.length ≤ i⟩
def Mti (d : Addr) (o : Obj) (u : HO) (kvs : List (V × V)) : It :=
  ⟨fun i H => H d = some (.frz o u) ∧ i < kvs.length, fun i H x H' => ∃ T k v, kvs[i]? = some (k, v) ∧ x = .ref T ∧ H T = none ∧ H' = upd H T (.tup [k, v]), fun i H => H d = some (.frz o u) ∧ kvs.length ≤ i⟩
section
variable {P : Program} {w : World} {K : PySem.W.Frag} {tg : Expr} {d : Addr} {o : Obj} {es : Array DictEntry} {ep : Nat} {u : HO} {kvs : List (V × V)}
theorem turn_keysM (D : DM d u kvs) (it : Addr) (hod : o.data = .dict es ep) : Turn P w K tg (Mtk d o u kvs) [it] it (fun i h => h.IsKeyIter it d i es.size ep) where
  mem := by simp
  obj := fun i h st b hb => by
    have e : b = it := by simpa using hb
    subst e
    obtain ⟨oi, e, c, dd⟩ := st
    exact ⟨oi, e, fun v z => by rw [dd] at z; cases z⟩
  keep := fun i h h' st k => st.at fun oi e => k it (by simp) oi e
  item := by
    intro X hP hw hK hc i pins s σ H E I hf st hg
    subst hP hw hK
    obtain ⟨hd, hi⟩ := hg
    obtain ⟨f0, f1, f2, f3, f4, f5⟩ := hf it (by simp)
    obtain ⟨hs, hz, es', ep', hdt, hr, hsz, ent⟩ := frzM I hd D
    obtain ⟨rfl, rfl⟩ := dict_ep hod hdt
    obtain ⟨⟨k, v⟩, hkv⟩ : ∃ p, kvs[i]? = some p := ⟨kvs[i], List.getElem?_eq_getElem hi⟩
    obtain ⟨en, hen, rk, rv⟩ := ent i k v hkv
    have hi' : i < es'.size := by omega
    refine wpAny_pyNext_keys_item_raw st hr hi' fun h' st' sb => ?_
    have I1 : Inv X pins σ H { s with heap := h' } := I.turned (t' := s.toks) (fun b ob hb e => (sb.2 b hb).trans e) f0 f1 f3 f4 f5
    obtain ⟨oi, e, c, dd⟩ := id st'
    have een : es'[i] = en := by
      rw [Array.getElem?_eq_getElem hi'] at hen
      exact Option.some.inj hen
    rw [een]
    exact ⟨en.key, rfl, go_of (s := { s with heap := h' }) e c dd (by decide) ⟨k, H, I1, rk, ⟨rfl, v, hkv⟩, st', fun b hb => (hf b hb).1⟩⟩
  done := by
    intro X hP hw hK hc i pins s σ H E I hf st hg
    subst hP hw hK
    obtain ⟨hd, hi⟩ := hg
    obtain ⟨f0, f1, f2, f3, f4, f5⟩ := hf it (by simp)
    obtain ⟨hs, hz, es', ep', hdt, hr, hsz, ent⟩ := frzM I hd D
    obtain ⟨rfl, rfl⟩ := dict_ep hod hdt
    exact wpAny_pyNext_keys_end_raw (I.ok.hd hc) st hr (by omega) fun h' eb => ⟨rfl, I.turned (t' := s.toks) (fun b ob hb e => eb b ob hb e) f0 f1 f3 f4 f5⟩
  self := fun A i s Q E st h => wpAny_pyIter_keyiter st h
theorem turn_valsM (D : DM d u kvs) (it : Addr) (hod : o.data = .dict es ep) : Turn P w K tg (Mtd d o u kvs) [it] it (fun i h => h.IsValIter it d i es.size ep) where
  mem := by simp
  obj := fun i h st b hb => by
    have e : b = it := by simpa using hb
    subst e
    obtain ⟨oi, e, c, dd⟩ := st
    exact ⟨oi, e, fun v z => by rw [dd] at z; cases z⟩
  keep := fun i h h' st k => st.at fun oi e => k it (by simp) oi e
  item := by
    intro X hP hw hK hc i pins s σ H E I hf st hg
    subst hP hw hK
    obtain ⟨hd, hi⟩ := hg
    obtain ⟨f0, f1, f2, f3, f4, f5⟩ := hf it (by simp)
    obtain ⟨hs, hz, es', ep', hdt, hr, hsz, ent⟩ := frzM I hd D
    obtain ⟨rfl, rfl⟩ := dict_ep hod hdt
    obtain ⟨⟨k, v⟩, hkv⟩ : ∃ p, kvs[i]? = some p := ⟨kvs[i], List.getElem?_eq_getElem hi⟩
    obtain ⟨en, hen, rk, rv⟩ := ent i k v hkv
    have hi' : i < es'.size := by omega
    refine wpAny_pyNext_values_item_raw st hr hi' fun h' st' sb => ?_
    have I1 : Inv X pins σ H { s with heap := h' } := I.turned (t' := s.toks) (fun b ob hb e => (sb.2 b hb).trans e) f0 f1 f3 f4 f5
    obtain ⟨oi, e, c, dd⟩ := id st'
    have een : es'[i] = en := by
      rw [Array.getElem?_eq_getElem hi'] at hen
      exact Option.some.inj hen
    rw [een]
    exact ⟨en.val, rfl, go_of (s := { s with heap := h' }) e c dd (by decide) ⟨v, H, I1, rv, ⟨rfl, k, hkv⟩, st', fun b hb => (hf b hb).1⟩⟩
  done := by
    intro X hP hw hK hc i pins s σ H E I hf st hg
    subst hP hw hK
    obtain ⟨hd, hi⟩ := hg
    obtain ⟨f0, f1, f2, f3, f4, f5⟩ := hf it (by simp)
    obtain ⟨hs, hz, es', ep', hdt, hr, hsz, ent⟩ := frzM I hd D
    obtain ⟨rfl, rfl⟩ := dict_ep hod hdt
    exact wpAny_pyNext_values_end_raw (I.ok.hd hc) st hr (by omega) fun h' eb => ⟨rfl, I.turned (t' := s.toks) (fun b ob hb e => eb b ob hb e) f0 f1 f3 f4 f5⟩
  self := fun A i s Q E st h => wpAny_pyIter_valiter st h
theorem turn_itemsM (D : DM d u kvs) {elts : List Expr} {kk : Nat} {tpos : Pos} (it : Addr) (hod : o.data = .dict es ep) :
    Turn P w K (.Tuple elts kk tpos) (Mti d o u kvs) [it] it (fun i h => ∃ ok ov, IsItemIter h it d i es.size ep ok ov) where
  mem := by simp
  obj := fun i h st b hb => by
    have e : b = it := by simpa using hb
    subst e
    obtain ⟨ok, ov, e⟩ := st
    exact ⟨_, e, fun v z => nomatch z⟩
  keep := fun i h h' st k => let ⟨ok, ov, e⟩ := st; ⟨ok, ov, k it (by simp) _ e⟩
  item := by
    intro X hP hw hK hc i pins s σ H E I hf st hg
    subst hP hw hK
    obtain ⟨hd, hi⟩ := hg
    obtain ⟨hs, hz, es', ep', hdt, hr, hsz, ent⟩ := frzM I hd D
    obtain ⟨rfl, rfl⟩ := dict_ep hod hdt
    obtain ⟨⟨k, v⟩, hkv⟩ : ∃ p, kvs[i]? = some p := ⟨kvs[i], List.getElem?_eq_getElem hi⟩
    obtain ⟨en, hen, rk, rv⟩ := ent i k v hkv
    have hi' : i < es'.size := by omega
    have een : es'[i] = en := by
      rw [Array.getElem?_eq_getElem hi'] at hen
      exact Option.some.inj hen
    obtain ⟨ok, ov, he⟩ := st
    have hlt : it < s.heap.objs.size := Heap.lt_size he
    refine wpAny_pyNext_items_item_raw he hr hi' fun h' ho hT hz hk => ?_
    rw [een] at ho hT
    refine ⟨_, rfl, wpAny_letOwnedTupleGo_items (s := { s with heap := h' }) ho fun h'' he' sb => ?_⟩
    have hT2 : h''.get? s.heap.objs.size = some { cls := .type "tuple", data := .seq #[en.key, en.val] } := (sb.2 _ (Nat.ne_of_gt hlt)).trans hT
    have new : ObjOk X.prog X.w (upd H s.heap.objs.size (.tup [k, v])) h'' s.heap.objs.size (.tup [k, v]) :=
      ⟨by show 2 ≤ sizeLine; decide, [en.key, en.val], .cons rk (.cons rv .nil), ⟨_, hT2, rfl, _, rfl⟩⟩
    have I1 : Inv X pins σ (upd H s.heap.objs.size (.tup [k, v])) { s with heap := h'' } :=
      I.turnedNew (t' := s.toks) (ch := [it]) (fun b ob hb e => (sb.2 b (by simpa using hb)).trans (hk b ob (by simpa using hb) e)) hf (Nat.le_refl _) new
    refine ⟨.ref s.heap.objs.size, _, I1, rfl, ⟨_, k, v, hkv, rfl, I.hok.fresh (Nat.le_refl _), rfl⟩, ⟨en.key, en.val, he'⟩, fun b hb => ?_⟩
    have e : b = it := by simpa using hb
    rw [e, upd_ne (Nat.ne_of_lt hlt)]
    exact (hf it (by simp)).1
  done := by
    intro X hP hw hK hc i pins s σ H E I hf st hg
    subst hP hw hK
    obtain ⟨hd, hi⟩ := hg
    obtain ⟨f0, f1, f2, f3, f4, f5⟩ := hf it (by simp)
    obtain ⟨hs, hz, es', ep', hdt, hr, hsz, ent⟩ := frzM I hd D
    obtain ⟨rfl, rfl⟩ := dict_ep hod hdt
    obtain ⟨ok, ov, he⟩ := st
    exact wpAny_pyNext_items_end_raw (I.ok.hd hc) he hr (by omega) fun h' eb => ⟨rfl, I.turned (t' := s.toks) (fun b ob hb e => eb b ob hb e) f0 f1 f3 f4 f5⟩
  self := fun A i s Q E st h => let ⟨_, _, e⟩ := st; PySem.W.kcp_self e h
end
section
variable {d : Addr} {o : Obj} {u : HO} {kvs : List (V × V)}
theorem walk_keysX : Walk (Mtk d o u kvs) kvs.length (fun H => H d = some (.frz o u)) (fun i H x H' => H' = H ∧ ∃ v, kvs[i]? = some (x, v)) :=
  ⟨fun _ _ hi q => ⟨q, hi⟩, fun _ q => ⟨q, Nat.le_refl _⟩, fun _ _ _ _ _ _ y => y⟩
theorem walk_valsX : Walk (Mtd d o u kvs) kvs.length (fun H => H d = some (.frz o u)) (fun i H x H' => H' = H ∧ ∃ k, kvs[i]? = some (k, x)) :=
  ⟨fun _ _ hi q => ⟨q, hi⟩, fun _ q => ⟨q, Nat.le_refl _⟩, fun _ _ _ _ _ _ y => y⟩
theorem walk_itemsX : Walk (Mti d o u kvs) kvs.length (fun H => H d = some (.frz o u)) (fun i H x H' => ∃ T k v, kvs[i]? = some (k, v) ∧ x = .ref T ∧ H T = none ∧ H' = upd H T (.tup [k, v])) :=
  ⟨fun _ _ hi q => ⟨q, hi⟩, fun _ q => ⟨q, Nat.le_refl _⟩, fun _ _ _ _ _ _ y => y⟩
end
def iKeysX (td : TE) : TI := fun σ H R => td σ H fun x H1 => ∃ d o u kvs, x = .ref d ∧ H1 d = some (.frz o u) ∧ DM d u kvs ∧ R (Mtk d o u kvs) H1
def iValsX (td : TE) : TI := fun σ H R => td σ H fun x H1 => ∃ d o u kvs, x = .ref d ∧ H1 d = some (.frz o u) ∧ DM d u kvs ∧ R (Mtd d o u kvs) H1
def iItemsX (td : TE) : TI := fun σ H R => td σ H fun x H1 => ∃ d o u kvs, x = .ref d ∧ H1 d = some (.frz o u) ∧ DM d u kvs ∧ R (Mti d o u kvs) H1
section
variable {X : Cx} {tg e : Expr} {td : TE} {apos cpos : Pos}
theorem pi_keysX (he : PE X e td) : PI X tg e (iKeysX td) := by
  refine ⟨fun pins s σ H R I h => ?_⟩
  refine thn (he.run pins s σ H _ I h) fun v s1 ⟨x, H1, I1, rx, d, o, u, kvs, ex, hd, D, q⟩ => ?_
  subst ex
  obtain rfl : v = Value.ref d := rx
  obtain ⟨hs, hz, es, ep, hdt, hr, ent⟩ := frzM I1 hd D
  exact wpAny_pyIter_dict_raw hs hr (pi_one (tk := s1.toks) I1 _ (turn_keysM D _ hdt) ⟨_, Heap.get?_push_size _ rfl, rfl, rfl⟩ q)
theorem pi_valuesX (he : PE X e td) (hbase : attributeBase e "values" X.env (eval e X.env) = eval e X.env := by rfl) (hline : (apos.endLine == cpos.line) = true := by rfl) : PI X tg (.Call (.Attribute e "values" apos) [] [] cpos) (iValsX td) := by
  refine ⟨fun pins s σ H R I h => ?_⟩
  refine wpAny_Call_method (T := "dict") (id := "dict.values") hbase rfl hline F.plainAttrs_dict F.slot_dict_values F.type_dict_values (thn (he.run pins s σ H _ I h) fun v s1 ⟨x, H1, I1, rx, d, o, u, kvs, ex, hd, D, q⟩ => ?_)
  subst ex
  obtain rfl : v = Value.ref d := rx
  obtain ⟨hs, hz, es, ep, hdt, hr, ent⟩ := frzM I1 hd D
  refine ⟨hr.typeIs, fun b e => ?_, ?_⟩
  · cases e
    obtain ⟨ob, ho, hc, _⟩ := hr
    exact ⟨ob, ho, hc.2.1⟩
  have I2 : Inv X pins σ H1 { s1 with heap := s1.heap.push { cls := .type "dict_values", data := .fields #[.ref d] } } := I1.kept (t' := s1.toks) fun b ob q => Heap.get?_push_of_some _ q
  have fin : wpAny (model X.prog X.w) X.A (pyIter (.ref s1.heap.objs.size)) (PIE X pins σ tg R) X.xe { s1 with heap := s1.heap.push { cls := .type "dict_values", data := .fields #[.ref d] } } :=
    wpAny_pyIter_values_raw (d := d) (es := es) (ep := ep) ⟨_, Heap.get?_push_size _ rfl, rfl, rfl⟩ (hr.push _) (pi_one (tk := s1.toks) I2 _ (turn_valsM D _ hdt) ⟨_, Heap.get?_push_size _ rfl, rfl, rfl⟩ q)
  show wpAny _ _ (callWith cpos (.builtin "dict.values") [.ref d] [] []) _ X.xe s1
  exact method_meetsIn F.slot_dict_values F.entry_dict_values rfl (PySem.evalArgs_none ⟨rfl, hr.typeIs, F.args_dict_values_1 _, _, meets_dict_values_raw d hs, ⟨es, ep, hr⟩, fin⟩)
theorem pi_itemsX {elts : List Expr} {kk : Nat} {tpos : Pos} (he : PE X e td) (hbase : attributeBase e "items" X.env (eval e X.env) = eval e X.env := by rfl) (hline : (apos.endLine == cpos.line) = true := by rfl) :
    PI X (.Tuple elts kk tpos) (.Call (.Attribute e "items" apos) [] [] cpos) (iItemsX td) := by
  refine ⟨fun pins s σ H R I h => ?_⟩
  refine wpAny_Call_method (T := "dict") (id := "dict.items") hbase rfl hline F.plainAttrs_dict F.slot_dict_items F.type_dict_items (thn (he.run pins s σ H _ I h) fun v s1 ⟨x, H1, I1, rx, d, o, u, kvs, ex, hd, D, q⟩ => ?_)
  subst ex
  obtain rfl : v = Value.ref d := rx
  obtain ⟨hs, hz, es, ep, hdt, hr, ent⟩ := frzM I1 hd D
  refine ⟨hr.typeIs, fun b e => ?_, ?_⟩
  · cases e
    obtain ⟨ob, ho, hc, _⟩ := hr
    exact ⟨ob, ho, hc.2.1⟩
  have I2 : Inv X pins σ H1 { s1 with heap := s1.heap.push { cls := .type "dict_items", data := .fields #[.ref d] } } := I1.kept (t' := s1.toks) fun b ob q => Heap.get?_push_of_some _ q
  have fin : wpAny (model X.prog X.w) X.A (pyIter (.ref s1.heap.objs.size)) (PIE X pins σ (.Tuple elts kk tpos) R) X.xe { s1 with heap := s1.heap.push { cls := .type "dict_items", data := .fields #[.ref d] } } :=
    wpAny_pyIter_items_raw (d := d) (es := es) (ep := ep) ⟨_, Heap.get?_push_size _ rfl, rfl, rfl⟩ (hr.push _) (pi_one (tk := s1.toks) I2 _ (turn_itemsM D _ hdt) ⟨.none, .none, Heap.get?_push_size _ rfl⟩ q)
  show wpAny _ _ (callWith cpos (.builtin "dict.items") [.ref d] [] []) _ X.xe s1
  exact method_meetsIn F.slot_dict_items F.entry_dict_items rfl (PySem.evalArgs_none ⟨rfl, hr.typeIs, F.args_dict_items_1 _, _, meets_dict_items_raw d hs, ⟨es, ep, hr⟩, fin⟩)
/-- isinstance(x, c) where x may be a dict with any keys -/
def rIsiM (K : PySem.W.Frag) : List V → Hp → VK → Prop := fun xs H Q => rIsi K xs H Q ∨
  ∃ (d : Addr) (w : HO) (kvs : List (V × V)) (c : V) (u : Value) (b : Bool), xs = [.ref d, c] ∧ ClsV c u ∧ H d = some w ∧ DM d w kvs ∧ PySem.W.kitOne K (.type "dict") u = some b ∧ Q (.bl b) H
theorem call_isiM {K : PySem.W.Frag} (hK : X.K = K := by rfl) : CallR X (.builtin "isinstance") (rIsiM K) := by
  subst hK
  intro pins s σ H xs us Q I r h
  rcases h with h | ⟨d, w, kvs, c, u, b, rfl, k, hd, D, e, q⟩
  · exact call_isi pins s σ H xs us Q I r h
  · obtain ⟨u1, u2, rfl, r1, r2⟩ := vals2 r
    have e2 := k.eq r2
    subst e2
    cases (show u1 = Value.ref d from r1)
    obtain ⟨hs, hz, es, ep, ⟨o, ho, hc, hdt⟩, ent⟩ := D.raw (I.hok d _ hd)
    exact PySem.W.kia_one PySem.W.kitx_dict I.kIn ⟨o, ho, hc.1⟩ e (fun z => nomatch z) fun tk => ⟨.bl b, H, I.tok tk, rfl, q⟩
def rLenM : List V → Hp → VK → Prop := fun xs H Q => ∃ (d : Addr) (w : HO) (kvs : List (V × V)), xs = [.ref d] ∧ H d = some w ∧ DM d w kvs ∧ Q (.int kvs.length) H
theorem call_lenM : CallR X (.builtin "len") rLenM := by
  intro pins s σ H xs us Q I r h
  obtain ⟨d, w, kvs, rfl, hd, D, q⟩ := h
  obtain rfl := Vals.ref1 r
  obtain ⟨hs, hz, es, ep, hr, hsz, ent⟩ := D.raw (I.hok d _ hd)
  have hl := line63
  refine call_len_slot (n := (es.size : Int)) hr.typeIs F.slot_dict_len (fun Q' hq => call_len_raw hs hr hq) (by omega) (by omega) ?_
  exact ⟨.int kvs.length, H, I.tok _, ⟨_, by rw [hsz]⟩, q⟩
end
theorem pg_tup_k {X : Cx} {K : PySem.W.Frag} {pos : Pos} {es : List Expr} {k : Nat} {t : TGs} {n : Nat} (hc : X.calm = true) (h : PGs X es t)
    (hn : (assignEach es X.env).length = n := by rfl) (hst : (assignEach es X.env).findIdx? (·.1) = none := by rfl) (hK : X.K = K := by rfl) : PG X (.Tuple es k pos) (gTup K n t) := by
  subst hK
  exact pg_tup hc h hn hst
/-! ### list(d.values()) -/
def tListVals (te : TE) : TE := fun σ H Q => te σ H fun x H1 => ∃ (d : Addr) (w : HO) (kvs : List (V × V)), x = .ref d ∧ H1 d = some w ∧ DM d w kvs ∧
  ∀ p, H1 p = none → Q (.ref p) (upd H1 p (.lst (kvs.map Prod.snd)))
theorem pe_listVals {X : Cx} {e : Expr} {te : TE} {p apos cpos pos : Pos} (hc : X.calm = true) (he : PE X e te) (hg : Gl X "list") (hm : X.mg "list" = none) (hv : bootBuiltins "list" = some (.type "list")) (hbase : attributeBase e "values" X.env (eval e X.env) = eval e X.env := by rfl) (hline : (apos.endLine == cpos.line) = true := by rfl)
    (hs : starEach [.Call (.Attribute e "values" apos) [] [] cpos] X.env = (false, eval (.Call (.Attribute e "values" apos) [] [] cpos) X.env) :: starEach [] X.env := by rfl) :
    PE X (.Call (.Name "list" p) [.Call (.Attribute e "values" apos) [] [] cpos] [] pos) (tListVals te) := by
  refine ⟨fun pins s σ H Q I hq => ?_⟩
  refine wpAny_Call_Name_kw (ld_blt I hg hm hv ?_)
  refine PyProof.Rows.callWith_type1 ?_ hs rfl
  rw [hs]
  show wpAny _ _ (spliced ((false, eval (.Call (.Attribute e "values" apos) [] [] cpos) X.env) :: backTo pos (starEach [] X.env))) _ _ s
  refine Calls.spliced_cons ?_
  refine wpAny_Call_method (T := "dict") (id := "dict.values") hbase rfl hline F.plainAttrs_dict F.slot_dict_values F.type_dict_values (thn (he.run pins s σ H _ I hq) fun u s1 ⟨x, H1, I1, rx, d, w, kvs, ex, hd, D, q⟩ => ?_)
  subst ex
  obtain rfl : u = Value.ref d := rx
  obtain ⟨hs0, hz, es, ep, hr, hsz, ent⟩ := D.raw (I1.hok d _ hd)
  have I2 : Inv X pins σ H1 { s1 with heap := s1.heap.push { cls := .type "dict_values", data := .fields #[.ref d] } } := I1.kept (t' := s1.toks) fun b ob q => Heap.get?_push_of_some _ q
  refine ⟨hr.typeIs, fun b e => ?_, ?_⟩
  · cases e
    obtain ⟨ob, ho, hc, _⟩ := hr
    exact ⟨ob, ho, hc.2.1⟩
  show wpAny _ _ (callWith cpos (.builtin "dict.values") [.ref d] [] []) _ X.xe s1
  refine method_meetsIn F.slot_dict_values F.entry_dict_values rfl (PySem.evalArgs_none ⟨rfl, hr.typeIs, F.args_dict_values_1 _, _, meets_dict_values_raw d hs0, ⟨es, ep, hr⟩, ?_⟩)
  refine Calls.spliced_nil ?_
  refine PySem.W.kdl_call (KdlSrc.rawValues (es := es) (ep := ep)) (I1.ok.hd hc) ⟨⟨_, Heap.get?_push_size _ rfl, rfl, rfl⟩, hr.push _⟩ (by rw [hsz]; exact hz) fun h' tk acc' c' hk hS hacc => ?_
  have hv : Vals (kvs.map Prod.snd) acc'.toList := by
    refine paired_get (R := RelV) (by rw [List.length_map, Array.length_toList (xs := acc'), hacc.1, hsz]) fun j x u h1 h2 => ?_
    obtain ⟨hi, rfl⟩ := hacc.2 j u (by rw [← Array.getElem?_toList]; exact h2)
    rw [List.getElem?_map] at h1
    cases hkv : kvs[j]? with
    | none => rw [hkv] at h1; cases h1
    | some pr =>
      obtain ⟨k, v⟩ := pr
      rw [hkv] at h1
      cases (show some v = some x from h1)
      obtain ⟨en, hen, rk, rv⟩ := ent j k _ hkv
      rw [Array.getElem?_eq_getElem hi] at hen
      cases hen
      exact rv
  exact ⟨.ref _, upd H1 _ (.lst (kvs.map Prod.snd)), I2.laid (t' := tk) hk (Nat.le_refl _)
    (show ObjOk X.prog X.w _ _ _ (.lst (kvs.map Prod.snd)) from ⟨by rw [List.length_map]; exact hz, acc'.toList, c', hv, by rw [Array.toArray_toList]; exact hS⟩), rfl, q _ (I2.hok.fresh (Nat.le_refl _))⟩
/-! ### a key of another kind put into a dict of texts -/
section
variable {prog : Program} {w : World} {A : Around} {E : Value → Shared → Prop} {s : Shared}
theorem find_absent {d : Addr} {o : Obj} {es : Array DictEntry} {ep : Nat} {key : Value} {k : NestedKey} {hsh : Int} {Q : Option Nat → Shared → Prop} (hu : A.units + 0 < cLine) (ho : s.heap.get? d = some o) (hd : o.data = .dict es ep)
    (hs : ∀ e ∈ es, ∃ x t, e.key = .str x t) (hkey : NestedIs s.heap k key) (hk : (k = .none) ∨ ∃ ks, k = .tup ks) (hdep : k.depth ≤ 8) (hq : Q none s) :
    wpAny (model prog w) A (dictFind d key hsh) Q E s := by
  have hat : ∀ (x : Nat) (e : DictEntry), es[x]? = some e → ∀ Q' : Bool → Shared → Prop, Q' false s → wpAny (model prog w) A (eqBool e.key key) Q' E s := by
    intro x e he Q' hq'
    obtain ⟨y, t, ek⟩ := hs e (Array.mem_of_getElem? he)
    rw [ek]
    refine eqAt_key (.text y) k A s _ _ (.text y t) hkey (by simp only [NestedKey.depth]; omega) _ _ _ _ ?_
    rcases hk with rfl | ⟨ks, rfl⟩ <;> exact hq'
  have hst : ∀ v ∈ (placesWithHash es.size (fun i => es[i]?.map (·.hash)) hsh).filterMap (fun i => es[i]?.map (·.key)), ∃ x t, v = .str x t := by
    intro v hv
    obtain ⟨i, _, hi⟩ := List.mem_filterMap.mp hv
    cases hei : es[i]? with
    | none => rw [hei] at hi; cases hi
    | some e =>
      rw [hei] at hi
      obtain rfl : e.key = v := by simpa using hi
      exact hs e (Array.mem_of_getElem? hei)
  unfold dictFind
  try with_reducible refine wpAny_holding ?_
  refine wpAny_bind (wpAny_dictEntries ho hd ?_)
  have mem : ∀ x ∈ placesWithHash es.size (fun i => es[i]?.map (·.hash)) hsh, ∃ e, es[x]? = some e := by
    intro x hx
    rw [placesWithHash] at hx
    obtain ⟨h1, _⟩ := List.mem_filter.mp hx
    exact ⟨es[x]'(List.mem_range.mp h1), Array.getElem?_eq_getElem _⟩
  cases hkey with
  | none =>
    dsimp only
    rw [if_pos (by
      rw [List.all_cons]
      show (true && _) = true
      rw [Bool.true_and, List.all_eq_true]
      intro v hv
      obtain ⟨x, t, rfl⟩ := hst v hv
      rfl)]
    unfold dictWalkPlain
    refine wpAny_bind ?_
    refine wpAny_forIn_list _ (fun rest b s' => s' = s ∧ b = (none, ()) ∧ ∀ x ∈ rest, ∃ e, es[x]? = some e) _ ?_ ?_ _ _ ⟨rfl, rfl, mem⟩
    · rintro x rest b s' ⟨rfl, rfl, hm⟩
      obtain ⟨e, he⟩ := hm x List.mem_cons_self
      have hm' : ∀ y ∈ rest, ∃ e, es[y]? = some e := fun y hy => hm y (List.mem_cons_of_mem _ hy)
      rw [he]
      dsimp only
      split
      · refine wpAny_bind (wpAny_dictEpoch ho hd (wpAny_bind (hat x e he _ (wpAny_bind (wpAny_dictEpoch ho hd ?_)))))
        show wpAny _ _ (if (ep != ep) = true then _ else _) _ E _
        rw [if_neg (by simp)]
        exact wpAny_bind (wpAny_rule (wpAny_pure ⟨rfl, rfl, hm'⟩))
      · exact wpAny_pure ⟨rfl, rfl, hm'⟩
    · rintro b s' ⟨rfl, rfl, _⟩
      exact wpAny_pure hq
  | bool e => rcases hk with h | ⟨ks, h⟩ <;> cases h
  | int i t => rcases hk with h | ⟨ks, h⟩ <;> cases h
  | text x t => rcases hk with h | ⟨ks, h⟩ <;> cases h
  | @tup a ob vs n ks hg hc hdd hall =>
    have hkey : NestedIs s.heap (.tup ks) (.ref a) := .tup hg hc hdd hall
    dsimp only
    rw [if_neg (show ¬ ((Value.ref a :: (placesWithHash es.size (fun i => es[i]?.map (·.hash)) hsh).filterMap (fun i => es[i]?.map (·.key))).all carriedByValue) = true by simp [carriedByValue])]
    rw [if_neg (by
      rw [← Array.any_toList, List.any_eq_true]
      rintro ⟨e, hin, hc⟩
      obtain ⟨x, t, ek⟩ := hs e (Array.mem_toList_iff.mp hin)
      rw [ek] at hc
      simp at hc)]
    rw [if_neg (by
      intro hc
      have hc' := eq_of_beq hc
      have : Value.ref a ∈ (placesWithHash es.size (fun i => es[i]?.map (·.hash)) hsh).filterMap (fun i => es[i]?.map (·.key)) := by rw [hc']; exact List.mem_singleton.mpr rfl
      obtain ⟨x, t, e⟩ := hst _ this
      cases e)]
    have quiet : ∀ Q' : Bool → Shared → Prop, Q' false s → wpAny (model prog w) A (tableMayTell (.ref a) ((placesWithHash es.size (fun i => es[i]?.map (·.hash)) hsh).filterMap (fun i => es[i]?.map (·.key)))) Q' E s := by
      intro Q' hq'
      unfold tableMayTell
      split
      · exact wpAny_pure hq'
      · refine wpAny_bind (quiet_key (.tup ks) _ 8 s hkey hdep A E _ ?_)
        simp only [Bool.not_true, Bool.false_eq_true, if_false]
        refine wpAny_bind ?_
        refine wpAny_forIn_list _ (fun rest r s' => s' = s ∧ r = (none, ()) ∧ ∀ v ∈ rest, ∃ x t, v = .str x t) _ ?_ ?_ _ _ ⟨rfl, rfl, hst⟩
        · rintro x rest r s' ⟨rfl, rfl, hr⟩
          obtain ⟨y, t, rfl⟩ := hr x List.mem_cons_self
          refine wpAny_bind (quiet_key (.text y) _ 8 s' (.text y t) (by simp [NestedKey.depth]) A E _ ?_)
          simp only [Bool.not_true, Bool.false_eq_true, if_false]
          exact wpAny_pure ⟨rfl, rfl, fun v hv => hr v (List.mem_cons_of_mem _ hv)⟩
        · rintro r s' ⟨rfl, rfl, _⟩
          exact wpAny_pure hq'
    refine wpAny_bind (quiet _ ?_)
    rw [if_neg (by simp)]
    refine wpAny_bind ?_
    refine wpAny_forIn_list _ (fun rest b s' => s' = s ∧ b = (none, none) ∧ ∀ x ∈ rest, ∃ e, es[x]? = some e) _ ?_ ?_ _ _ ⟨rfl, rfl, mem⟩
    · rintro x rest b s' ⟨rfl, rfl, hm⟩
      obtain ⟨e, he⟩ := hm x List.mem_cons_self
      have hm' : ∀ y ∈ rest, ∃ e, es[y]? = some e := fun y hy => hm y (List.mem_cons_of_mem _ hy)
      rw [he]
      dsimp only
      split
      · refine wpAny_bind (wpAny_dictEpoch ho hd (wpAny_bind (hat x e he _ (wpAny_bind (wpAny_dictEpoch ho hd ?_)))))
        show wpAny _ _ (if (ep != ep) = true then _ else _) _ E _
        rw [if_neg (by simp)]
        simp only [Bool.false_eq_true, if_false]
        refine wpAny_bind (wpAny_rule ?_)
        first | rw [if_neg (by simp)] | skip
        first
          | exact wpAny_pure ⟨rfl, rfl, hm'⟩
          | exact wpAny_bind (wpAny_pure (wpAny_pure ⟨rfl, rfl, hm'⟩))
      · exact wpAny_pure ⟨rfl, rfl, hm'⟩
    · rintro b s' ⟨rfl, rfl, _⟩
      exact wpAny_pure hq
theorem setItem_absent {d : Addr} {o : Obj} {es : Array DictEntry} {ep : Nat} {key v : Value} {k : NestedKey} {Q : Unit → Shared → Prop} (hu : A.units + 16 < cLine) (ho : s.heap.get? d = some o) (hx : o.ExactDict) (hd : o.data = .dict es ep)
    (hs : ∀ e ∈ es, ∃ x t, e.key = .str x t) (hkey : NestedIs s.heap k key) (hk : (k = .none) ∨ ∃ ks, k = .tup ks) (hdep : k.depth ≤ 8) (hsz : es.size ≤ sizeLine)
    (hq : ∀ h' ep' tk, h'.DictRaw d (es.push ⟨k.hash w, key, v⟩) ep' → Heap.SameBut d s.heap h' → Q () { s with heap := h', toks := tk }) :
    wpAny (model prog w) A (setItem (.ref d) key v) Q E s := by
  have hT : s.TypeIs (.ref d) "dict" := ⟨o, ho, hx.1⟩
  unfold setItem
  try with_reducible refine wpAny_holding ?_
  refine wpAny_bind (wpAny_sequenceKey hT (by decide) ?_)
  refine wpAny_bind (wpAny_callSpecial?_slot (name := Str.ofString "__setitem__") hT slot_dict_setitem
    (wpAny_call_entry slot_dict_setitem hT entry_dict_setitem ?_ (args_dict_setitem _ _ _)))
  show wpAny _ _ (Builtin.Dict.notOrdered "__setitem__" ⟨[.ref d, key, v], []⟩ >>= _) _ _ s
  refine wpAny_bind (wpAny_notOrdered_dict hT ?_)
  show wpAny _ _ (dictSet d key v >>= _) _ _ s
  refine wpAny_bind ?_
  unfold dictSet
  try with_reducible refine wpAny_holding ?_
  have hu' : A.in1.units + k.depth < cLine := by show A.units + 1 + k.depth < cLine; omega
  refine wpAny_bind (pyHash_key k key _ s _ hkey hu' ?_)
  unfold dictSetHashed
  try with_reducible refine wpAny_holding ?_
  refine wpAny_bind (find_absent (s := { s with toks := s.toks + k.draws }) (by show A.units + 1 + 0 < cLine; omega) ho hd hs hkey hk hdep ?_)
  refine wpAny_bind (wpAny_rule (wpAny_updateDictKeys (hz := by omega) (s := { s with toks := s.toks + k.draws }) ho hd ?_))
  refine wpAny_pure ⟨.none, rfl, wpAny_pure (hq _ (ep + 1) _ ⟨_, Heap.get?_update_self _ ho (Obj.isFreed_of_dict (Obj.data_mapDictKeys hd _)), hx.mapDictKeys _, Obj.data_mapDictKeys hd _⟩ (Heap.SameBut.update ..))⟩
end
/-- d[y] = v: a text or int; or None, or a tuple of one text, into a dict of texts -/
def rSetM : TSet := fun o i v H Q => ∃ a, o = .ref a ∧ ((∃ H', DPut H a i v H' ∧ Q H') ∨
  ∃ kvs : List (Key × V), H a = some (.dK kvs) ∧ (∀ p ∈ kvs, ∃ x, p.1 = Sum.inr x) ∧ kvs.length < sizeLine ∧ (i = .non ∨ ∃ b x, i = .ref b ∧ H b = some (.tup [.str x])) ∧
    Q (upd H a (MxO a (kvs.map (fun p => (kV p.1, p.2)) ++ [(i, v)]))))
theorem EntV.push {kvs : List (V × V)} {es : Array DictEntry} (e : EntV kvs es) {k v : V} {en : DictEntry} (rk : RelV k en.key) (rv : RelV v en.val) : EntV (kvs ++ [(k, v)]) (es.push en) := by
  refine ⟨by rw [Array.size_push, List.length_append, e.1]; rfl, fun i k' v' h => ?_⟩
  rcases Nat.lt_or_ge i kvs.length with hi | hi
  · rw [List.getElem?_append_left hi] at h
    obtain ⟨en', h1, h2⟩ := e.2 i k' v' h
    have hi' : i < es.size := by rw [e.1]; exact hi
    refine ⟨en', ?_, h2⟩
    rw [Array.getElem?_push_lt hi', ← Array.getElem?_eq_getElem hi']
    exact h1
  · rw [List.getElem?_append_right hi] at h
    have hz : i - kvs.length = 0 := by
      rcases Nat.eq_zero_or_pos (i - kvs.length) with z | z
      · exact z
      · rw [List.getElem?_eq_none (by simp; omega)] at h
        cases h
    rw [hz] at h
    cases (show some (k, v) = some (k', v') from h)
    have hi' : i = es.size := by rw [e.1]; omega
    subst hi'
    exact ⟨en, Array.getElem?_push_size, rk, rv⟩
theorem set_mix {X : Cx} (hu : X.A.units + 65 < cLine) : PSet X rSetM := by
  intro pins s σ H o i v ov iv u Q I ro ri rv h
  obtain ⟨a, eo, h⟩ := h
  subst eo
  cases (show ov = Value.ref a from ro)
  rcases h with ⟨H', g, q⟩ | ⟨kvs, e, ht, hl, hi, q⟩
  · exact d_setItem (by omega) I g ri rv fun s' I' => ⟨H', I', q⟩
  · obtain ⟨hs, hz, es, ep, hr, ent⟩ := (DM.dk kvs).raw (I.hok a _ e)
    obtain ⟨ob, ho, hx, hd⟩ := id hr
    have hstr : ∀ en ∈ es, ∃ x t, en.key = .str x t := by
      intro en hen
      obtain ⟨j, hj, rfl⟩ := Array.mem_iff_getElem.mp hen
      have hj' : j < kvs.length := by
        have := ent.1
        rw [List.length_map] at this
        omega
      obtain ⟨x, ex⟩ := ht kvs[j] (List.getElem_mem hj')
      obtain ⟨en', h1, h2, _⟩ := ent.2 j (kV kvs[j].1) kvs[j].2 (by rw [List.getElem?_map, List.getElem?_eq_getElem hj']; rfl)
      rw [Array.getElem?_eq_getElem hj] at h1
      cases h1
      rw [ex] at h2
      obtain ⟨t, h2⟩ := (show ∃ t, es[j].key = Value.str x t from h2)
      exact ⟨x, t, h2⟩
    have key : ∃ k : NestedKey, NestedIs s.heap k iv ∧ ((k = .none) ∨ ∃ ks, k = .tup ks) ∧ k.depth ≤ 8 := by
      rcases hi with rfl | ⟨b, x, rfl, hb⟩
      · cases (show iv = Value.none from ri)
        exact ⟨.none, .none, .inl rfl, by simp [NestedKey.depth]⟩
      · cases (show iv = Value.ref b from ri)
        obtain ⟨_, its, rt, o', h1, h2, n, h3⟩ := (show ObjOk X.prog X.w H s.heap b (.tup [.str x]) from I.hok b _ hb)
        refine ⟨.tup [.text x], .tup h1 h2 h3 ?_, .inr ⟨_, rfl⟩, by simp [NestedKey.depth, NestedKey.depthAll]⟩
        cases rt with
        | cons r1 r2 =>
          cases r2
          obtain ⟨t, rfl⟩ := r1
          exact .cons (.text x t) .nil
    obtain ⟨k, hk, hkk, hdep⟩ := key
    refine setItem_absent (by omega) ho hx hd hstr hk hkk hdep (by have := ent.1; rw [List.length_map] at this; omega) fun h' ep' tk hr' sb => ?_
    refine ⟨_, d_write I (by rw [e]; exact True.intro) sb (let ⟨q, hq, _⟩ := hr'; ⟨q, hq⟩) ?_, q⟩
    refine ⟨⟨hs, by rw [List.length_append, List.length_map]; show kvs.length + 1 ≤ sizeLine; omega, _, ep', hr', ent.push ri rv⟩, (let ⟨q, hq, _⟩ := hr'; ⟨q, hq⟩), fun h1 h2 p kk => ?_⟩
    obtain ⟨p1, p2, es1, ep1, r1, e1⟩ := p
    exact ⟨p1, p2, es1, ep1, r1.at kk, e1⟩
end Fn

set_option Elab.async false
set_option maxRecDepth 100000
set_option maxHeartbeats 4000000
namespace K04
open PySem PySem.Spec PyProof.Rows L2 Fn
local macro_rules | `(tactic| walk_at "ev") => `(tactic| first | exact Ev2.refl _ | assumption | (refine Ev2.trans (by assumption) ?_; walk_at "ev"))
local macro_rules | `(tactic| walk_at "sm") => `(tactic| first | exact Same.refl _ | assumption | (refine Same.trans (by assumption) ?_; walk_at "sm"))
local macro_rules | `(tactic| walk_at "dx") => `(tactic| first
  | exact DxAll.nil | exact Dx.str _ | exact Dx.int _ | exact Dx.bl _ | exact Dx.non
  | assumption
  | (refine DxAll.cons ?_ ?_ <;> walk_at "dx")
  | (refine Dx.same (by walk_at "sm") (by assumption))
  | (refine Dx.tup (Same.at (by assumption) (by walk_at "sm")) ?_; walk_at "dx")
  | (refine Dx.lst (Same.at (by assumption) (by walk_at "sm")) ?_; walk_at "dx")
  | (refine Dx.dct (Same.at (by assumption) (by walk_at "sm"))))

def top (i : Nat) : Stmt := PySem.Challenge.pw_firstneed_k04_symbols_judged.main.body.getD i (.Pass ⟨0, 0, 0, 0⟩)
abbrev s_is_integer : Stmt := top 4
abbrev N_is_integer : List Str := ["value"]
abbrev P_is_integer : List Str := ["value"]
theorem sc_is_integer : FnScope N_is_integer P_is_integer (defScope s_is_integer) := ⟨rfl, rfl, rfl, by decide +kernel, rfl, by decide +kernel, by decide +kernel⟩
abbrev s_is_word : Stmt := top 5
abbrev N_is_word : List Str := ["value", "letter"]
abbrev P_is_word : List Str := ["value"]
theorem sc_is_word : FnScope N_is_word P_is_word (defScope s_is_word) := ⟨rfl, rfl, rfl, by decide +kernel, rfl, by decide +kernel, by decide +kernel⟩
abbrev s_is_arity : Stmt := top 6
abbrev N_is_arity : List Str := ["value"]
abbrev P_is_arity : List Str := ["value"]
theorem sc_is_arity : FnScope N_is_arity P_is_arity (defScope s_is_arity) := ⟨rfl, rfl, rfl, by decide +kernel, rfl, by decide +kernel, by decide +kernel⟩
abbrev s_is_symbols : Stmt := top 7
abbrev N_is_symbols : List Str := ["value", "word", "arity"]
abbrev P_is_symbols : List Str := ["value"]
theorem sc_is_symbols : FnScope N_is_symbols P_is_symbols (defScope s_is_symbols) := ⟨rfl, rfl, rfl, by decide +kernel, rfl, by decide +kernel, by decide +kernel⟩
abbrev s__law_dice : Stmt := top 9
abbrev N__law_dice : List Str := ["_law_script", "_law_spot", "_law_cell", "_law_great", "_law_blend"]
abbrev P__law_dice : List Str := ["_law_script", "_law_spot"]
theorem sc__law_dice : FnScope N__law_dice P__law_dice (defScope s__law_dice) := ⟨rfl, rfl, rfl, by decide +kernel, rfl, by decide +kernel, by decide +kernel⟩
abbrev s__law_roll : Stmt := top 10
abbrev N__law_roll : List Str := ["_law_dice_here", "_law_total", "_law_found", "_law_one", "_law_two"]
abbrev P__law_roll : List Str := ["_law_dice_here", "_law_total"]
theorem sc__law_roll : FnScope N__law_roll P__law_roll (defScope s__law_roll) := ⟨rfl, rfl, rfl, by decide +kernel, rfl, by decide +kernel, by decide +kernel⟩
abbrev s__law_pick : Stmt := top 11
abbrev N__law_pick : List Str := ["_law_dice_here", "_law_items"]
abbrev P__law_pick : List Str := ["_law_dice_here", "_law_items"]
theorem sc__law_pick : FnScope N__law_pick P__law_pick (defScope s__law_pick) := ⟨rfl, rfl, rfl, by decide +kernel, rfl, by decide +kernel, by decide +kernel⟩
abbrev s__law_some : Stmt := top 12
abbrev N__law_some : List Str := ["_law_dice_here", "_law_items", "_law_size", "_law_left", "_law_turn"]
abbrev P__law_some : List Str := ["_law_dice_here", "_law_items", "_law_size"]
theorem sc__law_some : FnScope N__law_some P__law_some (defScope s__law_some) := ⟨rfl, rfl, rfl, by decide +kernel, rfl, by decide +kernel, by decide +kernel⟩
abbrev s__law_fits_symbols : Stmt := top 13
abbrev N__law_fits_symbols : List Str := ["_law_value", "_law_words", "_law_one", "_law_many"]
abbrev P__law_fits_symbols : List Str := ["_law_value"]
theorem sc__law_fits_symbols : FnScope N__law_fits_symbols P__law_fits_symbols (defScope s__law_fits_symbols) := ⟨rfl, rfl, rfl, by decide +kernel, rfl, by decide +kernel, by decide +kernel⟩
abbrev s__law_right : Stmt := top 14
abbrev N__law_right : List Str := ["_law_dice_here", "_law_words", "_law_some_here", "_law_found", "_law_word", "_law_key"]
abbrev P__law_right : List Str := ["_law_dice_here"]
theorem sc__law_right : FnScope N__law_right P__law_right (defScope s__law_right) := ⟨rfl, rfl, rfl, by decide +kernel, rfl, by decide +kernel, by decide +kernel⟩
abbrev s_law : Stmt := top 15
abbrev N_law : List Str := ["_law_script", "_law_spot", "_law_dice_here", "_law_turn", "_law_odd", "_law_some_here", "_law_word", "_law_one"]
abbrev P_law : List Str := ["_law_script"]
theorem sc_law : FnScope N_law P_law (defScope s_law) := ⟨rfl, rfl, rfl, by decide +kernel, rfl, by decide +kernel, by decide +kernel⟩
structure Txt (mg : Str → Option Value) : Prop where
  n_len : mg "len" = none
  n_int : mg "int" = none
  n_abs : mg "abs" = none
  n_max : mg "max" = none
  n_min : mg "min" = none
  n_isinstance : mg "isinstance" = none
  n_repr : mg "repr" = none
  n_range : mg "range" = none
  n_all : mg "all" = none
  n_any : mg "any" = none
  n_str : mg "str" = none
  n_list : mg "list" = none
  n_dict : mg "dict" = none
  n_bool : mg "bool" = none
  m_MAX_LETTERS : ∃ t, mg "MAX_LETTERS" = some (.int 8 t)
  m_MAX_ARITY : ∃ t, mg "MAX_ARITY" = some (.int 3 t)
  m_MAX_SYMBOLS : ∃ t, mg "MAX_SYMBOLS" = some (.int 8 t)
section
variable {P : Program} {w : World} {K : PySem.W.Frag} {mg : Str → Option Value} {base : Heap}
theorem ok__law_dice {f : Addr} {fd : FuncData} (F : Fun K "_law_dice" "_law_dice" s__law_dice f fd) (T : Txt mg) : FnOk P w K mg base CX0 1 f fd P__law_dice (spDice K) := by
  refine F.ok sc__law_dice (fun vs H Q E h => ?_) (fun cdv A outer s H vs Q E hr h => ?_)
  · obtain ⟨a, ns, k, rfl, _⟩ := h
    rfl
  · obtain ⟨a, ns, k, rfl, hS, hlen, h0, hk, q⟩ := h
    refine ⟨_, (pss_cons (ps_set (i := 2) sc__law_dice.nd rfl (Or.inl rfl) (pe_op op_add (pe_op op_mul pe_int (pv 1)) pe_int))
      (pss_cons (ps_if (pt_cmpR op_lt (pv 1) (pe_callB call_len_seq (by rfl) T.n_len (by decide +kernel) (pa_cons (pv 0) pa_nil)) (nomark _)) (pss_one (ps_set (i := 2) sc__law_dice.nd rfl (Or.inl rfl) (pe_ix ix_list (pv 0) (pv 1) (fun _ _ => rfl)))) pss_nil)
      (pss_cons (ps_set (i := 3) sc__law_dice.nd rfl (Or.inl rfl) (pe_op op_mod (pe_callTy call_int1 (by rfl) T.n_int (by decide +kernel) (pa_cons (pe_callB call_abs (by rfl) T.n_abs (by decide +kernel) (pa_cons (pv 2) pa_nil)) pa_nil)) (pe_op op_powW (pe_op op_powW pe_int pe_int) pe_int)))
      (pss_cons (ps_set (i := 4) sc__law_dice.nd rfl (Or.inl rfl) (pe_op op_add (pe_op op_add (pe_op op_add (pe_op op_mul (pe_op op_mod (pe_callTy call_int1 (by rfl) T.n_int (by decide +kernel) (pa_cons (pv 3) pa_nil)) pe_int) pe_int) (pe_op op_mul pe_int (pv 1))) (pe_op op_mul pe_int (pe_callTy call_int1 (by rfl) T.n_int (by decide +kernel) (pa_cons (pe_cmpR op_lt (pv 2) pe_int (nomark _)) pa_nil)))) pe_int))
      (pss_one (ps_ret (pe_lst (pa_cons (pe_callB (call_max2 rfl) (by rfl) T.n_max (by decide +kernel) (pa_cons pe_int (pa_cons (pe_op op_sub (pv 3) (pe_op op_powW pe_int pe_int)) pa_nil))) (pa_cons (pe_op op_mod (pe_callTy call_int1 (by rfl) T.n_int (by decide +kernel) (pa_cons (pv 4) pa_nil)) pe_int) (pa_cons pe_int pa_nil)))))))))), ?_⟩
    refine ⟨_, rfl, _, _, rfl, rfl, mulL (by decide), _, _, rfl, rfl, ?_⟩
    refine ⟨_, rfl, _, rfl, _, _, rfl, .inl hS, _, _, rfl, rfl, _, rfl, ?_⟩
    refine ite2 (fun hc => ?_) (fun hc => ?_)
    · have hc' := of_decide_eq_true hc
      rw [List.length_map] at hc'
      obtain ⟨c, hat⟩ := script_at h0 hc'
      refine ⟨_, rfl, _, rfl, _, _, _, _, rfl, rfl, hS, hat, ?_⟩
      refine ⟨_, rfl, _, rfl, .inl ⟨_, rfl, _, _, rfl, rfl, (powOk (by decide +kernel)), _, _, rfl, rfl, (powOk (by decide +kernel)), _, _, rfl, rfl, (modc (by decide +kernel)), ?_⟩⟩
      refine ⟨_, rfl, .inl ⟨_, rfl, _, _, rfl, rfl, (modc (by decide)), _, _, rfl, rfl, mulR (by decide), _, rfl, _, _, rfl, rfl, mulL (by decide), _, _, rfl, rfl, _, rfl, _, _, rfl, rfl, .inr ⟨_, rfl, _, _, rfl, rfl, mulL (by decide), _, _, rfl, rfl, _, _, rfl, rfl, ?_⟩⟩⟩
      refine ⟨_, rfl, _, _, rfl, rfl, (powOk (by decide +kernel)), _, _, rfl, rfl, _, _, rfl, _, rfl, .inl ⟨_, rfl, _, _, rfl, rfl, (modc (by decide)), (szr rfl), fun p hp => ?_⟩⟩
      exact q p _ hp (Ev2.new hp) (fun _ hb => upd_ne hb) ⟨_, _, _, upd_same⟩
    · generalize 53 * k + 29 = c
      refine ⟨_, rfl, _, rfl, .inl ⟨_, rfl, _, _, rfl, rfl, (powOk (by decide +kernel)), _, _, rfl, rfl, (powOk (by decide +kernel)), _, _, rfl, rfl, (modc (by decide +kernel)), ?_⟩⟩
      refine ⟨_, rfl, .inl ⟨_, rfl, _, _, rfl, rfl, (modc (by decide)), _, _, rfl, rfl, mulR (by decide), _, rfl, _, _, rfl, rfl, mulL (by decide), _, _, rfl, rfl, _, rfl, _, _, rfl, rfl, .inr ⟨_, rfl, _, _, rfl, rfl, mulL (by decide), _, _, rfl, rfl, _, _, rfl, rfl, ?_⟩⟩⟩
      refine ⟨_, rfl, _, _, rfl, rfl, (powOk (by decide +kernel)), _, _, rfl, rfl, _, _, rfl, _, rfl, .inl ⟨_, rfl, _, _, rfl, rfl, (modc (by decide)), (szr rfl), fun p hp => ?_⟩⟩
      exact q p _ hp (Ev2.new hp) (fun _ hb => upd_ne hb) ⟨_, _, _, upd_same⟩
theorem ok__law_roll {f : Addr} {fd : FuncData} (F : Fun K "_law_roll" "_law_roll" s__law_roll f fd) (T : Txt mg) : FnOk P w K mg base CX0 1 f fd P__law_roll spRoll := by
  refine F.ok sc__law_roll (fun vs H Q E h => ?_) (fun cdv A outer s H vs Q E hr h => ?_)
  · obtain ⟨p, n, rfl, _⟩ := h
    rfl
  · obtain ⟨p, n, rfl, hd, h0, hn, q⟩ := h
    obtain ⟨x, y, z, hp⟩ := id hd
    have a0 : ∀ x y z : Int, atI [V.int x, .int y, .int z] 0 = some (.int x) := fun _ _ _ => rfl
    have a1 : ∀ x y z : Int, atI [V.int x, .int y, .int z] 1 = some (.int y) := fun _ _ _ => rfl
    have a2 : ∀ x y z : Int, atI [V.int x, .int y, .int z] 2 = some (.int z) := fun _ _ _ => rfl
    refine ⟨_, (pss_cons (ps_if (pt_cmpR op_gt (pe_ix ix_list (pv 0) pe_int (fun _ _ => rfl)) pe_int (nomark _)) (pss_cons (ps_set (i := 2) sc__law_roll.nd rfl (Or.inl rfl) (pe_op op_mod (pe_callTy call_int1 (by rfl) T.n_int (by decide +kernel) (pa_cons (pe_ix ix_list (pv 0) pe_int (fun _ _ => rfl)) pa_nil)) (pv 1)))
      (pss_cons (ps_asg (pe_op op_fdiv (pe_ix ix_list (pv 0) pe_int (fun _ _ => rfl)) (pv 1)) (pg_sub (pv 0) pe_int set_list))
      (pss_one (ps_ret (pv 2))))) pss_nil)
      (pss_cons (ps_asg (pe_op op_add (pe_ix ix_list (pv 0) pe_int (fun _ _ => rfl)) pe_int) (pg_sub (pv 0) pe_int set_list))
      (pss_cons (ps_set (i := 3) sc__law_roll.nd rfl (Or.inl rfl) (pe_op op_mod (pe_callTy call_int1 (by rfl) T.n_int (by decide +kernel) (pa_cons (pe_op op_add (pe_ix ix_list (pv 0) pe_int (fun _ _ => rfl)) (pe_op op_mul pe_int (pe_ix ix_list (pv 0) pe_int (fun _ _ => rfl)))) pa_nil)) pe_int))
      (pss_cons (ps_set (i := 4) sc__law_roll.nd rfl (Or.inl rfl) (pe_op op_add (pe_op op_mul (pe_op op_mod (pe_callTy call_int1 (by rfl) T.n_int (by decide +kernel) (pa_cons (pe_op op_mul (pv 3) (pv 3)) pa_nil)) pe_int) (pv 3)) (pe_op op_mul pe_int (pe_ix ix_list (pv 0) pe_int (fun _ _ => rfl)))))
      (pss_cons (ps_set (i := 4) sc__law_roll.nd rfl (Or.inl rfl) (pe_op op_mod (pe_callTy call_int1 (by rfl) T.n_int (by decide +kernel) (pa_cons (pv 4) pa_nil)) pe_int))
      (pss_one (ps_ret (pe_op op_mod (pe_callTy call_int1 (by rfl) T.n_int (by decide +kernel) (pa_cons (pe_op op_fdiv (pv 4) pe_int) pa_nil)) (pv 1))))))))), ?_⟩
    refine ⟨_, rfl, _, _, _, _, rfl, rfl, SqL.of hp, a0 _ _ _, _, _, rfl, rfl, _, rfl, ?_⟩
    refine ite2 (fun hc => ?_) (fun hc => ?_)
    · refine ⟨_, rfl, _, _, _, _, rfl, rfl, SqL.of hp, a0 _ _ _, .inl ⟨_, rfl, _, rfl, _, _, rfl, rfl, (modc h0), ?_⟩⟩
      refine ⟨_, rfl, _, _, _, _, rfl, rfl, SqL.of hp, a0 _ _ _, _, rfl, _, _, rfl, rfl, ⟨h0, by omega⟩, _, rfl, _, _, _, _, rfl, rfl, hp, rfl, ?_⟩
      refine ⟨_, rfl, ?_⟩
      exact q _ _ (Int.emod_nonneg _ (by omega)) (Int.emod_lt_of_pos _ h0) (hd.set _ _ _).1 (hd.set _ _ _).2.1 (hd.set _ _ _).2.2
    · refine ⟨_, rfl, _, _, _, _, rfl, rfl, SqL.of hp, a2 _ _ _, _, _, rfl, rfl, _, rfl, _, _, _, _, rfl, rfl, hp, rfl, ?_⟩
      have hp2 : (upd H p (dl x y (z + 1))) p = some (dl x y (z + 1)) := upd_same
      refine ⟨_, rfl, _, _, _, _, rfl, rfl, SqL.of hp2, a1 _ _ _, _, rfl, _, _, _, _, rfl, rfl, SqL.of hp2, a2 _ _ _, _, _, rfl, rfl, mulL (by decide), _, _, rfl, rfl, .inl ⟨_, rfl, _, _, rfl, rfl, (modc (by decide)), ?_⟩⟩
      have b1 := Int.emod_nonneg (y + 998244341 * (z + 1)) (b := 2305843009213693951) (by decide)
      have b2 := Int.emod_lt_of_pos (y + 998244341 * (z + 1)) (b := 2305843009213693951) (by decide)
      generalize (y + 998244341 * (z + 1)) % 2305843009213693951 = one at b1 b2
      refine ⟨_, rfl, _, rfl, _, _, rfl, rfl, mulL (by omega), .inl ⟨_, rfl, _, _, rfl, rfl, (modc (by decide)), _, rfl, _, _, rfl, rfl, mulR (by omega), _, rfl, _, _, _, _, rfl, rfl, SqL.of hp2, a2 _ _ _, _, _, rfl, rfl, mulL (by decide), _, _, rfl, rfl, ?_⟩⟩
      refine ⟨_, rfl, .inl ⟨_, rfl, _, _, rfl, rfl, (modc (by decide)), ?_⟩⟩
      refine ⟨_, rfl, _, _, rfl, rfl, ⟨by decide, by decide⟩, .inl ⟨_, rfl, _, rfl, _, _, rfl, rfl, (modc h0), ?_⟩⟩
      exact q _ _ (Int.emod_nonneg _ (by omega)) (Int.emod_lt_of_pos _ h0) (hd.set _ _ _).1 (hd.set _ _ _).2.1 (hd.set _ _ _).2.2
theorem ok__law_pick {f : Addr} {fd : FuncData} (F : Fun K "_law_pick" "_law_pick" s__law_pick f fd) (T : Txt mg) {f__law_roll : Addr} {fd__law_roll : FuncData} (G__law_roll : FnOk P w K mg base CX0 1 f__law_roll fd__law_roll P__law_roll spRoll) (C__law_roll : Cal K mg "_law_roll" f__law_roll fd__law_roll P__law_roll) : FnOk P w K mg base CX0 2 f fd P__law_pick (spPick K) := by
  refine F.ok sc__law_pick (fun vs H Q E h => ?_) (fun cdv A outer s H vs Q E hr h => ?_)
  · obtain ⟨p, a, xs, rfl, _⟩ := h
    rfl
  · obtain ⟨p, a, xs, rfl, hp, hS, hS2, h0, hn, q⟩ := h
    refine ⟨_, (pss_one (ps_ret (pe_ix ix_list (pv 1) (pe_call G__law_roll (hr.mono (by decide)) rfl C__law_roll.m C__law_roll.k C__law_roll.b .nil pass0 (pa_cons (pv 0) (pa_cons (pe_callB call_len_seq (by rfl) T.n_len (by decide +kernel) (pa_cons (pv 1) pa_nil)) pa_nil))) (fun _ _ => rfl)))), ?_⟩
    refine ⟨_, rfl, _, rfl, _, rfl, _, _, rfl, .inl hS, ?_⟩
    refine ⟨p, _, rfl, hp, by omega, by omega, fun r H' r0 r1 e1 o1 d1 => ?_⟩
    have hlt : r.toNat < xs.length := by omega
    have hat : atI xs ((r.toNat : Nat) : Int) = some xs[r.toNat] := atI_nat (List.getElem?_eq_getElem hlt)
    rw [show ((r.toNat : Nat) : Int) = r by omega] at hat
    exact ⟨_, _, _, _, rfl, rfl, hS2 _ e1 o1, hat, q _ _ _ (List.getElem?_eq_getElem hlt) e1 o1 d1⟩

def spA (f : PyData → Bool) : Sp := fun vs H Q _ => ∃ v d, vs = [v] ∧ Dx H v d ∧ Q (.bl (f d)) H
abbrev spInt := spA isIntD
theorem ok_is_integer {f : Addr} {fd : FuncData} (F : Fun K "is_integer" "is_integer" s_is_integer f fd) (T : Txt mg) : FnOk P w K mg base CX0 1 f fd P_is_integer spInt := by
  refine F.ok sc_is_integer (fun vs H Q E h => ?_) (fun cdv A outer s H vs Q E hr h => ?_)
  · obtain ⟨v, d, rfl, _⟩ := h
    rfl
  · obtain ⟨v, d, rfl, hv, q⟩ := h
    refine ⟨_, (pss_one (ps_ret (pe_and (pe_callB call_isi (by rfl) T.n_isinstance (by decide +kernel) (pa_cons (pv 0) (pa_cons (pe_bltn (v := .ty "int") rfl T.n_int (by decide +kernel) rfl) pa_nil))) (pe_and (pe_not (pe_callB call_isi (by rfl) T.n_isinstance (by decide +kernel) (pa_cons (pv 0) (pa_cons (pe_bltn (v := .ty "bool") rfl T.n_bool (by decide +kernel) rfl) pa_nil)))) (pe_one (pe_cmpR op_lt (pe_callB call_abs (by rfl) T.n_abs (by decide +kernel) (pa_cons (pv 0) pa_nil)) (pe_op op_powW pe_int pe_int) (nomark _))))))), ?_⟩
    refine ⟨_, rfl, _, _, _, _, _, rfl, .ty _, hv.ty, kit_int d, _, rfl, ?_⟩
    cases hv with
    | int i =>
      refine iteT ?_
      refine ⟨_, rfl, _, _, _, _, false, rfl, .ty _, .base (.int i), (kit_ty (by decide +kernel)), _, rfl, _, rfl, ?_⟩
      refine iteT ?_
      refine ⟨_, rfl, _, rfl, _, _, rfl, rfl, (powOk (by decide +kernel)), _, _, rfl, rfl, ?_⟩
      exact q
    | bl b =>
      refine iteT ?_
      refine ⟨_, rfl, _, _, _, _, true, rfl, .ty _, .base (.bl b), (kit_ty (by decide +kernel)), _, rfl, _, rfl, ?_⟩
      refine iteF ?_
      exact q
    | _ => exact iteF q

def spWord : Sp := fun vs H Q _ => ∃ v d, vs = [v] ∧ Dx H v d ∧ (∀ x, d = .str x → x.length ≤ 100000) ∧ ∀ H', Same H H' → Q (.bl (isWordD d)) H'
theorem ok_is_word {f : Addr} {fd : FuncData} (F : Fun K "is_word" "is_word" s_is_word f fd) (T : Txt mg) : FnOk P w K mg base CX0 1 f fd P_is_word spWord := by
  refine F.ok sc_is_word (fun vs H Q E h => ?_) (fun cdv A outer s H vs Q E hr h => ?_)
  · obtain ⟨v, d, rfl, _⟩ := h
    rfl
  · obtain ⟨v, d, rfl, hv, hz, q⟩ := h
    refine ⟨_, (pss_cons (ps_if (PW.pt (pw_or (pt_not (pt_val (pe_callB call_isi (by rfl) T.n_isinstance (by decide +kernel) (pa_cons (pv 0) (pa_cons (pe_bltn (v := .ty "str") rfl T.n_str (by decide +kernel) rfl) pa_nil))))) (pw_or1 (pt_not (pt_chain op_le op_le pe_int (pe_callB call_len_str (by rfl) T.n_len (by decide +kernel) (pa_cons (pv 0) pa_nil)) (pe_glob (v := .int 8) rfl T.m_MAX_LETTERS.choose_spec ⟨_, rfl⟩)))))) (pss_one (ps_ret pe_bl)) pss_nil)
      (pss_one (ps_ret (pe_callB (cr_all rfl) (by rfl) T.n_all (by decide +kernel) (pa_cons (pe_lc (own := [("letter", 1)]) (g := gName 1) (tt := tYes) rfl sc_is_word.nd (pi_str (pv 0)) (blkOk_by (own := [("letter", 1)]) (N := ["value", "letter"]) (sc := (defScope s_is_word)) (by decide +kernel)) (fun _ _ _ _ _ => (pg_name (i := 1) sc_is_word.nd rfl (Or.inl rfl))) (fun _ _ _ _ _ => pts_nil) (fun _ _ _ _ _ => (pe_chain op_le_str op_le_str pe_str (pv 1) pe_str))) pa_nil))))), ?_⟩
    refine ⟨_, rfl, _, _, _, _, _, rfl, .ty _, hv.ty, kit_str d, _, rfl, ?_⟩
    cases hv with
    | str x =>
      have hx := hz x rfl
      refine iteF ?_
      refine ⟨_, rfl, _, rfl, Nat.le_trans hx (by decide), _, _, rfl, rfl, _, rfl, ?_⟩
      refine ite2 (fun h1 => ?_) (fun h1 => ?_)
      · refine ⟨_, _, rfl, rfl, _, rfl, ?_⟩
        have h1' := of_decide_eq_true h1
        by_cases h2 : (x.length : Int) ≤ 8
        · rw [decide_eq_true h2]
          refine iteF ?_
          have hl : isWordD (.str x) = ((x.cps.toList.map lowZ).all id) := by
            show ((decide (1 ≤ x.length) && decide (x.length ≤ 8)) && x.cps.toList.all lowZ) = _
            rw [decide_eq_true (show 1 ≤ x.length by omega), decide_eq_true (show x.length ≤ 8 by omega), List.all_map]
            rfl
          refine ⟨_, rfl, _, rfl, fun D hD => lc_it (walk_str (z := x)) (fun i H' => Same H H' ∧ H' D = some (.lst ((x.cps.toList.take i).map fun c => V.bl (lowZ c))))
            ⟨fun b o e => by rw [upd_ne (ne_of_none e hD)]; exact e, upd_same⟩ (fun _ _ _ _ => trivial) ?_ ?_⟩
          · rintro i v H1 H2 hi ⟨sm, hl1⟩ ⟨rfl, c, hc, rfl⟩
            refine ⟨rfl, ?_⟩
            have hlen : ((x.cps.toList.take i).map fun c => V.bl (lowZ c)).length < sizeLine := szlt (by
              have ecs : x.cps.size = x.length := rfl
              rw [List.length_map, List.length_take, Array.length_toList]
              omega)
            have hc2 : x.cps.toList[i]? = some c := by rw [Array.getElem?_toList]; exact hc
            have fin : Same H (upd H2 D (.lst (((x.cps.toList.take i).map fun c => V.bl (lowZ c)) ++ [V.bl (lowZ c)]))) ∧ (upd H2 D (.lst (((x.cps.toList.take i).map fun c => V.bl (lowZ c)) ++ [V.bl (lowZ c)]))) D = some (.lst ((x.cps.toList.take (i + 1)).map fun c => V.bl (lowZ c))) := by
              refine ⟨fun b o e => by rw [upd_ne (ne_of_none e hD)]; exact sm b o e, ?_⟩
              rw [upd_same, List.take_add_one, List.map_append, hc2]
              rfl
            have e : lowZ c = ((!decide ([c] < [97])) && (!decide ([122] < [c]))) := rfl
            refine ⟨_, rfl, _, _, rfl, rfl, _, rfl, ?_⟩
            refine ite2 (fun g1 => ?_) (fun g1 => ?_)
            · refine ⟨_, _, rfl, rfl, ?_⟩
              have g2 : lowZ c = !decide ([122] < [c]) := by
                rw [e, show (!decide ([c] < [97])) = true from g1, Bool.true_and]
              rw [g2] at fin
              exact ⟨_, hl1, hlen, fin⟩
            · have g2 : lowZ c = false := by
                rw [e, show (!decide ([c] < [97])) = false from Bool.eq_false_iff.mpr g1, Bool.false_and]
              rw [g2] at fin
              exact ⟨_, hl1, hlen, fin⟩
          · rintro H1 ⟨sm, hl1⟩
            rw [List.take_of_length_le (by rw [Array.length_toList] <;> exact Nat.le_refl _)] at hl1
            refine ⟨_, x.cps.toList.map lowZ, rfl, SqL.of (by rw [hl1, List.map_map]; rfl), ?_⟩
            rw [← hl]
            exact q H1 sm
        · rw [decide_eq_false h2]
          refine iteT ?_
          have hl : isWordD (.str x) = false := by
            show ((decide (1 ≤ x.length) && decide (x.length ≤ 8)) && x.cps.toList.all lowZ) = false
            rw [decide_eq_false (show ¬ x.length ≤ 8 by omega), Bool.and_false, Bool.false_and]
          rw [hl] at q
          exact q H (Same.refl H)
      · have h1' := of_decide_eq_false (Bool.eq_false_iff.mpr h1)
        refine ⟨_, rfl, ?_⟩
        refine iteT ?_
        have hl : isWordD (.str x) = false := by
          show ((decide (1 ≤ x.length) && decide (x.length ≤ 8)) && x.cps.toList.all lowZ) = false
          rw [decide_eq_false (show ¬ 1 ≤ x.length by omega), Bool.false_and, Bool.false_and]
        rw [hl] at q
        exact q H (Same.refl H)
    | _ => exact iteT (q H (Same.refl H))

theorem ok_is_arity {f : Addr} {fd : FuncData} (F : Fun K "is_arity" "is_arity" s_is_arity f fd) (T : Txt mg) {f_is_integer : Addr} {fd_is_integer : FuncData} (G_is_integer : FnOk P w K mg base CX0 1 f_is_integer fd_is_integer P_is_integer spInt) (C_is_integer : Cal K mg "is_integer" f_is_integer fd_is_integer P_is_integer) : FnOk P w K mg base CX0 2 f fd P_is_arity (spA isArityD) := by
  refine F.ok sc_is_arity (fun vs H Q E h => ?_) (fun cdv A outer s H vs Q E hr h => ?_)
  · obtain ⟨v, d, rfl, _⟩ := h
    rfl
  · obtain ⟨v, d, rfl, hv, q⟩ := h
    refine ⟨_, (pss_one (ps_ret (pe_and (pe_call G_is_integer (hr.mono (by decide)) rfl C_is_integer.m C_is_integer.k C_is_integer.b .nil pass0 (pa_cons (pv 0) pa_nil)) (pe_one (pe_chain op_le op_le pe_int (pv 0) (pe_glob (v := .int 3) rfl T.m_MAX_ARITY.choose_spec ⟨_, rfl⟩)))))), ?_⟩
    refine ⟨_, rfl, _, _, rfl, hv, _, rfl, ?_⟩
    refine ite2 (fun g => ?_) (fun g => ?_)
    · cases hv with
      | int i =>
        refine ⟨_, rfl, _, _, rfl, rfl, _, rfl, ?_⟩
        refine ite2 (fun h1 => ?_) (fun h1 => ?_)
        · refine ⟨_, _, rfl, rfl, ?_⟩
          have e : isArityD (.int i) = decide (i ≤ 3) := by
            show (isIntD (.int i) && (decide (0 ≤ i) && decide (i ≤ 3))) = _
            rw [g, show decide (0 ≤ i) = true from h1, Bool.true_and, Bool.true_and]
          rw [e] at q
          exact q
        · have e : isArityD (.int i) = false := by
            show (isIntD (.int i) && (decide (0 ≤ i) && decide (i ≤ 3))) = _
            rw [show decide (0 ≤ i) = false from Bool.eq_false_iff.mpr h1, Bool.false_and, Bool.and_false]
          rw [e] at q
          exact q
      | _ => cases g
    · have e : isArityD d = false := by
        cases d with
        | int i =>
          show (isIntD (.int i) && (decide (0 ≤ i) && decide (i ≤ 3))) = _
          rw [Bool.eq_false_iff.mpr g, Bool.false_and]
        | _ => rfl
      rw [e] at q
      exact q

theorem ok__law_some {f : Addr} {fd : FuncData} (F : Fun K "_law_some" "_law_some" s__law_some f fd) (T : Txt mg) {f__law_roll : Addr} {fd__law_roll : FuncData} (G__law_roll : FnOk P w K mg base CX0 1 f__law_roll fd__law_roll P__law_roll spRoll) (C__law_roll : Cal K mg "_law_roll" f__law_roll fd__law_roll P__law_roll) : FnOk P w K mg base CX0 2 f fd P__law_some (spSome K) := by
  refine F.ok sc__law_some (fun vs H Q E h => ?_) (fun cdv A outer s H vs Q E hr h => ?_)
  · obtain ⟨p, a, xs, n, rfl, _⟩ := h
    rfl
  · obtain ⟨p, a, xs, n, rfl, hd, ha, h0, hn, hx, q⟩ := h
    refine ⟨_, (pss_cons (ps_set (i := 3) sc__law_some.nd rfl (Or.inr rfl) (pe_callTy call_list_of (by rfl) T.n_list (by decide +kernel) (pa_cons (pv 1) pa_nil)))
      (pss_one (ps_ret (pe_lc (own := [("_law_turn", 4)]) (g := gName 4) (tt := tYes) rfl sc__law_some.nd (pi_range1 (by rfl) T.n_range (pa_cons (pe_callB (call_min2 rfl) (by rfl) T.n_min (by decide +kernel) (pa_cons (pv 2) (pa_cons (pe_callB call_len_seq (by rfl) T.n_len (by decide +kernel) (pa_cons (pv 3) pa_nil)) pa_nil))) pa_nil)) (blkOk_by (own := [("_law_turn", 4)]) (N := ["_law_dice_here", "_law_items", "_law_size", "_law_left", "_law_turn"]) (sc := (defScope s__law_some)) (by decide +kernel)) (fun _ _ _ _ _ => (pg_name (i := 4) sc__law_some.nd rfl (Or.inl rfl))) (fun _ _ _ _ _ => pts_nil) (fun _ _ _ _ _ => (pe_bm_k (K := K) PySem.F.plainAttrs_list PySem.F.slot_list_pop PySem.F.type_list_pop mt_popAt (pv 3) (pa_cons (pe_call G__law_roll (hr.mono (by decide)) rfl C__law_roll.m C__law_roll.k C__law_roll.b .nil pass0 (pa_cons (pv 0) (pa_cons (pe_callB (call_len_k (K := K) ) (by rfl) T.n_len (by decide +kernel) (pa_cons (pv 3) pa_nil)) pa_nil))) pa_nil))))))), ?_⟩
    refine ⟨_, rfl, _, _, rfl, .inl (SqL.of ha), fun p1 n1 => ?_⟩
    generalize g1 : upd _ p1 _ = H1; obtain ⟨e1, o1, t1⟩ := made n1 g1; clear g1
    have d1 := hd.keep n1 o1
    have np1 : p1 ≠ p := (hd.ne n1).symm
    have b1 : But p H H1 := But.ofS (sameOf n1 o1)
    refine ⟨_, rfl, _, rfl, _, _, rfl, .inl (SqL.of t1), _, _, rfl, _, rfl, by split <;> omega, by split <;> omega, fun D hD => ?_⟩
    have nD1 : p1 ≠ D := ne_of_none t1 hD
    have nDp : D ≠ p := (d1.ne hD).symm
    generalize hm : (if (xs.length : Int) < n then (xs.length : Int) else n) = m
    have hm0 : 0 ≤ m := by rw [← hm]; split <;> omega
    have hm1 : m ≤ xs.length := by rw [← hm]; split <;> omega
    refine lc_range (lo := 0) (n := m.toNat) (fun i H' => ∃ ys zs, But p H H' ∧ Dc H' p ∧ H' D = some (.lst ys) ∧ H' p1 = some (.lst zs) ∧ (ys ++ zs).Perm xs ∧ ys.length = i)
      ⟨[], xs, b1.trans (But.ofS (sameOf hD fun b hb => upd_ne hb)), d1.keep hD (fun b hb => upd_ne hb), upd_same, by rw [upd_ne nD1]; exact t1, by simp, rfl⟩ ?_ ?_
    · rintro i H2 hi ⟨ys, zs, b2, d2, tD, tl, hp, hl⟩
      have hzl : zs.length = xs.length - i := by
        have := hp.length_eq
        rw [List.length_append] at this
        omega
      refine ⟨rfl, ?_⟩
      refine ⟨_, rfl, (.inl ⟨rfl, _, SqL.of tl⟩), _, rfl, _, rfl, _, _, rfl, .inl (SqL.of tl), p, _, rfl, d2, by omega, by omega, fun r H3 r0 r1 e3 u3 d3 => ?_⟩
      have tl3 := (u3 p1 np1).trans tl
      have tD3 := (u3 D nDp).trans tD
      have hr : r.toNat < zs.length := by omega
      have hget : zs[r.toNat]? = some zs[r.toNat] := List.getElem?_eq_getElem hr
      have hix : seqIndex? r zs.length = some r.toNat := by
        unfold seqIndex?
        simp [show ¬ r < 0 by omega, show 0 ≤ r by omega, hr, r1]
      refine ⟨_, _, _, _, _, rfl, rfl, tl3, by omega, by omega, hix, hget, ?_⟩
      generalize g4 : upd H3 p1 _ = H4
      have tl4 : H4 p1 = some (.lst (zs.eraseIdx r.toNat)) := by subst g4; exact upd_same
      have o4 : ∀ b, b ≠ p1 → H4 b = H3 b := by subst g4; exact fun b hb => upd_ne hb
      have tD4 := (o4 D nD1.symm).trans tD3
      refine ⟨ys, tD4, szlt (by omega), ys ++ [zs[r.toNat]], zs.eraseIdx r.toNat, ?_, ?_, upd_same, by rw [upd_ne nD1]; exact tl4, ?_, by rw [List.length_append, hl]; rfl⟩
      · intro b o nb hb
        have hbD : b ≠ D := ne_of_none (b1 b o nb hb) hD
        have hb1 : b ≠ p1 := ne_of_none hb n1
        rw [upd_ne hbD, o4 b hb1, u3 b nb]
        exact b2 b o nb hb
      · obtain ⟨x, y, z, h⟩ := d3
        exact ⟨x, y, z, by rw [upd_ne nDp.symm, o4 p np1.symm]; exact h⟩
      · refine List.Perm.trans ?_ hp
        rw [List.append_assoc]
        exact List.Perm.append_left _ (perm_erase hr)
    · rintro H2 ⟨ys, zs, b2, d2, tD, tl, hp, hl⟩
      have lD : H D = none := e1.fresh hD
      exact q D ys zs H2 b2 d2 lD nDp tD hp (by omega)

/-! ### pairs of data -/
mutual
theorem dx_tups {H H' : Hp} (t : ∀ (b : Addr) (xs : List V), H b = some (.tup xs) → H' b = some (.tup xs)) : ∀ {d : PyData} {v : V}, Dx H v d → listfree d = true → dictfree d = true → Dx H' v d
  | .none, _, h, _, _ => by cases h; exact .non
  | .bool b, _, h, _, _ => by cases h; exact .bl b
  | .int i, _, h, _, _ => by cases h; exact .int i
  | .str x, _, h, _, _ => by cases h; exact .str x
  | .list ds, _, h, f, _ => by
    simp only [listfree] at f
    cases f
  | .tuple ds, _, h, f, g => by
    cases h with
    | tup h1 h2 => exact .tup (t _ _ h1) (dxAll_tups t h2 (by simpa only [listfree] using f) (by simpa only [dictfree] using g))
  | .dict kvs, _, h, _, g => by
    simp only [dictfree] at g
    cases g
theorem dxAll_tups {H H' : Hp} (t : ∀ (b : Addr) (xs : List V), H b = some (.tup xs) → H' b = some (.tup xs)) : ∀ {ds : List PyData} {vs : List V}, DxAll H vs ds → listfreeAll ds = true → dictfreeAll ds = true → DxAll H' vs ds
  | [], _, h, _, _ => by cases h; exact .nil
  | d :: ds, _, h, f, g => by
    simp only [listfreeAll, Bool.and_eq_true] at f
    simp only [dictfreeAll, Bool.and_eq_true] at g
    cases h with
    | cons h1 h2 => exact .cons (dx_tups t h1 f.1 g.1) (dxAll_tups t h2 f.2 g.2)
end
def okK (d : PyData) : Bool := listfree d && (dictfree d && (match d with | .str x => decide (x.length ≤ 100000) | _ => true))
theorem okK.a {d : PyData} (h : okK d = true) : listfree d = true ∧ dictfree d = true ∧ ∀ x, d = .str x → x.length ≤ 100000 := by
  simp only [okK, Bool.and_eq_true] at h
  refine ⟨h.1, h.2.1, ?_⟩
  rintro x rfl
  exact of_decide_eq_true h.2.2
def PxAll (H : Hp) (kvs : List (V × V)) (ds : List (PyData × PyData)) : Prop := kvs.length = ds.length ∧ ∀ (i : Nat) (k v : V), kvs[i]? = some (k, v) → ∃ a b, ds[i]? = some (a, b) ∧ Dx H k a ∧ Dx H v b
theorem PxAll.tups {H H' : Hp} (t : ∀ (b : Addr) (xs : List V), H b = some (.tup xs) → H' b = some (.tup xs)) {kvs : List (V × V)} {ds : List (PyData × PyData)} (h : PxAll H kvs ds) (ok : ∀ p ∈ ds, okK p.1 = true ∧ okK p.2 = true) : PxAll H' kvs ds := by
  refine ⟨h.1, fun i k v e => ?_⟩
  obtain ⟨a, b, hd, xa, xb⟩ := h.2 i k v e
  obtain ⟨o1, o2⟩ := ok _ (List.mem_of_getElem? hd)
  exact ⟨a, b, hd, dx_tups t xa (okK.a o1).1 (okK.a o1).2.1, dx_tups t xb (okK.a o2).1 (okK.a o2).2.1⟩
def isSymD (ds : List (PyData × PyData)) : Bool := (decide (1 ≤ ds.length) && decide (ds.length ≤ 8)) && ((ds.all fun p => isWordD p.1 && isArityD p.2) && ds.any fun p => PyData.eqv p.2 (.int 0))
theorem eqv_int0 (i : Int) : PyData.eqv (.int i) (.int 0) = decide (V.int i = V.int 0) := by
  by_cases z : i = 0
  · subst z
    rfl
  · rw [decide_eq_false (fun w => z (V.int.inj w))]
    simp [PyData.eqv, z]
theorem same_unlock {H H' : Hp} {a : Addr} {od : Obj} {u : HO} (h : H a = some u) (s : Same (upd H a (.frz od u)) H') : Same H (upd H' a u) := fun b o e => by
  by_cases hb : b = a
  · subst hb
    rw [h] at e
    rw [upd_same]
    exact e
  · rw [upd_ne hb]
    exact s _ _ (by rw [upd_ne hb]; exact e)
theorem tups_lock {H H' : Hp} {a : Addr} {od : Obj} {u : HO} (h : H a = some u) (mu : Mut (some u)) (s : Same (upd H a (.frz od u)) H') : ∀ (b : Addr) (xs : List V), H b = some (.tup xs) → H' b = some (.tup xs) := fun b xs e => by
  have hb : b ≠ a := by
    rintro rfl
    rw [h] at e
    cases e
    exact mu
  exact s _ _ (by rw [upd_ne hb]; exact e)
theorem arity_int {v : V} {d : PyData} {H : Hp} (h : Dx H v d) (a : isArityD d = true) : ∃ i, v = .int i ∧ d = .int i := by
  cases h with
  | int i => exact ⟨i, rfl, rfl⟩
  | _ => cases a
def spSym : Sp := fun vs H Q _ => ∃ v, vs = [v] ∧ ((∃ d, Dx H v d ∧ (tyN d == "dict") = false ∧ Q (.bl false) H) ∨
  ∃ a u kvs ds, v = .ref a ∧ H a = some u ∧ DM a u kvs ∧ PxAll H kvs ds ∧ (∀ p ∈ ds, okK p.1 = true ∧ okK p.2 = true) ∧ ds.length ≤ 1000 ∧ ∀ H', Same H H' → Q (.bl (isSymD ds)) H')
theorem ok_is_symbols {f : Addr} {fd : FuncData} (F : Fun K "is_symbols" "is_symbols" s_is_symbols f fd) (T : Txt mg) {f_is_word : Addr} {fd_is_word : FuncData} (G_is_word : FnOk P w K mg base CX0 1 f_is_word fd_is_word P_is_word spWord) (C_is_word : Cal K mg "is_word" f_is_word fd_is_word P_is_word) {f_is_arity : Addr} {fd_is_arity : FuncData} (G_is_arity : FnOk P w K mg base CX0 2 f_is_arity fd_is_arity P_is_arity (spA isArityD)) (C_is_arity : Cal K mg "is_arity" f_is_arity fd_is_arity P_is_arity) : FnOk P w K mg base CX0 3 f fd P_is_symbols spSym := by
  refine F.ok sc_is_symbols (fun vs H Q E h => ?_) (fun cdv A outer s H vs Q E hr h => ?_)
  · obtain ⟨v, rfl, _⟩ := h
    rfl
  · obtain ⟨v, rfl, h⟩ := h
    refine ⟨_, (pss_cons (ps_if (PW.pt (pw_or (pt_not (pt_val (pe_callB (call_isiM (K := K)) (by rfl) T.n_isinstance (by decide +kernel) (pa_cons (pv 0) (pa_cons (pe_bltn (v := .ty "dict") rfl T.n_dict (by decide +kernel) rfl) pa_nil))))) (pw_or1 (pt_not (pt_chain op_le op_le pe_int (pe_callB call_lenM (by rfl) T.n_len (by decide +kernel) (pa_cons (pv 0) pa_nil)) (pe_glob (v := .int 8) rfl T.m_MAX_SYMBOLS.choose_spec ⟨_, rfl⟩)))))) (pss_one (ps_ret pe_bl)) pss_nil)
      (pss_cons (ps_if (pt_not (pt_val (pe_callB (cr_all rfl) (by rfl) T.n_all (by decide +kernel) (pa_cons (pe_lock (pe_lc (own := [("word", 1), ("arity", 2)]) (g := gTup K 2 (gCons (gName 1) (gCons (gName 2) gNil))) (tt := tYes) rfl sc_is_symbols.nd (pi_itemsX (pv 0)) (blkOk_by (own := [("word", 1), ("arity", 2)]) (N := ["value", "word", "arity"]) (sc := (defScope s_is_symbols)) (by decide +kernel)) (fun _ _ _ _ _ => (pg_tup_k (K := K) rfl (pgs_cons (pg_name (i := 1) sc_is_symbols.nd rfl (Or.inl rfl)) (pgs_cons (pg_name (i := 2) sc_is_symbols.nd rfl (Or.inl rfl)) pgs_nil)))) (fun _ _ _ _ _ => pts_nil) (fun _ _ _ _ _ => (pe_and (pe_call G_is_word (hr.mono (by decide)) rfl C_is_word.m C_is_word.k C_is_word.b .nil pass0 (pa_cons (pv 1) pa_nil)) (pe_one (pe_call G_is_arity (hr.mono (by decide)) rfl C_is_arity.m C_is_arity.k C_is_arity.b .nil pass0 (pa_cons (pv 2) pa_nil))))))) pa_nil)))) (pss_one (ps_ret pe_bl)) pss_nil)
      (pss_one (ps_ret (pe_callB (cr_any rfl) (by rfl) T.n_any (by decide +kernel) (pa_cons (pe_lock (pe_lc (own := [("arity", 2)]) (g := gName 2) (tt := tYes) rfl sc_is_symbols.nd (pi_valuesX (pv 0)) (blkOk_by (own := [("arity", 2)]) (N := ["value", "word", "arity"]) (sc := (defScope s_is_symbols)) (by decide +kernel)) (fun _ _ _ _ _ => (pg_name (i := 2) sc_is_symbols.nd rfl (Or.inl rfl))) (fun _ _ _ _ _ => pts_nil) (fun _ _ _ _ _ => (pe_cmpR op_eq (pv 2) pe_int (nomark _))))) pa_nil)))))), ?_⟩
    rcases h with ⟨d, hv, hd, q⟩ | ⟨a, u, kvs, ds, rfl, ha, hD, hx, ok, hl, q⟩
    · refine ⟨_, rfl, .inl ⟨_, _, _, _, _, rfl, .ty _, hv.ty, kit_dict d, _, rfl, ?_⟩⟩
      rw [hd]
      exact iteT q
    · refine ⟨_, rfl, .inr ⟨_, _, _, _, _, true, rfl, .ty _, ha, hD, kit_ty (by decide +kernel), _, rfl, ?_⟩⟩
      refine iteF ?_
      have hn := hx.1
      refine ⟨_, rfl, _, _, _, rfl, ha, hD, _, _, rfl, rfl, _, rfl, ?_⟩
      refine ite2 (fun h1 => ?_) (fun h1 => ?_)
      · refine ⟨_, _, rfl, rfl, ?_⟩
        have h1' := of_decide_eq_true h1
        refine ⟨_, rfl, ?_⟩
        by_cases h2 : (kvs.length : Int) ≤ 8
        · rw [decide_eq_true h2]
          refine iteF ?_
          have hlen : isSymD ds = ((ds.all fun p => isWordD p.1 && isArityD p.2) && ds.any fun p => PyData.eqv p.2 (.int 0)) := by
            unfold isSymD
            rw [decide_eq_true (show 1 ≤ ds.length by omega), decide_eq_true (show ds.length ≤ 8 by omega)]
            rfl
          rw [hlen] at q
          refine ⟨_, _, ha, hD.mut, fun od => ⟨_, rfl, _, _, _, _, rfl, upd_same, hD, fun D hDn => ?_⟩⟩
          have nDa : D ≠ a := by
            rintro rfl
            rw [upd_same] at hDn
            cases hDn
          refine lc_it walk_itemsX (fun i H' => Same (upd H a (.frz od u)) H' ∧ H' D = some (.lst ((ds.take i).map fun p => V.bl (isWordD p.1 && isArityD p.2)))) ⟨sameOf hDn (fun b hb => upd_ne hb), upd_same⟩ (fun i H' _ h => h.1 _ _ upd_same) ?_ ?_
          · rintro i x H1 H2 hi ⟨sm, hl1⟩ ⟨T, k, v, hkv, rfl, hT, rfl⟩
            obtain ⟨ka, vb, hd, xk, xv⟩ := hx.2 i k v hkv
            obtain ⟨o1, o2⟩ := ok _ (List.mem_of_getElem? hd)
            have o1' := okK.a o1
            have o2' := okK.a o2
            have sT : Same (upd H a (.frz od u)) (upd H1 T (.tup [k, v])) := sm.trans (sameOf hT (fun b hb => upd_ne hb))
            have tk := tups_lock ha hD.mut sT
            have xk1 := dx_tups tk xk o1'.1 o1'.2.1
            have xv1 := dx_tups tk xv o2'.1 o2'.2.1
            refine ⟨T, [k, v], rfl, SqT.of upd_same, rfl, _, _, rfl, _, _, rfl, rfl, ?_⟩
            refine ⟨rfl, ?_⟩
            refine ⟨_, rfl, k, ka, rfl, xk1, o1'.2.2, fun H3 s3 => ⟨_, rfl, ?_⟩⟩
            have hl3 : H3 D = some (.lst ((ds.take i).map fun p => V.bl (isWordD p.1 && isArityD p.2))) := s3 _ _ (keepAt hl1 hT (fun b hb => upd_ne hb))
            have fin : ∀ b : Bool, b = (isWordD ka && isArityD vb) → (∃ acc, H3 D = some (.lst acc) ∧ acc.length < sizeLine ∧ (Same (upd H a (.frz od u)) (upd H3 D (.lst (acc ++ [V.bl b]))) ∧ (upd H3 D (.lst (acc ++ [V.bl b]))) D = some (.lst ((ds.take (i + 1)).map fun p => V.bl (isWordD p.1 && isArityD p.2))))) := by
              rintro b rfl
              refine ⟨_, hl3, szlt (by rw [List.length_map, List.length_take]; omega), fun c o e => ?_, ?_⟩
              · rw [upd_ne (ne_of_none e hDn)]
                exact s3 _ _ (sT _ _ e)
              · rw [upd_same, List.take_add_one, List.map_append, hd]
                rfl
            refine ite2 (fun g => ?_) (fun g => ?_)
            · exact ⟨_, rfl, v, vb, rfl, xv1.same s3, fin _ (by rw [g, Bool.true_and])⟩
            · exact fin _ (by rw [Bool.eq_false_iff.mpr g, Bool.false_and])
          · rintro H9 ⟨sm, hl1⟩
            rw [hn, List.take_of_length_le (Nat.le_refl _)] at hl1
            have sU : Same H (upd H9 a u) := same_unlock ha sm
            have hl2 : (upd H9 a u) D = some (.lst (ds.map fun p => V.bl (isWordD p.1 && isArityD p.2))) := by
              rw [upd_ne nDa]
              exact hl1
            refine ⟨sm _ _ upd_same, D, ds.map fun p => isWordD p.1 && isArityD p.2, rfl, SqL.of (by rw [hl2, List.map_map]; rfl), _, rfl, ?_⟩
            have ea : (ds.map fun p => isWordD p.1 && isArityD p.2).all id = ds.all fun p => isWordD p.1 && isArityD p.2 := by
              rw [List.all_map]
              rfl
            rw [ea]
            cases hall : ds.all fun p => isWordD p.1 && isArityD p.2 with
            | false =>
              rw [hall, Bool.false_and] at q
              exact iteT (q _ sU)
            | true =>
              rw [hall, Bool.true_and] at q
              refine iteF ?_
              generalize hH : upd H9 a u = G at sU
              have ga : G a = some u := by rw [← hH]; exact upd_same
              clear hH sm hl1 hl2
              have hxG : PxAll G kvs ds := hx.tups (fun b xs e => sU _ _ e) ok
              refine ⟨_, _, ga, hD.mut, fun od2 => ⟨_, rfl, _, _, _, _, rfl, upd_same, hD, fun D2 hD2 => ?_⟩⟩
              have nDa2 : D2 ≠ a := by
                rintro rfl
                rw [upd_same] at hD2
                cases hD2
              refine lc_it walk_valsX (fun i H' => Same (upd G a (.frz od2 u)) H' ∧ H' D2 = some (.lst ((ds.take i).map fun p => V.bl (PyData.eqv p.2 (.int 0))))) ⟨sameOf hD2 (fun b hb => upd_ne hb), upd_same⟩ (fun i H' _ h => h.1 _ _ upd_same) ?_ ?_
              · rintro i x H1 H2 hi ⟨sm, hl1⟩ ⟨rfl, k, hkv⟩
                obtain ⟨ka, vb, hd, xk, xv⟩ := hxG.2 i k x hkv
                have hw := List.all_eq_true.mp hall _ (List.mem_of_getElem? hd)
                rw [Bool.and_eq_true] at hw
                obtain ⟨j, rfl, rfl⟩ := arity_int xv hw.2
                refine ⟨rfl, ?_⟩
                refine ⟨_, rfl, rfl, ?_⟩
                refine ⟨_, hl1, szlt (by rw [List.length_map, List.length_take]; omega), fun c o e => ?_, ?_⟩
                · rw [upd_ne (ne_of_none e hD2)]
                  exact sm _ _ e
                · rw [upd_same, List.take_add_one, List.map_append, hd, ← eqv_int0]
                  rfl
              · rintro H8 ⟨sm, hl1⟩
                rw [hn, List.take_of_length_le (Nat.le_refl _)] at hl1
                have sV : Same G (upd H8 a u) := same_unlock ga sm
                have hl2 : (upd H8 a u) D2 = some (.lst (ds.map fun p => V.bl (PyData.eqv p.2 (.int 0)))) := by
                  rw [upd_ne nDa2]
                  exact hl1
                refine ⟨sm _ _ upd_same, D2, ds.map fun p => PyData.eqv p.2 (.int 0), rfl, SqL.of (by rw [hl2, List.map_map]; rfl), ?_⟩
                have eb : (ds.map fun p => PyData.eqv p.2 (.int 0)).any id = ds.any fun p => PyData.eqv p.2 (.int 0) := by
                  rw [List.any_map]
                  rfl
                rw [eb]
                exact q _ (sU.trans sV)
        · rw [decide_eq_false h2]
          refine iteT ?_
          have hlen : isSymD ds = false := by
            unfold isSymD
            rw [decide_eq_false (show ¬ ds.length ≤ 8 by omega), Bool.and_false, Bool.false_and]
          rw [hlen] at q
          exact q H (Same.refl H)
      · have h1' := of_decide_eq_false (Bool.eq_false_iff.mpr h1)
        refine ⟨_, rfl, ?_⟩
        refine iteT ?_
        have hlen : isSymD ds = false := by
          unfold isSymD
          rw [decide_eq_false (show ¬ 1 ≤ ds.length by omega), Bool.false_and, Bool.false_and]
        rw [hlen] at q
        exact q H (Same.refl H)
/-! ### the law's own look -/
def wordsD : List PyData := [.str "a", .str "b", .str "c", .str "f", .str "g", .str "k", .str "cons", .str "nil", .str "zzzzzzzz", .str "o", .str "s"]
def wordsV : List V := [.str "a", .str "b", .str "c", .str "f", .str "g", .str "k", .str "cons", .str "nil", .str "zzzzzzzz", .str "o", .str "s"]
def keysD : List PyData := wordsD ++ [.str "_", .str "", .str "F", .int 0, .none, .str "abcdefghi", .tuple [.str "a"]]
def valsD : List PyData := [.int 0, .int 1, .int 2, .int 3, .int 4, .int (-1), .none, .str "0", .bool true, .bool false, .tuple [.int 0]]
def inW (k : PyData) : Bool := wordsD.any fun z => PyData.eqv z k
def inA (v : PyData) : Bool := ([.int 0, .int 1, .int 2, .int 3] : List PyData).any fun z => PyData.eqv z v
def badV (v : PyData) : Bool := (tyN v == "bool") || !inA v
def flat3 (d : PyData) : Bool := d.canLay0 && decide (d.depth ≤ 3)
theorem tabK : ∀ k ∈ keysD, okK k = true ∧ flat3 k = true ∧ SeqAt.shaped k = true ∧ isWordD k = inW k := by decide +kernel
theorem tabV : ∀ v ∈ valsD, okK v = true ∧ flat3 v = true ∧ SeqAt.shaped v = true ∧ isArityD v = !badV v := by decide +kernel
theorem shaped_list : ∀ {es : List PyData}, (∀ e ∈ es, flat3 e = true) → SeqAt.shaped (.list es) = true := by
  intro es h
  have h1 : PyData.canLayAll0 es = true := by
    induction es with
    | nil => rfl
    | cons c l ih =>
      have hc := h c List.mem_cons_self
      rw [flat3, Bool.and_eq_true] at hc
      simp only [PyData.canLayAll0, Bool.and_eq_true]
      exact ⟨hc.1, ih fun c hc => h c (List.mem_cons_of_mem _ hc)⟩
  have h2 : PyData.depthAll es ≤ 3 := by
    clear h1
    induction es with
    | nil => simp [PyData.depthAll]
    | cons c l ih =>
      have hc := h c List.mem_cons_self
      rw [flat3, Bool.and_eq_true, decide_eq_true_eq] at hc
      have hl := ih fun c hc => h c (List.mem_cons_of_mem _ hc)
      simp only [PyData.depthAll]
      omega
  show (PyData.canLay0 (.list es) && decide (PyData.depth (.list es) ≤ 64)) = true
  rw [Bool.and_eq_true]
  refine ⟨by simp only [PyData.canLay0]; exact h1, decide_eq_true ?_⟩
  simp only [PyData.depth]
  omega
theorem eqv_nil (es : List PyData) : PyData.eqv (.list es) (.list []) = es.isEmpty := by
  cases es <;> simp [PyData.eqv, PyData.eqvAll]
def InTab (ds : List (PyData × PyData)) : Prop := ∀ p ∈ ds, p.1 ∈ keysD ∧ p.2 ∈ valsD
theorem InTab.ok {ds : List (PyData × PyData)} (h : InTab ds) : ∀ p ∈ ds, okK p.1 = true ∧ okK p.2 = true := fun p hp => ⟨(tabK _ (h p hp).1).1, (tabV _ (h p hp).2).1⟩
theorem sym_eq {ds : List (PyData × PyData)} (h : InTab ds) : isSymD ds = ((decide (1 ≤ ds.length) && decide (ds.length ≤ 8)) && ((((ds.map Prod.fst).filter fun k => !inW k).isEmpty) && ((((ds.map Prod.snd).filter badV).isEmpty) && (ds.map Prod.snd).any fun z => PyData.eqv z (.int 0)))) := by
  unfold isSymD
  congr 1
  rw [List.any_map, ← Bool.and_assoc]
  congr 1
  induction ds with
  | nil => rfl
  | cons p l ih =>
    have hp := h p List.mem_cons_self
    have k := (tabK _ hp.1).2.2.2
    have v := (tabV _ hp.2).2.2.2
    rw [List.all_cons, ih fun q hq => h q (List.mem_cons_of_mem _ hq), k, v, List.map_cons, List.map_cons, List.filter_cons, List.filter_cons]
    cases inW p.1 <;> cases badV p.2 <;> simp
theorem dxAll_snoc {H : Hp} : ∀ {vs : List V} {ds : List PyData} {v : V} {d : PyData}, DxAll H vs ds → Dx H v d → DxAll H (vs ++ [v]) (ds ++ [d])
  | _, _, _, _, .nil, h => .cons h .nil
  | _, _, _, _, .cons a b, h => .cons a (dxAll_snoc b h)
theorem px_snd {H : Hp} : ∀ {kvs : List (V × V)} {ds : List (PyData × PyData)}, PxAll H kvs ds → DxAll H (kvs.map Prod.snd) (ds.map Prod.snd)
  | [], [], _ => .nil
  | [], _ :: _, h => by cases h.1
  | _ :: _, [], h => by cases h.1
  | (k, v) :: kvs, (a, b) :: ds, h => by
    obtain ⟨a', b', e, x, y⟩ := h.2 0 k v rfl
    cases (show some (a, b) = some (a', b') from e)
    exact .cons y (px_snd (kvs := kvs) (ds := ds) ⟨by simpa using h.1, fun i k v e => by
      obtain ⟨a, b, e2, r⟩ := h.2 (i + 1) k v (by simpa using e)
      exact ⟨a, b, by simpa using e2, r⟩⟩)
theorem free_all {es : List PyData} (h : ∀ e ∈ es, okK e = true) : listfreeAll es = true ∧ dictfreeAll es = true := by
  induction es with
  | nil => exact ⟨rfl, rfl⟩
  | cons c l ih =>
    have hc := okK.a (h c List.mem_cons_self)
    obtain ⟨i1, i2⟩ := ih fun e he => h e (List.mem_cons_of_mem _ he)
    simp only [listfreeAll, dictfreeAll, Bool.and_eq_true]
    exact ⟨⟨hc.1, i1⟩, hc.2.1, i2⟩
def spFits : Sp := fun vs H Q _ => ∃ a u kvs ds, vs = [.ref a] ∧ H a = some u ∧ DM a u kvs ∧ PxAll H kvs ds ∧ InTab ds ∧ ds.length ≤ 1000 ∧ ∀ H', Same H H' → Q (.bl (isSymD ds)) H'
theorem ok__law_fits_symbols {f : Addr} {fd : FuncData} (F : Fun K "_law_fits_symbols" "_law_fits_symbols" s__law_fits_symbols f fd) (T : Txt mg) : FnOk P w K mg base CX0 1 f fd P__law_fits_symbols spFits := by
  refine F.ok sc__law_fits_symbols (fun vs H Q E h => ?_) (fun cdv A outer s H vs Q E hr h => ?_)
  · obtain ⟨a, u, kvs, ds, rfl, _⟩ := h
    rfl
  · obtain ⟨a, u, kvs, ds, rfl, ha, hD, hx, tab, hl, q⟩ := h
    refine ⟨_, (pss_cons (ps_set (i := 1) sc__law_fits_symbols.nd rfl (Or.inr rfl) (pe_lst (pa_cons pe_str (pa_cons pe_str (pa_cons pe_str (pa_cons pe_str (pa_cons pe_str (pa_cons pe_str (pa_cons pe_str (pa_cons pe_str (pa_cons pe_str (pa_cons pe_str (pa_cons pe_str pa_nil)))))))))))))
      (pss_cons (ps_if (PW.pt (pw_or (pt_not (pt_chain op_le op_le pe_int (pe_callB call_lenM (by rfl) T.n_len (by decide +kernel) (pa_cons (pv 0) pa_nil)) pe_int)) (pw_or1 (pt_cmpR (op_neD hr.units) (pe_lock (pe_lc (own := [("_law_one", 2)]) (g := gName 2) rfl sc__law_fits_symbols.nd (pi_keysX (pv 0)) (blkOk_by (own := [("_law_one", 2)]) (N := ["_law_value", "_law_words", "_law_one", "_law_many"]) (sc := (defScope s__law_fits_symbols)) (by decide +kernel)) (fun _ _ _ _ _ => (pg_name (i := 2) sc__law_fits_symbols.nd rfl (Or.inl rfl))) (fun _ _ _ _ _ => (pts_one (pt_cmpR (op_notInX_k (K := K) (hu65 hr)) (pv 2) (pv 1) (by first | rfl | with_unfolding_all rfl)))) (fun _ _ _ _ _ => (pv 2)))) (pe_lst pa_nil) (nomark _))))) (pss_one (ps_ret pe_bl)) pss_nil)
      (pss_cons (ps_set (i := 3) sc__law_fits_symbols.nd rfl (Or.inl rfl) (pe_listVals rfl (pv 0) (by rfl) T.n_list (by decide +kernel)))
      (pss_cons (ps_if (pt_cmpR (op_neD hr.units) (pe_lc (own := [("_law_one", 2)]) (g := gName 2) rfl sc__law_fits_symbols.nd (pi_list (pv 3)) (blkOk_by (own := [("_law_one", 2)]) (N := ["_law_value", "_law_words", "_law_one", "_law_many"]) (sc := (defScope s__law_fits_symbols)) (by decide +kernel)) (fun _ _ _ _ _ => (pg_name (i := 2) sc__law_fits_symbols.nd rfl (Or.inl rfl))) (fun _ _ _ _ _ => (pts_one (PW.pt (pw_or (pt_val (pe_callB (call_isi_k (K := K) ) (by rfl) T.n_isinstance (by decide +kernel) (pa_cons (pv 2) (pa_cons (pe_bltn (v := .ty "bool") rfl T.n_bool (by decide +kernel) rfl) pa_nil)))) (pw_or1 (pt_cmpR (op_notInX_k (K := K) (hu65 hr)) (pv 2) (pe_lst (pa_cons pe_int (pa_cons pe_int (pa_cons pe_int (pa_cons pe_int pa_nil))))) (by first | rfl | with_unfolding_all rfl))))))) (fun _ _ _ _ _ => (pv 2))) (pe_lst pa_nil) (nomark _)) (pss_one (ps_ret pe_bl)) pss_nil)
      (pss_one (ps_ret (pe_cmpR (op_inX (hu65 hr)) pe_int (pv 3) (by first | rfl | with_unfolding_all rfl)))))))), ?_⟩
    have hn := hx.1
    rw [sym_eq tab] at q
    refine ⟨(szr rfl), fun p1 n1 => ?_⟩
    generalize g1 : upd _ p1 _ = H1; obtain ⟨e1, o1, t1⟩ := made n1 g1; clear g1
    have s1 := sameOf n1 o1
    have ha1 := s1 _ _ ha
    have hx1 : PxAll H1 kvs ds := hx.tups (fun b xs e => s1 _ _ e) tab.ok
    refine ⟨_, rfl, _, _, _, rfl, ha1, hD, _, _, rfl, rfl, _, rfl, ?_⟩
    refine ite2 (fun h1 => ?_) (fun h1 => ?_)
    · refine ⟨_, _, rfl, rfl, ?_⟩
      have h1' := of_decide_eq_true h1
      refine ⟨_, rfl, ?_⟩
      by_cases h2 : (kvs.length : Int) ≤ 8
      · rw [decide_eq_true h2]
        refine iteF ?_
        rw [decide_eq_true (show 1 ≤ ds.length by omega), decide_eq_true (show ds.length ≤ 8 by omega), Bool.true_and, Bool.true_and] at q
        refine ⟨_, _, ha1, hD.mut, fun od => ⟨_, rfl, _, _, _, _, rfl, upd_same, hD, fun D hDn => ?_⟩⟩
        have nDa : D ≠ a := by
          rintro rfl
          rw [upd_same] at hDn
          cases hDn
        have tl : ∀ {H'}, Same (upd H1 a (.frz od u)) H' → ∀ (b : Addr) (xs : List V), H1 b = some (.tup xs) → H' b = some (.tup xs) := fun s => tups_lock ha1 hD.mut s
        have hp1 : p1 ≠ a := by
          rintro rfl
          rw [t1] at ha1
          have := hD.mut
          cases hD with
          | mx => cases ha1
          | dk => cases ha1
        have tW : DxAll H1 wordsV wordsD := by
          repeat' first | exact DxAll.nil | refine DxAll.cons (Dx.str _) ?_
        refine lc_it walk_keysX (fun i H' => Same (upd H1 a (.frz od u)) H' ∧ ∃ vs, H' D = some (.lst vs) ∧ DxAll H1 vs (((ds.take i).map Prod.fst).filter fun k => !inW k)) ⟨sameOf hDn (fun b hb => upd_ne hb), [], upd_same, .nil⟩ (fun i H' _ h => h.1 _ _ upd_same) ?_ ?_
        · rintro i x H2 H3 hi ⟨sm, vs, hl1, hvs⟩ ⟨rfl, v, hkv⟩
          obtain ⟨ka, vb, hd, xk, xv⟩ := hx1.2 i x v hkv
          have tb := tab _ (List.mem_of_getElem? hd)
          have K1 := tabK _ tb.1
          have o1' := okK.a K1.1
          have xk2 := dx_tups (tl sm) xk o1'.1 o1'.2.1
          have hw2 : H3 p1 = some (.lst wordsV) := sm _ _ (by rw [upd_ne hp1]; exact t1)
          have tW2 : DxAll H3 wordsV wordsD := by
            repeat' first | exact DxAll.nil | refine DxAll.cons (Dx.str _) ?_
          refine ⟨rfl, ?_⟩
          refine ⟨_, rfl, _, rfl, ka, .list wordsD, _, xk2.dp o1'.2.1, (Dx.lst hw2 tW2).dp rfl, .inl rfl, K1.2.2.1, by decide +kernel, _, rfl, ?_⟩
          have hlv : vs.length ≤ 100000 := by
            have h3 := hvs.len
            have h4 := List.length_filter_le (fun k => !inW k) ((ds.take i).map Prod.fst)
            rw [List.length_map, List.length_take] at h4
            omega
          show if (!inW ka) = true then _ else _
          cases hin : inW ka with
          | true =>
            refine iteF ⟨sm, vs, hl1, ?_⟩
            rw [List.take_add_one, List.map_append, List.filter_append, hd]
            simpa [hin] using hvs
          | false =>
            refine iteT ⟨_, rfl, vs, hl1, szlt hlv, ?_⟩
            refine ⟨fun c o e => ?_, vs ++ [x], upd_same, ?_⟩
            · rw [upd_ne (ne_of_none e hDn)]
              exact sm _ _ e
            · rw [List.take_add_one, List.map_append, List.filter_append, hd]
              simpa [hin] using dxAll_snoc hvs xk
        · rintro H9 ⟨sm, vs, hl1, hvs⟩
          rw [hn, List.take_of_length_le (Nat.le_refl _)] at hvs
          have sU : Same H1 (upd H9 a u) := same_unlock ha1 sm
          have hl2 : (upd H9 a u) D = some (.lst vs) := by
            rw [upd_ne nDa]
            exact hl1
          refine ⟨sm _ _ upd_same, (szr rfl), fun p2 n2 => ?_⟩
          generalize g2 : upd _ p2 _ = H10; obtain ⟨e2, o2, t2⟩ := made n2 g2; clear g2
          have s2 := sameOf n2 o2
          have s3 := sU.trans s2
          have okf : ∀ e ∈ ((ds.map Prod.fst).filter fun k => !inW k), e ∈ keysD := fun e he => by
            obtain ⟨p, hp, rfl⟩ := List.mem_map.mp (List.mem_filter.mp he).1
            exact (tab _ hp).1
          have fr := free_all (es := (ds.map Prod.fst).filter fun k => !inW k) fun e he => (tabK _ (okf e he)).1
          have hvs2 := dxAll_tups (fun b xs e => s3 _ _ e) hvs fr.1 fr.2
          refine ⟨_, .list [], (Dx.lst (s2 _ _ hl2) hvs2).dp (by simp only [dictfree]; exact fr.2), .lst (SqL.of t2) .nil, shaped_list fun e he => (tabK _ (okf e he)).2.1, by decide +kernel, _, rfl, ?_⟩
          rw [eqv_nil]
          cases hA : ((ds.map Prod.fst).filter fun k => !inW k).isEmpty with
          | false =>
            rw [hA, Bool.false_and] at q
            exact iteT (q _ (s1.trans s3))
          | true =>
            rw [hA, Bool.true_and] at q
            refine iteF ?_
            have ha3 : H10 a = some u := s3 _ _ ha1
            have hx3 : PxAll H10 kvs ds := hx1.tups (fun b xs e => s3 _ _ e) tab.ok
            refine ⟨_, rfl, _, _, _, rfl, ha3, hD, fun p4 n4 => ?_⟩
            generalize g4 : upd _ p4 _ = H11; obtain ⟨e4, o4, t4⟩ := made n4 g4; clear g4
            have s4 := sameOf n4 o4
            have hx4 : PxAll H11 kvs ds := hx3.tups (fun b xs e => s4 _ _ e) tab.ok
            have hsn := px_snd hx4
            have hmem : ∀ e ∈ ds.map Prod.snd, e ∈ valsD := fun e he => by
              obtain ⟨p, hp, rfl⟩ := List.mem_map.mp he
              exact (tab _ hp).2
            have frv := free_all (es := ds.map Prod.snd) fun e he => (tabV _ (hmem e he)).1
            have hlv0 : (kvs.map Prod.snd).length = ds.length := by rw [List.length_map, hn]
            refine ⟨_, rfl, _, rfl, ⟨_, SqL.of t4⟩, fun D2 hD2 => ?_⟩
            refine lc_list (K := K) (xs := kvs.map Prod.snd) (fun i H' => Same H11 H' ∧ ∃ vs, H' D2 = some (.lst vs) ∧ DxAll H11 vs (((ds.map Prod.snd).take i).filter badV)) ⟨sameOf hD2 (fun b hb => upd_ne hb), [], upd_same, .nil⟩ (fun i H' _ h => SqL.of (h.1 _ _ t4)) ?_ ?_
            · rintro i y H' hi ⟨sm, vs, hl1, hvs⟩
              obtain ⟨d, hd, xd⟩ := hsn.get hi
              have hdm := hmem d (List.mem_of_getElem? hd)
              have V1 := tabV d hdm
              have o1' := okK.a V1.1
              have xd' := xd.same sm
              have hi2 : i < ds.length := by
                have := (List.getElem?_eq_some_iff.mp hd).1
                rwa [List.length_map] at this
              have hlv : vs.length ≤ 100000 := by
                have h3 := hvs.len
                have h4 := List.length_filter_le badV ((ds.map Prod.snd).take i)
                rw [List.length_take] at h4
                omega
              have fin : ∀ H2, Same H' H2 → (if badV d = true then ∃ acc, H2 D2 = some (.lst acc) ∧ acc.length < sizeLine ∧ (Same H11 (upd H2 D2 (.lst (acc ++ [y]))) ∧ ∃ vs, (upd H2 D2 (.lst (acc ++ [y]))) D2 = some (.lst vs) ∧ DxAll H11 vs (((ds.map Prod.snd).take (i + 1)).filter badV)) else (Same H11 H2 ∧ ∃ vs, H2 D2 = some (.lst vs) ∧ DxAll H11 vs (((ds.map Prod.snd).take (i + 1)).filter badV))) := by
                intro H2 s2
                rw [List.take_add_one, List.filter_append, hd]
                cases hb : badV d with
                | true =>
                  refine iteT ⟨vs, s2 _ _ hl1, szlt hlv, fun c o e => ?_, vs ++ [y], upd_same, ?_⟩
                  · rw [upd_ne (ne_of_none e hD2)]
                    exact s2 _ _ (sm _ _ e)
                  · simpa [hb] using dxAll_snoc hvs xd
                | false =>
                  refine iteF ⟨sm.trans s2, vs, s2 _ _ hl1, ?_⟩
                  simpa [hb] using hvs
              refine ⟨rfl, ?_⟩
              refine ⟨_, rfl, _, _, _, _, _, rfl, .ty _, xd'.ty, kit_bool d, _, rfl, ?_⟩
              cases hb : (tyN d == "bool") with
              | true =>
                have hbad : badV d = true := by
                  unfold badV
                  rw [hb, Bool.true_or]
                refine iteT ?_
                have f := fin H' (Same.refl H')
                rw [hbad] at f
                exact iteT ⟨_, rfl, by rw [if_pos rfl] at f; exact f⟩
              | false =>
                refine iteF ?_
                refine ⟨_, rfl, (szr rfl), fun p5 n5 => ?_⟩
                generalize g5 : upd _ p5 _ = H5; obtain ⟨e5, o5, t5⟩ := made n5 g5; clear g5
                have s5 := sameOf n5 o5
                refine ⟨d, .list [.int 0, .int 1, .int 2, .int 3], _, (xd'.same s5).dp o1'.2.1, (Dx.lst t5 (by walk_at "dx")).dp rfl, .inl rfl, V1.2.2.1, by decide +kernel, _, rfl, ?_⟩
                have ebad : badV d = !inA d := by
                  unfold badV
                  rw [hb, Bool.false_or]
                have f := fin H5 s5
                rw [ebad] at f
                show if (!inA d) = true then _ else _
                cases hin : inA d with
                | true =>
                  rw [hin] at f
                  exact iteF (by rw [if_neg (by decide)] at f; exact f)
                | false =>
                  rw [hin] at f
                  exact iteT ⟨_, rfl, by rw [if_pos (by decide)] at f; exact f⟩
            · rintro H12 ⟨sm, vs, hl1, hvs⟩
              rw [hlv0, show (ds.map Prod.snd).take ds.length = ds.map Prod.snd from List.take_of_length_le (by rw [List.length_map]; exact Nat.le_refl _)] at hvs
              refine ⟨(szr rfl), fun p6 n6 => ?_⟩
              generalize g6 : upd _ p6 _ = H13; obtain ⟨e6, o6, t6⟩ := made n6 g6; clear g6
              have s6 := sameOf n6 o6
              have okb : ∀ e ∈ (ds.map Prod.snd).filter badV, e ∈ valsD := fun e he => hmem e (List.mem_filter.mp he).1
              have frb := free_all (es := (ds.map Prod.snd).filter badV) fun e he => (tabV _ (okb e he)).1
              have s7 := sm.trans s6
              refine ⟨_, .list [], (Dx.lst (s6 _ _ hl1) (hvs.same s7)).dp (by simp only [dictfree]; exact frb.2), .lst (SqL.of t6) .nil, shaped_list fun e he => (tabV _ (okb e he)).2.1, by decide +kernel, _, rfl, ?_⟩
              rw [eqv_nil]
              cases hB : ((ds.map Prod.snd).filter badV).isEmpty with
              | false =>
                rw [hB, Bool.false_and] at q
                exact iteT (q _ (((s1.trans s3).trans s4).trans s7))
              | true =>
                rw [hB, Bool.true_and] at q
                refine iteF ?_
                refine ⟨_, rfl, .int 0, .list (ds.map Prod.snd), _, .int 0, (Dx.lst (s7 _ _ t4) (hsn.same s7)).dp (by simp only [dictfree]; exact frv.2), .inl rfl, by decide +kernel, shaped_list fun e he => (tabV _ (hmem e he)).2.1, ?_⟩
                exact q _ (((s1.trans s3).trans s4).trans s7)
      · rw [decide_eq_false h2]
        refine iteT ?_
        rw [decide_eq_false (show ¬ ds.length ≤ 8 by omega), Bool.and_false, Bool.false_and] at q
        exact q H1 s1
    · have h1' := of_decide_eq_false (Bool.eq_false_iff.mpr h1)
      refine ⟨_, rfl, ?_⟩
      refine iteT ?_
      rw [decide_eq_false (show ¬ 1 ≤ ds.length by omega), Bool.false_and, Bool.false_and] at q
      exact q H1 s1
/-! ### a drawn dict -/
def Ent (H : Hp) (p : V × V) : Prop := ∃ a b, a ∈ keysD ∧ b ∈ valsD ∧ Dx H p.1 a ∧ Dx H p.2 b
theorem px_of {H : Hp} : ∀ {kvs : List (V × V)}, (∀ p ∈ kvs, Ent H p) → ∃ ds, PxAll H kvs ds ∧ InTab ds
  | [], _ => ⟨[], ⟨rfl, fun i k v e => by simp at e⟩, fun p hp => by cases hp⟩
  | p :: kvs, h => by
    obtain ⟨a, b, ha, hb, xa, xb⟩ := h p List.mem_cons_self
    obtain ⟨ds, hx, ht⟩ := px_of (kvs := kvs) fun q hq => h q (List.mem_cons_of_mem _ hq)
    refine ⟨(a, b) :: ds, ⟨by rw [List.length_cons, List.length_cons, hx.1], fun i k v e => ?_⟩, fun q hq => ?_⟩
    · cases i with
      | zero =>
        cases (show some p = some (k, v) from e)
        exact ⟨a, b, rfl, xa, xb⟩
      | succ i =>
        obtain ⟨a', b', h1, h2⟩ := hx.2 i k v (by simpa using e)
        exact ⟨a', b', by simpa using h1, h2⟩
    · rcases List.mem_cons.mp hq with rfl | hq
      · exact ⟨ha, hb⟩
      · exact ht q hq
theorem Ent.tups {H H' : Hp} (t : ∀ (b : Addr) (xs : List V), H b = some (.tup xs) → H' b = some (.tup xs)) {p : V × V} (h : Ent H p) : Ent H' p := by
  obtain ⟨a, b, ha, hb, xa, xb⟩ := h
  have o1 := okK.a (tabK a ha).1
  have o2 := okK.a (tabV b hb).1
  exact ⟨a, b, ha, hb, dx_tups t xa o1.1 o1.2.1, dx_tups t xb o2.1 o2.2.1⟩
/-- pairs of a word and an arity -/
def Wd (p : Key × V) : Prop := (∃ x : Str, p.1 = Sum.inr x ∧ V.str x ∈ wordsV) ∧ ∃ n : Int, p.2 = .int n ∧ V.int n ∈ [V.int 0, .int 1, .int 2, .int 3, .int 1]
theorem str_word {x : Str} (h : V.str x ∈ wordsV) : PyData.str x ∈ keysD := by
  simp only [wordsV, List.mem_cons, List.not_mem_nil, or_false, V.str.injEq] at h
  rcases h with rfl | rfl | rfl | rfl | rfl | rfl | rfl | rfl | rfl | rfl | rfl <;> simp [keysD, wordsD]
theorem int_val {n : Int} (h : V.int n ∈ [V.int 0, .int 1, .int 2, .int 3, .int 1]) : PyData.int n ∈ valsD := by
  simp only [List.mem_cons, List.not_mem_nil, or_false, V.int.injEq] at h
  rcases h with rfl | rfl | rfl | rfl | rfl <;> simp [valsD]
theorem Wd.ent {H : Hp} {p : Key × V} (h : Wd p) : Ent H (kV p.1, p.2) := by
  obtain ⟨k, v⟩ := p
  obtain ⟨⟨x, rfl, hx⟩, n, rfl, hn⟩ := h
  exact ⟨.str x, .int n, str_word hx, int_val hn, .str x, .int n⟩
theorem mem_putK {ks : List (Key × V)} {k : Key} {v : V} {p : Key × V} (h : p ∈ putK ks k v) : p ∈ ks ∨ (p.1 = k ∧ p.2 = v) := by
  unfold putK at h
  split at h
  · obtain ⟨q, hq, rfl⟩ := List.mem_map.mp h
    by_cases e : q.1 = k
    · rw [if_pos e]
      exact .inr ⟨e, rfl⟩
    · rw [if_neg e]
      exact .inl hq
  · rcases List.mem_append.mp h with h | h
    · exact .inl h
    · cases List.mem_singleton.mp h
      exact .inr ⟨rfl, rfl⟩
theorem mem_mergeK {A : Key × V → Prop} : ∀ {more ks : List (Key × V)}, (∀ p ∈ ks, A p) → (∀ p ∈ more, A p) → ∀ p ∈ mergeK ks more, A p
  | [], _, h, _, p, hp => h p hp
  | q :: more, ks, h, h2, p, hp => by
    refine mem_mergeK (more := more) (ks := putK ks q.1 q.2) (fun r hr => ?_) (fun r hr => h2 r (List.mem_cons_of_mem _ hr)) p hp
    rcases mem_putK hr with hr | ⟨e1, e2⟩
    · exact h r hr
    · obtain ⟨r1, r2⟩ := r
      cases e1
      cases e2
      exact h2 q List.mem_cons_self
theorem store_mix {G : Hp} {a : Addr} {ks : List (Key × V)} {key v : V} {Q : Hp → Prop} (hk : G a = some (.dK ks)) (ht : ∀ p ∈ ks, ∃ x, p.1 = Sum.inr x) (hl : ks.length < sizeLine)
    (hkey : (∃ k : Key, key = kV k) ∨ key = .non ∨ ∃ b x, key = .ref b ∧ G b = some (.tup [.str x]))
    (q : ∀ u kvs, DM a u kvs → kvs.length ≤ ks.length + 1 → (∀ p ∈ kvs, (∃ r ∈ ks, p = (kV r.1, r.2)) ∨ p = (key, v)) → Q (upd G a u)) : rSetM (.ref a) key v G Q := by
  refine ⟨a, rfl, ?_⟩
  rcases hkey with ⟨k, rfl⟩ | hkey
  · refine .inl ⟨_, DPut.k hk hl, q _ _ (.dk _) (by rw [List.length_map]; exact length_putK ks k v) fun p hp => ?_⟩
    obtain ⟨r, hr, rfl⟩ := List.mem_map.mp hp
    rcases mem_putK hr with hr | ⟨e1, e2⟩
    · exact .inl ⟨r, hr, rfl⟩
    · exact .inr (by rw [e1, e2])
  · refine .inr ⟨ks, hk, ht, hl, hkey, q _ _ (.mx _) (by rw [List.length_append, List.length_map]; exact Nat.le_refl _) fun p hp => ?_⟩
    rcases List.mem_append.mp hp with hp | hp
    · obtain ⟨r, hr, rfl⟩ := List.mem_map.mp hp
      exact .inl ⟨r, hr, rfl⟩
    · exact .inr (List.mem_singleton.mp hp)
theorem keepPairs {H H' : Hp} (t : ∀ (b : Addr) (xs : List V), H b = some (.tup xs) → H' b = some (.tup xs)) {ps : List Addr} {ks : List (Key × V)} (h : Paired (fun q (kv : Key × V) => H q = some (.tup [kV kv.1, kv.2])) ps ks) : Paired (fun q (kv : Key × V) => H' q = some (.tup [kV kv.1, kv.2])) ps ks :=
  Paired.mapP h fun _ _ z => t _ _ z
def spRight : Sp := fun vs H Q _ => ∃ (p : Addr), vs = [.ref p] ∧ Dc H p ∧ ∀ H', Ev2 H H' → Dc H' p → Q (.bl true) H'
theorem but_tups {p : Addr} {H H' : Hp} (d : Dc H p) (k : But p H H') : ∀ (b : Addr) (xs : List V), H b = some (.tup xs) → H' b = some (.tup xs) := fun b xs e => by
  refine k b _ ?_ e
  rintro rfl
  obtain ⟨x, y, z, h⟩ := d
  rw [h] at e
  cases e
theorem ok__law_right {f : Addr} {fd : FuncData} (F : Fun K "_law_right" "_law_right" s__law_right f fd) (T : Txt mg) {f__law_roll : Addr} {fd__law_roll : FuncData} (G__law_roll : FnOk P w K mg base CX0 1 f__law_roll fd__law_roll P__law_roll spRoll) (C__law_roll : Cal K mg "_law_roll" f__law_roll fd__law_roll P__law_roll) {f__law_pick : Addr} {fd__law_pick : FuncData} (G__law_pick : FnOk P w K mg base CX0 2 f__law_pick fd__law_pick P__law_pick (spPick K)) (C__law_pick : Cal K mg "_law_pick" f__law_pick fd__law_pick P__law_pick) {f__law_some : Addr} {fd__law_some : FuncData} (G__law_some : FnOk P w K mg base CX0 2 f__law_some fd__law_some P__law_some (spSome K)) (C__law_some : Cal K mg "_law_some" f__law_some fd__law_some P__law_some) {f_is_symbols : Addr} {fd_is_symbols : FuncData} (G_is_symbols : FnOk P w K mg base CX0 3 f_is_symbols fd_is_symbols P_is_symbols spSym) (C_is_symbols : Cal K mg "is_symbols" f_is_symbols fd_is_symbols P_is_symbols) {f__law_fits_symbols : Addr} {fd__law_fits_symbols : FuncData} (G__law_fits_symbols : FnOk P w K mg base CX0 1 f__law_fits_symbols fd__law_fits_symbols P__law_fits_symbols spFits) (C__law_fits_symbols : Cal K mg "_law_fits_symbols" f__law_fits_symbols fd__law_fits_symbols P__law_fits_symbols) : FnOk P w K mg base CX0 4 f fd P__law_right spRight := by
  refine F.ok sc__law_right (fun vs H Q E h => ?_) (fun cdv A outer s H vs Q E hr h => ?_)
  · obtain ⟨p, rfl, _⟩ := h
    rfl
  · obtain ⟨p, rfl, hp, q⟩ := h
    refine ⟨_, (pss_cons (ps_set (i := 1) sc__law_right.nd rfl (Or.inl rfl) (pe_lst (pa_cons pe_str (pa_cons pe_str (pa_cons pe_str (pa_cons pe_str (pa_cons pe_str (pa_cons pe_str (pa_cons pe_str (pa_cons pe_str (pa_cons pe_str (pa_cons pe_str (pa_cons pe_str pa_nil)))))))))))))
      (pss_cons (ps_set (i := 2) sc__law_right.nd rfl (Or.inl rfl) (pe_call G__law_some (hr.mono (by decide)) rfl C__law_some.m C__law_some.k C__law_some.b .nil pass0 (pa_cons (pv 0) (pa_cons (pv 1) (pa_cons (pe_call G__law_pick (hr.mono (by decide)) rfl C__law_pick.m C__law_pick.k C__law_pick.b .nil pass0 (pa_cons (pv 0) (pa_cons (pe_lst (pa_cons pe_int (pa_cons pe_int (pa_cons pe_int (pa_cons pe_int (pa_cons pe_int (pa_cons pe_int (pa_cons pe_int (pa_cons pe_int pa_nil))))))))) pa_nil))) pa_nil)))))
      (pss_cons (ps_set (i := 3) sc__law_right.nd rfl (Or.inl rfl) (pe_callTy (call_dictP rfl) (by rfl) T.n_dict (by decide +kernel) (pa_cons (pe_lc (own := [("_law_word", 4)]) (g := gName 4) (tt := tYes) rfl sc__law_right.nd (pi_list (pv 2)) (blkOk_by (own := [("_law_word", 4)]) (N := ["_law_dice_here", "_law_words", "_law_some_here", "_law_found", "_law_word", "_law_key"]) (sc := (defScope s__law_right)) (by decide +kernel)) (fun _ _ _ _ _ => (pg_name (i := 4) sc__law_right.nd rfl (Or.inl rfl))) (fun _ _ _ _ _ => pts_nil) (fun _ _ _ _ _ => (pe_tup (pa_cons (pv 4) (pa_cons (pe_call G__law_pick (hr.mono (by decide)) rfl C__law_pick.m C__law_pick.k C__law_pick.b .nil pass0 (pa_cons (pv 0) (pa_cons (pe_lst (pa_cons pe_int (pa_cons pe_int (pa_cons pe_int (pa_cons pe_int (pa_cons pe_int pa_nil)))))) pa_nil))) pa_nil))))) pa_nil)))
      (pss_cons (ps_if (pt_cmpR op_eq (pe_call G__law_roll (hr.mono (by decide)) rfl C__law_roll.m C__law_roll.k C__law_roll.b .nil pass0 (pa_cons (pv 0) (pa_cons pe_int pa_nil))) pe_int (nomark _)) (pss_cons (ps_set (i := 5) sc__law_right.nd rfl (Or.inl rfl) (pe_call G__law_pick (hr.mono (by decide)) rfl C__law_pick.m C__law_pick.k C__law_pick.b .nil pass0 (pa_cons (pv 0) (pa_cons (pe_op op_cat (pv 2) (pe_lst (pa_cons pe_str (pa_cons pe_str (pa_cons pe_str (pa_cons pe_int (pa_cons pe_non (pa_cons pe_str (pa_cons (pe_tup (pa_cons pe_str pa_nil)) pa_nil))))))))) pa_nil))))
      (pss_one (ps_asg (pe_call G__law_pick (hr.mono (by decide)) rfl C__law_pick.m C__law_pick.k C__law_pick.b .nil pass0 (pa_cons (pv 0) (pa_cons (pe_lst (pa_cons pe_int (pa_cons pe_int (pa_cons pe_int (pa_cons (pe_un un_neg pe_int) (pa_cons pe_non (pa_cons pe_str (pa_cons pe_bl (pa_cons pe_bl (pa_cons (pe_tup (pa_cons pe_int pa_nil)) pa_nil)))))))))) pa_nil))) (pg_sub (pv 3) (pv 5) (set_mix (hu65 hr)))))) pss_nil)
      (pss_one (ps_ret (pe_cmpR op_eq (pe_callB call_repr_b (by rfl) T.n_repr (by decide +kernel) (pa_cons (pe_call G_is_symbols (hr.mono (by decide)) rfl C_is_symbols.m C_is_symbols.k C_is_symbols.b .nil pass0 (pa_cons (pv 3) pa_nil)) pa_nil)) (pe_callB call_repr_b (by rfl) T.n_repr (by decide +kernel) (pa_cons (pe_call G__law_fits_symbols (hr.mono (by decide)) rfl C__law_fits_symbols.m C__law_fits_symbols.k C__law_fits_symbols.b .nil pass0 (pa_cons (pv 3) pa_nil)) pa_nil)) (nomark _)))))))), ?_⟩
    -- _law_words
    refine ⟨(szr rfl), fun p1 n1 => ?_⟩
    generalize g1 : upd _ p1 _ = H1; obtain ⟨e1, o1, t1⟩ := made n1 g1; clear g1
    have t1 : H1 p1 = some (.lst wordsV) := t1
    have d1 := hp.keep n1 o1
    have np1 : p1 ≠ p := (hp.ne n1).symm
    have b1 : But p H H1 := But.ofS (sameOf n1 o1)
    refine ⟨_, rfl, _, rfl, _, rfl, (szr rfl), fun p2 n2 => ?_⟩
    generalize g2 : upd _ p2 _ = H2; obtain ⟨e2, o2, t2⟩ := made n2 g2; clear g2
    have d2 := d1.keep n2 o2
    have k2 := pick_l (K := K) t2 (d1.ne n2).symm
    refine ⟨p, p2, _, rfl, d2, k2.1, k2.2, (by decide +kernel), (by decide +kernel), fun i vm G1 hv f1 u1 dG1 => ?_⟩
    have hm : ∃ m : Int, vm = .int m ∧ 0 ≤ m ∧ m ≤ 9 := by
      have hv := List.mem_of_getElem? hv
      simp only [List.mem_cons, List.not_mem_nil, or_false] at hv
      rcases hv with rfl | rfl | rfl | rfl | rfl | rfl | rfl | rfl <;> exact ⟨_, rfl, by decide, by decide⟩
    obtain ⟨m, rfl, hm0, hm9⟩ := hm
    have tG1 : G1 p1 = some (.lst wordsV) := (u1 p1 np1).trans (keepAt t1 n2 o2)
    have bG1 : But p H G1 := (b1.trans (But.ofS (sameOf n2 o2))).trans (But.of1 u1)
    refine ⟨p, p1, wordsV, m, rfl, dG1, tG1, hm0, by omega, by decide +kernel, fun l ys zs G2 bG2 dG2 nl nlp tl hperm hlen => ?_⟩
    have hyw : ∀ y ∈ ys, y ∈ wordsV := fun y hy => hperm.subset (List.mem_append_left _ hy)
    have hy9 : ys.length ≤ 9 := by
      have : (ys.length : Int) ≤ m := by
        rw [hlen]
        split <;> omega
      omega
    have bH2 : But p H G2 := bG1.trans bG2
    have lH : H l = none := by
      cases e : H l with
      | none => rfl
      | some o =>
        have := bG1 l o nlp e
        rw [nl] at this
        cases this
    clear tG1 hv t2 k2 n2 o2 e2 f1 u1 dG1 bG1 bG2 hperm hlen nl
    -- _law_found
    refine ⟨_, rfl, _, rfl, ⟨_, SqL.of tl⟩, fun D hD => ?_⟩
    have nDp : D ≠ p := (dG2.ne hD).symm
    have nDl : D ≠ l := (ne_of_none tl hD).symm
    have nlD := nDl.symm
    refine lc_list (K := K) (xs := ys) (fun i H' => ∃ (ps : List Addr) (ks : List (Key × V)), But p G2 H' ∧ Dc H' p ∧ H' D = some (.lst (ps.map V.ref)) ∧ Paired (fun q (kv : Key × V) => H' q = some (.tup [kV kv.1, kv.2])) ps ks ∧ ps.length = i ∧ ∀ r ∈ ks, Wd r)
      ⟨[], [], But.ofS (sameOf hD fun b hb => upd_ne hb), dG2.keep hD (fun b hb => upd_ne hb), upd_same, .nil, rfl, fun r hr => by cases hr⟩ (fun i H' _ h => by
        obtain ⟨ps, ks, b, _⟩ := h
        exact SqL.of (b l _ nlp tl)) ?_ ?_
    · rintro i y H3 hi ⟨ps, ks, b3, d3, tD, pr, hl, hw⟩
      have hyi := hyw y (List.mem_of_getElem? hi)
      have hys : ∃ x : Str, y = .str x := by
        simp only [wordsV, List.mem_cons, List.not_mem_nil, or_false] at hyi
        rcases hyi with rfl | rfl | rfl | rfl | rfl | rfl | rfl | rfl | rfl | rfl | rfl <;> exact ⟨_, rfl⟩
      obtain ⟨x, rfl⟩ := hys
      have hi9 : i < 9 := Nat.lt_of_lt_of_le (List.getElem?_eq_some_iff.mp hi).1 hy9
      refine ⟨rfl, ?_⟩
      refine ⟨_, rfl, _, rfl, (szr rfl), fun p4 n4 => ?_⟩
      generalize g4 : upd _ p4 _ = H4; obtain ⟨e4, o4, t4⟩ := made n4 g4; clear g4
      have k4 := pick_l (K := K) t4 (d3.ne n4).symm
      refine ⟨p, p4, _, rfl, d3.keep n4 o4, k4.1, k4.2, by decide, by decide, fun i2 v2 H5 hv2 f5 u5 d5 => ?_⟩
      have hv2 := List.mem_of_getElem? hv2
      have hvi : ∃ n : Int, v2 = .int n := by
        simp only [List.mem_cons, List.not_mem_nil, or_false] at hv2
        rcases hv2 with rfl | rfl | rfl | rfl | rfl <;> exact ⟨_, rfl⟩
      obtain ⟨n, rfl⟩ := hvi
      refine ⟨(szr rfl), fun p6 n6 => ?_⟩
      generalize g6 : upd _ p6 _ = H6; obtain ⟨e6, o6, t6⟩ := made n6 g6; clear g6
      have tD5 : H5 D = some (.lst (ps.map V.ref)) := (u5 D nDp).trans (keepAt tD n4 o4)
      have tD6 := keepAt tD5 n6 o6
      have n6D : p6 ≠ D := (ne_of_none tD5 n6).symm
      have b6 : But p G2 H6 := ((b3.trans (But.ofS (sameOf n4 o4))).trans (But.of1 u5)).trans (But.ofS (sameOf n6 o6))
      have tu : ∀ (b : Addr) (xs : List V), H3 b = some (.tup xs) → (upd H6 D (.lst (ps.map V.ref ++ [V.ref p6]))) b = some (.tup xs) := fun b xs e => by
        have hb : b ≠ D := by
          rintro rfl
          rw [tD] at e
          cases e
        rw [upd_ne hb]
        exact but_tups d3 ((((But.ofS (sameOf n4 o4)).trans (But.of1 u5))).trans (But.ofS (sameOf n6 o6))) b xs e
      refine ⟨_, tD6, szlt (by rw [List.length_map]; omega), ps ++ [p6], ks ++ [(Sum.inr x, .int n)], ?_, ?_, ?_, ?_, by rw [List.length_append, hl]; rfl, ?_⟩
      · intro b o nb hb
        rw [upd_ne (ne_of_none hb hD)]
        exact b6 b o nb hb
      · obtain ⟨x, y, z, h⟩ := d5.keep n6 o6
        exact ⟨x, y, z, by rw [upd_ne nDp.symm]; exact h⟩
      · rw [upd_same, List.map_append]
        rfl
      · refine Paired.snoc (keepPairs tu pr) ?_
        rw [upd_ne n6D]
        exact t6
      · intro r hr
        rcases List.mem_append.mp hr with hr | hr
        · exact hw r hr
        · cases List.mem_singleton.mp hr
          exact ⟨⟨x, rfl, hyi⟩, n, rfl, hv2⟩
    · rintro H3 ⟨ps, ks, b3, d3, tD, pr, hl, hw⟩
      have hl9 : ks.length ≤ 9 := by
        have := Paired.length pr
        omega
      refine ⟨D, ps, ks, rfl, SqL.of tD, Paired.mapP pr fun _ _ z => SqT.of z, fun a na => ?_⟩
      generalize ga : upd _ a _ = H4; obtain ⟨ea, oa, ta⟩ := made na ga; clear ga
      have hw2 : ∀ r ∈ mergeK [] ks, Wd r := mem_mergeK (fun r hr => by cases hr) hw
      have hl2 : (mergeK [] ks).length ≤ 9 := by
        have := length_mergeK ks []
        rw [List.length_nil] at this
        omega
      generalize mergeK [] ks = ms at ta hw2 hl2
      have b4 : But p G2 H4 := b3.trans (But.ofS (sameOf na oa))
      have d4 := d3.keep na oa
      have nap : a ≠ p := (d3.ne na).symm
      have aG : G2 a = none := by
        cases e : G2 a with
        | none => rfl
        | some o =>
          have := b3 a o nap e
          rw [na] at this
          cases this
      have aH : H a = none := by
        cases e : H a with
        | none => rfl
        | some o =>
          have := bH2 a o nap e
          rw [aG] at this
          cases this
      have tl4 : H4 l = some (.lst ys) := b4 l _ nlp tl
      have bH4 : But p H H4 := bH2.trans b4
      clear tD pr b3 d3 hD nDp nDl nlD
      -- roll
      refine ⟨_, rfl, p, 2, rfl, d4, by decide, by decide, fun r H5 r0 r1 f5 u5 d5 => ?_⟩
      have ta5 : H5 a = some (.dK ms) := (u5 a nap).trans ta
      have tl5 : H5 l = some (.lst ys) := (u5 l nlp).trans tl4
      have bH5 : But p H H5 := bH4.trans (But.of1 u5)
      have done : ∀ (G : Hp) (u : HO) (kvs : List (V × V)), But p H G → Dc G p → G a = some u → DM a u kvs → (∀ pr ∈ kvs, Ent G pr) → kvs.length ≤ 20 →
          ∃ ds, PxAll G kvs ds ∧ InTab ds ∧ ds.length ≤ 1000 ∧ ∀ G' G'', Same G G' → Same G' G'' → Ev2 H G'' ∧ Dc G'' p ∧ G' a = some u ∧ PxAll G' kvs ds := by
        intro G u kvs bG dG hG hD hE hl
        obtain ⟨ds, hx, ht⟩ := px_of hE
        refine ⟨ds, hx, ht, by have := hx.1; omega, fun G' G'' s1 s2 => ⟨?_, dG.same (s1.trans s2), s1 _ _ hG, hx.tups (fun b xs e => s1 _ _ e) ht.ok⟩⟩
        exact (bG.trans (But.ofS (s1.trans s2))).ev hp (dG.same (s1.trans s2))
      refine ⟨rfl, _, rfl, ?_⟩
      refine ite2 (fun g => ?_) (fun g => ?_)
      · -- _law_key
        refine ⟨_, rfl, _, rfl, (szr rfl), fun p4 n4 => ?_⟩
        generalize g4 : upd _ p4 _ = H6; obtain ⟨e4, o4, t4⟩ := made n4 g4; clear g4
        refine ⟨(szr rfl), fun p5 n5 => ?_⟩
        generalize g5 : upd _ p5 _ = H7; obtain ⟨e5, o5, t5⟩ := made n5 g5; clear g5
        have s67 := (sameOf n4 o4).trans (sameOf n5 o5)
        have d7 := (d5.keep n4 o4).keep n5 o5
        refine ⟨_, _, _, _, rfl, rfl, s67 _ _ tl5, t5, by show ys.length + 7 ≤ sizeLine; rw [sizeLine_eq]; omega, fun p6 n6 => ?_⟩
        generalize g6 : upd _ p6 _ = H8; obtain ⟨e6, o6, t6⟩ := made n6 g6; clear g6
        have d8 := d7.keep n6 o6
        have k8 := pick_l (K := K) t6 (d7.ne n6).symm
        have s58 := s67.trans (sameOf n6 o6)
        have t48 : H8 p4 = some (.tup [.str "a"]) := keepAt (keepAt t4 n5 o5) n6 o6
        have np4 : p4 ≠ p := (d5.ne n4).symm
        have na4 : p4 ≠ a := (ne_of_none ta5 n4).symm
        refine ⟨p, p6, _, rfl, d8, k8.1, k8.2, by rw [List.length_append]; show 0 < ys.length + 7; omega, by rw [List.length_append]; show ys.length + 7 < 1000000; omega, fun i vk H9 hvk f9 u9 d9 => ?_⟩
        have hvk := List.mem_of_getElem? hvk
        -- the value
        refine ⟨_, rfl, _, rfl, (szr rfl), fun p7 n7 => ?_⟩
        generalize g7 : upd _ p7 _ = H10; obtain ⟨e7, o7, t7⟩ := made n7 g7; clear g7
        refine ⟨(szr rfl), fun p8 n8 => ?_⟩
        generalize g8 : upd _ p8 _ = H11; obtain ⟨e8, o8, t8⟩ := made n8 g8; clear g8
        have d10 := d9.keep n7 o7
        have d11 := d10.keep n8 o8
        have k11 := pick_l (K := K) t8 (d10.ne n8).symm
        have xs : DxAll H11 [V.int 0, .int 1, .int 4, .int (-1), .non, .str "0", .bl true, .bl false, .ref p7] [.int 0, .int 1, .int 4, .int (-1), .none, .str "0", .bool true, .bool false, .tuple [.int 0]] := by
          refine .cons (.int _) (.cons (.int _) (.cons (.int _) (.cons (.int _) (.cons .non (.cons (.str _) (.cons (.bl _) (.cons (.bl _) (.cons (.tup (keepAt t7 n8 o8) (.cons (.int _) .nil)) .nil))))))))
        refine ⟨p, p8, _, rfl, d11, k11.1, k11.2, by show 0 < 9; decide, by show 9 < 1000000; decide, fun i2 vv H12 hvv f12 u12 d12 => ?_⟩
        obtain ⟨dv, hdv, xv⟩ := pick_dx xs hvv d11 u12 (by decide +kernel)
        have mdv : dv ∈ valsD := by
          have hdv := List.mem_of_getElem? hdv
          simp only [List.mem_cons, List.not_mem_nil, or_false] at hdv
          rcases hdv with rfl | rfl | rfl | rfl | rfl | rfl | rfl | rfl | rfl <;> simp [valsD]
        have b512 : But p H5 H12 := ((((But.ofS s58).trans (But.of1 u9)).trans (But.ofS (sameOf n7 o7))).trans (But.ofS (sameOf n8 o8))).trans (But.of1 u12)
        have b812 : But p H8 H12 := (((But.of1 u9).trans (But.ofS (sameOf n7 o7))).trans (But.ofS (sameOf n8 o8))).trans (But.of1 u12)
        have ta12 : H12 a = some (.dK ms) := b512 a _ nap ta5
        have t412 : H12 p4 = some (.tup [.str "a"]) := b812 p4 _ np4 t48
        have hkey : ((∃ k : Key, vk = kV k) ∨ vk = .non ∨ ∃ b x, vk = .ref b ∧ H12 b = some (.tup [.str x])) ∧ ∃ dk, dk ∈ keysD ∧ Dx H12 vk dk := by
          rcases List.mem_append.mp hvk with hy | ho
          · have hyi := hyw vk hy
            have hys : ∃ x : Str, vk = .str x := by
              simp only [wordsV, List.mem_cons, List.not_mem_nil, or_false] at hyi
              rcases hyi with rfl | rfl | rfl | rfl | rfl | rfl | rfl | rfl | rfl | rfl | rfl <;> exact ⟨_, rfl⟩
            obtain ⟨x, rfl⟩ := hys
            exact ⟨.inl ⟨Sum.inr x, rfl⟩, _, str_word hyi, .str x⟩
          · simp only [List.mem_cons, List.not_mem_nil, or_false] at ho
            rcases ho with rfl | rfl | rfl | rfl | rfl | rfl | rfl
            · exact ⟨.inl ⟨Sum.inr _, rfl⟩, _, by simp [keysD], .str _⟩
            · exact ⟨.inl ⟨Sum.inr _, rfl⟩, _, by simp [keysD], .str _⟩
            · exact ⟨.inl ⟨Sum.inr _, rfl⟩, _, by simp [keysD], .str _⟩
            · exact ⟨.inl ⟨Sum.inl 0, rfl⟩, .int 0, by simp [keysD], .int 0⟩
            · exact ⟨.inr (.inl rfl), _, by simp [keysD], .non⟩
            · exact ⟨.inl ⟨Sum.inr _, rfl⟩, _, by simp [keysD], .str _⟩
            · exact ⟨.inr (.inr ⟨_, _, rfl, t412⟩), .tuple [.str "a"], by simp [keysD], .tup t412 (.cons (.str _) .nil)⟩
        obtain ⟨hkey, dk, mdk, xk⟩ := hkey
        refine ⟨_, rfl, _, rfl, store_mix ta12 (fun r hr => (hw2 r hr).1.imp fun x h => h.1) (by rw [sizeLine_eq]; omega) hkey fun u kvs hD hlk hall => ?_⟩
        have tu : ∀ (b : Addr) (xs : List V), H12 b = some (.tup xs) → (upd H12 a u) b = some (.tup xs) := fun b xs e => by
          rw [upd_ne]
          · exact e
          · rintro rfl
            rw [ta12] at e
            cases e
        have bU : But p H (upd H12 a u) := fun b o nb hb => by
          rw [upd_ne (ne_of_none hb aH)]
          exact b512 b o nb (bH5 b o nb hb)
        have dU : Dc (upd H12 a u) p := by
          obtain ⟨x, y, z, h⟩ := d12
          exact ⟨x, y, z, by rw [upd_ne nap.symm]; exact h⟩
        obtain ⟨ds, hx, ht, hl1, fin⟩ := done (upd H12 a u) u kvs bU dU upd_same hD (fun pr hpr => by
          rcases hall pr hpr with ⟨r, hr, rfl⟩ | rfl
          · exact (hw2 r hr).ent
          · exact Ent.tups tu ⟨dk, dv, mdk, mdv, xk, xv⟩) (by omega)
        refine ⟨_, rfl, _, rfl, .inr ⟨a, u, kvs, ds, rfl, upd_same, hD, hx, ht.ok, hl1, fun H13 s13 => ?_⟩⟩
        obtain ⟨_, _, ha13, hx13⟩ := fin H13 H13 s13 (Same.refl _)
        refine ⟨_, rfl, _, rfl, a, u, kvs, ds, rfl, ha13, hD, hx13, ht, hl1, fun H14 s14 => ?_⟩
        obtain ⟨ev, dc, _, _⟩ := fin H13 H14 s13 s14
        refine ⟨_, rfl, rfl, ?_⟩
        rw [decide_eq_true rfl]
        exact q H14 ev dc
      · obtain ⟨ds, hx, ht, hl1, fin⟩ := done H5 (.dK ms) _ bH5 d5 ta5 (.dk ms) (fun pr hpr => by
          obtain ⟨r, hr, rfl⟩ := List.mem_map.mp hpr
          exact (hw2 r hr).ent) (by rw [List.length_map]; omega)
        refine ⟨_, rfl, _, rfl, .inr ⟨a, _, _, ds, rfl, ta5, .dk ms, hx, ht.ok, hl1, fun H13 s13 => ?_⟩⟩
        obtain ⟨_, _, ha13, hx13⟩ := fin H13 H13 s13 (Same.refl _)
        refine ⟨_, rfl, _, rfl, a, _, _, ds, rfl, ha13, .dk ms, hx13, ht, hl1, fun H14 s14 => ?_⟩
        obtain ⟨ev, dc, _, _⟩ := fin H13 H14 s13 s14
        refine ⟨_, rfl, rfl, ?_⟩
        rw [decide_eq_true rfl]
        exact q H14 ev dc
/-! ### the law -/
def oddD : List PyData := [.none, .int 0, .str "a", .tuple [], .list [], .tuple [.str "a", .int 0], .list [.tuple [.str "a", .int 0]], .dict [], .bool true, .tuple [.tuple [.str "a", .int 0]]]
theorem odd_ty : ∀ d ∈ oddD, d = .dict [] ∨ (tyN d == "dict") = false := by
  intro d hd
  simp only [oddD, List.mem_cons, List.not_mem_nil, or_false] at hd
  rcases hd with rfl | rfl | rfl | rfl | rfl | rfl | rfl | rfl | rfl | rfl <;> first | exact .inl rfl | exact .inr (by decide +kernel)
def scB : V → Bool
  | .non => true | .bl _ => true | .int _ => true | .str _ => true | _ => false
def sd : V → PyData
  | .bl b => .bool b | .int i => .int i | .str x => .str x | _ => .none
theorem dx_sd {H : Hp} {v : V} (h : scB v = true) : Dx H v (sd v) := by
  cases v with
  | non => exact .non
  | bl b => exact .bl b
  | int i => exact .int i
  | str x => exact .str x
  | _ => cases h
def kvD (ms : List (Key × V)) : List (PyData × PyData) := ms.map fun p => (sd (kV p.1), sd p.2)
def symB (ms : List (Key × V)) (b : Bool) : Bool := (ms.all fun p => scB (kV p.1) && scB p.2) && ((kvD ms).all fun p => okK p.1 && okK p.2) && decide (ms.length ≤ 1000) && (isSymD (kvD ms) == b)
theorem symB.use {H : Hp} {ms : List (Key × V)} {b : Bool} (h : symB ms b = true) : PxAll H (ms.map fun p => (kV p.1, p.2)) (kvD ms) ∧ (∀ p ∈ kvD ms, okK p.1 = true ∧ okK p.2 = true) ∧ (kvD ms).length ≤ 1000 ∧ isSymD (kvD ms) = b := by
  simp only [symB, Bool.and_eq_true, beq_iff_eq, decide_eq_true_eq] at h
  obtain ⟨⟨⟨h1, h2⟩, h3⟩, h4⟩ := h
  refine ⟨⟨by rw [kvD, List.length_map, List.length_map], fun i k v e => ?_⟩, fun p hp => ?_, by rw [kvD, List.length_map]; exact h3, h4⟩
  · rw [List.getElem?_map] at e
    cases hm : ms[i]? with
    | none => rw [hm] at e; cases e
    | some r =>
      rw [hm] at e
      cases (show some (kV r.1, r.2) = some (k, v) from e)
      have hs := List.all_eq_true.mp h1 r (List.mem_of_getElem? hm)
      rw [Bool.and_eq_true] at hs
      exact ⟨_, _, by rw [kvD, List.getElem?_map, hm]; rfl, dx_sd hs.1, dx_sd hs.2⟩
  · have := List.all_eq_true.mp h2 p hp
    rw [Bool.and_eq_true] at this
    exact this
def ks1 : List (Key × V) := [(Sum.inr "a", .int 0), (Sum.inr "f", .int 2)]
def ks2 : List (Key × V) := [(Sum.inr "f", .int 2)]
def ks3 : List (Key × V) := [(Sum.inr "a", .int 0)]
def ks4 : List (Key × V) := [(Sum.inr "a", .bl false)]
def ks5 : List (Key × V) := (Str.ofString "abcdefghi").cps.toList.map fun c => (Sum.inr ⟨#[c]⟩, .int 0)
def resB : List Bool := [true, false, true, false, false]
theorem sym_tab : symB (mergeK [] ks1) true = true ∧ symB (mergeK [] ks2) false = true ∧ symB (mergeK [] ks3) true = true ∧ symB (mergeK [] ks4) false = true ∧ symB (mergeK [] ks5) false = true := by decide +kernel
def Five (H : Hp) (xs : List V) : Prop := ∀ (i : Nat) (x : V), xs[i]? = some x → ∃ a ms b, x = .ref a ∧ H a = some (.dK ms) ∧ resB[i]? = some b ∧ symB ms b = true
theorem ok_law {f : Addr} {fd : FuncData} (F : Fun K "law" "law" s_law f fd) (T : Txt mg) {f__law_dice : Addr} {fd__law_dice : FuncData} (G__law_dice : FnOk P w K mg base CX0 1 f__law_dice fd__law_dice P__law_dice (spDice K)) (C__law_dice : Cal K mg "_law_dice" f__law_dice fd__law_dice P__law_dice) {f__law_right : Addr} {fd__law_right : FuncData} (G__law_right : FnOk P w K mg base CX0 4 f__law_right fd__law_right P__law_right spRight) (C__law_right : Cal K mg "_law_right" f__law_right fd__law_right P__law_right) {f_is_symbols : Addr} {fd_is_symbols : FuncData} (G_is_symbols : FnOk P w K mg base CX0 3 f_is_symbols fd_is_symbols P_is_symbols spSym) (C_is_symbols : Cal K mg "is_symbols" f_is_symbols fd_is_symbols P_is_symbols) {f__law_pick : Addr} {fd__law_pick : FuncData} (G__law_pick : FnOk P w K mg base CX0 2 f__law_pick fd__law_pick P__law_pick (spPick K)) (C__law_pick : Cal K mg "_law_pick" f__law_pick fd__law_pick P__law_pick) : FnOk P w K mg base CX0 5 f fd P_law (spLaw K) := by
  refine F.ok sc_law (fun vs H Q E h => ?_) (fun cdv A outer s H vs Q E hr h => ?_)
  · obtain ⟨a, ns, rfl, _⟩ := h
    rfl
  · obtain ⟨a, ns, rfl, hS, hlen, q⟩ := h
    refine ⟨_, (pss_cons (ps_for PassesOwn.never rfl (pi_range1 (by rfl) T.n_range (pa_cons (pe_callB (call_max2 rfl) (by rfl) T.n_max (by decide +kernel) (pa_cons pe_int (pa_cons (pe_callB (call_min2 rfl) (by rfl) T.n_min (by decide +kernel) (pa_cons pe_int (pa_cons (pe_callB call_len_seq (by rfl) T.n_len (by decide +kernel) (pa_cons (pv 0) pa_nil)) pa_nil))) pa_nil))) pa_nil)) (pg_name (i := 1) sc_law.nd rfl (Or.inl rfl)) (pss_cons (ps_set (i := 2) sc_law.nd rfl (Or.inl rfl) (pe_call G__law_dice (hr.mono (by decide)) rfl C__law_dice.m C__law_dice.k C__law_dice.b .nil pass0 (pa_cons (pv 0) (pa_cons (pv 1) pa_nil))))
      (pss_cons (ps_for PassesOwn.never rfl (pi_range1 (by rfl) T.n_range (pa_cons pe_int pa_nil)) (pg_name (i := 3) sc_law.nd rfl (Or.inl rfl)) (pss_one (ps_if (pt_not (pt_val (pe_call G__law_right (hr.mono (by decide)) rfl C__law_right.m C__law_right.k C__law_right.b .nil pass0 (pa_cons (pv 2) pa_nil)))) (pss_one (ps_ret pe_bl)) pss_nil)))
      (pss_cons (ps_set (i := 4) sc_law.nd rfl (Or.inl rfl) (pe_call G__law_pick (hr.mono (by decide)) rfl C__law_pick.m C__law_pick.k C__law_pick.b .nil pass0 (pa_cons (pv 2) (pa_cons (pe_lst (pa_cons pe_non (pa_cons pe_int (pa_cons pe_str (pa_cons (pe_tup pa_nil) (pa_cons (pe_lst pa_nil) (pa_cons (pe_tup (pa_cons pe_str (pa_cons pe_int pa_nil))) (pa_cons (pe_lst (pa_cons (pe_tup (pa_cons pe_str (pa_cons pe_int pa_nil))) pa_nil)) (pa_cons pe_dnewK (pa_cons pe_bl (pa_cons (pe_tup (pa_cons (pe_tup (pa_cons pe_str (pa_cons pe_int pa_nil))) pa_nil)) pa_nil))))))))))) pa_nil))))
      (pss_one (ps_if (pt_cmpR op_notBl (pe_call G_is_symbols (hr.mono (by decide)) rfl C_is_symbols.m C_is_symbols.k C_is_symbols.b .nil pass0 (pa_cons (pv 4) pa_nil)) pe_bl (nomark _)) (pss_one (ps_ret pe_bl)) pss_nil))))))
      (pss_cons (ps_set (i := 5) sc_law.nd rfl (Or.inl rfl) (pe_lst (pa_cons (pe_disp (pps_cons pe_str pe_int (pps_cons pe_str pe_int pps_nil)) rfl rfl (by simp) (by decide)) (pa_cons (pe_disp (pps_cons pe_str pe_int pps_nil) rfl rfl (by simp) (by decide)) (pa_cons (pe_disp (pps_cons pe_str pe_int pps_nil) rfl rfl (by simp) (by decide)) (pa_cons (pe_disp (pps_cons pe_str pe_bl pps_nil) rfl rfl (by simp) (by decide)) (pa_cons (pe_callTy (call_dictP rfl) (by rfl) T.n_dict (by decide +kernel) (pa_cons (pe_lc (own := [("_law_word", 6)]) (g := gName 6) (tt := tYes) rfl sc_law.nd (pi_str pe_str) (blkOk_by (own := [("_law_word", 6)]) (N := ["_law_script", "_law_spot", "_law_dice_here", "_law_turn", "_law_odd", "_law_some_here", "_law_word", "_law_one"]) (sc := (defScope s_law)) (by decide +kernel)) (fun _ _ _ _ _ => (pg_name (i := 6) sc_law.nd rfl (Or.inl rfl))) (fun _ _ _ _ _ => pts_nil) (fun _ _ _ _ _ => (pe_tup (pa_cons (pv 6) (pa_cons pe_int pa_nil))))) pa_nil)) pa_nil)))))))
      (pss_one (ps_ret (pe_cmpR (op_eqD hr.units) (pe_lc (own := [("_law_one", 7)]) (g := gName 7) (tt := tYes) rfl sc_law.nd (pi_list (pv 5)) (blkOk_by (own := [("_law_one", 7)]) (N := ["_law_script", "_law_spot", "_law_dice_here", "_law_turn", "_law_odd", "_law_some_here", "_law_word", "_law_one"]) (sc := (defScope s_law)) (by decide +kernel)) (fun _ _ _ _ _ => (pg_name (i := 7) sc_law.nd rfl (Or.inl rfl))) (fun _ _ _ _ _ => pts_nil) (fun _ _ _ _ _ => (pe_call G_is_symbols (hr.mono (by decide)) rfl C_is_symbols.m C_is_symbols.k C_is_symbols.b .nil pass0 (pa_cons (pv 7) pa_nil)))) (pe_lst (pa_cons pe_bl (pa_cons pe_bl (pa_cons pe_bl (pa_cons pe_bl (pa_cons pe_bl pa_nil)))))) (nomark _)))))), ?_⟩
    have hb := turns (n := (ns.map V.int).length)
    refine ⟨_, rfl, _, _, rfl, .inl hS.1, _, _, rfl, _, _, rfl, _, rfl, by omega, by omega, ?_⟩
    generalize (if (if ((ns.map V.int).length : Int) < 8 then ((ns.map V.int).length : Int) else 8) > 1 then (if ((ns.map V.int).length : Int) < 8 then ((ns.map V.int).length : Int) else 8) else 1) = m at hb
    refine for_range (lo := 0) (n := m.toNat) (fun i σ H' => ∃ a1 a2 a3 a4 a5 a6 a7, σ = [some (.ref a), a1, a2, a3, a4, a5, a6, a7] ∧ Scr K H' a (ns.map V.int)) ⟨none, none, none, none, none, none, none, rfl, hS⟩ ?_ ?_
    · rintro i σ H1 hi ⟨a1, a2, a3, a4, a5, a6, a7, rfl, hS1⟩
      refine ⟨_, rfl, _, rfl, a, ns, _, rfl, hS1.1, by omega, by omega, by omega, fun p H2 np e2 o2 d2 => ?_⟩
      refine ⟨_, rfl, by decide, by decide, ?_⟩
      refine for_range (lo := 0) (n := Int.toNat 20) (fun j σ H' => ∃ a1 a3 a4 a5 a6 a7, σ = [some (.ref a), a1, some (.ref p), a3, a4, a5, a6, a7] ∧ Scr K H' a (ns.map V.int) ∧ Dc H' p) ⟨_, _, _, _, _, _, rfl, hS1.mono e2, d2⟩ ?_ ?_
      · rintro j σ H3 hj ⟨b1, b3, b4, b5, b6, b7, rfl, hS3, d3⟩
        refine ⟨_, rfl, p, rfl, d3, fun H4 e4 d4 => ?_⟩
        refine ⟨_, rfl, ?_⟩
        exact iteF ⟨_, _, _, _, _, _, rfl, hS3.mono e4, d4⟩
      · rintro σ H3 ⟨b1, b3, b4, b5, b6, b7, rfl, hS3, d3⟩
        refine ⟨_, rfl, (szr rfl), fun p1 n1 => ?_⟩
        generalize g1 : upd _ p1 _ = H4; obtain ⟨e1, o1, t1⟩ := made n1 g1; clear g1
        refine ⟨(szr rfl), fun p2 n2 => ?_⟩
        generalize g2 : upd _ p2 _ = H5; obtain ⟨e2, o2, t2⟩ := made n2 g2; clear g2
        refine ⟨(szr rfl), fun p3 n3 => ?_⟩
        generalize g3 : upd _ p3 _ = H6; obtain ⟨e3, o3, t3⟩ := made n3 g3; clear g3
        refine ⟨(szr rfl), fun p4 n4 => ?_⟩
        generalize g4 : upd _ p4 _ = H7; obtain ⟨e4, o4, t4⟩ := made n4 g4; clear g4
        refine ⟨(szr rfl), fun p5 n5 => ?_⟩
        generalize g5 : upd _ p5 _ = H8; obtain ⟨e5, o5, t5⟩ := made n5 g5; clear g5
        refine fun p6 n6 => ?_
        generalize g6 : upd _ p6 _ = H9; obtain ⟨e6, o6, t6⟩ := made n6 g6; clear g6
        refine ⟨(szr rfl), fun p7 n7 => ?_⟩
        generalize g7 : upd _ p7 _ = H10; obtain ⟨e7, o7, t7⟩ := made n7 g7; clear g7
        refine ⟨(szr rfl), fun p8 n8 => ?_⟩
        generalize g8 : upd _ p8 _ = H11; obtain ⟨e8, o8, t8⟩ := made n8 g8; clear g8
        refine ⟨(szr rfl), fun p9 n9 => ?_⟩
        generalize g9 : upd _ p9 _ = H12; obtain ⟨e9, o9, t9⟩ := made n9 g9; clear g9
        have s1 := sameOf n1 o1
        have s2 := sameOf n2 o2
        have s3 := sameOf n3 o3
        have s4 := sameOf n4 o4
        have s5 := sameOf n5 o5
        have s6 := sameOf n6 o6
        have s7 := sameOf n7 o7
        have s8 := sameOf n8 o8
        have s9 := sameOf n9 o9
        have dl : Dc H11 p := d3.same (by walk_at "sm")
        have d12 := dl.keep n9 o9
        have k12 := pick_l (K := K) t9 (dl.ne n9).symm
        have X : DxAll H12 [V.non, .int 0, .str "a", .ref p1, .ref p2, .ref p3, .ref p5, .ref p6, .bl true, .ref p8] oddD := by
          refine .cons .non (.cons (.int _) (.cons (.str _) (.cons (.tup (Same.at t1 (by walk_at "sm")) .nil) (.cons (.lst (Same.at t2 (by walk_at "sm")) .nil) (.cons (.tup (Same.at t3 (by walk_at "sm")) (.cons (.str _) (.cons (.int _) .nil))) (.cons (.lst (Same.at t5 (by walk_at "sm")) (.cons (.tup (Same.at t4 (by walk_at "sm")) (.cons (.str _) (.cons (.int _) .nil))) .nil)) (.cons (.dct (Same.at t6 (by walk_at "sm"))) (.cons (.bl _) (.cons (.tup (Same.at t8 (by walk_at "sm")) (.cons (.tup (Same.at t7 (by walk_at "sm")) (.cons (.str _) (.cons (.int _) .nil))) .nil)) .nil)))))))))
        have e312 : Ev2 H3 H12 := Ev2.same (by walk_at "sm")
        refine ⟨p, p9, _, rfl, d12, k12.1, k12.2, (by show 0 < 10; decide), (by show 10 < 1000000; decide), fun i vo G3 hv f3 u3 dG => ?_⟩
        obtain ⟨d, hd, xd⟩ := pick_dx X hv d12 u3 (by decide +kernel)
        have md := List.mem_of_getElem? hd
        have goon : ∀ (b : Bool) (H' : Hp), b = false → Same G3 H' → (if (!decide (b = false)) = true then False else Scr K H' a (ns.map V.int)) := by
          rintro b H' rfl s
          exact iteF (hS3.mono ((e312.trans f3).trans (Ev2.same s)))
        rcases odd_ty d md with rfl | hty
        · cases xd with
          | @dct aa hda =>
            refine ⟨_, rfl, _, rfl, .inr ⟨aa, _, _, [], rfl, hda, .dk [], ⟨rfl, fun i k v e => by simp at e⟩, (fun p hp => by cases hp), by decide, fun H13 s13 => ?_⟩⟩
            refine ⟨_, _, rfl, rfl, _, rfl, ?_⟩
            exact iteF ⟨_, _, _, _, _, _, _, rfl, hS3.mono ((e312.trans f3).trans (Ev2.same s13))⟩
        · refine ⟨_, rfl, _, rfl, .inl ⟨d, xd, hty, ?_⟩⟩
          refine ⟨_, _, rfl, rfl, _, rfl, ?_⟩
          exact iteF ⟨_, _, _, _, _, _, _, rfl, hS3.mono (e312.trans f3)⟩
    · rintro σ H1 ⟨a1, a2, a3, a4, a5, a6, a7, rfl, hS1⟩
      refine fun p1 n1 => ⟨upd_same, ks1, rfl, by decide, ?_⟩
      rw [upd_upd]
      generalize g1 : upd _ p1 _ = H2; obtain ⟨e1, o1, t1⟩ := made n1 g1; clear g1
      have s1 := sameOf n1 o1
      refine fun p2 n2 => ⟨upd_same, ks2, rfl, by decide, ?_⟩
      rw [upd_upd]
      generalize g2 : upd _ p2 _ = H3; obtain ⟨e2, o2, t2⟩ := made n2 g2; clear g2
      have s2 := sameOf n2 o2
      refine fun p3 n3 => ⟨upd_same, ks3, rfl, by decide, ?_⟩
      rw [upd_upd]
      generalize g3 : upd _ p3 _ = H4; obtain ⟨e3, o3, t3⟩ := made n3 g3; clear g3
      have s3 := sameOf n3 o3
      refine fun p4 n4 => ⟨upd_same, ks4, rfl, by decide, ?_⟩
      rw [upd_upd]
      generalize g4 : upd _ p4 _ = H5; obtain ⟨e4, o4, t4⟩ := made n4 g4; clear g4
      have s4 := sameOf n4 o4
      refine ⟨_, rfl, fun D hD => ?_⟩
      refine lc_it (walk_str (z := Str.ofString "abcdefghi")) (fun i H' => ∃ ps : List Addr, Same H5 H' ∧ H' D = some (.lst (ps.map V.ref)) ∧ Paired (fun q (kv : Key × V) => H' q = some (.tup [kV kv.1, kv.2])) ps (((Str.ofString "abcdefghi").cps.toList.take i).map fun c => ((Sum.inr ⟨#[c]⟩ : Key), V.int 0)))
        ⟨[], sameOf hD (fun b hb => upd_ne hb), upd_same, .nil⟩ (fun _ _ _ _ => trivial) ?_ ?_
      · rintro i v H6 H7 hi ⟨ps, sm, hl1, pr⟩ ⟨rfl, c, hc, rfl⟩
        have hc2 : (Str.ofString "abcdefghi").cps.toList[i]? = some c := by rw [Array.getElem?_toList]; exact hc
        have hi9 : i < 9 := hi
        have hpl := Paired.length pr
        rw [List.length_map, List.length_take] at hpl
        refine ⟨rfl, ?_⟩
        refine ⟨_, rfl, (szr rfl), fun p6 n6 => ?_⟩
        generalize g6 : upd _ p6 _ = H8; obtain ⟨e6, o6, t6⟩ := made n6 g6; clear g6
        have hl8 := keepAt hl1 n6 o6
        have n6D : p6 ≠ D := (ne_of_none hl1 n6).symm
        refine ⟨_, hl8, szlt (by rw [List.length_map]; omega), ps ++ [p6], fun b o e => ?_, ?_, ?_⟩
        · rw [upd_ne (ne_of_none e hD)]
          exact sameOf n6 o6 _ _ (sm _ _ e)
        · rw [upd_same, List.map_append]
          rfl
        · rw [List.take_add_one, List.map_append, hc2]
          refine Paired.snoc (keepPairs (fun b xs e => ?_) pr) ?_
          · have hb : b ≠ D := by
              rintro rfl
              rw [hl1] at e
              cases e
            rw [upd_ne hb]
            exact keepAt e n6 o6
          · rw [upd_ne n6D]
            exact t6
      · rintro H6 ⟨ps, sm, hl1, pr⟩
        rw [List.take_of_length_le (by rw [Array.length_toList] <;> exact Nat.le_refl _)] at pr
        refine ⟨D, ps, ks5, rfl, SqL.of hl1, Paired.mapP pr fun _ _ z => SqT.of z, fun p5 n5 => ?_⟩
        generalize g5 : upd _ p5 _ = H7; obtain ⟨e5, o5, t5⟩ := made n5 g5; clear g5
        have s5 := sameOf n5 o5
        have five : Five H7 [.ref p1, .ref p2, .ref p3, .ref p4, .ref p5] := by
          intro i x e
          have T := sym_tab
          match i with
          | 0 => cases (show some (V.ref p1) = some x from e); exact ⟨_, _, _, rfl, Same.at t1 (by walk_at "sm"), rfl, T.1⟩
          | 1 => cases (show some (V.ref p2) = some x from e); exact ⟨_, _, _, rfl, Same.at t2 (by walk_at "sm"), rfl, T.2.1⟩
          | 2 => cases (show some (V.ref p3) = some x from e); exact ⟨_, _, _, rfl, Same.at t3 (by walk_at "sm"), rfl, T.2.2.1⟩
          | 3 => cases (show some (V.ref p4) = some x from e); exact ⟨_, _, _, rfl, Same.at t4 (by walk_at "sm"), rfl, T.2.2.2.1⟩
          | 4 => cases (show some (V.ref p5) = some x from e); exact ⟨_, _, _, rfl, Same.at t5 (by walk_at "sm"), rfl, T.2.2.2.2⟩
          | i + 5 => simp at e
        refine ⟨(szr rfl), fun p7 n7 => ?_⟩
        generalize g7 : upd _ p7 _ = H8; obtain ⟨e7, o7, t7⟩ := made n7 g7; clear g7
        have s7 := sameOf n7 o7
        refine ⟨_, rfl, _, rfl, ⟨_, SqL.of t7⟩, fun D2 hD2 => ?_⟩
        refine lc_list (K := K) (xs := [V.ref p1, .ref p2, .ref p3, .ref p4, .ref p5]) (fun i H' => Same H8 H' ∧ H' D2 = some (.lst ((resB.take i).map V.bl))) ⟨sameOf hD2 (fun b hb => upd_ne hb), upd_same⟩ (fun i H' _ h => SqL.of (h.1 _ _ t7)) ?_ ?_
        · rintro i y H' hi ⟨sm2, hl⟩
          obtain ⟨aa, ms, b, rfl, ha, hb, hB⟩ := five i y hi
          obtain ⟨u1, u2, u3, u4⟩ := symB.use (H := H') hB
          refine ⟨rfl, ?_⟩
          refine ⟨_, rfl, _, rfl, .inr ⟨aa, _, _, _, rfl, sm2 _ _ (s7 _ _ ha), .dk ms, u1, u2, u3, fun H9 s9 => ?_⟩⟩
          rw [u4]
          refine ⟨_, s9 _ _ hl, szlt (by rw [List.length_map, List.length_take]; show min i 5 ≤ 100000; omega), fun b o e => ?_, ?_⟩
          · rw [upd_ne (ne_of_none e hD2)]
            exact s9 _ _ (sm2 _ _ e)
          · rw [upd_same, List.take_add_one, List.map_append, hb]
            rfl
        · rintro H9 ⟨sm2, hl⟩
          refine ⟨(szr rfl), fun p8 n8 => ?_⟩
          generalize g8 : upd _ p8 _ = H10; obtain ⟨e8, o8, t8⟩ := made n8 g8; clear g8
          have hl' := keepAt hl n8 o8
          refine ⟨_, _, .lst (SqL.of hl') (.cons (.bl _) (.cons (.bl _) (.cons (.bl _) (.cons (.bl _) (.cons (.bl _) .nil))))), .lst (SqL.of t8) (.cons (.bl _) (.cons (.bl _) (.cons (.bl _) (.cons (.bl _) (.cons (.bl _) .nil))))), by decide +kernel, by decide +kernel, ?_⟩
          rw [show PyData.eqv (.list [.bool true, .bool false, .bool true, .bool false, .bool false]) (.list [.bool true, .bool false, .bool true, .bool false, .bool false]) = true by decide +kernel]
          exact q H10
end
theorem all_mk {l : PySem.W.OpenLaw} {w : World} {K : PySem.W.Frag} {h : Heap} {mg : Str → Option Value} {fa f_is_integer f_is_word f_is_arity f_is_symbols f__law_dice f__law_roll f__law_pick f__law_some f__law_fits_symbols f__law_right f_law : Addr} (X : K.In h) (G : h.Ns mainGlobals mg) (hfa : mg "law" = some (.ref fa))
    {od0 an0 od1 an1 od2 an2 od3 an3 od4 an4 od5 an5 od6 an6 od7 an7 od8 an8 od9 an9 od10 an10 : Option Addr} {sl0 sl1 sl2 sl3 sl4 sl5 sl6 sl7 sl8 sl9 sl10 : Array (Option Value)} {oc0 kV0 dc0 pm0 cd0 ct0 oc1 kV1 dc1 pm1 cd1 ct1 oc2 kV2 dc2 pm2 cd2 ct2 oc3 kV3 dc3 pm3 cd3 ct3 oc4 kV4 dc4 pm4 cd4 ct4 oc5 kV5 dc5 pm5 cd5 ct5 oc6 kV6 dc6 pm6 cd6 ct6 oc7 kV7 dc7 pm7 cd7 ct7 oc8 kV8 dc8 pm8 cd8 ct8 oc9 kV9 dc9 pm9 cd9 ct9 oc10 kV10 dc10 pm10 cd10 ct10 : Value}
    (a0 : PySem.W.nsIn K mainGlobals "is_integer" = some (some (.ref f_is_integer))) (l0 : K.lookup f_is_integer = some ⟨oc0, od0, .func (PySem.W.fnOf "is_integer" "is_integer" (defArgs s_is_integer) (defBody s_is_integer) (defScope s_is_integer) .none kV0 dc0 pm0 an0 cd0 ct0), sl0⟩) (c0 : PySem.W.codeIn K cd0 "is_integer" = true) (k0 : PySem.W.keepIn K (.ref f_is_integer) = true)
    (a1 : PySem.W.nsIn K mainGlobals "is_word" = some (some (.ref f_is_word))) (l1 : K.lookup f_is_word = some ⟨oc1, od1, .func (PySem.W.fnOf "is_word" "is_word" (defArgs s_is_word) (defBody s_is_word) (defScope s_is_word) .none kV1 dc1 pm1 an1 cd1 ct1), sl1⟩) (c1 : PySem.W.codeIn K cd1 "is_word" = true) (k1 : PySem.W.keepIn K (.ref f_is_word) = true)
    (a2 : PySem.W.nsIn K mainGlobals "is_arity" = some (some (.ref f_is_arity))) (l2 : K.lookup f_is_arity = some ⟨oc2, od2, .func (PySem.W.fnOf "is_arity" "is_arity" (defArgs s_is_arity) (defBody s_is_arity) (defScope s_is_arity) .none kV2 dc2 pm2 an2 cd2 ct2), sl2⟩) (c2 : PySem.W.codeIn K cd2 "is_arity" = true) (k2 : PySem.W.keepIn K (.ref f_is_arity) = true)
    (a3 : PySem.W.nsIn K mainGlobals "is_symbols" = some (some (.ref f_is_symbols))) (l3 : K.lookup f_is_symbols = some ⟨oc3, od3, .func (PySem.W.fnOf "is_symbols" "is_symbols" (defArgs s_is_symbols) (defBody s_is_symbols) (defScope s_is_symbols) .none kV3 dc3 pm3 an3 cd3 ct3), sl3⟩) (c3 : PySem.W.codeIn K cd3 "is_symbols" = true) (k3 : PySem.W.keepIn K (.ref f_is_symbols) = true)
    (a4 : PySem.W.nsIn K mainGlobals "_law_dice" = some (some (.ref f__law_dice))) (l4 : K.lookup f__law_dice = some ⟨oc4, od4, .func (PySem.W.fnOf "_law_dice" "_law_dice" (defArgs s__law_dice) (defBody s__law_dice) (defScope s__law_dice) .none kV4 dc4 pm4 an4 cd4 ct4), sl4⟩) (c4 : PySem.W.codeIn K cd4 "_law_dice" = true) (k4 : PySem.W.keepIn K (.ref f__law_dice) = true)
    (a5 : PySem.W.nsIn K mainGlobals "_law_roll" = some (some (.ref f__law_roll))) (l5 : K.lookup f__law_roll = some ⟨oc5, od5, .func (PySem.W.fnOf "_law_roll" "_law_roll" (defArgs s__law_roll) (defBody s__law_roll) (defScope s__law_roll) .none kV5 dc5 pm5 an5 cd5 ct5), sl5⟩) (c5 : PySem.W.codeIn K cd5 "_law_roll" = true) (k5 : PySem.W.keepIn K (.ref f__law_roll) = true)
    (a6 : PySem.W.nsIn K mainGlobals "_law_pick" = some (some (.ref f__law_pick))) (l6 : K.lookup f__law_pick = some ⟨oc6, od6, .func (PySem.W.fnOf "_law_pick" "_law_pick" (defArgs s__law_pick) (defBody s__law_pick) (defScope s__law_pick) .none kV6 dc6 pm6 an6 cd6 ct6), sl6⟩) (c6 : PySem.W.codeIn K cd6 "_law_pick" = true) (k6 : PySem.W.keepIn K (.ref f__law_pick) = true)
    (a7 : PySem.W.nsIn K mainGlobals "_law_some" = some (some (.ref f__law_some))) (l7 : K.lookup f__law_some = some ⟨oc7, od7, .func (PySem.W.fnOf "_law_some" "_law_some" (defArgs s__law_some) (defBody s__law_some) (defScope s__law_some) .none kV7 dc7 pm7 an7 cd7 ct7), sl7⟩) (c7 : PySem.W.codeIn K cd7 "_law_some" = true) (k7 : PySem.W.keepIn K (.ref f__law_some) = true)
    (a8 : PySem.W.nsIn K mainGlobals "_law_fits_symbols" = some (some (.ref f__law_fits_symbols))) (l8 : K.lookup f__law_fits_symbols = some ⟨oc8, od8, .func (PySem.W.fnOf "_law_fits_symbols" "_law_fits_symbols" (defArgs s__law_fits_symbols) (defBody s__law_fits_symbols) (defScope s__law_fits_symbols) .none kV8 dc8 pm8 an8 cd8 ct8), sl8⟩) (c8 : PySem.W.codeIn K cd8 "_law_fits_symbols" = true) (k8 : PySem.W.keepIn K (.ref f__law_fits_symbols) = true)
    (a9 : PySem.W.nsIn K mainGlobals "_law_right" = some (some (.ref f__law_right))) (l9 : K.lookup f__law_right = some ⟨oc9, od9, .func (PySem.W.fnOf "_law_right" "_law_right" (defArgs s__law_right) (defBody s__law_right) (defScope s__law_right) .none kV9 dc9 pm9 an9 cd9 ct9), sl9⟩) (c9 : PySem.W.codeIn K cd9 "_law_right" = true) (k9 : PySem.W.keepIn K (.ref f__law_right) = true)
    (a10 : PySem.W.nsIn K mainGlobals "law" = some (some (.ref f_law))) (l10 : K.lookup f_law = some ⟨oc10, od10, .func (PySem.W.fnOf "law" "law" (defArgs s_law) (defBody s_law) (defScope s_law) .none kV10 dc10 pm10 an10 cd10 ct10), sl10⟩) (c10 : PySem.W.codeIn K cd10 "law" = true) (k10 : PySem.W.keepIn K (.ref f_law) = true)
    {t_MAX_LETTERS t_MAX_ARITY t_MAX_SYMBOLS : Tok}
    (z0 : PySem.W.nsIn K mainGlobals "len" = some none)
    (z1 : PySem.W.nsIn K mainGlobals "int" = some none)
    (z2 : PySem.W.nsIn K mainGlobals "abs" = some none)
    (z3 : PySem.W.nsIn K mainGlobals "max" = some none)
    (z4 : PySem.W.nsIn K mainGlobals "min" = some none)
    (z5 : PySem.W.nsIn K mainGlobals "isinstance" = some none)
    (z6 : PySem.W.nsIn K mainGlobals "repr" = some none)
    (z7 : PySem.W.nsIn K mainGlobals "range" = some none)
    (z8 : PySem.W.nsIn K mainGlobals "all" = some none)
    (z9 : PySem.W.nsIn K mainGlobals "any" = some none)
    (z10 : PySem.W.nsIn K mainGlobals "str" = some none)
    (z11 : PySem.W.nsIn K mainGlobals "list" = some none)
    (z12 : PySem.W.nsIn K mainGlobals "dict" = some none)
    (z13 : PySem.W.nsIn K mainGlobals "bool" = some none)
    (z14 : PySem.W.nsIn K mainGlobals "MAX_LETTERS" = some (some (.int 8 t_MAX_LETTERS)))
    (z15 : PySem.W.nsIn K mainGlobals "MAX_ARITY" = some (some (.int 3 t_MAX_ARITY)))
    (z16 : PySem.W.nsIn K mainGlobals "MAX_SYMBOLS" = some (some (.int 8 t_MAX_SYMBOLS)))
    : ∃ fd : FuncData, (∀ (s : Shared) (v : Value), BindsTo s fd ⟨[v], []⟩ [("_law_script", v)]) ∧ ∀ base : Heap, K.In base → base.Ns mainGlobals mg → FnOk l.prog w K mg base CX0 5 fa fd ["_law_script"] (spLaw K) := by
  have e := hfa.symm.trans (PySem.W.mg_of X G a10)
  cases e
  have T : Txt mg := ⟨PySem.W.mg_none_of X G z0, PySem.W.mg_none_of X G z1, PySem.W.mg_none_of X G z2, PySem.W.mg_none_of X G z3, PySem.W.mg_none_of X G z4, PySem.W.mg_none_of X G z5, PySem.W.mg_none_of X G z6, PySem.W.mg_none_of X G z7, PySem.W.mg_none_of X G z8, PySem.W.mg_none_of X G z9, PySem.W.mg_none_of X G z10, PySem.W.mg_none_of X G z11, PySem.W.mg_none_of X G z12, PySem.W.mg_none_of X G z13, ⟨_, PySem.W.mg_of X G z14⟩, ⟨_, PySem.W.mg_of X G z15⟩, ⟨_, PySem.W.mg_of X G z16⟩⟩
  have F_is_integer := fun_mk (st := s_is_integer) l0 c0 k0
  have C_is_integer : Cal K mg "is_integer" f_is_integer _ P_is_integer := ⟨PySem.W.mg_of X G a0, k0, F_is_integer.binds fun _ _ _ _ _ _ us hl => match us, hl with | [_], _ => rfl⟩
  have F_is_word := fun_mk (st := s_is_word) l1 c1 k1
  have C_is_word : Cal K mg "is_word" f_is_word _ P_is_word := ⟨PySem.W.mg_of X G a1, k1, F_is_word.binds fun _ _ _ _ _ _ us hl => match us, hl with | [_], _ => rfl⟩
  have F_is_arity := fun_mk (st := s_is_arity) l2 c2 k2
  have C_is_arity : Cal K mg "is_arity" f_is_arity _ P_is_arity := ⟨PySem.W.mg_of X G a2, k2, F_is_arity.binds fun _ _ _ _ _ _ us hl => match us, hl with | [_], _ => rfl⟩
  have F_is_symbols := fun_mk (st := s_is_symbols) l3 c3 k3
  have C_is_symbols : Cal K mg "is_symbols" f_is_symbols _ P_is_symbols := ⟨PySem.W.mg_of X G a3, k3, F_is_symbols.binds fun _ _ _ _ _ _ us hl => match us, hl with | [_], _ => rfl⟩
  have F__law_dice := fun_mk (st := s__law_dice) l4 c4 k4
  have C__law_dice : Cal K mg "_law_dice" f__law_dice _ P__law_dice := ⟨PySem.W.mg_of X G a4, k4, F__law_dice.binds fun _ _ _ _ _ _ us hl => match us, hl with | [_, _], _ => rfl⟩
  have F__law_roll := fun_mk (st := s__law_roll) l5 c5 k5
  have C__law_roll : Cal K mg "_law_roll" f__law_roll _ P__law_roll := ⟨PySem.W.mg_of X G a5, k5, F__law_roll.binds fun _ _ _ _ _ _ us hl => match us, hl with | [_, _], _ => rfl⟩
  have F__law_pick := fun_mk (st := s__law_pick) l6 c6 k6
  have C__law_pick : Cal K mg "_law_pick" f__law_pick _ P__law_pick := ⟨PySem.W.mg_of X G a6, k6, F__law_pick.binds fun _ _ _ _ _ _ us hl => match us, hl with | [_, _], _ => rfl⟩
  have F__law_some := fun_mk (st := s__law_some) l7 c7 k7
  have C__law_some : Cal K mg "_law_some" f__law_some _ P__law_some := ⟨PySem.W.mg_of X G a7, k7, F__law_some.binds fun _ _ _ _ _ _ us hl => match us, hl with | [_, _, _], _ => rfl⟩
  have F__law_fits_symbols := fun_mk (st := s__law_fits_symbols) l8 c8 k8
  have C__law_fits_symbols : Cal K mg "_law_fits_symbols" f__law_fits_symbols _ P__law_fits_symbols := ⟨PySem.W.mg_of X G a8, k8, F__law_fits_symbols.binds fun _ _ _ _ _ _ us hl => match us, hl with | [_], _ => rfl⟩
  have F__law_right := fun_mk (st := s__law_right) l9 c9 k9
  have C__law_right : Cal K mg "_law_right" f__law_right _ P__law_right := ⟨PySem.W.mg_of X G a9, k9, F__law_right.binds fun _ _ _ _ _ _ us hl => match us, hl with | [_], _ => rfl⟩
  have F_law := fun_mk (st := s_law) l10 c10 k10
  refine ⟨PySem.W.fnOf "law" "law" (defArgs s_law) (defBody s_law) (defScope s_law) .none kV10 dc10 pm10 an10 cd10 ct10, fun s v => .of_eq rfl, fun base _ _ => ?_⟩
  have GD := ok__law_dice (P := l.prog) (w := w) (base := base) F__law_dice T
  have GR := ok__law_roll (P := l.prog) (w := w) (base := base) F__law_roll T
  have GP := ok__law_pick (P := l.prog) (w := w) (base := base) F__law_pick T GR C__law_roll
  have GI := ok_is_integer (P := l.prog) (w := w) (base := base) F_is_integer T
  have GW := ok_is_word (P := l.prog) (w := w) (base := base) F_is_word T
  have GA := ok_is_arity (P := l.prog) (w := w) (base := base) F_is_arity T GI C_is_integer
  have GY := ok_is_symbols (P := l.prog) (w := w) (base := base) F_is_symbols T GW C_is_word GA C_is_arity
  have GS := ok__law_some (P := l.prog) (w := w) (base := base) F__law_some T GR C__law_roll
  have GF := ok__law_fits_symbols (P := l.prog) (w := w) (base := base) F__law_fits_symbols T
  have GG := ok__law_right (P := l.prog) (w := w) (base := base) F__law_right T GR C__law_roll GP C__law_pick GS C__law_some GY C_is_symbols GF C__law_fits_symbols
  exact ok_law F_law T GD C__law_dice GG C__law_right GY C_is_symbols GP C__law_pick
theorem walk {l : PySem.W.OpenLaw} {q : Program} {loose : List Str} {XP : (Str → Option Value) → Heap → Prop} {YP : World → Heap → Prop} {d : DefRec} {K : Params → PySem.W.Frag} (hn : l.most = some 63) (hdf : d.params.defaults = [])
    (hY : ∀ (w : World) (h : Heap), YP w h → (K w.params).In h)
    (F : ∀ (w : World) (mg : Str → Option Value) (fa : Addr) (h : Heap), (K w.params).In h → h.Ns mainGlobals mg → mg d.name = some (.ref fa) →
      ∃ fd : FuncData, (∀ (s : Shared) (u : Value), BindsTo s fd ⟨[u], []⟩ [("_law_script", u)]) ∧ ∀ base : Heap, (K w.params).In base → base.Ns mainGlobals mg → FnOk l.prog w (K w.params) mg base CX0 5 fa fd ["_law_script"] (spLaw (K w.params))) :
    PySem.W.WalkO q loose XP YP l.row.toRowW d [] (fun f vs => PySem.call f vs) :=
  L2.walk_of (n := 63) (k := 5) (x := "_law_script") (CX := fun _ => CX0) (sp := fun w => spLaw (K w.params)) hn (by decide) hdf ⟨rfl, by decide, by decide⟩ hY F (fun _ _ a ns hl hO hS => ⟨a, ns, rfl, scr_of hO hS, hl, fun _ => rfl⟩) fun _ _ _ _ _ z => z
end K04
open PySem PySem.W PyProof.Rows
set_option maxRecDepth 100000 in
set_option maxHeartbeats 0 in
theorem PySem.Challenge.cw_firstneed_k04_symbols_judged_holds : PySem.Challenge.rw_firstneed_k04_symbols_judged.Holds := by
  w_on; o_law; k_head; (case hw => w_witness2)
  k_fill
  refine K04.walk (l := PySem.Challenge.rw_firstneed_k04_symbols_judged) rfl rfl (fun w h Y => PySem.W.kIn_of Y) ?F
  case F =>
    intro w mg fa h KX G hmg
    refine' K04.all_mk KX G hmg ?a0 ?l0 ?c0 ?k0 ?a1 ?l1 ?c1 ?k1 ?a2 ?l2 ?c2 ?k2 ?a3 ?l3 ?c3 ?k3 ?a4 ?l4 ?c4 ?k4 ?a5 ?l5 ?c5 ?k5 ?a6 ?l6 ?c6 ?k6 ?a7 ?l7 ?c7 ?k7 ?a8 ?l8 ?c8 ?k8 ?a9 ?l9 ?c9 ?k9 ?a10 ?l10 ?c10 ?k10 ?z0 ?z1 ?z2 ?z3 ?z4 ?z5 ?z6 ?z7 ?z8 ?z9 ?z10 ?z11 ?z12 ?z13 ?z14 ?z15 ?z16
    (case a0 => k_is)
    (case l0 => k_is)
    (case c0 => k_is)
    (case k0 => k_is)
    (case a1 => k_is)
    (case l1 => k_is)
    (case c1 => k_is)
    (case k1 => k_is)
    (case a2 => k_is)
    (case l2 => k_is)
    (case c2 => k_is)
    (case k2 => k_is)
    (case a3 => k_is)
    (case l3 => k_is)
    (case c3 => k_is)
    (case k3 => k_is)
    (case a4 => k_is)
    (case l4 => k_is)
    (case c4 => k_is)
    (case k4 => k_is)
    (case a5 => k_is)
    (case l5 => k_is)
    (case c5 => k_is)
    (case k5 => k_is)
    (case a6 => k_is)
    (case l6 => k_is)
    (case c6 => k_is)
    (case k6 => k_is)
    (case a7 => k_is)
    (case l7 => k_is)
    (case c7 => k_is)
    (case k7 => k_is)
    (case a8 => k_is)
    (case l8 => k_is)
    (case c8 => k_is)
    (case k8 => k_is)
    (case a9 => k_is)
    (case l9 => k_is)
    (case c9 => k_is)
    (case k9 => k_is)
    (case a10 => k_is)
    (case l10 => k_is)
    (case c10 => k_is)
    (case k10 => k_is)
    (case z0 => k_is)
    (case z1 => k_is)
    (case z2 => k_is)
    (case z3 => k_is)
    (case z4 => k_is)
    (case z5 => k_is)
    (case z6 => k_is)
    (case z7 => k_is)
    (case z8 => k_is)
    (case z9 => k_is)
    (case z10 => k_is)
    (case z11 => k_is)
    (case z12 => k_is)
    (case z13 => k_is)
    (case z14 => k_is)
    (case z15 => k_is)
    (case z16 => k_is)
