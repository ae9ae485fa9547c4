import PyProof.Rows.All
import Wide.All
import OpenK.AllK
import Wide.FinOn
import HandS.ForMost
import HandS.IsInst
import HandS.Deep
import HandS.Walk
import HandS.ExcInit
import HandS.ExcIs
import HandS.ExcField
import HandS.ExcValue
import KE.KExcMore
import KE.KExcInit
import HandS.TupMul
import PySem.Challenge.RW_firstneed_k00_errors_and_what_they_keep
set_option Elab.async false
set_option maxRecDepth 100000
/-! Rules and promises that all laws share: powers of great numbers, repr of a truth value, the dice. -/
namespace Fn
open PySem PySem.Spec PyProof.Rows L2
section
variable {X : Cx}
def CPowW (i j : Int) : Prop := 0 ≤ j ∧ (Builtin.Int.intBits i : Int) * j ≤ 2 ^ 27
theorem op_powW : OpR X (binaryOp .Pow) (rI CPowW fun i j => .int (i ^ j.toNat)) := opI fun _ _ _ _ _ _ _ hc q => pow_int hc.1 hc.2 q
theorem call_repr_b : CallR X (.builtin "repr") (fun xs H Q => ∃ b, xs = [.bl b] ∧ Q (.str (if b then "True" else "False")) H) := by
  intro pins s σ H xs us Q I r h
  obtain ⟨b, rfl, q⟩ := h
  obtain ⟨u, rfl, r1⟩ := vals1 r
  cases r1
  exact PySem.P.repr_of_bool ⟨.str _, H, I.tok _, ⟨_, rfl⟩, q⟩
end
theorem powOk {i j : Int} (h : (decide (0 ≤ j) && decide ((Builtin.Int.intBits i : Int) * j ≤ 2 ^ 27)) = true) : CPowW i j := by
  rw [Bool.and_eq_true] at h
  exact ⟨of_decide_eq_true h.1, of_decide_eq_true h.2⟩
theorem modc {j : Int} (h : 0 < j) : 0 < j := h
theorem szr {α : Type} {xs : List α} (h : Nat.ble xs.length 100000 = true) : xs.length ≤ sizeLine := Nat.le_trans (Nat.le_of_ble_eq_true h) (by decide)
theorem szl {α : Type} {xs : List α} (h : xs.length ≤ 100000) : xs.length ≤ sizeLine := Nat.le_trans h (by decide)
theorem szlt {n : Nat} (h : n ≤ 100000) : n < sizeLine := Nat.lt_of_le_of_lt h (by decide)
theorem script_at {ns : List Int} {k : Int} (h0 : 0 ≤ k) (h : k < (ns.length : Int)) : ∃ c : Int, atI (ns.map V.int) k = some (.int c) := by
  have hlt : k.toNat < ns.length := by omega
  have ek : ((k.toNat : Nat) : Int) = k := by omega
  have g : atI (ns.map V.int) ((k.toNat : Nat) : Int) = some (.int ns[k.toNat]) := atI_nat (by rw [List.getElem?_map, List.getElem?_eq_getElem hlt] <;> rfl)
  rw [ek] at g
  exact ⟨_, g⟩
/-! ### places in the text: the scope of a comprehension -/
def kidsE : Expr → List Expr
  | .BoolOp _ vs _ => vs
  | .BinOp a _ b _ => [a, b]
  | .UnaryOp _ a _ => [a]
  | .IfExp t a b _ => [t, a, b]
  | .ListComp e gs _ _ => e :: gs.flatMap fun c => c.iter :: c.ifs
  | .Compare l _ cs _ => l :: cs
  | .Call f xs _ _ => f :: xs
  | .Attribute v _ _ => [v]
  | .Subscript a b _ => [a, b]
  | .List es _ => es
  | .Tuple es _ _ => es
  | _ => []
def goE (e : Expr) (path : List Nat) : Expr := path.foldl (fun e i => (kidsE e).getD i e) e
def stE : Stmt → Expr
  | .Return (some e) _ => e
  | .Assign _ e _ => e
  | .AugAssign _ _ e _ => e
  | .For _ e _ _ _ => e
  | .While e _ _ _ => e
  | .If e _ _ _ => e
  | .Expr e _ => e
  | _ => .Name "" ⟨0, 0, 0, 0⟩
def stB : Stmt → List Stmt
  | .For _ _ a b _ => a ++ b
  | .While _ a b _ => a ++ b
  | .If _ a b _ => a ++ b
  | _ => []
def goS (body : List Stmt) (path : List Nat) : Stmt := match path with
  | [] => .Pass ⟨0, 0, 0, 0⟩
  | i :: r => r.foldl (fun s j => (stB s).getD j s) (body.getD i (.Pass ⟨0, 0, 0, 0⟩))
def lcSc : Expr → Scope
  | .ListComp _ _ sc _ => sc
  | _ => { kind := .function, names := [], isGenerator := false, isCoroutine := false }
theorem mulL {i j : Int} (h : -(2 ^ 64) < i ∧ i < 2 ^ 64) : CMul i j := Or.inl h
theorem mulR {i j : Int} (h : -(2 ^ 64) < j ∧ j < 2 ^ 64) : CMul i j := Or.inr h
/-- a def as a callee: its name, its object, how its arguments bind -/
structure Cal (K : PySem.W.Frag) (mg : Str → Option Value) (x : Str) (f : Addr) (fd : FuncData) (ps : List Str) : Prop where
  m : mg x = some (.ref f)
  k : PySem.W.keepIn K (.ref f) = true
  b : Binds K fd ps []
/-- three ints: the dice -/
def dl (x y z : Int) : HO := .lst [.int x, .int y, .int z]
theorem sq_upd {K : PySem.W.Frag} {H : Hp} {p a : Addr} {o : HO} {xs : List V} (h : a ≠ p) (hs : H a = some (.lst xs)) : SqL K (upd H p o) a xs := SqL.of (by rw [upd_ne h]; exact hs)

/-! ### what stays: all but the contents of lists -/
def Ev2 (H H' : Hp) : Prop := ∀ (a : Addr) (o : HO), H a = some o → (∃ xs ys, o = .lst xs ∧ H' a = some (.lst ys)) ∨ H' a = some o
theorem Ev2.refl (H : Hp) : Ev2 H H := fun _ _ h => .inr h
theorem Ev2.trans {H H1 H2 : Hp} (a : Ev2 H H1) (b : Ev2 H1 H2) : Ev2 H H2 := fun x o h => by
  rcases a x o h with ⟨xs, ys, rfl, h1⟩ | h1
  · rcases b x _ h1 with ⟨_, zs, _, h2⟩ | h2
    · exact .inl ⟨_, zs, rfl, h2⟩
    · exact .inl ⟨_, ys, rfl, h2⟩
  · exact b x o h1
theorem Ev2.new {H : Hp} {p : Addr} {o : HO} (h : H p = none) : Ev2 H (upd H p o) := fun a u e => .inr (by
  rw [upd_ne (ne_of_none e h)]
  exact e)
theorem Ev2.lst {H : Hp} {p : Addr} {xs ys : List V} (h : H p = some (.lst xs)) : Ev2 H (upd H p (.lst ys)) := fun a u e => by
  by_cases q : a = p
  · subst q
    rw [h] at e
    exact .inl ⟨xs, ys, (Option.some.inj e).symm, upd_same⟩
  · exact .inr (by rw [upd_ne q]; exact e)
theorem Ev2.tup {H H' : Hp} {a : Addr} {xs : List V} (h : H a = some (.tup xs)) (e : Ev2 H H') : H' a = some (.tup xs) := by
  rcases e a _ h with ⟨_, _, q, _⟩ | q
  · cases q
  · exact q
theorem Ev2.frz {H H' : Hp} {a : Addr} {o : Obj} {u : HO} (h : H a = some (.frz o u)) (e : Ev2 H H') : H' a = some (.frz o u) := by
  rcases e a _ h with ⟨_, _, q, _⟩ | q
  · cases q
  · exact q
theorem Ev2.dK {H H' : Hp} {a : Addr} {kvs : List (Key × V)} (h : H a = some (.dK kvs)) (e : Ev2 H H') : H' a = some (.dK kvs) := by
  rcases e a _ h with ⟨_, _, q, _⟩ | q
  · cases q
  · exact q
theorem Ev2.isL {H H' : Hp} {a : Addr} {xs : List V} (h : H a = some (.lst xs)) (e : Ev2 H H') : ∃ ys, H' a = some (.lst ys) := by
  rcases e a _ h with ⟨_, ys, _, q⟩ | q
  · exact ⟨ys, q⟩
  · exact ⟨xs, q⟩
theorem Ev2.some {H H' : Hp} {a : Addr} {o : HO} (h : H a = some o) (e : Ev2 H H') : ∃ u, H' a = some u := by
  rcases e a _ h with ⟨_, ys, _, q⟩ | q
  · exact ⟨_, q⟩
  · exact ⟨_, q⟩
theorem Ev2.fresh {H H' : Hp} {a : Addr} (e : Ev2 H H') (h : H' a = none) : H a = none := by
  cases q : H a with
  | none => rfl
  | some o =>
    obtain ⟨u, z⟩ := Ev2.some q e
    rw [z] at h
    cases h
theorem ne_new {H H' : Hp} {a p : Addr} {o : HO} (h : H a = some o) (e : Ev2 H H') (hp : H' p = none) : a ≠ p := ne_of_none h (e.fresh hp)
/-- a new object: the heap behind is named -/
theorem made {H H1 : Hp} {p : Addr} {o : HO} (n : H p = none) (g : upd H p o = H1) : Ev2 H H1 ∧ (∀ b, b ≠ p → H1 b = H b) ∧ H1 p = some o := by
  subst g
  exact ⟨Ev2.new n, fun _ hb => upd_ne hb, upd_same⟩
/-- the script, in a heap that knows nothing else -/
def Scr (K : PySem.W.Frag) (H : Hp) (a : Addr) (xs : List V) : Prop := SqL K H a xs ∧ ∀ H', Ev2 H H' → SqL K H' a xs
theorem scr_of {K : PySem.W.Frag} {H : Hp} {a : Addr} {xs : List V} (hO : Only H) (h : SqL K H a xs) : Scr K H a xs := by
  refine ⟨h, fun H' e => ?_⟩
  rcases h with (h | ⟨o, h⟩) | h
  · rcases hO a with q | ⟨o, ys, q⟩
    · rw [q] at h
      cases h
    · rw [q] at h
      cases h
  · exact .inl (.inr ⟨o, Ev2.frz h e⟩)
  · exact .inr h
theorem Scr.mono {K : PySem.W.Frag} {H H' : Hp} {a : Addr} {xs : List V} (h : Scr K H a xs) (e : Ev2 H H') : Scr K H' a xs := ⟨h.2 _ e, fun _ e2 => h.2 _ (e.trans e2)⟩
/-- kinds of values that are looked at by isinstance -/
def Ty (K : PySem.W.Frag) (H : Hp) (v : V) (n : String) : Prop := match v with
  | .non => n = "NoneType" | .bl _ => n = "bool" | .int _ => n = "int" | .str _ => n = "str"
  | .ref a => (n = "list" ∧ ∃ xs, H a = some (.lst xs)) ∨ (n = "tuple" ∧ ∃ xs, H a = some (.tup xs)) ∨ (n = "dict" ∧ ∃ kvs, H a = some (.dK kvs))
  | _ => False
theorem Ty.x {K : PySem.W.Frag} {H : Hp} {v : V} {n : String} (h : Ty K H v n) : TyX K H v (.type n) := by
  cases v with
  | non => cases (show n = "NoneType" from h); exact .base .non
  | bl b => cases (show n = "bool" from h); exact .base (.bl b)
  | int i => cases (show n = "int" from h); exact .base (.int i)
  | str x => cases (show n = "str" from h); exact .base (.str x)
  | byt b => exact h.elim
  | flt b => exact h.elim
  | ty b => exact h.elim
  | ref a =>
    rcases h with ⟨rfl, xs, e⟩ | ⟨rfl, xs, e⟩ | ⟨rfl, xs, e⟩
    · exact .base (.lst e)
    · exact .base (.tup e)
    · exact .base (.dK e)
theorem Ty.mono {K : PySem.W.Frag} {H H' : Hp} {v : V} {n : String} (h : Ty K H v n) (e : Ev2 H H') : Ty K H' v n := by
  cases v with
  | ref a =>
    rcases h with ⟨rfl, xs, q⟩ | ⟨rfl, xs, q⟩ | ⟨rfl, xs, q⟩
    · exact .inl ⟨rfl, Ev2.isL q e⟩
    · exact .inr (.inl ⟨rfl, xs, Ev2.tup q e⟩)
    · exact .inr (.inr ⟨rfl, xs, Ev2.dK q e⟩)
  | non => exact h
  | bl b => exact h
  | int i => exact h
  | str x => exact h
  | byt b => exact h
  | flt b => exact h
  | ty b => exact h
/-- the dice stand at p -/
def Dc (H : Hp) (p : Addr) : Prop := ∃ x y z : Int, H p = some (dl x y z)
/-- only what stands at p is another -/
def Only1 (H H' : Hp) (p : Addr) : Prop := ∀ b, b ≠ p → H' b = H b
theorem keepAt {H H1 : Hp} {a p : Addr} {o : HO} (t : H a = some o) (n : H p = none) (k : ∀ b, b ≠ p → H1 b = H b) : H1 a = some o := (k a (ne_of_none t n)).trans t
theorem sameOf {H H1 : Hp} {p : Addr} (n : H p = none) (k : ∀ b, b ≠ p → H1 b = H b) : Same H H1 := fun _ _ e => keepAt e n k
theorem Ev2.same {H H1 : Hp} (s : Same H H1) : Ev2 H H1 := fun a o e => .inr (s a o e)
theorem Dc.keep {H H1 : Hp} {a p : Addr} (t : Dc H a) (n : H p = none) (k : ∀ b, b ≠ p → H1 b = H b) : Dc H1 a := by
  obtain ⟨x, y, z, t⟩ := t
  exact ⟨x, y, z, keepAt t n k⟩
theorem Dc.ne {H : Hp} {a p : Addr} (t : Dc H a) (n : H p = none) : a ≠ p := by
  obtain ⟨x, y, z, t⟩ := t
  exact ne_of_none t n
/-- all but what stands at p is the same -/
def But (p : Addr) (H H' : Hp) : Prop := ∀ a o, a ≠ p → H a = some o → H' a = some o
theorem But.refl (p : Addr) (H : Hp) : But p H H := fun _ _ _ h => h
theorem But.trans {p : Addr} {H H1 H2 : Hp} (x : But p H H1) (y : But p H1 H2) : But p H H2 := fun a o n h => y a o n (x a o n h)
theorem But.of1 {p : Addr} {H H' : Hp} (k : Only1 H H' p) : But p H H' := fun a o n h => (k a n).trans h
theorem But.ofS {p : Addr} {H H' : Hp} (k : Same H H') : But p H H' := fun a o _ h => k a o h
theorem But.ev {p : Addr} {H H' : Hp} (k : But p H H') (d : Dc H p) (d' : Dc H' p) : Ev2 H H' := fun a o h => by
  by_cases e : a = p
  · subst e
    obtain ⟨x, y, z, h1⟩ := d
    obtain ⟨x', y', z', h2⟩ := d'
    rw [h1] at h
    exact .inl ⟨_, _, (Option.some.inj h).symm, h2⟩
  · exact .inr (k a o e h)
theorem But.at {p : Addr} {H H' : Hp} {a : Addr} {o : HO} (h : H a = some o) (n : a ≠ p) (k : But p H H') : H' a = some o := k a o n h
theorem Dc.same {H H' : Hp} {p : Addr} (d : Dc H p) (s : Same H H') : Dc H' p := by
  obtain ⟨x, y, z, h⟩ := d
  exact ⟨x, y, z, s _ _ h⟩
theorem Dc.neOf {H : Hp} {a p : Addr} {xs : List V} (d : Dc H p) (h : H a = some (.lst xs)) (n : ∀ x y z : Int, xs ≠ [.int x, .int y, .int z]) : a ≠ p := by
  rintro rfl
  obtain ⟨x, y, z, h1⟩ := d
  rw [h1] at h
  exact n x y z (HO.lst.inj (Option.some.inj h)).symm
def spDice (K : PySem.W.Frag) : Sp := fun vs H Q _ => ∃ (a : Addr) (ns : List Int) (k : Int), vs = [.ref a, .int k] ∧ SqL K H a (ns.map V.int) ∧ ns.length ≤ 1000 ∧ 0 ≤ k ∧ k < 1000 ∧
  ∀ (p : Addr) (H' : Hp), H p = none → Ev2 H H' → Only1 H H' p → Dc H' p → Q (.ref p) H'
def spRoll : Sp := fun vs H Q _ => ∃ (p : Addr) (n : Int), vs = [.ref p, .int n] ∧ Dc H p ∧ 0 < n ∧ n < 1000000 ∧
  ∀ (r : Int) (H' : Hp), 0 ≤ r → r < n → Ev2 H H' → Only1 H H' p → Dc H' p → Q (.int r) H'
def spPick (K : PySem.W.Frag) : Sp := fun vs H Q _ => ∃ (p a : Addr) (xs : List V), vs = [.ref p, .ref a] ∧ Dc H p ∧ SqL K H a xs ∧ (∀ H', Ev2 H H' → Only1 H H' p → SqL K H' a xs) ∧ 0 < xs.length ∧ xs.length < 1000000 ∧
  ∀ (i : Nat) (v : V) (H' : Hp), xs[i]? = some v → Ev2 H H' → Only1 H H' p → Dc H' p → Q v H'
theorem perm_erase {α : Type} : ∀ {zs : List α} {i : Nat} (h : i < zs.length), ([zs[i]] ++ zs.eraseIdx i).Perm zs
  | z :: zs, 0, _ => List.Perm.refl _
  | z :: zs, i + 1, h => by
    have h' : i < zs.length := by simpa using h
    have ih := perm_erase h'
    exact (List.Perm.swap z (zs[i]'h') _).trans (List.Perm.cons z ih)
/-- some of a list, taken without putting back -/
def spSome (K : PySem.W.Frag) : Sp := fun vs H Q _ => ∃ (p a : Addr) (xs : List V) (n : Int), vs = [.ref p, .ref a, .int n] ∧ Dc H p ∧ H a = some (.lst xs) ∧ 0 ≤ n ∧ n ≤ 1000 ∧ xs.length ≤ 1000 ∧
  ∀ (l : Addr) (ys zs : List V) (H' : Hp), But p H H' → Dc H' p → H l = none → l ≠ p → H' l = some (.lst ys) → (ys ++ zs).Perm xs → (ys.length : Int) = (if (xs.length : Int) < n then (xs.length : Int) else n) → Q (.ref l) H'
theorem Dc.set {H : Hp} {p : Addr} (h : Dc H p) (x y z : Int) : Ev2 H (upd H p (dl x y z)) ∧ Only1 H (upd H p (dl x y z)) p ∧ Dc (upd H p (dl x y z)) p := by
  obtain ⟨x0, y0, z0, h⟩ := h
  exact ⟨Ev2.lst h, fun _ hb => upd_ne hb, x, y, z, upd_same⟩
/-- the list that is picked from is not the dice -/
theorem pick_l {K : PySem.W.Frag} {H : Hp} {a p : Addr} {xs : List V} (h : H a = some (.lst xs)) (d : a ≠ p) : SqL K H a xs ∧ ∀ H', Ev2 H H' → Only1 H H' p → SqL K H' a xs :=
  ⟨SqL.of h, fun H' _ k => SqL.of ((k a d).trans h)⟩
def spLaw (K : PySem.W.Frag) : Sp := fun vs H Q _ => ∃ (a : Addr) (ns : List Int), vs = [.ref a] ∧ Scr K H a (ns.map V.int) ∧ ns.length ≤ 63 ∧ ∀ H', Q (.bl true) H'
/-- the number of turns of a law: between 1 and 8 -/
theorem turns {n : Nat} : 0 ≤ (if (if (n : Int) < 8 then (n : Int) else 8) > 1 then (if (n : Int) < 8 then (n : Int) else 8) else 1) ∧ (if (if (n : Int) < 8 then (n : Int) else 8) > 1 then (if (n : Int) < 8 then (n : Int) else 8) else 1) ≤ 8 := by
  split <;> split <;> omega
end Fn

set_option Elab.async false
set_option maxRecDepth 100000
/-! Data at an address: values that are told as PyData; what is in a list or tuple of data. -/
namespace Fn
open PySem PySem.Spec PyProof.Rows L2
mutual
inductive Dx (H : Hp) : V → PyData → Prop
  | non : Dx H .non .none
  | bl (b : Bool) : Dx H (.bl b) (.bool b)
  | int (i : Int) : Dx H (.int i) (.int i)
  | str (x : Str) : Dx H (.str x) (.str x)
  | lst {a : Addr} {xs : List V} {ds : List PyData} : H a = some (.lst xs) → DxAll H xs ds → Dx H (.ref a) (.list ds)
  | tup {a : Addr} {xs : List V} {ds : List PyData} : H a = some (.tup xs) → DxAll H xs ds → Dx H (.ref a) (.tuple ds)
  | dct {a : Addr} : H a = some (.dK []) → Dx H (.ref a) (.dict [])
inductive DxAll (H : Hp) : List V → List PyData → Prop
  | nil : DxAll H [] []
  | cons {v : V} {vs : List V} {d : PyData} {ds : List PyData} : Dx H v d → DxAll H vs ds → DxAll H (v :: vs) (d :: ds)
end
theorem DxAll.len {H : Hp} : ∀ {ds : List PyData} {vs : List V}, DxAll H vs ds → vs.length = ds.length
  | [], _, h => by cases h; rfl
  | d :: ds, _, h => by
    cases h with
    | cons h1 h2 =>
      show _ + 1 = _ + 1
      rw [DxAll.len h2]
theorem DxAll.get {H : Hp} : ∀ {ds : List PyData} {vs : List V} {i : Nat} {v : V}, DxAll H vs ds → vs[i]? = some v → ∃ d, ds[i]? = some d ∧ Dx H v d
  | [], _, i, v, h, e => by cases h; simp at e
  | d :: ds, _, 0, v, h, e => by
    cases h with
    | cons h1 h2 =>
      cases (show some _ = some v from e)
      exact ⟨d, rfl, h1⟩
  | d :: ds, _, i + 1, v, h, e => by
    cases h with
    | cons h1 h2 => exact DxAll.get (i := i) h2 (by simpa using e)
mutual
def dictfree : PyData → Bool
  | .list xs => dictfreeAll xs
  | .tuple xs => dictfreeAll xs
  | .dict _ => false
  | _ => true
def dictfreeAll : List PyData → Bool
  | [] => true
  | d :: ds => dictfree d && dictfreeAll ds
end
mutual
def listfree : PyData → Bool
  | .list _ => false
  | .tuple xs => listfreeAll xs
  | _ => true
def listfreeAll : List PyData → Bool
  | [] => true
  | d :: ds => listfree d && listfreeAll ds
end
mutual
theorem Dx.dp {K : PySem.W.Frag} {H : Hp} : ∀ {d : PyData} {v : V}, Dx H v d → dictfree d = true → Dp K H v d
  | .none, _, h, _ => by cases h; exact .non
  | .bool b, _, h, _ => by cases h; exact .bl b
  | .int i, _, h, _ => by cases h; exact .int i
  | .str x, _, h, _ => by cases h; exact .str x
  | .list ds, _, h, f => by
    cases h with
    | lst h1 h2 => exact .lst (SqL.of h1) (DxAll.dp h2 (by simpa only [dictfree] using f))
  | .tuple ds, _, h, f => by
    cases h with
    | tup h1 h2 => exact .tup (SqT.of h1) (DxAll.dp h2 (by simpa only [dictfree] using f))
  | .dict kvs, _, h, f => by
    simp only [dictfree] at f
    cases f
theorem DxAll.dp {K : PySem.W.Frag} {H : Hp} : ∀ {ds : List PyData} {vs : List V}, DxAll H vs ds → dictfreeAll ds = true → DpAll K H vs ds
  | [], _, h, _ => by cases h; exact .nil
  | d :: ds, _, h, f => by
    simp only [dictfreeAll, Bool.and_eq_true] at f
    cases h with
    | cons h1 h2 => exact .cons (Dx.dp h1 f.1) (DxAll.dp h2 f.2)
end
mutual
theorem Dx.mono {H H' : Hp} (e : Ev2 H H') : ∀ {d : PyData} {v : V}, Dx H v d → listfree d = true → Dx H' v d
  | .none, _, h, _ => by cases h; exact .non
  | .bool b, _, h, _ => by cases h; exact .bl b
  | .int i, _, h, _ => by cases h; exact .int i
  | .str x, _, h, _ => by cases h; exact .str x
  | .list ds, _, h, f => by
    simp only [listfree] at f
    cases f
  | .tuple ds, _, h, f => by
    cases h with
    | tup h1 h2 => exact .tup (Ev2.tup h1 e) (DxAll.mono e h2 (by simpa only [listfree] using f))
  | .dict kvs, _, h, f => by
    cases h with
    | dct h1 => exact .dct (Ev2.dK h1 e)
theorem DxAll.mono {H H' : Hp} (e : Ev2 H H') : ∀ {ds : List PyData} {vs : List V}, DxAll H vs ds → listfreeAll ds = true → DxAll H' vs ds
  | [], _, h, _ => by cases h; exact .nil
  | d :: ds, _, h, f => by
    simp only [listfreeAll, Bool.and_eq_true] at f
    cases h with
    | cons h1 h2 => exact .cons (Dx.mono e h1 f.1) (DxAll.mono e h2 f.2)
end
mutual
theorem Dx.same {H H' : Hp} (e : Same H H') : ∀ {d : PyData} {v : V}, Dx H v d → Dx H' v d
  | .none, _, h => by cases h; exact .non
  | .bool b, _, h => by cases h; exact .bl b
  | .int i, _, h => by cases h; exact .int i
  | .str x, _, h => by cases h; exact .str x
  | .list ds, _, h => by
    cases h with
    | lst h1 h2 => exact .lst (e _ _ h1) (DxAll.same e h2)
  | .tuple ds, _, h => by
    cases h with
    | tup h1 h2 => exact .tup (e _ _ h1) (DxAll.same e h2)
  | .dict kvs, _, h => by
    cases h with
    | dct h1 => exact .dct (e _ _ h1)
theorem DxAll.same {H H' : Hp} (e : Same H H') : ∀ {ds : List PyData} {vs : List V}, DxAll H vs ds → DxAll H' vs ds
  | [], _, h => by cases h; exact .nil
  | d :: ds, _, h => by
    cases h with
    | cons h1 h2 => exact .cons (Dx.same e h1) (DxAll.same e h2)
end
def three : List PyData → Bool
  | [.int _, .int _, .int _] => true
  | _ => false
mutual
/-- no list of three ints is within: so no list that is told is the dice -/
def nodice : PyData → Bool
  | .list ds => !three ds && nodiceAll ds
  | .tuple ds => nodiceAll ds
  | _ => true
def nodiceAll : List PyData → Bool
  | [] => true
  | d :: ds => nodice d && nodiceAll ds
end
theorem nodice_list {ds : List PyData} (h : nodice (.list ds) = true) : nodiceAll ds = true ∧ ∀ x y z, ds ≠ [.int x, .int y, .int z] := by
  simp only [nodice, Bool.and_eq_true] at h
  refine ⟨h.2, fun x y z e => ?_⟩
  subst e
  exact Bool.noConfusion h.1
mutual
theorem Dx.but {H H' : Hp} {p : Addr} (hd : Dc H p) (o : But p H H') : ∀ {d : PyData} {v : V}, Dx H v d → nodice d = true → Dx H' v d
  | .none, _, h, _ => by cases h; exact .non
  | .bool b, _, h, _ => by cases h; exact .bl b
  | .int i, _, h, _ => by cases h; exact .int i
  | .str x, _, h, _ => by cases h; exact .str x
  | .list ds, _, h, f => by
    obtain ⟨f1, f2⟩ := nodice_list f
    cases h with
    | @lst a xs _ h1 h2 =>
      have hne : a ≠ p := by
        rintro rfl
        obtain ⟨x, y, z, hp⟩ := hd
        rw [hp] at h1
        cases (HO.lst.inj (Option.some.inj h1))
        cases h2 with
        | cons q1 h2 =>
          cases h2 with
          | cons q2 h2 =>
            cases h2 with
            | cons q3 h2 =>
              cases h2
              cases q1
              cases q2
              cases q3
              exact f2 _ _ _ rfl
      exact .lst (o _ _ hne h1) (DxAll.but hd o h2 f1)
  | .tuple ds, _, h, f => by
    cases h with
    | @tup a xs _ h1 h2 =>
      have hne : a ≠ p := by
        rintro rfl
        obtain ⟨x, y, z, hp⟩ := hd
        rw [hp] at h1
        cases h1
      exact .tup (o _ _ hne h1) (DxAll.but hd o h2 (by simpa only [nodice] using f))
  | .dict kvs, _, h, f => by
    cases h with
    | @dct a h1 =>
      have hne : a ≠ p := by
        rintro rfl
        obtain ⟨x, y, z, hp⟩ := hd
        rw [hp] at h1
        cases h1
      exact .dct (o _ _ hne h1)
theorem DxAll.but {H H' : Hp} {p : Addr} (hd : Dc H p) (o : But p H H') : ∀ {ds : List PyData} {vs : List V}, DxAll H vs ds → nodiceAll ds = true → DxAll H' vs ds
  | [], _, h, _ => by cases h; exact .nil
  | d :: ds, _, h, f => by
    simp only [nodiceAll, Bool.and_eq_true] at f
    cases h with
    | cons h1 h2 => exact .cons (Dx.but hd o h1 f.1) (DxAll.but hd o h2 f.2)
end
theorem Dx.only {H H' : Hp} {p : Addr} (hd : Dc H p) (o : Only1 H H' p) {d : PyData} {v : V} (h : Dx H v d) (f : nodice d = true) : Dx H' v d := Dx.but hd (But.of1 o) h f
theorem DxAll.only {H H' : Hp} {p : Addr} (hd : Dc H p) (o : Only1 H H' p) {ds : List PyData} {vs : List V} (h : DxAll H vs ds) (f : nodiceAll ds = true) : DxAll H' vs ds := DxAll.but hd (But.of1 o) h f
theorem nodiceAll_get : ∀ {ds : List PyData} {i : Nat} {d : PyData}, nodiceAll ds = true → ds[i]? = some d → nodice d = true
  | [], _, _, _, e => by simp at e
  | d :: ds, 0, _, h, e => by
    simp only [nodiceAll, Bool.and_eq_true] at h
    cases (show some d = some _ from e)
    exact h.1
  | d :: ds, i + 1, _, h, e => by
    simp only [nodiceAll, Bool.and_eq_true] at h
    exact nodiceAll_get (i := i) h.2 (by simpa using e)
theorem pick_dx {H G : Hp} {p : Addr} {xs : List V} {ds : List PyData} {i : Nat} {v : V} (hx : DxAll H xs ds) (hv : xs[i]? = some v) (hd : Dc H p) (o : Only1 H G p) (hn : nodiceAll ds = true) : ∃ d, ds[i]? = some d ∧ Dx G v d := by
  obtain ⟨d, h1, h2⟩ := hx.get hv
  exact ⟨d, h1, Dx.only hd o h2 (nodiceAll_get hn h1)⟩
theorem Same.at {H H' : Hp} {a : Addr} {o : HO} (h : H a = some o) (e : Same H H') : H' a = some o := e _ _ h
/-- the name of the type of data -/
def tyN : PyData → String
  | .none => "NoneType" | .bool _ => "bool" | .int _ => "int" | .str _ => "str" | .list _ => "list" | .tuple _ => "tuple" | .dict _ => "dict"
theorem Dx.ty {K : PySem.W.Frag} {H : Hp} {v : V} {d : PyData} (h : Dx H v d) : TyX K H v (.type (tyN d)) := by
  cases h with
  | non => exact .base .non
  | bl b => exact .base (.bl b)
  | int i => exact .base (.int i)
  | str x => exact .base (.str x)
  | lst h1 h2 => exact .base (.lst h1)
  | tup h1 h2 => exact .base (.tup h1)
  | dct h1 => exact .base (.dK h1)
def tyNs : List String := ["NoneType", "bool", "int", "str", "list", "tuple", "dict"]
theorem tyN_mem (d : PyData) : tyN d ∈ tyNs := by cases d <;> (simp only [tyN]; decide)
theorem kit_all : ∀ n ∈ tyNs, kitB n "int" = some (n == "int" || n == "bool") ∧ kitB n "bool" = some (n == "bool") ∧ kitB n "str" = some (n == "str") ∧ kitB n "tuple" = some (n == "tuple") ∧ kitB n "list" = some (n == "list") ∧ kitB n "dict" = some (n == "dict") := by decide +kernel
section
variable {K : PySem.W.Frag} (d : PyData)
theorem kit_int : PySem.W.kitOne K (.type (tyN d)) (.type "int") = some (tyN d == "int" || tyN d == "bool") := kit_ty (kit_all _ (tyN_mem d)).1
theorem kit_bool : PySem.W.kitOne K (.type (tyN d)) (.type "bool") = some (tyN d == "bool") := kit_ty (kit_all _ (tyN_mem d)).2.1
theorem kit_str : PySem.W.kitOne K (.type (tyN d)) (.type "str") = some (tyN d == "str") := kit_ty (kit_all _ (tyN_mem d)).2.2.1
theorem kit_tuple : PySem.W.kitOne K (.type (tyN d)) (.type "tuple") = some (tyN d == "tuple") := kit_ty (kit_all _ (tyN_mem d)).2.2.2.1
theorem kit_list : PySem.W.kitOne K (.type (tyN d)) (.type "list") = some (tyN d == "list") := kit_ty (kit_all _ (tyN_mem d)).2.2.2.2.1
theorem kit_dict : PySem.W.kitOne K (.type (tyN d)) (.type "dict") = some (tyN d == "dict") := kit_ty (kit_all _ (tyN_mem d)).2.2.2.2.2
end
/-- x in a list or a tuple of data -/
def rInX (K : PySem.W.Frag) (neg : Bool) : R2 := fun x y H Q => ∃ d c ds, Dp K H x d ∧ Dp K H y c ∧ (c = .list ds ∨ c = .tuple ds) ∧ SeqAt.shaped d = true ∧ SeqAt.shaped c = true ∧ Q (.bl (if neg then !(ds.any fun z => PyData.eqv z d) else ds.any fun z => PyData.eqv z d)) H
section
variable {X : Cx}
theorem op_inX (hu : X.A.units + 65 < cLine) : OpR X (compareOp .In) (rInX X.K false) := by
  intro pins s σ H x y v u Q I rx ry h
  obtain ⟨d, c, ds, hd, he, hc, sd, se, q⟩ := h
  obtain ⟨as, r1⟩ := Dp.reads I d x v hd rx
  obtain ⟨bs, r2⟩ := Dp.reads I c y u he ry
  rcases hc with rfl | rfl
  · exact SeqAt.in_list_reads r2 r1 (SeqAt.canLay_of_shaped se) (SeqAt.canLay_of_shaped sd) (room_in_shaped sd hu) ⟨.bl _, H, I, rfl, q⟩
  · exact SeqAt.in_tuple_reads r2 r1 (SeqAt.canLay_of_shaped se) (SeqAt.canLay_of_shaped sd) (room_in_shaped sd hu) ⟨.bl _, H, I, rfl, q⟩
theorem op_notInX (hu : X.A.units + 65 < cLine) : OpR X (compareOp .NotIn) (rInX X.K true) := by
  intro pins s σ H x y v u Q I rx ry h
  obtain ⟨d, c, ds, hd, he, hc, sd, se, q⟩ := h
  obtain ⟨as, r1⟩ := Dp.reads I d x v hd rx
  obtain ⟨bs, r2⟩ := Dp.reads I c y u he ry
  rcases hc with rfl | rfl
  · exact SeqAt.notIn_list_reads r2 r1 (SeqAt.canLay_of_shaped se) (SeqAt.canLay_of_shaped sd) (room_in_shaped sd hu) ⟨.bl _, H, I, rfl, q⟩
  · exact SeqAt.notIn_tuple_reads r2 r1 (SeqAt.canLay_of_shaped se) (SeqAt.canLay_of_shaped sd) (room_in_shaped sd hu) ⟨.bl _, H, I, rfl, q⟩
end
theorem hu65 {A : Around} {k : Nat} (hr : Room k A) : A.units + 65 < cLine := by
  have := hr.un
  omega
/-! ### rules whose readings name the written part: with a letter of its own for it (within comprehensions) -/
def rLenK (K : PySem.W.Frag) : List V → Hp → VK → Prop := fun xs H Q => ∃ p ys, xs = [.ref p] ∧ (SqL K H p ys ∨ SqT K H p ys) ∧ Q (.int ys.length) H
def rListK (K : PySem.W.Frag) : List V → Hp → VK → Prop := fun xs H Q => ∃ p ys, xs = [.ref p] ∧ (SqL K H p ys ∨ SqT K H p ys) ∧ ∀ l, H l = none → Q (.ref l) (upd H l (.lst ys))
section
variable {X : Cx}
theorem call_len_k {K : PySem.W.Frag} (hK : X.K = K := by rfl) : CallR X (.builtin "len") (rLenK K) := by subst hK; exact call_len_seq
theorem call_list_k {K : PySem.W.Frag} (hK : X.K = K := by rfl) : CallR X (.type "list") (rListK K) := by subst hK; exact call_list_of
theorem call_isi_k {K : PySem.W.Frag} (hK : X.K = K := by rfl) : CallR X (.builtin "isinstance") (rIsi K) := by subst hK; exact call_isi
theorem cr_all_k {K : PySem.W.Frag} (hc : X.calm = true) (hK : X.K = K := by rfl) : CallR X (.builtin "all") (rAll K) := by subst hK; exact cr_all hc
theorem cr_any_k {K : PySem.W.Frag} (hc : X.calm = true) (hK : X.K = K := by rfl) : CallR X (.builtin "any") (rAny K) := by subst hK; exact cr_any hc
theorem ix_list_k {K : PySem.W.Frag} (hK : X.K = K := by rfl) : IxR X (rIxL K) := by subst hK; exact ix_list
theorem ix_tup_k {K : PySem.W.Frag} (hK : X.K = K := by rfl) : IxR X (rIxT K) := by subst hK; exact ix_tup
theorem sl_list_k {K : PySem.W.Frag} (hK : X.K = K := by rfl) : SlR X (rSlL K) := by subst hK; exact sl_list
theorem sl_tup_k {K : PySem.W.Frag} (hK : X.K = K := by rfl) : SlR X (rSlT K) := by subst hK; exact sl_tup
theorem op_inX_k {K : PySem.W.Frag} (hu : X.A.units + 65 < cLine) (hK : X.K = K := by rfl) : OpR X (compareOp .In) (rInX K false) := by subst hK; exact op_inX hu
theorem op_notInX_k {K : PySem.W.Frag} (hu : X.A.units + 65 < cLine) (hK : X.K = K := by rfl) : OpR X (compareOp .NotIn) (rInX K true) := by subst hK; exact op_notInX hu
theorem op_eqD_k {K : PySem.W.Frag} (hu : X.A.units + 64 < cLine) (hK : X.K = K := by rfl) : OpR X (compareOp .Eq) (rEqD K) := by subst hK; exact op_eqD hu
theorem op_neD_k {K : PySem.W.Frag} (hu : X.A.units + 64 < cLine) (hK : X.K = K := by rfl) : OpR X (compareOp .NotEq) (rNeD K) := by subst hK; exact op_neD hu
theorem pi_list_k {tg l : Expr} {tl : TE} {K : PySem.W.Frag} (hl : PE X l tl) (hK : X.K = K := by rfl) : PI X tg l (iList K tl) := by subst hK; exact pi_list hl
theorem pi_tup_k {tg l : Expr} {tl : TE} {K : PySem.W.Frag} (hl : PE X l tl) (hK : X.K = K := by rfl) : PI X tg l (iTup K tl) := by subst hK; exact pi_tup hl
variable {o e : Expr} {es : List Expr} {to : TE} {t : TA} {name : Str} {apos cpos : Pos} {T id : String} {r : V → List V → Hp → VK → Prop}
theorem pe_bm_k {K : PySem.W.Frag} (pa : PlainAttrs T) (slot : Slot T name id) (hty : typeOf (.builtin id) = pure (.type "method_descriptor")) (hm : MtR X id r) (ho : PE X o to) (ha : PA X (e :: es) t)
    (hbase : attributeBase o name X.env (eval o X.env) = eval o X.env := by rfl)
    (hfew : ((backTo cpos (starEach (e :: es) X.env)).all (fun x => !x.1) && (backToKw cpos (keywordEach [] X.env)).all (fun x => x.1.isSome)
      && decide ((e :: es).length + ([] : List Keyword).length + (if ([] : List Keyword).isEmpty then 0 else 1) < 30)) = true := by rfl)
    (hline : (apos.endLine == cpos.line) = true := by rfl) (hs : starEach (e :: es) X.env = (false, eval e X.env) :: starEach es X.env := by rfl) (hplain : (backTo cpos (starEach es X.env)).any (·.1) = false := by rfl) (hK : X.K = K := by rfl) :
    PE X (.Call (.Attribute o name apos) (e :: es) [] cpos) (tBM K T r to t) := by
  subst hK
  exact pe_bm pa slot hty hm ho ha hbase hfew hline hs hplain
def tJoin (K : PySem.W.Frag) (to te : TE) : TE := tM1 (fun x xs H Q => ∃ a p, ∃ ys : List Str, x = .str a ∧ xs = [.ref p] ∧ (SqL K H p (ys.map V.str) ∨ SqT K H p (ys.map V.str)) ∧
      (ys.map (·.length)).sum + ys.length * a.length ≤ 16777216 ∧ Q (.str (Txt.join a ys)) H) to te
theorem pe_join_k {te : TE} {K : PySem.W.Frag} (ho : PE X o to) (he : PE X e te) (hs : starEach [e] X.env = [(false, eval e X.env)] := by rfl) (hbase : attributeBase o "join" X.env (eval o X.env) = eval o X.env := by rfl) (hline : (apos.endLine == cpos.line) = true := by rfl) (hK : X.K = K := by rfl) :
    PE X (.Call (.Attribute o "join" apos) [e] [] cpos) (tJoin K to te) := by
  subst hK
  exact pe_join ho he hs hbase hline
end
/-! ### list(text) -/
def signV (z : Str) : List V := z.cps.toList.map fun c => V.str ⟨#[c]⟩
theorem paired_get {α β : Type} {R : α → β → Prop} : ∀ {xs : List α} {us : List β}, xs.length = us.length → (∀ (j : Nat) (x : α) (u : β), xs[j]? = some x → us[j]? = some u → R x u) → Paired R xs us
  | [], [], _, _ => .nil
  | [], _ :: _, h, _ => by cases h
  | _ :: _, [], h, _ => by cases h
  | x :: xs, u :: us, h, k => .cons (k 0 x u rfl rfl) (paired_get (by simpa using h) fun j y v h1 h2 => k (j + 1) y v (by simpa using h1) (by simpa using h2))
theorem call_listS {X : Cx} (hcalm : X.calm = true) : CallR X (.type "list") (fun xs H Q => ∃ z, xs = [.str z] ∧ z.length ≤ sizeLine ∧ ∀ p, H p = none → Q (.ref p) (upd H p (.lst (signV z)))) := by
  intro pins s σ H xs us Q I r h
  obtain ⟨z, rfl, hz, q⟩ := h
  obtain ⟨u, rfl, t, rfl⟩ := vals1 r
  refine call_list_str (I.ok.hd hcalm) z t (hn := hz) fun h' tk acc' c' hk hS' hacc => ?_
  have hl : (signV z).length = z.length := by
    unfold signV
    rw [List.length_map, Array.length_toList]
    rfl
  have hv : Vals (signV z) acc'.toList := by
    refine paired_get (R := RelV) (by rw [hl, Array.length_toList, hacc.1]; rfl) fun j x u h1 h2 => ?_
    obtain ⟨c, t', hc, rfl⟩ := hacc.2 j u (by rw [← Array.getElem?_toList]; exact h2)
    unfold signV at h1
    rw [List.getElem?_map, Array.getElem?_toList, hc] at h1
    cases (show some (V.str ⟨#[c]⟩) = some x from h1)
    exact ⟨t', rfl⟩
  exact ⟨.ref s.heap.objs.size, upd H s.heap.objs.size (.lst (signV z)), I.laid (t' := tk) hk (Nat.le_refl _)
    (show ObjOk X.prog X.w _ _ _ (.lst (signV z)) from ⟨by rw [hl]; exact hz, acc'.toList, c', hv, by rw [Array.toArray_toList]; exact hS'⟩), rfl, q _ (I.hok.fresh (Nat.le_refl _))⟩
/-! ### the program's judges, on data -/
def isIntD : PyData → Bool
  | .int i => decide ((if i < 0 then -i else i) < 10 ^ Int.toNat 60)
  | _ => false
def lowZ (c : Nat) : Bool := (!decide ([c] < [97])) && (!decide ([122] < [c]))
def isWordS (x : Str) : Bool := (decide (1 ≤ x.length) && decide (x.length ≤ 8)) && x.cps.toList.all lowZ
def isWordD : PyData → Bool
  | .str x => isWordS x
  | _ => false
def isArityD : PyData → Bool
  | .int i => isIntD (.int i) && (decide (0 ≤ i) && decide (i ≤ 3))
  | _ => false
def isLeafD (d : PyData) : Bool := ([.str "_", .str "#"] : List PyData).any fun z => PyData.eqv z d
def isNodeD : PyData → Bool
  | .tuple [s, m] => if isLeafD s then (isArityD m && PyData.eqv m (.int 0)) else (isWordD s && isArityD m)
  | _ => false
end Fn

set_option Elab.async false
set_option maxRecDepth 100000
set_option maxHeartbeats 4000000
/-! Own exceptions as values: classes over any built-in base, with an __init__ that stores, or without one. -/
namespace Fn
open PySem
/-! ### making one: the new object, then the own __init__ -/
/-- what a class must have whose mro goes on with bm behind itself -/
structure NewF (B newId initId : String) (bmB bm : List Value) : Prop where
  F : ExcBaseFacts B newId initId bmB
  cB : bm.contains (.type B) = true
  cA : bm.contains (.type "AttributeError") = false
  cN : bm.contains (.type "NameError") = false
section
variable {M : Model} {A : Around} {E : Value → Shared → Prop} {h : Heap} {g : Array GenState} {d : Drawn} {t : Nat} {os : OsState}
variable {nm q : Str} {C N : Addr} {bs bm bmB : List Value} {hdct : Bool} {sn : List Str} {sub : List Value} {ab : Bool} {col : Option Bool} {dd : Option Addr} {k0 k1 k2 k3 k5 : Option Value} {B newId initId : String}
open Builtin Builtin.ObjectAttr
theorem newF_check (Z : NewF B newId initId bmB bm) {rest : List Value} {Q : Unit → Shared → Prop} (hCls : h.get? C = some (excClassObj nm q C N bs bm hdct sn sub ab col dd k0 k1 k2 k3 k5 newId))
    (hq : Q () ⟨h, g, d, t, os⟩) : wpAny M A (checkBuiltinCall newId ⟨.ref C :: rest, []⟩) Q E ⟨h, g, d, t, os⟩ := by
  have hAll : (Value.ref C :: bm).contains (.type B) = true := by (rw [List.contains_cons, Z.cB]; exact Bool.or_true _)
  have hStar := Z.F.noStar
  simp only [checkBuiltinCall, Z.F.newKind, Z.F.newSplit, Z.F.newRow]
  repeat (first
    | refine wpAny_loadPart_at hCls ?_
    | (refine wpAny_isSubtype_exc hCls ?_; rw [hAll])
    | refine wpAny_staticBase_exc hCls ?_
    | refine wpAny_madeBy_exc hCls ?_
    | simp only [bne_self_eq_false, Bool.false_eq_true, ↓reduceIte]
    | wp_step)
  exact hq
end
section
variable {prog : Program} {w : World} {A : Around} {E : Value → Shared → Prop} {R : Result → Shared → Prop} {h : Heap} {g : Array GenState} {d : Drawn} {t : Nat} {os : OsState}
variable {nm q : Str} {C N : Addr} {bs bm bmB : List Value} {hdct : Bool} {sn : List Str} {sub : List Value} {ab : Bool} {col : Option Bool} {dd : Option Addr} {k0 k1 k2 k3 k5 : Option Value} {B newId initId : String}
open PySem.HandSPX
theorem newF_new (Z : NewF B newId initId bmB bm) {rest : List Value} (hCls : h.get? C = some (excClassObj nm q C N bs bm hdct sn sub ab col dd k0 k1 k2 k3 k5 newId))
    (hq : R (.ok (.ret (.ref (h.objs.size + 1)))) ⟨(h.push { cls := .type "tuple", data := .seq rest.toArray }).push (excO C h.objs.size), g, d, t, os⟩) (hlen : rest.length ≤ sizeLine) :
    codeAny (model prog w) A (.builtin newId ⟨.ref C :: rest, []⟩) R ⟨h, g, d, t, os⟩ := by
  have hEnds := Z.F.ends
  have hB : (Value.ref C :: bm).contains (.type B) = true := by (rw [List.contains_cons, Z.cB]; exact Bool.or_true _)
  have hA : (Value.ref C :: bm).contains (.type "AttributeError") = false := by (rw [List.contains_cons, Z.cA]; rfl)
  have hN : (Value.ref C :: bm).contains (.type "NameError") = false := by (rw [List.contains_cons, Z.cN]; rfl)
  refine codeAny_builtinAt Z.F.entry ?_
  unfold Builtin.«BaseException.__new__»
  refine wpAt_bind ?_
  show wpAt _ _ _ (stack >>= _) _ _ _
  refine wpAt_bind (wpAt_stack fun _ _ => wpAt_of_wpAny ?_)
  wp_walk
  refine wpAt_of_wpAny ?_
  rw [Z.F.owner]
  repeat (first
    | with_reducible refine wpAny_madeHere_exc Z.F.canon hCls ?_
    | with_reducible refine wpAny_loadPart_at hCls ?_
    | (with_reducible refine wpAny_isSubtype_exc hCls ?_; first | rw [hB] | rw [hA] | rw [hN])
    | wp_step)
  show R _ _
  rw [Heap.size_push]
  exact hq
theorem newF_type (Z : NewF B newId initId bmB bm) {rest : List Value} {fI : Addr} {Q : Fin → Shared → Prop} (hCls : h.get? C = some (excClassObj nm q C N bs bm hdct sn sub ab col dd k0 k1 k2 k3 k5 newId))
    (hi : W.Looks (model prog w) h (typeLookup (.ref C) "__init__") (some (.ref fI))) (hb : ∀ me, W.Looks (model prog w) h (bindSpecial (.ref fI) me) (.ref fI, [me])) (hlen : rest.length ≤ sizeLine)
    (hq : codeAny (model prog w) A (.call (.ref fI) ⟨.ref (h.objs.size + 1) :: rest, []⟩)
      (fun r s' => match r with | .ok (.ret v) => v = .none ∧ Q (.done (.ret (.ref (h.objs.size + 1)))) s' | .ok _ => False | .error e => E e s') ⟨(h.push (W.kdv_tup rest)).push (excO C h.objs.size), g, d, t, os⟩) :
    wpAny (model prog w) A (Builtin.«type.__call__» ⟨.ref C :: rest, []⟩) Q E ⟨h, g, d, t, os⟩ := by
  repeat (first
    | with_reducible refine wpAny_loadPart_at hCls ?_
    | with_reducible refine wpAny_madeBy_exc hCls ?_
    | wp_step)
  refine codeAny_call_builtin_code (Code.quiet_builtin _ Z.F.quiet) (newF_check Z hCls ?_)
  refine newF_new Z hCls ?_ hlen
  show wpAny _ _ _ _ _ _
  have kp : ∀ b o, h.get? b = some o → ((h.push (W.kdv_tup rest)).push (excO C h.objs.size)).get? b = some o := fun b o z => Heap.get?_push_of_some _ (Heap.get?_push_of_some _ z)
  have hCls2 := kp _ _ hCls
  have hObj : ((h.push (W.kdv_tup rest)).push (excO C h.objs.size)).get? (h.objs.size + 1) = some (excO C h.objs.size) := by heap_get
  have hIs : (Value.ref C :: bm).contains (.ref C) = true := by simp
  have li := hi.keeps kp
  have lb := (hb (.ref (h.objs.size + 1))).keeps kp
  unfold isInstance
  repeat (first
    | with_reducible refine wpAny_loadPart_at hObj ?_
    | (with_reducible refine wpAny_isSubtype_exc hCls2 ?_; rw [hIs])
    | wp_step)
  show wpAny _ _ (typeLookup (.ref C) _) _ _ _
  refine li.at ?_
  refine wpAny_holding (wpAny_bind (lb.at ?_))
  refine wpAny_bind (wpAny_call (codeAny_mono hq fun r s' z => ?_))
  rcases r with e | (v | _ | _ | _) <;> first | exact z | exact z.elim | skip
  obtain ⟨rfl, z⟩ := z
  first
    | exact wpAny_pure (wpAny_pure z)
    | (wp_walk <;> exact z)
theorem newF_call (Z : NewF B newId initId bmB bm) {rest : List Value} {fI : Addr} (hCls : h.get? C = some (excClassObj nm q C N bs bm hdct sn sub ab col dd k0 k1 k2 k3 k5 newId))
    (hi : W.Looks (model prog w) h (typeLookup (.ref C) "__init__") (some (.ref fI))) (hb : ∀ me, W.Looks (model prog w) h (bindSpecial (.ref fI) me) (.ref fI, [me])) (hlen : rest.length ≤ sizeLine)
    (hq : codeAny (model prog w) (A.under (.builtin "type.__call__" ⟨.ref C :: rest, []⟩)) (.call (.ref fI) ⟨.ref (h.objs.size + 1) :: rest, []⟩) (W.InitBack (h.objs.size + 1) R) ⟨(h.push (W.kdv_tup rest)).push (excO C h.objs.size), g, d, t, os⟩) :
    codeAny (model prog w) A (.call (.ref C) ⟨rest, []⟩) R ⟨h, g, d, t, os⟩ := by
  have fa := tc_lookup
  have fb := tc_bind (.ref C)
  have ty : (⟨h, g, d, t, os⟩ : Shared).TypeIs (.ref C) "type" := ⟨_, hCls, rfl⟩
  refine codeAny_of_tree ?_
  show wpAny _ _ (callAny (.ref C) _) _ _ _
  repeat (any_goals (first
    | assumption
    | with_reducible refine wpAny_loadPart_at hCls ?_
    | wp_step))
  refine ⟨rfl, ?_⟩
  refine codeAny_call_builtin_at (Code.quiet_builtin _ (by decide +kernel)) entry_typeCall (wpAny_check_type_call_sub hCls (newF_type Z hCls hi hb hlen ?_))
  refine codeAny_mono hq fun r s' z => ?_
  rcases r with e | (v | _ | _ | _) <;> exact z
end
end Fn
namespace Fn
open PySem PySem.Spec PyProof.Rows L2
/-! ### the classes -/
/-- own classes, then this tail -/
def ownT (T : List Value) : List Value → Bool
  | .ref _ :: r => ownT T r
  | l => l == T
theorem ownT_cases (T : List Value) : ∀ l : List Value, ownT T l = true → (∃ c r, l = .ref c :: r ∧ ownT T r = true) ∨ l = T
  | .ref c :: r, e => .inl ⟨c, r, rfl, e⟩
  | [], e => .inr (beq_iff_eq.mp e)
  | .none :: _, e => .inr (beq_iff_eq.mp e)
  | .ellipsis :: _, e => .inr (beq_iff_eq.mp e)
  | .notImplemented :: _, e => .inr (beq_iff_eq.mp e)
  | .bool _ :: _, e => .inr (beq_iff_eq.mp e)
  | .int _ _ :: _, e => .inr (beq_iff_eq.mp e)
  | .float _ _ :: _, e => .inr (beq_iff_eq.mp e)
  | .str _ _ :: _, e => .inr (beq_iff_eq.mp e)
  | .bytes _ _ :: _, e => .inr (beq_iff_eq.mp e)
  | .type _ :: _, e => .inr (beq_iff_eq.mp e)
  | .builtin _ :: _, e => .inr (beq_iff_eq.mp e)
theorem ownT_pass {T : List Value} (p : ∀ me, refuseLoop me "__setattr__" T = pure ()) (me : Value) : ∀ l : List Value, ownT T l = true → refuseLoop me "__setattr__" l = pure ()
  | l, e => by
    induction l with
    | nil =>
      rcases ownT_cases T [] e with ⟨c, r, q, _⟩ | q
      · cases q
      · rw [q]
        exact p me
    | cons a r ih =>
      rcases ownT_cases T (a :: r) e with ⟨c, r', q, h⟩ | q
      · obtain ⟨rfl, rfl⟩ := List.cons.inj q
        rw [refuseLoop_ref]
        exact ih h
      · rw [q]
        exact p me
theorem ownT_has {T : List Value} (x : String) : ∀ l : List Value, ownT T l = true → l.contains (.type x) = T.contains (.type x)
  | l, e => by
    induction l with
    | nil =>
      rcases ownT_cases T [] e with ⟨c, r, q, _⟩ | q
      · cases q
      · rw [q]
    | cons a r ih =>
      rcases ownT_cases T (a :: r) e with ⟨c, r', q, h⟩ | q
      · obtain ⟨rfl, rfl⟩ := List.cons.inj q
        rw [List.contains_cons, ih h]
        rfl
      · rw [q]
/-- a built-in base: its facts, its mro T -/
structure BaseX (B newId initId : String) (bmB T : List Value) : Prop where
  F : ExcBaseFacts B newId initId bmB
  cB : T.contains (.type B) = true
  cA : T.contains (.type "AttributeError") = false
  cN : T.contains (.type "NameError") = false
  cO : T.contains (.type "object") = true
  pass : ∀ me, refuseLoop me "__setattr__" T = pure ()
theorem BaseX.new {B newId initId : String} {bmB T bm : List Value} (Z : BaseX B newId initId bmB T) (h : ownT T bm = true) : NewF B newId initId bmB bm :=
  ⟨Z.F, by rw [ownT_has _ _ h]; exact Z.cB, by rw [ownT_has _ _ h]; exact Z.cA, by rw [ownT_has _ _ h]; exact Z.cN⟩
abbrev tVal : List Value := [.type "ValueError", .type "Exception", .type "BaseException", .type "object"]
abbrev tKey : List Value := [.type "KeyError", .type "LookupError", .type "Exception", .type "BaseException", .type "object"]
abbrev tLok : List Value := [.type "LookupError", .type "Exception", .type "BaseException", .type "object"]
abbrev tIdx : List Value := [.type "IndexError", .type "LookupError", .type "Exception", .type "BaseException", .type "object"]
abbrev tOvf : List Value := [.type "OverflowError", .type "ArithmeticError", .type "Exception", .type "BaseException", .type "object"]
abbrev tAri : List Value := [.type "ArithmeticError", .type "Exception", .type "BaseException", .type "object"]
abbrev tRun : List Value := [.type "RuntimeError", .type "Exception", .type "BaseException", .type "object"]
theorem bVal : BaseX "ValueError" "ValueError.__new__" "ValueError.__init__" tVal tVal := ⟨PySem.F.excBase_ValueError, by decide +kernel, by decide +kernel, by decide +kernel, by decide +kernel, fun me => by kernel_rfl⟩
theorem bKey : BaseX "LookupError" "LookupError.__new__" "LookupError.__init__" tLok tKey := ⟨PySem.F.excBase_LookupError, by decide +kernel, by decide +kernel, by decide +kernel, by decide +kernel, fun me => by kernel_rfl⟩
theorem bLok : BaseX "LookupError" "LookupError.__new__" "LookupError.__init__" tLok tLok := ⟨PySem.F.excBase_LookupError, by decide +kernel, by decide +kernel, by decide +kernel, by decide +kernel, fun me => by kernel_rfl⟩
theorem bIdx : BaseX "IndexError" "IndexError.__new__" "IndexError.__init__" tIdx tIdx := ⟨PySem.F.excBase_IndexError, by decide +kernel, by decide +kernel, by decide +kernel, by decide +kernel, fun me => by kernel_rfl⟩
theorem bOvf : BaseX "OverflowError" "OverflowError.__new__" "OverflowError.__init__" tOvf tOvf := ⟨PySem.F.excBase_OverflowError, by decide +kernel, by decide +kernel, by decide +kernel, by decide +kernel, fun me => by kernel_rfl⟩
theorem bAri : BaseX "ArithmeticError" "ArithmeticError.__new__" "ArithmeticError.__init__" tAri tAri := ⟨PySem.F.excBase_ArithmeticError, by decide +kernel, by decide +kernel, by decide +kernel, by decide +kernel, fun me => by kernel_rfl⟩
theorem bRun : BaseX "RuntimeError" "RuntimeError.__new__" "RuntimeError.__init__" tRun tRun := ⟨PySem.F.excBase_RuntimeError, by decide +kernel, by decide +kernel, by decide +kernel, by decide +kernel, fun me => by kernel_rfl⟩
/-- the class at C in the written part: its tail T, what makes it -/
def clsX (K : PySem.W.Frag) (C : Addr) (T : List Value) (newId : String) : Bool := match K.lookup C with
  | some ⟨.type "type", _, .cls cd, sl⟩ => (match cd.mro, sl.toList with
    | .ref C' :: bm, [_, _, _, _, some (.builtin n), _] => C' == C && n == newId && !cd.hasDel && cd.hasDict && ownT T bm
    | _, _ => false)
  | _ => false
theorem clsX_obj {K : PySem.W.Frag} {C : Addr} {T : List Value} {newId : String} (h : clsX K C T newId = true) :
    ∃ nm q N bs bm sn sub ab col dd k0 k1 k2 k3 k5, K.lookup C = some (excClassObj nm q C N bs bm true sn sub ab col dd k0 k1 k2 k3 k5 newId) ∧ ownT T bm = true := by
  unfold clsX at h
  split at h
  · rename_i dd cd sl e
    split at h
    · rename_i C' bm k0 k1 k2 k3 n k5 e1 e2
      simp only [Bool.and_eq_true, beq_iff_eq] at h
      obtain ⟨⟨⟨⟨h1, h2⟩, h3⟩, h4⟩, h5⟩ := h
      subst h1 h2
      obtain ⟨nm, bs, mro, ns, qn, hd, sn, sb, ab, col, del⟩ := cd
      simp only at e1 h3 h4
      subst e1
      have h3' : del = false := by simpa using h3
      subst h3' h4
      refine ⟨nm, qn, ns, bs, bm, sn, sb, ab, col, dd, k0, k1, k2, k3, k5, ?_, h5⟩
      rw [e]
      have : sl = #[k0, k1, k2, k3, some (.builtin n), k5] := by
        rw [← Array.toArray_toList (xs := sl), e2]
      rw [this]
    · cases h
  · cases h
end Fn
namespace PySem.W
open PySem PySem.Spec PySem.Calls PyProof.Rows
section
variable {prog : Program} {w : World} {A : Around} {E : Value → Shared → Prop} {s : Shared} {K : Frag} {x D : Addr} {ox : Obj} {od : Option Obj}
theorem fn_findObj {K : Frag} {C : Addr} {od : Option Obj} {name : Str} {a g : Value} (hc : (clsIn K C).isSome = true) (ha : findIn K (.ref C) name = some (some a)) (hg : specialIn K a "__get__" = some (some g)) (ht : takesIn K a = some true) : findObj K C od name = some (.bind g a) := by
  cases od with
  | none => exact findObj_dataN hc ha hg ht
  | some o => exact findObj_data hc ha hg ht
theorem fn_class {Q : Option Value → Shared → Prop} (T : L2.ExcC K D) (X : K.In s.heap) (I : InstAt s.heap x ox D od) (h : Q (some (.ref D)) { s with toks := s.toks + 1 }) : wpAny (model prog w) A (getAttr? (.ref x) "__class__") Q E s := by
  have fo : findObj K D od "__class__" = some (.bind (.builtin "getset_descriptor.__get__") (.builtin "object.__class__")) := fn_findObj (by obtain ⟨cd, hcd, _⟩ := any_some T.hd; rw [hcd]; rfl) T.ha T.hn T.ht
  obtain ⟨hh, gs, dr, tk, ost⟩ := s
  have l0 := I.type (M := model prog w)
  have l1 := looks_findIn (M := model prog w) X T.hg
  have l2 := looks_findIn (M := model prog w) X T.hk
  have l3 := looks_find (M := model prog w) X I fo
  have ls : Looks (model prog w) hh (isInstance (.ref x) (.type "BaseException")) true := l0.andThen (looks_subIn X T.hs)
  have z0 : (false && onTheHeap (Value.builtin "BaseException.__getattribute__")) = false := rfl
  have z2 : (Value.builtin "BaseException.__getattribute__" == Value.builtin "object.__getattribute__") = false := by decide +kernel
  have z1 : (onTheHeap (Value.ref D) && Value.builtin "BaseException.__getattribute__" == Value.builtin "object.__getattribute__") = false := by (rw [z2]; rfl)
  unfold getAttr? getAttrBy? getAttrBy
  refine wpAny_bind (wpAny_mkText (wpAny_bind (wpAny_attempt (wpAny_holding (wpAny_bind (l0.at (wpAny_bind (l1.at ?_))))))))
  show wpAny _ _ (if (onTheHeap (Value.ref D) && Value.builtin "BaseException.__getattribute__" == Value.builtin "object.__getattribute__") = true then _ else _) _ _ _
  rw [z1, if_neg Bool.false_ne_true]
  unfold getAttrByItsOwn hookBefore
  refine wpAny_bind ?_
  rw [if_pos (show (onTheHeap (Value.ref D)) = true from rfl)]
  refine l2.at ?_
  refine (wpAny_bind (wpAny_attempt (wpAny_holding ?_)))
  unfold callGetattribute
  rw [z0, if_neg Bool.false_ne_true]
  unfold boundAndCalled
  rw [PySem.F.excAttr_ValueError.ga.bind (Value.ref x)]
  refine (wpAny_bind (wpAny_pure ?_))
  show wpAny _ _ (call (.builtin "BaseException.__getattribute__") [.ref x, .str "__class__" tk]) _ _ _
  refine (wpAny_call (codeAny_call_builtin PySem.F.excAttr_ValueError.ga.plain PySem.F.entry_bexc_ga ?_))
  refine @check_slot (model prog w) _ _ ⟨hh, gs, dr, tk + 1, ost⟩ "BaseException.__getattribute__" "BaseException" "__getattribute__" (.ref x) [.str "__class__" tk] [] _ (by decide +kernel) (by decide +kernel) ls (PySem.F.args_bexc_ga (.ref x) (.str "__class__" tk)) ?_
  unfold Builtin.«object.__getattribute__»
  refine (wpAny_bind (wpAny_of_eq (a := ((Value.ref x : Value), [Value.str "__class__" tk])) (by first | exact rfl | (simp only [slotArgs]; rfl)) ?_))
  refine (wpAny_bind (wpAny_pure (wpAny_bind (l0.at (wpAny_bind (l3.at ?_))))))
  show wpAny _ _ ((holding [Value.builtin "object.__class__"] (call (.builtin "getset_descriptor.__get__") [.builtin "object.__class__", .ref x, .ref D])) >>= ret) _ _ _
  refine wpAny_bind (wpAny_holding (wpAny_call (class_get (s := ⟨hh, gs, dr, tk + 1, ost⟩) (ox := ox) (od := od) X I T.hm ?_)))
  refine wpAny_pure ?_
  show wpAny _ _ (handedOut (Value.ref D)) _ _ _
  rw [handedOut_of (v := Value.ref D) rfl]
  first
    | exact (wpAny_pure (wpAny_pure h))
    | exact wpAny_pure h
    | exact (wpAny_pure (wpAny_bind (wpAny_pure (wpAny_pure h))))
theorem fn_kitx (T : L2.ExcC K D) : KitX K (.ref x) (.ref D) (fun h => ∃ ox od, InstAt h x ox D od) where
  ty := fun _ _ _ ⟨_, _, I⟩ => I.type
  it := fun _ _ X _ => by
    obtain ⟨cd, hcd, _⟩ := any_some T.hd
    unfold clsIn at hcd
    split at hcd
    · rename_i c' d' cd' sl' ho
      intro A' Q' E' s' k q
      unfold isType loadHead
      exact wpAny_bind (wpAny_loadPart (k _ _ (X _ _ ho)) (wpAny_pure q))
    · cases hcd
  ne := fun h tp dd its n sl X htp => by
    obtain ⟨cd, hcd, _⟩ := any_some T.hd
    refine Bool.eq_false_iff.mpr fun q => ?_
    have e := Value.ref.inj (beq_iff_eq.mp q)
    subst e
    unfold clsIn at hcd
    split at hcd
    · rename_i c' d' cd' sl' ho
      cases (X _ _ ho).symm.trans htp
    · cases hcd
  ca := fun X ⟨_, _, I⟩ k => fn_class T X I k
end
end PySem.W
namespace Fn
open PySem PySem.Spec PyProof.Rows L2
/-- an exception that was made: of the class at C; its one text, if it was made with one -/
def exT (a C t : Addr) : HO := .ext fun h => h.get? a = some ({ cls := .ref C, dict := none, data := .fields #[.ref t, .none, .none, .none, .bool false, .none] } : Obj)
theorem exT_ok {P : Program} {w : World} {H : Hp} {h : Heap} {a C t : Addr} (e : h.get? a = some ({ cls := .ref C, dict := none, data := .fields #[.ref t, .none, .none, .none, .bool false, .none] } : Obj)) : ObjOk P w H h a (exT a C t) :=
  ⟨e, ⟨_, e⟩, fun _ _ z k => k _ z⟩
/-- an instance of the error class at C -/
def IsErr (H : Hp) (a C : Addr) : Prop := (∃ d, H a = some (exo a C d) ∧ ∀ dx, d = some dx → ∃ fs, H dx = some (exd dx fs)) ∨ ∃ t, H a = some (exT a C t)
theorem isErr_at {P : Program} {w : World} {H : Hp} {h : Heap} {a C : Addr} (hok : HOk P w H h) (e : IsErr H a C) : ∃ ox od, PySem.W.InstAt h a ox C od := by
  rcases e with ⟨d, e, hd⟩ | ⟨t, e⟩
  · obtain ⟨t1, ho⟩ := exo_at hok e
    cases d with
    | none => exact ⟨_, none, ho, rfl, rfl, trivial⟩
    | some dx =>
      obtain ⟨fs, ed⟩ := hd dx rfl
      obtain ⟨mA, ⟨o, es, ep, hdo, _⟩, _⟩ := exd_at hok ed
      exact ⟨_, some o, ho, rfl, rfl, hdo⟩
  · have x : ObjOk P w H h a (exT a C t) := hok a _ e
    exact ⟨_, none, x.1, rfl, rfl, trivial⟩
/-- isinstance(e, c), e such an error -/
def rIsErr (K : PySem.W.Frag) : List V → Hp → VK → Prop := fun xs H Q => ∃ (a D : Addr) (c : V) (cv : Value) (b : Bool), xs = [.ref a, c] ∧ IsErr H a D ∧ ExcC K D ∧ ClsV c cv ∧ PySem.W.kitOne K (.ref D) cv = some b ∧ Q (.bl b) H
theorem call_isErr {X : Cx} {K : PySem.W.Frag} (hK : X.K = K := by rfl) : CallR X (.builtin "isinstance") (rIsErr K) := by
  subst hK
  intro pins s σ H xs us Q I r h
  obtain ⟨a, D, c, cv, b, rfl, he, T, hc, e, q⟩ := h
  obtain ⟨u1, u2, rfl, r1, r2⟩ := vals2 r
  cases (show u1 = Value.ref a from r1)
  have e2 := hc.eq r2
  subst e2
  exact PySem.W.kia_one (PySem.W.fn_kitx T) I.kIn (isErr_at I.hok he) e (fun z => nomatch z) fun tk => ⟨.bl b, H, I.kept (t' := tk) fun _ _ z => z, rfl, q⟩

end Fn
namespace Fn
open PySem PySem.Spec PyProof.Rows L2
/-! ### an own class, as it is used -/
/-- an own class over a built-in base, whose instances may bear fields -/
structure OwnX (K : PySem.W.Frag) (C : Addr) : Prop where
  cls : ∃ B newId initId bmB T, BaseX B newId initId bmB T ∧ clsX K C T newId = true
  sa : PySem.W.findIn K (.ref C) "__setattr__" = some (some (.builtin "object.__setattr__"))
  kp : PySem.W.keepIn K (.ref C) = true
section
open Builtin Builtin.ObjectAttr PySem.HandSPX
variable {prog : Program} {w : World} {A : Around} {E : Value → Shared → Prop} {R : Result → Shared → Prop} {h : Heap} {g : Array GenState} {d : Drawn} {t : Nat} {os : OsState}
/-- the first field of a new exception: its dict is made -/
theorem firstField {K : PySem.W.Frag} {f : Str} {tk : Tok} {u : Value} {x C : Addr} {sl : Array Value} {cd : ClassData} (X : K.In h) (hx : h.get? x = some { cls := .ref C, data := .fields sl }) (hc : PySem.W.clsIn K C = some cd)
    (pass : ∀ me, refuseLoop me "__setattr__" cd.mro = pure ()) (ne : cd.mro.isEmpty = false) (ob : cd.mro.contains (.type "object") = true) (hd : cd.hasDict = true) (no : PySem.W.findIn K (.ref C) f = some none)
    (hq : ∀ h' tk' dx, (∀ b o, b ≠ x → h.get? b = some o → h'.get? b = some o) → h.objs.size ≤ dx → dx ≠ x → h'.get? x = some { cls := .ref C, dict := some dx, data := .fields sl } →
      h'.Ns1 dx (fun y => if y = f then some u else none) → R (.ok (.ret .none)) ⟨h', g, d, tk', os⟩) :
    codeAny (model prog w) A (.call (.builtin "object.__setattr__") ⟨[.ref x, .str f tk, u], []⟩) R ⟨h, g, d, t, os⟩ := by
  have J : PySem.W.InstAt h x { cls := .ref C, data := .fields sl } C none := ⟨hx, rfl, rfl, trivial⟩
  have fo := PySem.F.store_object
  have ty := J.type (M := model prog w)
  have lc : PySem.W.Looks (model prog w) h (classData C) cd := PySem.W.looks_clsIn X hc
  have lm : PySem.W.Looks (model prog w) h (mroOf (.ref C)) cd.mro := lc.andThen .now
  have ln : PySem.W.Looks (model prog w) h (storeTaker? none) none := .now
  have nx : x ≠ h.objs.size := Nat.ne_of_lt (Heap.lt_size hx)
  have is : PySem.W.Looks (model prog w) h (isInstance (.ref x) (.type "object")) true := ty.andThen (PySem.W.looks_mroIn X (by
    unfold PySem.W.mroIn
    rw [hc, Option.bind_some, ne, ob]
    rfl))
  refine codeAny_call_builtin fo.slot.plain fo.entry (@PySem.W.check_slot (model prog w) _ _ ⟨h, g, d, t, os⟩ "object.__setattr__" "object" "__setattr__" (.ref x) [.str f tk, u] [] _ fo.kind fo.split is (fo.args (.ref x) (.str f tk) u) ?_)
  rw [PySem.W.osa_eq, refuse_eq]
  refine wpAny_bind (wpAny_bind (ty.at (wpAny_bind (lm.at ?_))))
  rw [pass]
  refine wpAny_pure (wpAny_bind (ty.at (wpAny_bind ((PySem.W.looks_findIn X no).at (wpAny_bind (ln.at ?_))))))
  show wpAny _ _ (storeInOwnDict (.ref x) (.ref C) (.str f tk) f u false) _ _ _
  cases cd with
  | mk c1 c2 c3 c4 c5 c6 c7 c8 c9 c10 c11 =>
    have hd' : c6 = true := hd
    subst hd'
    unfold storeInOwnDict ownDictForStores
    repeat (first | with_reducible refine store_in_new ?_ ?_ | with_reducible refine wpAny_loadPart_at hx ?_ | with_reducible refine lc.at ?_ | wp_step)
    · exact ⟨_, #[], _, (Heap.get?_update_ne _ _ _ _ nx.symm).trans (Heap.get?_push_at rfl rfl), rfl, fun e he => absurd he (by simp), fun _ => rfl⟩
    · intro h' tk' ns sb
      refine hq h' tk' h.objs.size (fun b o nb e => ?_) (Nat.le_refl _) nx.symm ((sb.2 x nx).trans (Heap.get?_update_self _ (Heap.get?_push_of_some _ hx) rfl)) ns
      rw [sb.2 b (Nat.ne_of_lt (Heap.lt_size e)), Heap.get?_update_ne _ _ _ _ nb]
      exact Heap.get?_push_of_some _ e
end
section
variable {X : Cx} {pins : List (Addr × Obj)} {σ : L2.St} {H : Hp} {s : Shared} {a C : Addr} {f : Str} {y : V} {u : Value} {Q : Unit → Shared → Prop} {E : Value → Shared → Prop} {A : Around}
theorem OwnX.mro {K : PySem.W.Frag} (T : OwnX K C) : ∃ cd, PySem.W.clsIn K C = some cd ∧ (∀ me, refuseLoop me "__setattr__" cd.mro = pure ()) ∧ cd.mro.isEmpty = false ∧ cd.mro.contains (.type "object") = true ∧ cd.hasDict = true := by
  obtain ⟨B, n, i, bmB, T0, Z, hc⟩ := T.cls
  obtain ⟨nm, q, N, bs, bm, sn, sub, ab, col, dd, k0, k1, k2, k3, k5, e, ow⟩ := clsX_obj hc
  refine ⟨_, by unfold PySem.W.clsIn; rw [e] <;> rfl, fun me => ownT_pass Z.pass me (.ref C :: bm) ow, rfl, ?_, rfl⟩
  show (Value.ref C :: bm).contains (.type "object") = true
  rw [List.contains_cons, ownT_has _ _ ow, Z.cO, Bool.or_true]
theorem putX_new (T : OwnX X.K C) (I : Inv X pins σ H s) (e : H a = some (exo a C none)) (no : PySem.W.findIn X.K (.ref C) f = some none) (ry : RelV y u)
    (k : ∀ dx s', H dx = none → dx ≠ a → Inv X pins σ (upd (upd H dx (exd dx [(f, y)])) a (exo a C (some dx))) s' → Q () s') : wpAny (model X.prog X.w) A (setAttr (.ref a) f u) Q E s := by
  obtain ⟨cd, c1, c2, c3, c4, c5⟩ := T.mro
  obtain ⟨t1, ho⟩ := exo_at I.hok e
  obtain ⟨h, g, d, t, os⟩ := s
  refine PySem.W.set_plain I.kIn (ox := { cls := .ref C, dict := none, data := .fields #[.ref t1, .none, .none, .none, .bool false, .none] }) (od := none) ⟨ho, rfl, rfl, trivial⟩ T.sa (firstField I.kIn ho c1 c2 c3 c4 c5 no fun h' tk' dx kp ge ne hx ns => ?_)
  have nH : H dx = none := I.hok.fresh ge
  have old : ∀ {b : Addr} {o : Obj}, h.get? b = some o → b ≠ dx := fun q z => absurd (Heap.lt_size q) (by rw [z]; exact Nat.not_lt.mpr ge)
  have off : ∀ {b : Addr}, H b = none → b ≠ a := fun n z => by
    subst z
    rw [e] at n
    cases n
  have both : ∀ {b : Addr} {o : HO}, H b = some o → o ≠ exo a C none → upd (upd H dx (exd dx [(f, y)])) a (exo a C (some dx)) b = some o := fun {b o} q n => by
    have ba : b ≠ a := fun z => by
      subst z
      rw [e] at q
      exact n (Option.some.inj q).symm
    rw [upd_ne ba, upd_ne (ne_of_none q nH)]
    exact q
  have U : Un X.fs [] H (upd (upd H dx (exd dx [(f, y)])) a (exo a C (some dx))) h h' := {
    keep := fun b o q n _ _ => kp b o (off n) q
    slot := fun b o q n _ _ => ⟨_, kp b o (off n) q⟩
    free := fun b o q n _ => (upd_ne (off n)).trans ((upd_ne (old q)).trans n)
    there := fun b o q _ => (Decidable.em (b = a)).elim (fun z => ⟨_, z ▸ hx⟩) fun z => ⟨o, kp b o z q⟩
    tups := fun b xs q => both q fun z => exo_tup z.symm
    frzs := fun b o v q => both q fun z => exo_frz z.symm
    tbls := fun b ps q => ⟨#[], by rw [both q fun z => exo_tbl z.symm]; simp⟩ }
  refine k dx _ nH ne (I.un (t' := tk') U fun b o q => ?_)
  by_cases ba : b = a
  · subst ba
    cases upd_same.symm.trans q
    exact exo_ok hx
  rw [upd_ne ba] at q
  by_cases bd : b = dx
  · subst bd
    cases upd_same.symm.trans q
    exact exd_ok ns (relO_put (fs := []) ry fun _ => True.intro)
  rw [upd_ne bd] at q
  refine (I.hok b o q).stay (fun c v hc z => kp c v ?_ z) (fun c hc => both hc fun z => exo_own z.symm) fun c xs hc => both hc fun z => exo_tup z.symm
  rcases hc with rfl | hc
  · exact ba
  · exact at_ne e hc exo_own
end
/-! ### readings and rules -/
/-- self.f = e, in an own __init__, the first field -/
def tPut (K : PySem.W.Frag) (f : Str) (to te : TE) : TS := fun D σ H => te σ H fun y H1 => to σ H1 fun x H2 => ∃ a C : Addr, x = .ref a ∧ OwnX K C ∧ PySem.W.findIn K (.ref C) f = some none ∧ H2 a = some (exo a C none) ∧
  ∀ dx, H2 dx = none → dx ≠ a → D.nx σ (upd (upd H2 dx (exd dx [(f, y)])) a (exo a C (some dx)))
section
variable {X : Cx} {o e : Expr} {es : List Expr} {to te : TE} {ta : TA} {f x : Str} {p p' pos : Pos}
theorem ps_put (ho : PE X o to) (he : PE X e te) (sw : swapsWith e (some (.Attribute o f p')) pos.line X.env = pure false := by rfl) : PS X (.Assign [.Attribute o f p'] e pos) (tPut X.K f to te) := by
  refine ⟨fun pins s σ H D I h => plainObj_wpAny_Assign_Attribute (thn (he.run pins s σ H _ I h) fun v s1 ⟨y, H1, J, r, q⟩ => thn (ho.run pins s1 σ H1 _ J q) fun u s2 ⟨z, H2, J2, r2, a, C, ez, T, no, ea, q2⟩ => ?_) sw⟩
  subst ez
  cases r2
  exact putX_new T J2 ea no r fun dx s' n ne G => ⟨σ, _, G, q2 dx n ne⟩
/-- C(e): C with an own __init__, whose promise is sp -/
structure MkIni (C : Addr) (sp : Sp) (vs : List V) (H : Hp) (Q : VK) : Prop where
  z : vs.length ≤ 1000
  k : ∀ a, H a = none → sp (.ref a :: vs) (upd H a (exo a C none)) (fun v H2 => v = .non ∧ Q (.ref a) H2) fun _ _ _ => False
def tMkI (C : Addr) (sp : Sp) (ta : TA) : TE := fun σ H Q => ta σ H fun vs H1 => MkIni C sp vs H1 Q
/-- C(e): C without one -/
structure MkOne (C : Addr) (y : V) (H : Hp) (Q : VK) : Prop where
  k : ∀ t a, H t = none → H a = none → t ≠ a → Q (.ref a) (upd (upd H t (.tup [y])) a (exT a C t))
def tMk1 (C : Addr) (te : TE) : TE := fun σ H Q => te σ H fun y H1 => MkOne C y H1 Q
theorem pe_mkI {W : CXT} {C fI : Addr} {k : Nat} {fd : FuncData} {ps : List Str} {sp : Sp} (T : OwnX X.K C) (iC : PySem.W.findIn X.K (.ref C) "__init__" = some (some (.ref fI))) (tI : PySem.W.typeIn X.K (.ref fI) = some (.type "function"))
    (F : FnOk X.prog X.w X.K X.mg X.base W k fI fd ps sp) (hr : Room (k + 1) X.A) (hb : Binds X.K fd ps []) (hx : Passes W X (fun _ _ _ => False)) (hg : Gl X x) (hm : X.mg x = some (.ref C)) (ha : PA X (e :: es) ta)
    (ndb : (x == ("__debug__" : Str)) = false := by decide) (st : starEach (e :: es) X.env = (false, eval e X.env) :: starEach es X.env := by rfl) (pl : (backTo pos (starEach es X.env)).any (·.1) = false := by rfl) :
    PE X (.Call (.Name x p) (e :: es) [] pos) (tMkI C sp ta) := by
  refine ⟨fun pins s σ H Q I h => wpAny_Call_Name_kw (ld_glob I hg hm ?_ ndb)⟩
  refine PySem.W.callWith_K (h₀ := X.base) I.ok.mod.kin T.kp (thn (ha.run pos pins s σ H _ I h) fun us s1 ⟨vs, H1, J, r, sz, q⟩ => ⟨J.kIn, ?_⟩) st pl
  show wpAny _ _ (call (.ref C) us) _ _ _
  obtain ⟨B, n, i, bmB, T0, Z, hc⟩ := T.cls
  obtain ⟨nm, qn, N, bs, bm, sn, sub, ab, col, dd, k0, k1, k2, k3, k5, eC, ow⟩ := clsX_obj hc
  obtain ⟨hp, g, dr, tk, os⟩ := s1
  have ge : hp.objs.size ≤ hp.objs.size + 1 := Nat.le_succ _
  have new : ((hp.push (PySem.W.kdv_tup us)).push (PySem.HandSPX.excO C hp.objs.size)).get? (hp.objs.size + 1) = some (PySem.HandSPX.excO C hp.objs.size) := by heap_get
  have G : Inv X pins σ (upd H1 (hp.objs.size + 1) (exo (hp.objs.size + 1) C none)) ⟨(hp.push (PySem.W.kdv_tup us)).push (PySem.HandSPX.excO C hp.objs.size), g, dr, tk, os⟩ :=
    J.laid (t' := tk) (fun _ _ z => Heap.get?_push_of_some _ (Heap.get?_push_of_some _ z)) ge (exo_ok new)
  have sq := q _ (J.hok.fresh ge)
  have r2 : Vals (V.ref (hp.objs.size + 1) :: vs) (Value.ref (hp.objs.size + 1) :: us) := .cons rfl r
  have ln : (Value.ref (hp.objs.size + 1) :: us ++ []).length = ps.length := by
    rw [List.append_nil]
    exact r2.length.symm.trans (F.len _ _ _ _ sq)
  have bd := hb ⟨(hp.push (PySem.W.kdv_tup us)).push (PySem.HandSPX.excO C hp.objs.size), g, dr, tk, os⟩ (Value.ref (hp.objs.size + 1) :: us) G.kIn ln
  rw [List.append_nil] at bd
  refine wpAny_call (newF_call (Z.new ow) (J.kIn _ _ eC) (PySem.W.looks_findIn J.kIn iC) (fun me => PySem.W.bind_fn J.kIn me tI) (by rw [← r.length, sizeLine_eq]; omega)
    (codeAny_mono (F.run _ X.stack _ _ ⟨Value.ref (hp.objs.size + 1) :: us, []⟩ _ _ _ (fun _ _ _ => False) (hr.make C us []) (G.env0.make C us []) bd r2 sq) fun r s' z => ?_))
  rcases r with er | (_ | _ | _ | u)
  all_goals first
    | exact hx pins σ _ _ er s' G z
    | exact False.elim z
    | skip
  obtain ⟨v, H2, o2, b2, un2, ok2, rv, ev, q2⟩ := z
  subst ev
  obtain ⟨h2, g2, d2, t2, os2⟩ := s'
  cases (show os2 = os from o2)
  exact ⟨rv, .ref (hp.objs.size + 1), H2, G.call (h' := h2) (g' := g2) (d' := d2) (t' := t2) (ch := []) un2 ok2 b2 (fun _ z => absurd z (by simp)), rfl, q2⟩
/-- C(e): C without an own __init__ -/
theorem pe_mk1 {C : Addr} {bmB : List Value} {B newId initId : String} (F : ExcBaseFacts B newId initId bmB) (q : PySem.W.excIn X.K C bmB newId = true) (hm : X.mg x = some (.ref C)) (kC : PySem.W.keepIn X.K (.ref C) = true) (hg : Gl X x)
    (he : PE X e te) (st : starEach [e] X.env = (false, eval e X.env) :: starEach [] X.env := by rfl) (ndb : (x == ("__debug__" : Str)) = false := by decide) :
    PE X (.Call (.Name x p) [e] [] pos) (tMk1 C te) := by
  refine ⟨fun pins s σ H Q I h => wpAny_Call_Name_kw (ld_glob I hg hm ?_ ndb)⟩
  refine PySem.W.callWith_K (h₀ := X.base) I.ok.mod.kin kC ?_ st (by rfl)
  rw [st]
  show wpAny _ _ (spliced ((false, eval e X.env) :: backTo pos (starEach [] X.env))) _ _ s
  refine Calls.spliced_cons (thn (he.run pins s σ H _ I h) fun u s1 ⟨v, H1, J, r, q1⟩ => Calls.spliced_nil ⟨J.kIn, ?_⟩)
  show wpAny _ _ (call (.ref C) [u]) _ _ _
  obtain ⟨bm, N, nm, qn, bs, hd, sn, sub, ab, col, dd, k0, k1, k2, k3, k5, mN, eC, hN, hni, T⟩ := exc_obj J.kIn q
  refine wpAny_call_exc_subT F T eC hN hni (fun h' a hmk => ?_) (by show 1 ≤ sizeLine; rw [sizeLine_eq]; omega)
  obtain ⟨t, ea, tn, et⟩ := hmk.there
  obtain ⟨hp, g, dr, tk, os⟩ := s1
  have na : H1 a = none := J.hok.gone hmk.new
  have nt : H1 t = none := J.hok.gone tn
  have ta : t ≠ a := fun z => by
    subst z
    rw [ea] at et
    cases et
  obtain ⟨G, g1, g2⟩ := restrict h' fun b => decide (b ≠ a)
  have gk : ∀ b, b ≠ a → G.get? b = h'.get? b := fun b hb => g1 b (decide_eq_true hb)
  have ga : G.get? a = none := g2 a (by simp)
  have J1 : Inv X pins σ (upd H1 t (.tup [v])) ⟨G, g, dr, tk, os⟩ := J.laidN (t' := tk) (h' := G) (a := t) (fun b o z => by
      rw [gk b fun y => by
        rw [y, hmk.new] at z
        cases z]
      exact hmk.keeps b o z) tn nt (show ObjOk X.prog X.w _ G t (.tup [v]) from ⟨by show 1 ≤ sizeLine; rw [sizeLine_eq]; omega, [u], .cons r .nil, _, (gk t ta).trans et, rfl, _, rfl⟩)
  have J2 : Inv X pins σ (upd (upd H1 t (.tup [v])) a (exT a C t)) ⟨h', g, dr, tk, os⟩ := J1.laidN (t' := tk) (h' := h') (a := a) (fun b o z => by
      by_cases y : b = a
      · rw [y, ga] at z
        cases z
      · exact (gk b y).symm.trans z) ga ((upd_ne ta.symm).trans na) (exT_ok ea)
  exact ⟨.ref a, _, J2, rfl, q1.k t a nt na ta⟩
/-- what str(e) asks of the class of e -/
structure StrC (K : PySem.W.Frag) (C : Addr) : Prop where
  s : PySem.W.findIn K (.ref C) "__str__" = some (some (.builtin "BaseException.__str__"))
  b : PySem.W.subIn K (.ref C) (.type "BaseException") = some true
/-- str(e), e made with one text -/
def rStrE (K : PySem.W.Frag) : List V → Hp → VK → Prop := fun xs H Q => ∃ a C t x, xs = [.ref a] ∧ H a = some (exT a C t) ∧ H t = some (.tup [.str x]) ∧ StrC K C ∧ Q (.str x) H
theorem call_strE {K : PySem.W.Frag} (hu : X.A.units + 64 < cLine) (hK : X.K = K := by rfl) : CallR X (.type "str") (rStrE K) := by
  subst hK
  intro pins s σ H xs us Q I r h
  obtain ⟨a, C, t, z, rfl, ea, et, T, q⟩ := h
  obtain ⟨u, rfl, r1⟩ := vals1 r
  cases r1
  have oa : ObjOk X.prog X.w H s.heap a (exT a C t) := I.hok a _ ea
  obtain ⟨its, rt, ⟨o, ho, hc, n, hd⟩, _⟩ := I.tuple (SqT.of et)
  obtain ⟨w1, rfl, tk, rfl⟩ := vals1 rt
  exact PySem.P.str_of_C_one (by omega) ⟨I.kIn, _, _, oa.1, rfl, rfl, rfl⟩ ⟨o, n, ho, hc, hd⟩ T.s T.b ⟨.str z, H, I, ⟨_, rfl⟩, q⟩
/-- e.f, e an exception that was made: its own field -/
def tXg (K : PySem.W.Frag) (f : Str) (te : TE) : TE := fun σ H Q => te σ H fun x H1 => ∃ (a C dx : Addr) (fs : List (Str × V)) (v : V), x = .ref a ∧ H1 a = some (exo a C (some dx)) ∧ H1 dx = some (exd dx fs) ∧ XfC K C ∧ PySem.W.findIn K (.ref C) f = some none ∧ fs.lookup f = some v ∧ Q v H1
theorem pe_xg {K : PySem.W.Frag} (he : PE X e te) (hb : attributeBase e f X.env (eval e X.env) = eval e X.env := by rfl) (hK : X.K = K := by rfl) : PE X (.Attribute e f pos) (tXg K f te) := by
  subst hK
  refine ⟨fun pins s σ H Q I h => attr_of hb (thn (he.run pins s σ H _ I h) fun u s1 ⟨x, H1, J, rx, a, C, dx, fs, v, ex, ea, ed, T, no, l, q⟩ => ?_)⟩
  subst ex
  cases rx
  obtain ⟨t1, ho⟩ := exo_at J.hok ea
  obtain ⟨mA, ns, rel⟩ := exd_at J.hok ed
  obtain ⟨od, hd, hl⟩ := lookIn_ns ns
  obtain ⟨u, hu, ru⟩ := RelO.some_of (v := v) (o := mA f) (by rw [← l]; exact rel f)
  have at1 : PySem.W.InstAt s1.heap a { cls := .ref C, dict := some dx, data := .fields #[.ref t1, .none, .none, .none, .bool false, .none] } C (some od) := ⟨ho, rfl, rfl, hd⟩
  exact PySem.HandSPX.exc_get J.kIn at1 T.ga T.gg T.exC (PySem.W.findObj_own T.hdC no rfl (by rw [hl, hu])) (handed_of ru) ⟨v, H1, J.tok _, ru, q⟩
end
end Fn

set_option Elab.async false
set_option maxRecDepth 100000
set_option maxHeartbeats 4000000
/-! Defs that call repr: a promise that is kept where no repr runs as yet. repr of data; text * int. -/
namespace Fn
open PySem PySem.Spec PyProof.Rows L2
/-- a def's promise, where no repr runs -/
structure FnG (P : Program) (w : World) (K : PySem.W.Frag) (mg : Str → Option Value) (base : Heap) (V : CXT) (k : Nat) (f : Addr) (fd : FuncData) (ps : List Str) (sp : Sp) : Prop where
  len : ∀ xs H Q E, sp xs H Q E → xs.length = ps.length
  go : ∀ (B : Around) (fr : List Env) (s : Shared) (H : Hp) (c : Args) (us : List Value) (xs : List L2.V) (Q : VK) (E : XK), B.guards = some [] → Room k B → Env0 P w K mg base B fr s H → BindsTo s fd c (ps.zip us) → Vals xs us → sp xs H Q E →
    codeAny (model P w) B (.call (.ref f) c) (CR V fr P w H s Q E) s
section
variable {P : Program} {w : World} {K : PySem.W.Frag} {mg : Str → Option Value} {base : Heap}
/-- a def by its body -/
theorem okG {x qual : Str} {st : Stmt} {f : Addr} {fd : FuncData} {N ps : List Str} {k : Nat} {sp : Sp} (F : Fun K x qual st f fd) (S : FnScope N ps (defScope st)) (len : ∀ xs H Q E, sp xs H Q E → xs.length = ps.length)
    (hb : ∀ (cdv : Value) (B : Around) (fr : List Env) (s : Shared) (H : Hp) (xs : List V) (Q : VK) (E : XK), B.guards = some [] → Room k (B.deeper (envOfC qual (defScope st) s.heap.objs.size f cdv)) → sp xs H Q E →
      ∃ t, PSs (cxOf CX0 P w K mg base N qual (defScope st) f cdv B fr s H E).nox (defBody st) t ∧ t { nx := fun _ H' => Q .non H', rt := Q } (start N xs) H) : FnG P w K mg base CX0 (k + 1) f fd ps sp := by
  obtain ⟨oc, od, kV, doc, pm, an, cdv, ct, osl, rfl, lk, hcd⟩ := F.ex
  refine ⟨len, fun B fr s H c us xs Q E hg hr e0 hbd rel hsp => ?_⟩
  have ll := len _ _ _ _ hsp
  have kin : K.In s.heap := e0.mod.kin.keeps fun b o e => (e0.bs b o e).1
  have nol : s.heap.NoLimit := e0.mod.nolimit.keeps fun b o e => (e0.bs b o e).1
  have kd : ∀ y ∈ ps.zip us, (defScope st).names.lookup y.1 = some .local ∨ ((defScope st).names.lookup y.1 = some .cell ∧ ((cellsFrom (s.heap.objs.size + 1) (defScope st).names []).lookup y.1).isSome = true) := by
    intro y hy
    refine (S.par y.1 (List.of_mem_zip hy).1).imp id fun q => ⟨q, PySem.W.cellsFrom_some _ _ _ (.inl q)⟩
  refine codeAny_call_function hr.depth (kin _ _ lk) rfl S.co S.gen rfl (PySem.W.codeRec_of kin hcd) (hbd _ _ _ _ (wpAny_newFunctionEnv_cells S.kind kd fun env he s1 y => ?_))
  subst he
  refine ⟨nol.keeps y.toInCall.keep, codeAny_func ?_⟩
  obtain ⟨t, ht, q⟩ := hb cdv B fr s H xs Q E hg (hr.deeper _) hsp
  have J : Inv (cxOf CX0 P w K mg base N qual (defScope st) f cdv B fr s H E) [] (start N xs) H s1 := inv_start S hr.hd e0 ll rel y
  have close : ∀ {σ' : L2.St} {H' : Hp} {v : V} {u : Value} {s' : Shared}, Inv (cxOf CX0 P w K mg base N qual (defScope st) f cdv B fr s H E) [] σ' H' s' → RelV v u → Q v H' → CE fr P w H s Q u s' :=
    fun j rv z => ⟨_, _, j.os, j.bare, j.base, j.hok, rv, z⟩
  refine wpAny_mono (ht.nox.run [] s1 (start N xs) H _ J q) (fun fl s' z => ?_) fun _ _ z => z
  rcases fl with _ | _ | _ | u
  all_goals first
    | (obtain ⟨v, σ', H', j, rv, z⟩ := z
       exact close j rv z)
    | (obtain ⟨_, _, _, z⟩ := z
       exact z.elim)
    | (obtain ⟨σ', H', j, z⟩ := z
       exact close (v := V.non) (u := Value.none) j rfl z)
end
section
variable {X : Cx} {V : CXT} {k : Nat} {f : Addr} {fd : FuncData} {ps : List Str} {sp : Sp} {dvs : List L2.V} {ds : List Value} {E : XK} {x : Str} {p pos : Pos} {e : Expr} {es : List Expr} {t : TA}
theorem pe_callG (F : FnG X.prog X.w X.K X.mg X.base V k f fd ps sp) (gr : X.A.guards = some []) (hr : Room k X.A) (hg : Gl X x) (hm : X.mg x = some (.ref f)) (hk : PySem.W.keepIn X.K (.ref f) = true) (hb : Binds X.K fd ps ds) (hd : Vals dvs ds) (hx : Passes V X E)
    (ha : PA X (e :: es) t) (ndb : (x == ("__debug__" : Str)) = false := by decide) (st : starEach (e :: es) X.env = (false, eval e X.env) :: starEach es X.env := by rfl) (pl : (backTo pos (starEach es X.env)).any (·.1) = false := by rfl) :
    PE X (.Call (.Name x p) (e :: es) [] pos) (tCall sp dvs E t) := by
  refine ⟨fun pins s σ H Q I h => wpAny_Call_Name_kw (ld_glob I hg hm ?_ ndb)⟩
  refine PySem.W.callWith_K (h₀ := X.base) I.ok.mod.kin hk (thn (ha.run pos pins s σ H _ I h) fun us s1 ⟨vs, H1, J, r, q⟩ => ⟨J.kIn, ?_⟩) st pl
  have r2 := r.append hd
  have ln : (us ++ ds).length = ps.length := r2.length.symm.trans (F.len _ _ _ _ q)
  refine wpAny_call (codeAny_mono (F.go X.A X.stack s1 H1 ⟨us, []⟩ (us ++ ds) (vs ++ dvs) Q E gr hr J.env0 (hb s1 us J.kIn ln) r2 q) fun r s' z => ?_)
  rcases r with er | (_ | _ | _ | u)
  all_goals first
    | exact hx pins σ H1 s1 er s' J z
    | exact J.after z
    | exact False.elim z
end
/-- at the outermost call no repr runs -/
theorem law_callG {P : Program} {w : World} {K : PySem.W.Frag} {mg mb : Str → Option Value} {k : Nat} {fa a : Addr} {fd : FuncData} {x : Str} {sp : Sp} {s : Shared} {vs : List Value} {ns : List Int}
    (KX : K.In s.heap) (gl : s.heap.Ns mainGlobals mg) (bl : s.heap.Ns builtinsNs mb) (bb : ∀ x : Str, x ≠ "__name__" → mb x = bootBuiltins x) (lim : s.heap.NoLimit) (gn : s.gens = #[])
    (ha : s.heap.get? a = some { cls := .type "list", data := .seq vs.toArray }) (hi : IntsAre vs ns) (hl : ns.length ≤ sizeLine) (hr : Room k callerA)
    (F : ∀ base : Heap, K.In base → base.Ns mainGlobals mg → FnG P w K mg base CX0 k fa fd [x] sp) (hbind : ∀ (s : Shared) (u : Value), BindsTo s fd ⟨[u], []⟩ [(x, u)])
    (hsp : ∀ H : Hp, Only H → SqL K H a (ns.map V.int) → sp [.ref a] H (fun v _ => v = .bl true) fun _ _ _ => False) :
    codeAny (model P w) callerA (.call (.ref fa) ⟨[.ref a], []⟩) (fun r s' => r = .ok (.ret (.bool true)) ∧ OldK s.heap s'.heap ∧ s'.os = s.os ∧ AllBare s'.gens) s := by
  have rel := vals_ints hi
  have step : ∀ H : Hp, Only H → SqL K H a (ns.map V.int) → HOk P w H s.heap → (∀ b, H b ≠ none → b = a ∧ K.lookup a = none) →
      codeAny (model P w) callerA (.call (.ref fa) ⟨[.ref a], []⟩) (fun r s' => r = .ok (.ret (.bool true)) ∧ OldK s.heap s'.heap ∧ s'.os = s.os ∧ AllBare s'.gens) s := by
    intro H hO hS ok only
    have none_of : ∀ {b : Addr}, (b = a → K.lookup a = none → False) → H b = none := fun {b} n => by
      cases z : H b with
      | none => rfl
      | some u => exact (n (only b (by rw [z]; exact Option.some_ne_none _)).1 (only b (by rw [z]; exact Option.some_ne_none _)).2).elim
    have dict : ∀ {b : Addr} {m : Str → Option Value}, s.heap.Ns b m → (hidT s.heap H).Ns b m := fun {b m} ⟨o, es, ep, e, d, r⟩ => ⟨o, es, ep, hidT_get e (none_of fun z _ => by
      subst z
      rw [ha] at e
      cases e
      cases d), d, r⟩
    have kb : K.In (hidT s.heap H) := fun b o e => hidT_get (KX b o e) (none_of fun z n => by
      subst z
      rw [n] at e
      cases e)
    have md : Mod K mg (hidT s.heap H) := ⟨kb, dict gl, ⟨mb, dict bl, bb⟩, let ⟨mc, h1, h2⟩ := lim; ⟨mc, dict h1, h2⟩⟩
    have e0 : Env0 P w K mg (hidT s.heap H) callerA [] s H := ⟨rfl, md, fun _ _ => of_hidT, Nat.le_of_eq (hidT_size _ _), trivial, fun b hb => absurd (show b ∈ ([] : List Addr) from hb) (by simp), ok, .of_eq gn⟩
    refine codeAny_mono ((F _ kb (dict gl)).go callerA [] s H ⟨[.ref a], []⟩ [.ref a] [.ref a] _ _ rfl hr e0 (hbind s (.ref a)) (.cons rfl .nil) (hsp H hO hS)) fun r s' z => ?_
    rcases r with er | (_ | _ | _ | u)
    all_goals first
      | exact False.elim z
      | skip
    obtain ⟨v, H', os, bare, un, ok', rv, rfl⟩ := z
    cases (show u = Value.bool true from rv)
    refine ⟨rfl, OldK.of_keep fun b o e => ?_, os, bare⟩
    rcases hO b with n | ⟨ob, xs, n⟩
    · exact un.keep b o e n (fun z => absurd (show b ∈ ([] : List Addr) from z) (by simp)) (by simp)
    · have z1 : s.heap.get? b = some ob := (ok b _ n).1
      have z2 : s'.heap.get? b = some ob := (ok' b _ (un.frzs b ob _ n)).1
      rw [z2, ← z1, e]
  cases hk : K.lookup a with
  | some o =>
    have e := KX a o hk
    rw [ha] at e
    cases e
    exact step (fun _ => none) (fun _ => .inl rfl) (.inr ⟨_, vs.toArray, _, hk, rfl, rfl, rfl, by rw [List.size_toArray, hi.length]; exact hl, by simpa using rel⟩) (fun _ _ z => nomatch z) fun _ z => absurd rfl z
  | none =>
    have same : ∀ b, (if b = a then some (HO.frz { cls := .type "list", data := .seq vs.toArray } (.lst (ns.map V.int))) else none) ≠ none → b = a := fun b n => by
      by_cases z : b = a
      · exact z
      · exact absurd (if_neg z) n
    refine step (fun b => if b = a then some (.frz { cls := .type "list", data := .seq vs.toArray } (.lst (ns.map V.int))) else none) (fun b => ?_) (.inl (.inr ⟨_, if_pos rfl⟩)) (fun b u z => ?_) fun b n => ⟨same b n, hk⟩
    · by_cases z : b = a
      · exact .inr ⟨_, _, if_pos z⟩
      · exact .inl (if_neg z)
    · have e := same b fun y => nomatch y.symm.trans z
      subst e
      cases (if_pos rfl).symm.trans z
      exact ⟨ha, by rw [List.length_map]; exact hl, vs, _, rel, ha⟩
theorem walkG {l : PySem.W.OpenLaw} {n k : Nat} {q : Program} {loose : List Str} {XP : (Str → Option Value) → Heap → Prop} {YP : World → Heap → Prop} {d : DefRec} {K : Params → PySem.W.Frag} {sp : World → Sp} {x : Str}
    (hn : l.most = some n) (hn2 : n ≤ sizeLine) (hdf : d.params.defaults = []) (hr : Room k callerA) (hY : ∀ (w : World) (h : Heap), YP w h → (K w.params).In h)
    (F : ∀ (w : World) (mg : Str → Option Value) (fa : Addr) (h : Heap), (K w.params).In h → h.Ns mainGlobals mg → mg d.name = some (.ref fa) →
      ∃ fd : FuncData, (∀ (s : Shared) (u : Value), BindsTo s fd ⟨[u], []⟩ [(x, u)]) ∧ ∀ base : Heap, (K w.params).In base → base.Ns mainGlobals mg → FnG l.prog w (K w.params) mg base CX0 k fa fd [x] (sp w))
    (hsp : ∀ (w : World) (H : Hp) (a : Addr) (ns : List Int), ns.length ≤ n → Only H → SqL (K w.params) H a (ns.map V.int) → sp w [.ref a] H (fun v _ => v = .bl true) fun _ _ _ => False) :
    PySem.W.WalkO q loose XP YP l.row.toRowW d [] (fun f vs => PySem.call f vs) := by
  refine Att.attach_call hn hdf fun w _ s mg mb fa o pm cd doc a vs ns G Y _ _ _ hm ho hi ll gn => ?_
  have kx := hY w _ Y
  obtain ⟨fd, b, f⟩ := F w mg fa _ kx G.T.g hm
  exact law_callG kx G.T.g G.T.b G.T.builtins G.T.nolimit gn ho hi (Nat.le_trans ll hn2) hr f b fun H h1 h2 => hsp w H a ns ll h1 h2

/-! ### repr of data; one datum many times in a list -/
/-- data that repr may be asked of -/
def Rr (K : PySem.W.Frag) (H : Hp) (v : V) (d : PyData) : Prop := (Dp K H v d ∧ d.hasDict = false) ∨ ∃ (a : Addr) (x : Str) (y : V), v = .ref a ∧ d = .dict [(.str x, .tuple [])] ∧ H a = some (.dK [(.inr x, y)]) ∧ Dp K H y (.tuple [])
section
variable {X : Cx} {pins : List (Addr × Obj)} {σ : L2.St} {H : Hp} {s : Shared} {v : V} {u : Value} {d : PyData}
theorem Rr.reads (I : Inv X pins σ H s) (h : Rr X.K H v d) (r : RelV v u) : ∃ as, Reads s.heap u d as ∧ (d.hasDict = true → sysModules ∉ as) := by
  rcases h with ⟨h, n⟩ | ⟨a, x, y, rfl, rfl, e, hy⟩
  · obtain ⟨as, q⟩ := Dp.reads I d v u h r
    exact ⟨as, q, PyData.noDict_hsm n⟩
  · cases r
    obtain ⟨_, ns, vs, kv, o, es, ep, ho, hx, hd, ks, pr, _⟩ := dk_of I.hok e
    cases kv with
    | @cons _ q _ _ k0 kr =>
      cases kr
      obtain ⟨qk, qv⟩ := q
      cases (show Sum.inr x = qk from k0.1)
      obtain ⟨el⟩ := es
      have pr' : Pairs (mixKind X.prog X.w) el [(Sum.inr x, qv)] := pr
      clear pr
      cases pr' with
      | @cons en _ rest _ p1 p2 p3 =>
        cases p3
        obtain ⟨bs, rb⟩ := Dp.reads I _ y qv hy k0.2
        have eb : bs = [] := by
          cases rb with
          | @tuple _ _ ws _ _ _ _ _ _ h4 =>
            generalize ws.toList = l4 at h4
            cases h4
            rfl
        subst eb
        have ek : ∃ t, en.key = Value.str x t := by
          rcases keyIs_shape (k := Sum.inr x) p1 with ⟨_, _, z, _⟩ | ⟨x', t, z, e'⟩
          · cases z
          · cases z
            exact ⟨t, e'⟩
        obtain ⟨t, ek⟩ := ek
        refine ⟨_, Reads.dict ho hx.1 hd (as := []) (bs := []) (ReadsAll.cons (as := []) (bs := []) (by show Reads s.heap en.key (.str x) []; rw [ek]; exact Reads.str x t) .nil) (ReadsAll.cons (as := []) (bs := []) (by show Reads s.heap en.val (.tuple []) []; rw [p2]; exact rb) .nil), fun _ m => ?_⟩
        simp only [List.append_nil, List.mem_singleton] at m
        subst m
        simp at ns
theorem readsAll_rep {h : Heap} {d : PyData} {S : Addr → Prop} : ∀ {n : Nat} {us : List Value}, (∀ z ∈ us, ∃ as, Reads h z d as ∧ ∀ b ∈ as, S b) → us.length = n → ∃ bs, ReadsAll h us (List.replicate n d) bs ∧ ∀ b ∈ bs, S b
  | 0, [], _, _ => ⟨[], .nil, fun _ z => nomatch z⟩
  | n + 1, z :: zs, k, l => by
    obtain ⟨bs, r, m⟩ := readsAll_rep (n := n) (us := zs) (fun y hy => k y (List.mem_cons_of_mem _ hy)) (by simpa using l)
    obtain ⟨as, r1, m1⟩ := k z List.mem_cons_self
    exact ⟨as ++ bs, .cons r1 r, fun b hb => (List.mem_append.mp hb).elim (m1 b) (m b)⟩
theorem rel_rep {v : V} : ∀ {n : Nat} {us : List Value}, Vals (List.replicate n v) us → ∀ z ∈ us, RelV v z
  | 0, _, r, z, h => by
    cases r
    cases h
  | n + 1, _, r, z, h => by
    cases r with
    | cons r1 r2 =>
      cases h with
      | head => exact r1
      | tail _ h => exact rel_rep r2 z h
end
section
variable {X : Cx}
/-- repr of one -/
def rRepr (K : PySem.W.Frag) : List V → Hp → VK → Prop := fun xs H Q => ∃ v d, xs = [v] ∧ Rr K H v d ∧ d.showable = true ∧ d.depth ≤ 40 ∧ d.shown.length ≤ sizeLine ∧ Q (.str d.shown) H
theorem call_reprD {K : PySem.W.Frag} (hg : X.A.guards = some []) (hu : X.A.units + 64 < cLine) (hK : X.K = K := by rfl) : CallR X (.builtin "repr") (rRepr K) := by
  subst hK
  intro pins s σ H xs us Q I r h
  obtain ⟨v, d, rfl, hr, sh, dp, sz, q⟩ := h
  obtain ⟨u, rfl, rv⟩ := vals1 r
  obtain ⟨as, rd, ns⟩ := hr.reads I rv
  have big : ∀ {a : Addr}, Reads s.heap (.ref a) d as → wpAny (model X.prog X.w) X.A (call (.builtin "repr") [.ref a]) (EP X pins σ Q) X.xe s := fun rd =>
    repr_of_reads' rd sh ns hg (by omega) (fun _ _ e => e) (fun h' u tk hk => ⟨.str _, H, I.kept (t' := tk) hk, ⟨_, rfl⟩, q⟩) sz
  cases rd with
  | none => exact PySem.P.repr_of_none ⟨.str _, H, I.tok _, ⟨_, rfl⟩, by simpa only [PyData.shown] using q⟩
  | bool b => exact PySem.P.repr_of_bool ⟨.str _, H, I.tok _, ⟨_, rfl⟩, by simpa only [PyData.shown] using q⟩
  | int i t => exact PySem.P.repr_of_int (by simpa only [PyData.showable, decide_eq_true_eq] using sh) ⟨.str _, H, I.tok _, ⟨_, rfl⟩, by simpa only [PyData.shown] using q⟩
  | str x t => exact PySem.P.repr_of_str ⟨.str _, H, I.tok _, ⟨_, rfl⟩, by simpa only [PyData.shown] using q⟩ (by simpa only [PyData.shown] using sz)
  | list h1 h2 h3 h4 => exact big (.list h1 h2 h3 h4)
  | tuple h1 h2 h3 h4 => exact big (.tuple h1 h2 h3 h4)
  | dict h1 h2 h3 h4 h5 => exact big (.dict h1 h2 h3 h4 h5)
/-- repr of a list that has one datum many times -/
def rReprN (K : PySem.W.Frag) : List V → Hp → VK → Prop := fun xs H Q => ∃ l n v d, xs = [.ref l] ∧ H l = some (.lst (List.replicate (n + 1) v)) ∧ Rr K H v d ∧ d.showable = true ∧ d.depth ≤ 40 ∧ (listText (PyData.shownAll (List.replicate (n + 1) d))).length ≤ sizeLine ∧
  Q (.str (listText (PyData.shownAll (List.replicate (n + 1) d)))) H
theorem all_rep {f : PyData → Bool} {fa : List PyData → Bool} (h0 : fa [] = true) (h1 : ∀ x xs, fa (x :: xs) = (f x && fa xs)) {d : PyData} (h : f d = true) : ∀ n, fa (List.replicate n d) = true
  | 0 => h0
  | n + 1 => by rw [List.replicate_succ, h1, h, all_rep h0 h1 h n]; rfl
theorem any_rep {d : PyData} : ∀ n, PyData.hasDictAll (List.replicate n d) = true → d.hasDict = true
  | 0, h => by simp [PyData.hasDictAll] at h
  | n + 1, h => by
    rw [List.replicate_succ] at h
    simp only [PyData.hasDictAll, Bool.or_eq_true] at h
    exact h.elim id (any_rep n)
theorem depth_rep {d : PyData} {m : Nat} (h : d.depth ≤ m) : ∀ n, PyData.depthAll (List.replicate n d) ≤ m
  | 0 => by simp [PyData.depthAll]
  | n + 1 => by
    rw [List.replicate_succ]
    have := depth_rep h n
    simp only [PyData.depthAll]
    omega
theorem call_reprN {K : PySem.W.Frag} (hg : X.A.guards = some []) (hu : X.A.units + 64 < cLine) (hK : X.K = K := by rfl) : CallR X (.builtin "repr") (rReprN K) := by
  subst hK
  intro pins s σ H xs us Q I r h
  obtain ⟨l, n, v, d, rfl, hl, hr, sh, dp, sz, q⟩ := h
  obtain ⟨u, rfl, rv⟩ := vals1 r
  cases rv
  obtain ⟨its, rl, ⟨o, m, ho, hc, _, hd⟩, hz⟩ := I.list (SqL.of hl)
  have ln : its.length = n + 1 := by rw [← rl.length, List.length_replicate]
  have item : ∀ z ∈ its, ∃ as, Reads s.heap z d as ∧ ∀ b ∈ as, d.hasDict = true → b ≠ sysModules := fun z hz => by
    obtain ⟨as, r1, m⟩ := hr.reads I (rel_rep rl z hz)
    exact ⟨as, r1, fun b hb k e => m k (e ▸ hb)⟩
  obtain ⟨as, h4, m⟩ := readsAll_rep item ln
  have hsh := all_rep (f := PyData.showable) (fa := PyData.showableAll) (by simp [PyData.showableAll]) (fun _ _ => by simp [PyData.showableAll]) sh (n + 1)
  have dpa := depth_rep dp (n + 1)
  obtain ⟨bs, hb, hk⟩ := ReprAllK.of_readsAll (prog := X.prog) (w := X.w) h4 hsh (fun k z => m _ z (any_rep _ k) rfl) (fun t ht => Nat.le_trans (listText_mem_le ht) sz)
  have na : l ∉ bs := not_mem_of_deeper (.list ho hc hd h4) (by simp only [PyData.depth]; omega) hb
  cases its with
  | nil => cases ln
  | cons z zs =>
    refine call_repr_slot (by omega) ⟨o, ho, hc⟩ F.slot_list_repr.toG ?_
    exact call_list_reprK ho hc hd na (by simpa using hk.length_eq) (fun i y e => hk.item i y (by simpa using e)) (by exact hg) (fun b _ => Clear.nil b) (by show X.A.units + 1 + _ < cLine; omega) (fun _ _ e => e)
      (fun h' u tk kp => ⟨_, _, rfl, .str _, H, I.kept (t' := tk) kp, ⟨_, rfl⟩, q⟩) sz
/-- text * n, one sign -/
def repS (a : Str) (n : Nat) : Str := ⟨(List.replicate n a.cps).foldl (· ++ ·) #[]⟩
theorem foldl_size (c : Array Nat) : ∀ (n : Nat) (acc : Array Nat), ((List.replicate n c).foldl (· ++ ·) acc).size = acc.size + n * c.size
  | 0, acc => by simp
  | n + 1, acc => by
    rw [List.replicate_succ, List.foldl_cons, foldl_size c n, Array.size_append, Nat.succ_mul]
    omega
theorem op_mulS : OpR X (binaryOp .Mult) (fun x y H Q => ∃ a k, x = .str a ∧ y = .int k ∧ a.length = 1 ∧ 0 ≤ k ∧ k ≤ 1000 ∧ Q (.str (repS a k.toNat)) H) := by
  intro pins s σ H x y v u Q I rx ry h
  obtain ⟨a, k, rfl, rfl, h1, h0, hk, q⟩ := h
  obtain ⟨t, rfl⟩ := rx
  obtain ⟨t', rfl⟩ := ry
  refine PySem.P.mul_str (by simp; omega) (fun n1 _ => ?_) (fun _ _ => ?_) ?_
  · rw [h1]
    have : (1 : Int) ≤ (2 ^ 63 - 1) / k := Int.le_ediv_of_mul_le (by omega) (by omega)
    omega
  · unfold Builtin.Str.tooLong
    rw [h1]
    exact decide_eq_false (by rw [sizeLine_eq]; omega)
  · have hs : (repS a k.toNat).length ≤ sizeLine := by
      have : (repS a k.toNat).length = 0 + k.toNat * a.length := foldl_size a.cps k.toNat #[]
      rw [this, h1, sizeLine_eq]
      omega
    split
    · rename_i n1
      have e : k = 0 := by omega
      subst e
      exact ⟨by decide, .str _, H, I.tok _, ⟨_, rfl⟩, q⟩
    · split
      · rename_i n1 n2
        have e : k = 1 := by
          rw [Bool.or_eq_true, beq_iff_eq, beq_iff_eq] at n2
          omega
        subst e
        have ea : repS a (1 : Int).toNat = a := by
          show (⟨#[] ++ a.cps⟩ : Str) = a
          rw [Array.empty_append]
        rw [ea] at q
        exact ⟨.str _, H, I, ⟨_, rfl⟩, q⟩
      · exact ⟨hs, .str _, H, I.tok _, ⟨_, rfl⟩, q⟩
end
end Fn

set_option Elab.async false
set_option maxRecDepth 100000
set_option maxHeartbeats 4000000
/-! What the written part says of own error classes, as tests that run; making errors; which classes an error is of. -/
namespace Fn
open PySem PySem.Spec PyProof.Rows L2
structure ErrC (K : PySem.W.Frag) (C : Addr) : Prop where
  x : ExcC K C
  f : XfC K C
  k : PySem.W.keepIn K (.ref C) = true
def exB (K : PySem.W.Frag) (C : Addr) : Bool :=
  xfB K C && (PySem.W.keepIn K (.ref C) && (decide (PySem.W.findIn K (.ref C) "__class__" = some (some (.builtin "object.__class__"))) && (decide (PySem.W.specialIn K (.builtin "object.__class__") "__get__" = some (some (.builtin "getset_descriptor.__get__"))) &&
    (decide (PySem.W.takesIn K (.builtin "object.__class__") = some true) && decide (PySem.W.mroIn K C (.type "object") = some true)))))
theorem exB_ok {K : PySem.W.Frag} {C : Addr} (h : exB K C = true) : ErrC K C := by
  simp only [exB, Bool.and_eq_true, decide_eq_true_eq] at h
  obtain ⟨h1, h2, h3, h4, h5, h6⟩ := h
  have f := xfB_ok h1
  exact ⟨⟨f.ga, f.gg, f.exC, f.hdC, h3, h4, h5, h6⟩, f, h2⟩
/-- with an own __init__ at I that keeps the field f -/
def iniB (K : PySem.W.Frag) (C I : Addr) (f : Str) (T : List Value) (newId : String) : Bool :=
  clsX K C T newId && (decide (PySem.W.findIn K (.ref C) "__setattr__" = some (some (.builtin "object.__setattr__"))) && (decide (PySem.W.findIn K (.ref C) f = some none) && (decide (PySem.W.findIn K (.ref C) "__init__" = some (some (.ref I))) &&
    decide (PySem.W.typeIn K (.ref I) = some (.type "function")))))
structure IniC (K : PySem.W.Frag) (C I : Addr) (f : Str) : Prop where
  o : OwnX K C
  n : PySem.W.findIn K (.ref C) f = some none
  i : PySem.W.findIn K (.ref C) "__init__" = some (some (.ref I))
  t : PySem.W.typeIn K (.ref I) = some (.type "function")
theorem iniB_ok {K : PySem.W.Frag} {C I : Addr} {f : Str} {B newId initId : String} {bmB T : List Value} (Z : BaseX B newId initId bmB T) (e : ErrC K C) (h : iniB K C I f T newId = true) : IniC K C I f := by
  simp only [iniB, Bool.and_eq_true, decide_eq_true_eq] at h
  obtain ⟨h1, h2, h3, h4, h5⟩ := h
  exact ⟨⟨⟨_, _, _, _, _, Z, h1⟩, h2, e.k⟩, h3, h4, h5⟩
def strB (K : PySem.W.Frag) (C : Addr) : Bool := decide (PySem.W.findIn K (.ref C) "__str__" = some (some (.builtin "BaseException.__str__")))
theorem strB_ok {K : PySem.W.Frag} {C : Addr} (e : ErrC K C) (h : strB K C = true) : StrC K C := ⟨of_decide_eq_true h, e.x.hs⟩
/-- of which of these classes an error of the class at C is -/
def rowB (K : PySem.W.Frag) (C : Addr) (cs : List Value) (bs : List Bool) : Bool := (cs.zip bs).all fun p => decide (PySem.W.kitOne K (.ref C) p.1 = some p.2)
theorem row_at {K : PySem.W.Frag} {C : Addr} {cs : List Value} {bs : List Bool} (h : rowB K C cs bs = true) (i : Nat) {c : Value} {b : Bool} (hc : cs[i]? = some c) (hb : bs[i]? = some b) : PySem.W.kitOne K (.ref C) c = some b := by
  have m : (c, b) ∈ cs.zip bs := List.mem_of_getElem? (i := i) (by rw [List.getElem?_zip_eq_some]; exact ⟨hc, hb⟩)
  exact of_decide_eq_true (List.all_eq_true.mp h _ m)
def marks (bs : List Bool) : Str := Txt.join "" (bs.map fun b => if b then "x" else ".")
/-- an error with its one field -/
def IsE (H : Hp) (a C : Addr) (f : Str) (y : V) : Prop := ∃ dx, H a = some (exo a C (some dx)) ∧ H dx = some (exd dx [(f, y)])
/-- an error that was made with one text -/
def IsT (H : Hp) (a C : Addr) (x : Str) : Prop := ∃ t, H a = some (exT a C t) ∧ H t = some (.tup [.str x])
theorem IsE.same {H H' : Hp} {a C : Addr} {f : Str} {y : V} (h : IsE H a C f y) (e : Same H H') : IsE H' a C f y := by
  obtain ⟨dx, h1, h2⟩ := h
  exact ⟨dx, e _ _ h1, e _ _ h2⟩
theorem IsT.same {H H' : Hp} {a C : Addr} {x : Str} (h : IsT H a C x) (e : Same H H') : IsT H' a C x := by
  obtain ⟨t, h1, h2⟩ := h
  exact ⟨t, e _ _ h1, e _ _ h2⟩
theorem IsE.err {H : Hp} {a C : Addr} {f : Str} {y : V} (h : IsE H a C f y) : IsErr H a C := by
  obtain ⟨dx, h1, h2⟩ := h
  exact .inl ⟨some dx, h1, fun d e => ⟨_, by cases e; exact h2⟩⟩
theorem IsT.err {H : Hp} {a C : Addr} {x : Str} (h : IsT H a C x) : IsErr H a C := by
  obtain ⟨t, h1, _⟩ := h
  exact .inr ⟨t, h1⟩
theorem IsErr.same {H H' : Hp} {a C : Addr} (h : IsErr H a C) (e : Same H H') : IsErr H' a C := by
  rcases h with ⟨d, h1, h2⟩ | ⟨t, h1⟩
  · exact .inl ⟨d, e _ _ h1, fun dx z => (h2 dx z).imp fun fs q => e _ _ q⟩
  · exact .inr ⟨t, e _ _ h1⟩
theorem IsE.but {H H' : Hp} {p a C : Addr} {f : Str} {y : V} (d : Dc H p) (h : IsE H a C f y) (e : But p H H') : IsE H' a C f y := by
  obtain ⟨dx, h1, h2⟩ := h
  obtain ⟨x, y, z, hp⟩ := d
  refine ⟨dx, e _ _ (fun q => ?_) h1, e _ _ (fun q => ?_) h2⟩
  · subst q
    cases hp.symm.trans h1
  · subst q
    cases hp.symm.trans h2
theorem IsT.but {H H' : Hp} {p a C : Addr} {x : Str} (d : Dc H p) (h : IsT H a C x) (e : But p H H') : IsT H' a C x := by
  obtain ⟨t, h1, h2⟩ := h
  obtain ⟨x, y, z, hp⟩ := d
  refine ⟨t, e _ _ (fun q => ?_) h1, e _ _ (fun q => ?_) h2⟩
  · subst q
    cases hp.symm.trans h1
  · subst q
    cases hp.symm.trans h2
/-- what an own __init__ that keeps one field does -/
def spIni (K : PySem.W.Frag) (f : Str) : Sp := fun vs H Q _ => ∃ (a C : Addr) (y : V), vs = [.ref a, y] ∧ OwnX K C ∧ PySem.W.findIn K (.ref C) f = some none ∧ H a = some (exo a C none) ∧
  ∀ dx, H dx = none → dx ≠ a → Q .non (upd (upd H dx (exd dx [(f, y)])) a (exo a C (some dx)))
theorem mk_ini {K : PySem.W.Frag} {C I : Addr} {f : Str} {y : V} {H : Hp} {Q : V → Hp → Prop} (T : IniC K C I f) (k : ∀ a H', H a = none → Same H H' → IsE H' a C f y → Q (.ref a) H') :
    MkIni C (spIni K f) [y] H Q := by
  refine ⟨by show 1 ≤ 1000; decide, fun a na => ⟨a, C, y, rfl, T.o, T.n, upd_same, fun dx nd ne => ⟨rfl, k a _ na (fun b o e => ?_) ⟨dx, upd_same, ?_⟩⟩⟩⟩
  · have ba := ne_of_none e na
    rw [upd_ne ba, upd_ne (fun z => by subst z; rw [upd_ne ba] at nd; rw [nd] at e; cases e), upd_ne ba]
    exact e
  · rw [upd_ne ne]
    exact upd_same
theorem mk_one {C : Addr} {x : Str} {H : Hp} {Q : V → Hp → Prop} (k : ∀ a H', H a = none → Same H H' → IsT H' a C x → Q (.ref a) H') :
    MkOne C (.str x) H Q := by
  refine ⟨fun t a nt na ne => k a _ na (fun b o e => ?_) ⟨t, upd_same, ?_⟩⟩
  · rw [upd_ne (ne_of_none e na), upd_ne (ne_of_none e nt)]
    exact e
  · rw [upd_ne ne]
    exact upd_same
/-- data that may be kept in a field, and shown -/
def Rx (H : Hp) (v : V) (d : PyData) : Prop := (Dx H v d ∧ dictfree d = true ∧ nodice d = true ∧ d.hasDict = false) ∨ ∃ (a p : Addr) (x : Str), v = .ref a ∧ d = .dict [(.str x, .tuple [])] ∧ H a = some (.dK [(.inr x, .ref p)]) ∧ H p = some (.tup [])
theorem Rx.same {H H' : Hp} {v : V} {d : PyData} (h : Rx H v d) (e : Same H H') : Rx H' v d := by
  rcases h with ⟨h1, h2⟩ | ⟨a, p, x, h1, h2, h3, h4⟩
  · exact .inl ⟨h1.same e, h2⟩
  · exact .inr ⟨a, p, x, h1, h2, e _ _ h3, e _ _ h4⟩
theorem Rx.but {H H' : Hp} {q : Addr} {v : V} {d : PyData} (hq : Dc H q) (h : Rx H v d) (e : But q H H') : Rx H' v d := by
  rcases h with ⟨h1, h2, h3, h4⟩ | ⟨a, p, x, h1, h2, h3, h4⟩
  · exact .inl ⟨Dx.but hq e h1 h3, h2, h3, h4⟩
  · obtain ⟨i, j, k, hd⟩ := hq
    refine .inr ⟨a, p, x, h1, h2, e _ _ (fun z => ?_) h3, e _ _ (fun z => ?_) h4⟩
    · subst z
      cases hd.symm.trans h3
    · subst z
      cases hd.symm.trans h4
theorem Rx.rr {K : PySem.W.Frag} {H : Hp} {v : V} {d : PyData} (h : Rx H v d) : Rr K H v d := by
  rcases h with ⟨h1, h2, h3, h4⟩ | ⟨a, p, x, h1, h2, h3, h4⟩
  · exact .inl ⟨h1.dp h2, h4⟩
  · exact .inr ⟨a, x, _, h1, h2, h3, .tup (SqT.of h4) .nil⟩
theorem szn {n : Nat} (h : Nat.ble n 100000 = true) : n ≤ sizeLine := Nat.le_trans (Nat.le_of_ble_eq_true h) (by decide)
theorem hu64 {A : Around} {k : Nat} (hr : Room k A) : A.units + 64 < cLine := by
  have := hr.un
  omega
/-- the statements of a class -/
def clB : Stmt → List Stmt
  | .ClassDef _ _ _ body _ _ _ _ _ _ _ => body
  | _ => []
end Fn

set_option Elab.async false
set_option maxRecDepth 100000
set_option linter.unusedVariables false
set_option maxHeartbeats 4000000
namespace K00
open PySem PySem.Spec PyProof.Rows L2 Fn
local macro_rules | `(tactic| walk_at "ev") => `(tactic| first | exact Ev2.refl _ | assumption | (refine Ev2.trans (by assumption) ?_; walk_at "ev"))
local macro_rules | `(tactic| walk_at "sm") => `(tactic| first | exact Same.refl _ | assumption | (refine Same.trans (by assumption) ?_; walk_at "sm"))
local macro_rules | `(tactic| walk_at "dx") => `(tactic| first
  | exact DxAll.nil | exact Dx.str _ | exact Dx.int _ | exact Dx.bl _ | exact Dx.non
  | assumption
  | (refine DxAll.cons ?_ ?_ <;> walk_at "dx")
  | (refine Dx.same (by walk_at "sm") (by assumption))
  | (refine Dx.tup (Same.at (by assumption) (by walk_at "sm")) ?_; walk_at "dx")
  | (refine Dx.lst (Same.at (by assumption) (by walk_at "sm")) ?_; walk_at "dx")
  | (refine Dx.dct (Same.at (by assumption) (by walk_at "sm"))))

def top (i : Nat) : Stmt := PySem.Challenge.pw_firstneed_k00_errors_and_what_they_keep.main.body.getD i (.Pass ⟨0, 0, 0, 0⟩)
structure Cl where
  (NeedError InvalidWord InvalidTerm InvalidBook InvalidProgram InvalidTable InvalidLines InvalidRows InvalidOperation ParseError UnknownWord UnknownPlace NothingToUndo TooMany Refused InvalidNumber : Addr)
  (iParseError iUnknownWord iUnknownPlace iNothingToUndo iTooMany iRefused iInvalidNumber : Addr)
def row0 (c : Cl) : List Value := [.ref c.InvalidWord, .ref c.InvalidTerm, .ref c.InvalidBook, .ref c.InvalidProgram, .ref c.InvalidTable, .ref c.InvalidLines, .ref c.InvalidRows, .ref c.InvalidOperation, .ref c.ParseError, .ref c.NeedError, .type "ValueError"]
def row1 (c : Cl) : List Value := [.ref c.UnknownWord, .ref c.UnknownPlace, .ref c.NothingToUndo, .ref c.TooMany, .ref c.Refused, .ref c.InvalidNumber, .type "KeyError", .type "IndexError", .type "LookupError", .type "OverflowError", .type "ArithmeticError", .type "RuntimeError"]
structure Cls (K : PySem.W.Frag) (mg : Str → Option Value) (c : Cl) : Prop where
  g_NeedError : mg "NeedError" = some (.ref c.NeedError)
  e_NeedError : ErrC K c.NeedError
  p_NeedError : PySem.W.excIn K c.NeedError tVal "ValueError.__new__" = true
  s_NeedError : StrC K c.NeedError
  r0_NeedError : rowB K c.NeedError (row0 c) [false, false, false, false, false, false, false, false, false, true, true] = true
  r1_NeedError : rowB K c.NeedError (row1 c) [false, false, false, false, false, false, false, false, false, false, false, false] = true
  g_InvalidWord : mg "InvalidWord" = some (.ref c.InvalidWord)
  e_InvalidWord : ErrC K c.InvalidWord
  p_InvalidWord : PySem.W.excIn K c.InvalidWord tVal "ValueError.__new__" = true
  s_InvalidWord : StrC K c.InvalidWord
  r0_InvalidWord : rowB K c.InvalidWord (row0 c) [true, false, false, false, false, false, false, false, false, true, true] = true
  r1_InvalidWord : rowB K c.InvalidWord (row1 c) [false, false, false, false, false, false, false, false, false, false, false, false] = true
  g_InvalidTerm : mg "InvalidTerm" = some (.ref c.InvalidTerm)
  e_InvalidTerm : ErrC K c.InvalidTerm
  p_InvalidTerm : PySem.W.excIn K c.InvalidTerm tVal "ValueError.__new__" = true
  s_InvalidTerm : StrC K c.InvalidTerm
  r0_InvalidTerm : rowB K c.InvalidTerm (row0 c) [false, true, false, false, false, false, false, false, false, true, true] = true
  r1_InvalidTerm : rowB K c.InvalidTerm (row1 c) [false, false, false, false, false, false, false, false, false, false, false, false] = true
  g_InvalidBook : mg "InvalidBook" = some (.ref c.InvalidBook)
  e_InvalidBook : ErrC K c.InvalidBook
  p_InvalidBook : PySem.W.excIn K c.InvalidBook tVal "ValueError.__new__" = true
  s_InvalidBook : StrC K c.InvalidBook
  r0_InvalidBook : rowB K c.InvalidBook (row0 c) [false, false, true, false, false, false, false, false, false, true, true] = true
  r1_InvalidBook : rowB K c.InvalidBook (row1 c) [false, false, false, false, false, false, false, false, false, false, false, false] = true
  g_InvalidProgram : mg "InvalidProgram" = some (.ref c.InvalidProgram)
  e_InvalidProgram : ErrC K c.InvalidProgram
  p_InvalidProgram : PySem.W.excIn K c.InvalidProgram tVal "ValueError.__new__" = true
  s_InvalidProgram : StrC K c.InvalidProgram
  r0_InvalidProgram : rowB K c.InvalidProgram (row0 c) [false, false, false, true, false, false, false, false, false, true, true] = true
  r1_InvalidProgram : rowB K c.InvalidProgram (row1 c) [false, false, false, false, false, false, false, false, false, false, false, false] = true
  g_InvalidTable : mg "InvalidTable" = some (.ref c.InvalidTable)
  e_InvalidTable : ErrC K c.InvalidTable
  p_InvalidTable : PySem.W.excIn K c.InvalidTable tVal "ValueError.__new__" = true
  s_InvalidTable : StrC K c.InvalidTable
  r0_InvalidTable : rowB K c.InvalidTable (row0 c) [false, false, false, false, true, false, false, false, false, true, true] = true
  r1_InvalidTable : rowB K c.InvalidTable (row1 c) [false, false, false, false, false, false, false, false, false, false, false, false] = true
  g_InvalidLines : mg "InvalidLines" = some (.ref c.InvalidLines)
  e_InvalidLines : ErrC K c.InvalidLines
  p_InvalidLines : PySem.W.excIn K c.InvalidLines tVal "ValueError.__new__" = true
  s_InvalidLines : StrC K c.InvalidLines
  r0_InvalidLines : rowB K c.InvalidLines (row0 c) [false, false, false, false, false, true, false, false, false, true, true] = true
  r1_InvalidLines : rowB K c.InvalidLines (row1 c) [false, false, false, false, false, false, false, false, false, false, false, false] = true
  g_InvalidRows : mg "InvalidRows" = some (.ref c.InvalidRows)
  e_InvalidRows : ErrC K c.InvalidRows
  p_InvalidRows : PySem.W.excIn K c.InvalidRows tVal "ValueError.__new__" = true
  s_InvalidRows : StrC K c.InvalidRows
  r0_InvalidRows : rowB K c.InvalidRows (row0 c) [false, false, false, false, false, false, true, false, false, true, true] = true
  r1_InvalidRows : rowB K c.InvalidRows (row1 c) [false, false, false, false, false, false, false, false, false, false, false, false] = true
  g_InvalidOperation : mg "InvalidOperation" = some (.ref c.InvalidOperation)
  e_InvalidOperation : ErrC K c.InvalidOperation
  p_InvalidOperation : PySem.W.excIn K c.InvalidOperation tVal "ValueError.__new__" = true
  s_InvalidOperation : StrC K c.InvalidOperation
  r0_InvalidOperation : rowB K c.InvalidOperation (row0 c) [false, false, false, false, false, false, false, true, false, true, true] = true
  r1_InvalidOperation : rowB K c.InvalidOperation (row1 c) [false, false, false, false, false, false, false, false, false, false, false, false] = true
  g_ParseError : mg "ParseError" = some (.ref c.ParseError)
  e_ParseError : ErrC K c.ParseError
  o_ParseError : IniC K c.ParseError c.iParseError "line"
  r0_ParseError : rowB K c.ParseError (row0 c) [false, false, false, false, false, false, false, false, true, true, true] = true
  r1_ParseError : rowB K c.ParseError (row1 c) [false, false, false, false, false, false, false, false, false, false, false, false] = true
  g_UnknownWord : mg "UnknownWord" = some (.ref c.UnknownWord)
  e_UnknownWord : ErrC K c.UnknownWord
  o_UnknownWord : IniC K c.UnknownWord c.iUnknownWord "asked"
  r0_UnknownWord : rowB K c.UnknownWord (row0 c) [false, false, false, false, false, false, false, false, false, false, false] = true
  r1_UnknownWord : rowB K c.UnknownWord (row1 c) [true, false, false, false, false, false, true, false, true, false, false, false] = true
  g_UnknownPlace : mg "UnknownPlace" = some (.ref c.UnknownPlace)
  e_UnknownPlace : ErrC K c.UnknownPlace
  o_UnknownPlace : IniC K c.UnknownPlace c.iUnknownPlace "spot"
  r0_UnknownPlace : rowB K c.UnknownPlace (row0 c) [false, false, false, false, false, false, false, false, false, false, false] = true
  r1_UnknownPlace : rowB K c.UnknownPlace (row1 c) [false, true, false, false, false, false, false, false, true, false, false, false] = true
  g_NothingToUndo : mg "NothingToUndo" = some (.ref c.NothingToUndo)
  e_NothingToUndo : ErrC K c.NothingToUndo
  o_NothingToUndo : IniC K c.NothingToUndo c.iNothingToUndo "amount"
  r0_NothingToUndo : rowB K c.NothingToUndo (row0 c) [false, false, false, false, false, false, false, false, false, false, false] = true
  r1_NothingToUndo : rowB K c.NothingToUndo (row1 c) [false, false, true, false, false, false, false, true, true, false, false, false] = true
  g_TooMany : mg "TooMany" = some (.ref c.TooMany)
  e_TooMany : ErrC K c.TooMany
  o_TooMany : IniC K c.TooMany c.iTooMany "limit"
  r0_TooMany : rowB K c.TooMany (row0 c) [false, false, false, false, false, false, false, false, false, false, false] = true
  r1_TooMany : rowB K c.TooMany (row1 c) [false, false, false, true, false, false, false, false, false, true, true, false] = true
  g_Refused : mg "Refused" = some (.ref c.Refused)
  e_Refused : ErrC K c.Refused
  o_Refused : IniC K c.Refused c.iRefused "cause"
  r0_Refused : rowB K c.Refused (row0 c) [false, false, false, false, false, false, false, false, false, false, false] = true
  r1_Refused : rowB K c.Refused (row1 c) [false, false, false, false, true, false, false, false, false, false, true, false] = true
  g_InvalidNumber : mg "InvalidNumber" = some (.ref c.InvalidNumber)
  e_InvalidNumber : ErrC K c.InvalidNumber
  o_InvalidNumber : IniC K c.InvalidNumber c.iInvalidNumber "number"
  r0_InvalidNumber : rowB K c.InvalidNumber (row0 c) [false, false, false, false, false, false, false, false, false, false, false] = true
  r1_InvalidNumber : rowB K c.InvalidNumber (row1 c) [false, false, false, false, false, true, false, false, false, false, false, true] = true
abbrev s__law_dice : Stmt := top 18
abbrev N__law_dice : List Str := ["_law_script", "_law_spot", "_law_cell", "_law_great", "_law_blend"]
abbrev P__law_dice : List Str := ["_law_script", "_law_spot"]
theorem sc__law_dice : FnScope N__law_dice P__law_dice (defScope s__law_dice) := ⟨rfl, rfl, rfl, by decide +kernel, rfl, by decide +kernel, by decide +kernel⟩
abbrev s__law_roll : Stmt := top 19
abbrev N__law_roll : List Str := ["_law_dice_here", "_law_total", "_law_found", "_law_one", "_law_two"]
abbrev P__law_roll : List Str := ["_law_dice_here", "_law_total"]
theorem sc__law_roll : FnScope N__law_roll P__law_roll (defScope s__law_roll) := ⟨rfl, rfl, rfl, by decide +kernel, rfl, by decide +kernel, by decide +kernel⟩
abbrev s__law_pick : Stmt := top 20
abbrev N__law_pick : List Str := ["_law_dice_here", "_law_items"]
abbrev P__law_pick : List Str := ["_law_dice_here", "_law_items"]
theorem sc__law_pick : FnScope N__law_pick P__law_pick (defScope s__law_pick) := ⟨rfl, rfl, rfl, by decide +kernel, rfl, by decide +kernel, by decide +kernel⟩
abbrev s__law_kinds : Stmt := top 21
abbrev N__law_kinds : List Str := ["_law_error", "_law_told", "_law_one"]
abbrev P__law_kinds : List Str := ["_law_error"]
theorem sc__law_kinds : FnScope N__law_kinds P__law_kinds (defScope s__law_kinds) := ⟨rfl, rfl, rfl, by decide +kernel, rfl, by decide +kernel, by decide +kernel⟩
abbrev s__law_others : Stmt := top 22
abbrev N__law_others : List Str := ["_law_error", "_law_told", "_law_one"]
abbrev P__law_others : List Str := ["_law_error"]
theorem sc__law_others : FnScope N__law_others P__law_others (defScope s__law_others) := ⟨rfl, rfl, rfl, by decide +kernel, rfl, by decide +kernel, by decide +kernel⟩
abbrev s__law_right : Stmt := top 23
abbrev N__law_right : List Str := ["_law_dice_here", "_law_thing", "_law_words", "_law_base", "_law_one", "_law_due", "_law_at", "_law_others_here", "_law_kept"]
abbrev P__law_right : List Str := ["_law_dice_here"]
theorem sc__law_right : FnScope N__law_right P__law_right (defScope s__law_right) := ⟨rfl, rfl, rfl, by decide +kernel, rfl, by decide +kernel, by decide +kernel⟩
abbrev s_law : Stmt := top 24
abbrev N_law : List Str := ["_law_script", "_law_spot", "_law_dice_here", "_law_turn"]
abbrev P_law : List Str := ["_law_script"]
theorem sc_law : FnScope N_law P_law (defScope s_law) := ⟨rfl, rfl, rfl, by decide +kernel, rfl, by decide +kernel, by decide +kernel⟩
structure Txt (mg : Str → Option Value) : Prop where
  n_len : mg "len" = none
  n_int : mg "int" = none
  n_abs : mg "abs" = none
  n_max : mg "max" = none
  n_min : mg "min" = none
  n_isinstance : mg "isinstance" = none
  n_repr : mg "repr" = none
  n_range : mg "range" = none
  n_str : mg "str" = none
  n_ValueError : mg "ValueError" = none
  n_KeyError : mg "KeyError" = none
  n_IndexError : mg "IndexError" = none
  n_LookupError : mg "LookupError" = none
  n_OverflowError : mg "OverflowError" = none
  n_ArithmeticError : mg "ArithmeticError" = none
  n_RuntimeError : mg "RuntimeError" = none
section
variable {P : Program} {w : World} {K : PySem.W.Frag} {mg : Str → Option Value} {base : Heap} {c : Cl}
theorem ok__law_dice {f : Addr} {fd : FuncData} (F : Fun K "_law_dice" "_law_dice" s__law_dice f fd) (T : Txt mg) (Z : Cls K mg c) : FnOk P w K mg base CX0 1 f fd P__law_dice (spDice K) := by
  refine F.ok sc__law_dice (fun vs H Q E h => ?_) (fun cdv A outer s H vs Q E hr h => ?_)
  · obtain ⟨a, ns, k, rfl, _⟩ := h
    rfl
  · obtain ⟨a, ns, k, rfl, hS, hlen, h0, hk, q⟩ := h
    refine ⟨_, (pss_cons (ps_set (i := 2) sc__law_dice.nd rfl (Or.inl rfl) (pe_op op_add (pe_op op_mul pe_int (pv 1)) pe_int))
      (pss_cons (ps_if (pt_cmpR op_lt (pv 1) (pe_callB call_len_seq (by rfl) T.n_len (by decide +kernel) (pa_cons (pv 0) pa_nil)) (nomark _)) (pss_one (ps_set (i := 2) sc__law_dice.nd rfl (Or.inl rfl) (pe_ix ix_list (pv 0) (pv 1) (fun _ _ => rfl)))) pss_nil)
      (pss_cons (ps_set (i := 3) sc__law_dice.nd rfl (Or.inl rfl) (pe_op op_mod (pe_callTy call_int1 (by rfl) T.n_int (by decide +kernel) (pa_cons (pe_callB call_abs (by rfl) T.n_abs (by decide +kernel) (pa_cons (pv 2) pa_nil)) pa_nil)) (pe_op op_powW (pe_op op_powW pe_int pe_int) pe_int)))
      (pss_cons (ps_set (i := 4) sc__law_dice.nd rfl (Or.inl rfl) (pe_op op_add (pe_op op_add (pe_op op_add (pe_op op_mul (pe_op op_mod (pe_callTy call_int1 (by rfl) T.n_int (by decide +kernel) (pa_cons (pv 3) pa_nil)) pe_int) pe_int) (pe_op op_mul pe_int (pv 1))) (pe_op op_mul pe_int (pe_callTy call_int1 (by rfl) T.n_int (by decide +kernel) (pa_cons (pe_cmpR op_lt (pv 2) pe_int (nomark _)) pa_nil)))) pe_int))
      (pss_one (ps_ret (pe_lst (pa_cons (pe_callB (call_max2 rfl) (by rfl) T.n_max (by decide +kernel) (pa_cons pe_int (pa_cons (pe_op op_sub (pv 3) (pe_op op_powW pe_int pe_int)) pa_nil))) (pa_cons (pe_op op_mod (pe_callTy call_int1 (by rfl) T.n_int (by decide +kernel) (pa_cons (pv 4) pa_nil)) pe_int) (pa_cons pe_int pa_nil)))))))))), ?_⟩
    refine ⟨_, rfl, _, _, rfl, rfl, mulL (by decide), _, _, rfl, rfl, ?_⟩
    refine ⟨_, rfl, _, rfl, _, _, rfl, .inl hS, _, _, rfl, rfl, _, rfl, ?_⟩
    refine ite2 (fun hc => ?_) (fun hc => ?_)
    · have hc' := of_decide_eq_true hc
      rw [List.length_map] at hc'
      obtain ⟨c, hat⟩ := script_at h0 hc'
      refine ⟨_, rfl, _, rfl, _, _, _, _, rfl, rfl, hS, hat, ?_⟩
      refine ⟨_, rfl, _, rfl, .inl ⟨_, rfl, _, _, rfl, rfl, (powOk (by decide +kernel)), _, _, rfl, rfl, (powOk (by decide +kernel)), _, _, rfl, rfl, (modc (by decide +kernel)), ?_⟩⟩
      refine ⟨_, rfl, .inl ⟨_, rfl, _, _, rfl, rfl, (modc (by decide)), _, _, rfl, rfl, mulR (by decide), _, rfl, _, _, rfl, rfl, mulL (by decide), _, _, rfl, rfl, _, rfl, _, _, rfl, rfl, .inr ⟨_, rfl, _, _, rfl, rfl, mulL (by decide), _, _, rfl, rfl, _, _, rfl, rfl, ?_⟩⟩⟩
      refine ⟨_, rfl, _, _, rfl, rfl, (powOk (by decide +kernel)), _, _, rfl, rfl, _, _, rfl, _, rfl, .inl ⟨_, rfl, _, _, rfl, rfl, (modc (by decide)), (szr rfl), fun p hp => ?_⟩⟩
      exact q p _ hp (Ev2.new hp) (fun _ hb => upd_ne hb) ⟨_, _, _, upd_same⟩
    · generalize 53 * k + 29 = c
      refine ⟨_, rfl, _, rfl, .inl ⟨_, rfl, _, _, rfl, rfl, (powOk (by decide +kernel)), _, _, rfl, rfl, (powOk (by decide +kernel)), _, _, rfl, rfl, (modc (by decide +kernel)), ?_⟩⟩
      refine ⟨_, rfl, .inl ⟨_, rfl, _, _, rfl, rfl, (modc (by decide)), _, _, rfl, rfl, mulR (by decide), _, rfl, _, _, rfl, rfl, mulL (by decide), _, _, rfl, rfl, _, rfl, _, _, rfl, rfl, .inr ⟨_, rfl, _, _, rfl, rfl, mulL (by decide), _, _, rfl, rfl, _, _, rfl, rfl, ?_⟩⟩⟩
      refine ⟨_, rfl, _, _, rfl, rfl, (powOk (by decide +kernel)), _, _, rfl, rfl, _, _, rfl, _, rfl, .inl ⟨_, rfl, _, _, rfl, rfl, (modc (by decide)), (szr rfl), fun p hp => ?_⟩⟩
      exact q p _ hp (Ev2.new hp) (fun _ hb => upd_ne hb) ⟨_, _, _, upd_same⟩
theorem ok__law_roll {f : Addr} {fd : FuncData} (F : Fun K "_law_roll" "_law_roll" s__law_roll f fd) (T : Txt mg) (Z : Cls K mg c) : FnOk P w K mg base CX0 1 f fd P__law_roll spRoll := by
  refine F.ok sc__law_roll (fun vs H Q E h => ?_) (fun cdv A outer s H vs Q E hr h => ?_)
  · obtain ⟨p, n, rfl, _⟩ := h
    rfl
  · obtain ⟨p, n, rfl, hd, h0, hn, q⟩ := h
    obtain ⟨x, y, z, hp⟩ := id hd
    have a0 : ∀ x y z : Int, atI [V.int x, .int y, .int z] 0 = some (.int x) := fun _ _ _ => rfl
    have a1 : ∀ x y z : Int, atI [V.int x, .int y, .int z] 1 = some (.int y) := fun _ _ _ => rfl
    have a2 : ∀ x y z : Int, atI [V.int x, .int y, .int z] 2 = some (.int z) := fun _ _ _ => rfl
    refine ⟨_, (pss_cons (ps_if (pt_cmpR op_gt (pe_ix ix_list (pv 0) pe_int (fun _ _ => rfl)) pe_int (nomark _)) (pss_cons (ps_set (i := 2) sc__law_roll.nd rfl (Or.inl rfl) (pe_op op_mod (pe_callTy call_int1 (by rfl) T.n_int (by decide +kernel) (pa_cons (pe_ix ix_list (pv 0) pe_int (fun _ _ => rfl)) pa_nil)) (pv 1)))
      (pss_cons (ps_asg (pe_op op_fdiv (pe_ix ix_list (pv 0) pe_int (fun _ _ => rfl)) (pv 1)) (pg_sub (pv 0) pe_int set_list))
      (pss_one (ps_ret (pv 2))))) pss_nil)
      (pss_cons (ps_asg (pe_op op_add (pe_ix ix_list (pv 0) pe_int (fun _ _ => rfl)) pe_int) (pg_sub (pv 0) pe_int set_list))
      (pss_cons (ps_set (i := 3) sc__law_roll.nd rfl (Or.inl rfl) (pe_op op_mod (pe_callTy call_int1 (by rfl) T.n_int (by decide +kernel) (pa_cons (pe_op op_add (pe_ix ix_list (pv 0) pe_int (fun _ _ => rfl)) (pe_op op_mul pe_int (pe_ix ix_list (pv 0) pe_int (fun _ _ => rfl)))) pa_nil)) pe_int))
      (pss_cons (ps_set (i := 4) sc__law_roll.nd rfl (Or.inl rfl) (pe_op op_add (pe_op op_mul (pe_op op_mod (pe_callTy call_int1 (by rfl) T.n_int (by decide +kernel) (pa_cons (pe_op op_mul (pv 3) (pv 3)) pa_nil)) pe_int) (pv 3)) (pe_op op_mul pe_int (pe_ix ix_list (pv 0) pe_int (fun _ _ => rfl)))))
      (pss_cons (ps_set (i := 4) sc__law_roll.nd rfl (Or.inl rfl) (pe_op op_mod (pe_callTy call_int1 (by rfl) T.n_int (by decide +kernel) (pa_cons (pv 4) pa_nil)) pe_int))
      (pss_one (ps_ret (pe_op op_mod (pe_callTy call_int1 (by rfl) T.n_int (by decide +kernel) (pa_cons (pe_op op_fdiv (pv 4) pe_int) pa_nil)) (pv 1))))))))), ?_⟩
    refine ⟨_, rfl, _, _, _, _, rfl, rfl, SqL.of hp, a0 _ _ _, _, _, rfl, rfl, _, rfl, ?_⟩
    refine ite2 (fun hc => ?_) (fun hc => ?_)
    · refine ⟨_, rfl, _, _, _, _, rfl, rfl, SqL.of hp, a0 _ _ _, .inl ⟨_, rfl, _, rfl, _, _, rfl, rfl, (modc h0), ?_⟩⟩
      refine ⟨_, rfl, _, _, _, _, rfl, rfl, SqL.of hp, a0 _ _ _, _, rfl, _, _, rfl, rfl, ⟨h0, by omega⟩, _, rfl, _, _, _, _, rfl, rfl, hp, rfl, ?_⟩
      refine ⟨_, rfl, ?_⟩
      exact q _ _ (Int.emod_nonneg _ (by omega)) (Int.emod_lt_of_pos _ h0) (hd.set _ _ _).1 (hd.set _ _ _).2.1 (hd.set _ _ _).2.2
    · refine ⟨_, rfl, _, _, _, _, rfl, rfl, SqL.of hp, a2 _ _ _, _, _, rfl, rfl, _, rfl, _, _, _, _, rfl, rfl, hp, rfl, ?_⟩
      have hp2 : (upd H p (dl x y (z + 1))) p = some (dl x y (z + 1)) := upd_same
      refine ⟨_, rfl, _, _, _, _, rfl, rfl, SqL.of hp2, a1 _ _ _, _, rfl, _, _, _, _, rfl, rfl, SqL.of hp2, a2 _ _ _, _, _, rfl, rfl, mulL (by decide), _, _, rfl, rfl, .inl ⟨_, rfl, _, _, rfl, rfl, (modc (by decide)), ?_⟩⟩
      have b1 := Int.emod_nonneg (y + 998244341 * (z + 1)) (b := 2305843009213693951) (by decide)
      have b2 := Int.emod_lt_of_pos (y + 998244341 * (z + 1)) (b := 2305843009213693951) (by decide)
      generalize (y + 998244341 * (z + 1)) % 2305843009213693951 = one at b1 b2
      refine ⟨_, rfl, _, rfl, _, _, rfl, rfl, mulL (by omega), .inl ⟨_, rfl, _, _, rfl, rfl, (modc (by decide)), _, rfl, _, _, rfl, rfl, mulR (by omega), _, rfl, _, _, _, _, rfl, rfl, SqL.of hp2, a2 _ _ _, _, _, rfl, rfl, mulL (by decide), _, _, rfl, rfl, ?_⟩⟩
      refine ⟨_, rfl, .inl ⟨_, rfl, _, _, rfl, rfl, (modc (by decide)), ?_⟩⟩
      refine ⟨_, rfl, _, _, rfl, rfl, ⟨by decide, by decide⟩, .inl ⟨_, rfl, _, rfl, _, _, rfl, rfl, (modc h0), ?_⟩⟩
      exact q _ _ (Int.emod_nonneg _ (by omega)) (Int.emod_lt_of_pos _ h0) (hd.set _ _ _).1 (hd.set _ _ _).2.1 (hd.set _ _ _).2.2
theorem ok__law_pick {f : Addr} {fd : FuncData} (F : Fun K "_law_pick" "_law_pick" s__law_pick f fd) (T : Txt mg) (Z : Cls K mg c) {f__law_roll : Addr} {fd__law_roll : FuncData} (G__law_roll : FnOk P w K mg base CX0 1 f__law_roll fd__law_roll P__law_roll spRoll) (C__law_roll : Cal K mg "_law_roll" f__law_roll fd__law_roll P__law_roll) : FnOk P w K mg base CX0 2 f fd P__law_pick (spPick K) := by
  refine F.ok sc__law_pick (fun vs H Q E h => ?_) (fun cdv A outer s H vs Q E hr h => ?_)
  · obtain ⟨p, a, xs, rfl, _⟩ := h
    rfl
  · obtain ⟨p, a, xs, rfl, hp, hS, hS2, h0, hn, q⟩ := h
    refine ⟨_, (pss_one (ps_ret (pe_ix ix_list (pv 1) (pe_call G__law_roll (hr.mono (by decide)) rfl C__law_roll.m C__law_roll.k C__law_roll.b .nil pass0 (pa_cons (pv 0) (pa_cons (pe_callB call_len_seq (by rfl) T.n_len (by decide +kernel) (pa_cons (pv 1) pa_nil)) pa_nil))) (fun _ _ => rfl)))), ?_⟩
    refine ⟨_, rfl, _, rfl, _, rfl, _, _, rfl, .inl hS, ?_⟩
    refine ⟨p, _, rfl, hp, by omega, by omega, fun r H' r0 r1 e1 o1 d1 => ?_⟩
    have hlt : r.toNat < xs.length := by omega
    have hat : atI xs ((r.toNat : Nat) : Int) = some xs[r.toNat] := atI_nat (List.getElem?_eq_getElem hlt)
    rw [show ((r.toNat : Nat) : Int) = r by omega] at hat
    exact ⟨_, _, _, _, rfl, rfl, hS2 _ e1 o1, hat, q _ _ _ (List.getElem?_eq_getElem hlt) e1 o1 d1⟩

abbrev s_iParseError : Stmt := (clB (top 10)).getD 0 (.Pass ⟨0, 0, 0, 0⟩)
abbrev N_iParseError : List Str := ["self", "line"]
abbrev P_iParseError : List Str := ["self", "line"]
theorem sc_iParseError : FnScope N_iParseError P_iParseError (defScope s_iParseError) := ⟨rfl, rfl, rfl, by decide +kernel, rfl, by decide +kernel, by decide +kernel⟩
theorem ok_iParseError {f : Addr} {fd : FuncData} (F : Fun K "__init__" "ParseError.__init__" s_iParseError f fd) : FnOk P w K mg base CX0 1 f fd P_iParseError (spIni K "line") := by
  refine F.ok sc_iParseError (fun vs H Q E h => ?_) (fun cdv A outer s H vs Q E hr h => ?_)
  · obtain ⟨a, C, y, rfl, _⟩ := h
    rfl
  · obtain ⟨a, C, y, rfl, T, no, e, q⟩ := h
    refine ⟨_, (pss_one (ps_put (pv 0) (pv 1))), ?_⟩
    exact ⟨_, rfl, _, rfl, a, C, rfl, T, no, e, q⟩
abbrev s_iUnknownWord : Stmt := (clB (top 11)).getD 0 (.Pass ⟨0, 0, 0, 0⟩)
abbrev N_iUnknownWord : List Str := ["self", "asked"]
abbrev P_iUnknownWord : List Str := ["self", "asked"]
theorem sc_iUnknownWord : FnScope N_iUnknownWord P_iUnknownWord (defScope s_iUnknownWord) := ⟨rfl, rfl, rfl, by decide +kernel, rfl, by decide +kernel, by decide +kernel⟩
theorem ok_iUnknownWord {f : Addr} {fd : FuncData} (F : Fun K "__init__" "UnknownWord.__init__" s_iUnknownWord f fd) : FnOk P w K mg base CX0 1 f fd P_iUnknownWord (spIni K "asked") := by
  refine F.ok sc_iUnknownWord (fun vs H Q E h => ?_) (fun cdv A outer s H vs Q E hr h => ?_)
  · obtain ⟨a, C, y, rfl, _⟩ := h
    rfl
  · obtain ⟨a, C, y, rfl, T, no, e, q⟩ := h
    refine ⟨_, (pss_one (ps_put (pv 0) (pv 1))), ?_⟩
    exact ⟨_, rfl, _, rfl, a, C, rfl, T, no, e, q⟩
abbrev s_iUnknownPlace : Stmt := (clB (top 12)).getD 0 (.Pass ⟨0, 0, 0, 0⟩)
abbrev N_iUnknownPlace : List Str := ["self", "spot"]
abbrev P_iUnknownPlace : List Str := ["self", "spot"]
theorem sc_iUnknownPlace : FnScope N_iUnknownPlace P_iUnknownPlace (defScope s_iUnknownPlace) := ⟨rfl, rfl, rfl, by decide +kernel, rfl, by decide +kernel, by decide +kernel⟩
theorem ok_iUnknownPlace {f : Addr} {fd : FuncData} (F : Fun K "__init__" "UnknownPlace.__init__" s_iUnknownPlace f fd) : FnOk P w K mg base CX0 1 f fd P_iUnknownPlace (spIni K "spot") := by
  refine F.ok sc_iUnknownPlace (fun vs H Q E h => ?_) (fun cdv A outer s H vs Q E hr h => ?_)
  · obtain ⟨a, C, y, rfl, _⟩ := h
    rfl
  · obtain ⟨a, C, y, rfl, T, no, e, q⟩ := h
    refine ⟨_, (pss_one (ps_put (pv 0) (pv 1))), ?_⟩
    exact ⟨_, rfl, _, rfl, a, C, rfl, T, no, e, q⟩
abbrev s_iNothingToUndo : Stmt := (clB (top 13)).getD 0 (.Pass ⟨0, 0, 0, 0⟩)
abbrev N_iNothingToUndo : List Str := ["self", "amount"]
abbrev P_iNothingToUndo : List Str := ["self", "amount"]
theorem sc_iNothingToUndo : FnScope N_iNothingToUndo P_iNothingToUndo (defScope s_iNothingToUndo) := ⟨rfl, rfl, rfl, by decide +kernel, rfl, by decide +kernel, by decide +kernel⟩
theorem ok_iNothingToUndo {f : Addr} {fd : FuncData} (F : Fun K "__init__" "NothingToUndo.__init__" s_iNothingToUndo f fd) : FnOk P w K mg base CX0 1 f fd P_iNothingToUndo (spIni K "amount") := by
  refine F.ok sc_iNothingToUndo (fun vs H Q E h => ?_) (fun cdv A outer s H vs Q E hr h => ?_)
  · obtain ⟨a, C, y, rfl, _⟩ := h
    rfl
  · obtain ⟨a, C, y, rfl, T, no, e, q⟩ := h
    refine ⟨_, (pss_one (ps_put (pv 0) (pv 1))), ?_⟩
    exact ⟨_, rfl, _, rfl, a, C, rfl, T, no, e, q⟩
abbrev s_iTooMany : Stmt := (clB (top 14)).getD 0 (.Pass ⟨0, 0, 0, 0⟩)
abbrev N_iTooMany : List Str := ["self", "limit"]
abbrev P_iTooMany : List Str := ["self", "limit"]
theorem sc_iTooMany : FnScope N_iTooMany P_iTooMany (defScope s_iTooMany) := ⟨rfl, rfl, rfl, by decide +kernel, rfl, by decide +kernel, by decide +kernel⟩
theorem ok_iTooMany {f : Addr} {fd : FuncData} (F : Fun K "__init__" "TooMany.__init__" s_iTooMany f fd) : FnOk P w K mg base CX0 1 f fd P_iTooMany (spIni K "limit") := by
  refine F.ok sc_iTooMany (fun vs H Q E h => ?_) (fun cdv A outer s H vs Q E hr h => ?_)
  · obtain ⟨a, C, y, rfl, _⟩ := h
    rfl
  · obtain ⟨a, C, y, rfl, T, no, e, q⟩ := h
    refine ⟨_, (pss_one (ps_put (pv 0) (pv 1))), ?_⟩
    exact ⟨_, rfl, _, rfl, a, C, rfl, T, no, e, q⟩
abbrev s_iRefused : Stmt := (clB (top 15)).getD 0 (.Pass ⟨0, 0, 0, 0⟩)
abbrev N_iRefused : List Str := ["self", "cause"]
abbrev P_iRefused : List Str := ["self", "cause"]
theorem sc_iRefused : FnScope N_iRefused P_iRefused (defScope s_iRefused) := ⟨rfl, rfl, rfl, by decide +kernel, rfl, by decide +kernel, by decide +kernel⟩
theorem ok_iRefused {f : Addr} {fd : FuncData} (F : Fun K "__init__" "Refused.__init__" s_iRefused f fd) : FnOk P w K mg base CX0 1 f fd P_iRefused (spIni K "cause") := by
  refine F.ok sc_iRefused (fun vs H Q E h => ?_) (fun cdv A outer s H vs Q E hr h => ?_)
  · obtain ⟨a, C, y, rfl, _⟩ := h
    rfl
  · obtain ⟨a, C, y, rfl, T, no, e, q⟩ := h
    refine ⟨_, (pss_one (ps_put (pv 0) (pv 1))), ?_⟩
    exact ⟨_, rfl, _, rfl, a, C, rfl, T, no, e, q⟩
abbrev s_iInvalidNumber : Stmt := (clB (top 16)).getD 0 (.Pass ⟨0, 0, 0, 0⟩)
abbrev N_iInvalidNumber : List Str := ["self", "number"]
abbrev P_iInvalidNumber : List Str := ["self", "number"]
theorem sc_iInvalidNumber : FnScope N_iInvalidNumber P_iInvalidNumber (defScope s_iInvalidNumber) := ⟨rfl, rfl, rfl, by decide +kernel, rfl, by decide +kernel, by decide +kernel⟩
theorem ok_iInvalidNumber {f : Addr} {fd : FuncData} (F : Fun K "__init__" "InvalidNumber.__init__" s_iInvalidNumber f fd) : FnOk P w K mg base CX0 1 f fd P_iInvalidNumber (spIni K "number") := by
  refine F.ok sc_iInvalidNumber (fun vs H Q E h => ?_) (fun cdv A outer s H vs Q E hr h => ?_)
  · obtain ⟨a, C, y, rfl, _⟩ := h
    rfl
  · obtain ⟨a, C, y, rfl, T, no, e, q⟩ := h
    refine ⟨_, (pss_one (ps_put (pv 0) (pv 1))), ?_⟩
    exact ⟨_, rfl, _, rfl, a, C, rfl, T, no, e, q⟩
theorem len11 {l : List Bool} (h : l.length = 11) : ∃ b0 b1 b2 b3 b4 b5 b6 b7 b8 b9 b10, l = [b0, b1, b2, b3, b4, b5, b6, b7, b8, b9, b10] := match l, h with
  | [b0, b1, b2, b3, b4, b5, b6, b7, b8, b9, b10], _ => ⟨b0, b1, b2, b3, b4, b5, b6, b7, b8, b9, b10, rfl⟩
theorem len12 {l : List Bool} (h : l.length = 12) : ∃ b0 b1 b2 b3 b4 b5 b6 b7 b8 b9 b10 b11, l = [b0, b1, b2, b3, b4, b5, b6, b7, b8, b9, b10, b11] := match l, h with
  | [b0, b1, b2, b3, b4, b5, b6, b7, b8, b9, b10, b11], _ => ⟨b0, b1, b2, b3, b4, b5, b6, b7, b8, b9, b10, b11, rfl⟩
def mk1 (b : Bool) : Str := if b then "x" else "."
theorem mk1_len : ∀ b, (mk1 b).length = 1 := by decide +kernel
theorem marks_sz {bs : List Bool} (h : bs.length ≤ 100) : ((bs.map mk1).map (·.length)).sum + (bs.map mk1).length * (Str.ofString "").length ≤ 16777216 := by
  have e0 : (Str.ofString "").length = 0 := by decide +kernel
  have es : ((bs.map mk1).map (·.length)).sum = bs.length := by
    clear h
    induction bs with
    | nil => rfl
    | cons b l ih =>
      rw [List.map_cons, List.map_cons, List.sum_cons, mk1_len, ih, List.length_cons]
      omega
  rw [es, e0]
  omega
theorem bl_get {bs : List Bool} {i : Nat} {y : V} (h : (bs.map V.bl)[i]? = some y) : ∃ b, bs[i]? = some b ∧ y = .bl b := by
  rw [List.getElem?_map, Option.map_eq_some_iff] at h
  obtain ⟨b, h1, h2⟩ := h
  exact ⟨b, h1, h2.symm⟩
def spRow (K : PySem.W.Frag) (cs : List Value) (n : Nat) : Sp := fun vs H Q _ => ∃ (a D : Addr) (bs : List Bool), vs = [.ref a] ∧ IsErr H a D ∧ ErrC K D ∧ bs.length = n ∧ rowB K D cs bs = true ∧ ∀ H', Same H H' → Q (.str (marks bs)) H'
theorem ok__law_kinds {f : Addr} {fd : FuncData} (F : Fun K "_law_kinds" "_law_kinds" s__law_kinds f fd) (T : Txt mg) (Z : Cls K mg c) : FnOk P w K mg base CX0 1 f fd P__law_kinds (spRow K (row0 c) 11) := by
  refine F.ok sc__law_kinds (fun vs H Q E h => ?_) (fun cdv A outer s H vs Q E hr h => ?_)
  · obtain ⟨a, D, bs, rfl, _⟩ := h
    rfl
  · obtain ⟨a, D, bs, rfl, he, C, hl, hr2, q⟩ := h
    refine ⟨_, (pss_cons (ps_set (i := 1) sc__law_kinds.nd rfl (Or.inl rfl) (pe_lst (pa_cons (pe_callB call_isErr (by rfl) T.n_isinstance (by decide +kernel) (pa_cons (pv 0) (pa_cons (pe_glob (v := .ref c.InvalidWord) rfl Z.g_InvalidWord rfl) pa_nil))) (pa_cons (pe_callB call_isErr (by rfl) T.n_isinstance (by decide +kernel) (pa_cons (pv 0) (pa_cons (pe_glob (v := .ref c.InvalidTerm) rfl Z.g_InvalidTerm rfl) pa_nil))) (pa_cons (pe_callB call_isErr (by rfl) T.n_isinstance (by decide +kernel) (pa_cons (pv 0) (pa_cons (pe_glob (v := .ref c.InvalidBook) rfl Z.g_InvalidBook rfl) pa_nil))) pa_nil)))))
      (pss_cons (ps_set (i := 1) sc__law_kinds.nd rfl (Or.inl rfl) (pe_op op_cat (pv 1) (pe_lst (pa_cons (pe_callB call_isErr (by rfl) T.n_isinstance (by decide +kernel) (pa_cons (pv 0) (pa_cons (pe_glob (v := .ref c.InvalidProgram) rfl Z.g_InvalidProgram rfl) pa_nil))) (pa_cons (pe_callB call_isErr (by rfl) T.n_isinstance (by decide +kernel) (pa_cons (pv 0) (pa_cons (pe_glob (v := .ref c.InvalidTable) rfl Z.g_InvalidTable rfl) pa_nil))) (pa_cons (pe_callB call_isErr (by rfl) T.n_isinstance (by decide +kernel) (pa_cons (pv 0) (pa_cons (pe_glob (v := .ref c.InvalidLines) rfl Z.g_InvalidLines rfl) pa_nil))) pa_nil))))))
      (pss_cons (ps_set (i := 1) sc__law_kinds.nd rfl (Or.inl rfl) (pe_op op_cat (pv 1) (pe_lst (pa_cons (pe_callB call_isErr (by rfl) T.n_isinstance (by decide +kernel) (pa_cons (pv 0) (pa_cons (pe_glob (v := .ref c.InvalidRows) rfl Z.g_InvalidRows rfl) pa_nil))) (pa_cons (pe_callB call_isErr (by rfl) T.n_isinstance (by decide +kernel) (pa_cons (pv 0) (pa_cons (pe_glob (v := .ref c.InvalidOperation) rfl Z.g_InvalidOperation rfl) pa_nil))) pa_nil)))))
      (pss_cons (ps_set (i := 1) sc__law_kinds.nd rfl (Or.inl rfl) (pe_op op_cat (pv 1) (pe_lst (pa_cons (pe_callB call_isErr (by rfl) T.n_isinstance (by decide +kernel) (pa_cons (pv 0) (pa_cons (pe_glob (v := .ref c.ParseError) rfl Z.g_ParseError rfl) pa_nil))) (pa_cons (pe_callB call_isErr (by rfl) T.n_isinstance (by decide +kernel) (pa_cons (pv 0) (pa_cons (pe_glob (v := .ref c.NeedError) rfl Z.g_NeedError rfl) pa_nil))) (pa_cons (pe_callB call_isErr (by rfl) T.n_isinstance (by decide +kernel) (pa_cons (pv 0) (pa_cons (pe_bltn (v := .ty "ValueError") rfl T.n_ValueError (by decide +kernel) rfl) pa_nil))) pa_nil))))))
      (pss_one (ps_ret (pe_join pe_str (pe_lc (own := [("_law_one", 2)]) (g := gName 2) (tt := tYes) rfl sc__law_kinds.nd (pi_list (pv 1)) (blkOk_by (own := [("_law_one", 2)]) (N := ["_law_error", "_law_told", "_law_one"]) (sc := (defScope s__law_kinds)) (by decide +kernel)) (fun _ _ _ _ _ => (pg_name (i := 2) sc__law_kinds.nd rfl (Or.inl rfl))) (fun _ _ _ _ _ => pts_nil) (fun _ _ _ _ _ => (pe_ifExp (pt_val (pv 2)) pe_str pe_str)))))))))), ?_⟩
    obtain ⟨b0, b1, b2, b3, b4, b5, b6, b7, b8, b9, b10, rfl⟩ := len11 hl
    have he0 := he
    refine ⟨_, rfl, _, _, _, _, _, rfl, he, C.x, (.own _), (row_at hr2 0 rfl rfl), _, rfl, _, _, _, _, _, rfl, he, C.x, (.own _), (row_at hr2 1 rfl rfl), _, rfl, _, _, _, _, _, rfl, he, C.x, (.own _), (row_at hr2 2 rfl rfl), (szr rfl), fun p1 n1 => ?_⟩
    generalize g1 : upd _ p1 _ = H1; obtain ⟨e1, o1, t1⟩ := made n1 g1; clear g1
    have s1 := sameOf n1 o1
    have he1 := he.same s1
    refine ⟨_, rfl, _, rfl, _, _, _, _, _, rfl, he1, C.x, (.own _), (row_at hr2 3 rfl rfl), _, rfl, _, _, _, _, _, rfl, he1, C.x, (.own _), (row_at hr2 4 rfl rfl), _, rfl, _, _, _, _, _, rfl, he1, C.x, (.own _), (row_at hr2 5 rfl rfl), (szr rfl), fun p2 n2 => ?_⟩
    generalize g2 : upd _ p2 _ = H2; obtain ⟨e2, o2, t2⟩ := made n2 g2; clear g2
    have s2 := sameOf n2 o2
    have he2 := he1.same s2
    have t1' := s2 _ _ t1
    refine ⟨_, _, _, _, rfl, rfl, t1', t2, (szn rfl), fun p3 n3 => ?_⟩
    generalize g3 : upd _ p3 _ = H3; obtain ⟨e3, o3, t3⟩ := made n3 g3; clear g3
    have s3 := sameOf n3 o3
    have he3 := he2.same s3
    refine ⟨_, rfl, _, rfl, _, _, _, _, _, rfl, he3, C.x, (.own _), (row_at hr2 6 rfl rfl), _, rfl, _, _, _, _, _, rfl, he3, C.x, (.own _), (row_at hr2 7 rfl rfl), (szr rfl), fun p4 n4 => ?_⟩
    generalize g4 : upd _ p4 _ = H4; obtain ⟨e4, o4, t4⟩ := made n4 g4; clear g4
    have s4 := sameOf n4 o4
    have he4 := he3.same s4
    have t3' := s4 _ _ t3
    refine ⟨_, _, _, _, rfl, rfl, t3', t4, (szn rfl), fun p5 n5 => ?_⟩
    generalize g5 : upd _ p5 _ = H5; obtain ⟨e5, o5, t5⟩ := made n5 g5; clear g5
    have s5 := sameOf n5 o5
    have he5 := he4.same s5
    refine ⟨_, rfl, _, rfl, _, _, _, _, _, rfl, he5, C.x, (.own _), (row_at hr2 8 rfl rfl), _, rfl, _, _, _, _, _, rfl, he5, C.x, (.own _), (row_at hr2 9 rfl rfl), _, rfl, _, _, _, _, _, rfl, he5, C.x, (.ty _), (row_at hr2 10 rfl rfl), (szr rfl), fun p6 n6 => ?_⟩
    generalize g6 : upd _ p6 _ = H6; obtain ⟨e6, o6, t6⟩ := made n6 g6; clear g6
    have s6 := sameOf n6 o6
    have he6 := he5.same s6
    have t5' := s6 _ _ t5
    refine ⟨_, _, _, _, rfl, rfl, t5', t6, (szn rfl), fun p7 n7 => ?_⟩
    generalize g7 : upd _ p7 _ = H7; obtain ⟨e7, o7, t7⟩ := made n7 g7; clear g7
    have s7 := sameOf n7 o7
    have he7 := he6.same s7
    have tt : H7 p7 = some (.lst (([b0, b1, b2, b3, b4, b5, b6, b7, b8, b9, b10] : List Bool).map V.bl)) := t7
    have S0 : Same H H7 := by walk_at "sm"
    clear t1 t2 t3 t4 t5 t6 t7
    generalize eb : ([b0, b1, b2, b3, b4, b5, b6, b7, b8, b9, b10] : List Bool) = bs at tt q hl
    refine ⟨⟨_, rfl⟩, _, rfl, _, rfl, ⟨_, SqL.of tt⟩, fun D hD => ?_⟩
    refine lc_list (K := K) (xs := bs.map V.bl) (fun i H' => Same H7 H' ∧ H' D = some (.lst ((bs.take i).map fun b => V.str (mk1 b)))) ⟨sameOf hD (fun b hb => upd_ne hb), upd_same⟩ (fun i H' _ h => SqL.of (h.1 _ _ tt)) ?_ ?_
    · rintro i y H' hi ⟨sm, hl1⟩
      obtain ⟨b, hb, rfl⟩ := bl_get hi
      have hi2 : i < 11 := by rw [← hl]; exact (List.getElem?_eq_some_iff.mp hb).1
      refine ⟨rfl, ?_⟩
      refine ⟨_, rfl, _, rfl, ?_⟩
      have fin : ∃ xs, H' D = some (.lst xs) ∧ xs.length < sizeLine ∧ (Same H7 (upd H' D (.lst (xs ++ [V.str (mk1 b)]))) ∧ (upd H' D (.lst (xs ++ [V.str (mk1 b)]))) D = some (.lst ((bs.take (i + 1)).map fun b => V.str (mk1 b)))) := by
        refine ⟨_, hl1, szlt (by rw [List.length_map, List.length_take]; omega), fun b o e => ?_, ?_⟩
        · rw [upd_ne (ne_of_none e hD)]
          exact sm _ _ e
        · rw [upd_same, List.take_add_one, List.map_append, hb]
          rfl
      cases b with
      | true => exact iteT fin
      | false => exact iteF fin
    · rintro H9 ⟨sm, hl1⟩
      rw [List.length_map, List.take_of_length_le (Nat.le_refl _)] at hl1
      refine ⟨_, _, bs.map mk1, rfl, rfl, (.inl (SqL.of (by rw [List.map_map]; exact hl1))), marks_sz (by omega), ?_⟩
      exact q H9 (S0.trans sm)
theorem ok__law_others {f : Addr} {fd : FuncData} (F : Fun K "_law_others" "_law_others" s__law_others f fd) (T : Txt mg) (Z : Cls K mg c) : FnOk P w K mg base CX0 1 f fd P__law_others (spRow K (row1 c) 12) := by
  refine F.ok sc__law_others (fun vs H Q E h => ?_) (fun cdv A outer s H vs Q E hr h => ?_)
  · obtain ⟨a, D, bs, rfl, _⟩ := h
    rfl
  · obtain ⟨a, D, bs, rfl, he, C, hl, hr2, q⟩ := h
    refine ⟨_, (pss_cons (ps_set (i := 1) sc__law_others.nd rfl (Or.inl rfl) (pe_lst (pa_cons (pe_callB call_isErr (by rfl) T.n_isinstance (by decide +kernel) (pa_cons (pv 0) (pa_cons (pe_glob (v := .ref c.UnknownWord) rfl Z.g_UnknownWord rfl) pa_nil))) (pa_cons (pe_callB call_isErr (by rfl) T.n_isinstance (by decide +kernel) (pa_cons (pv 0) (pa_cons (pe_glob (v := .ref c.UnknownPlace) rfl Z.g_UnknownPlace rfl) pa_nil))) (pa_cons (pe_callB call_isErr (by rfl) T.n_isinstance (by decide +kernel) (pa_cons (pv 0) (pa_cons (pe_glob (v := .ref c.NothingToUndo) rfl Z.g_NothingToUndo rfl) pa_nil))) pa_nil)))))
      (pss_cons (ps_set (i := 1) sc__law_others.nd rfl (Or.inl rfl) (pe_op op_cat (pv 1) (pe_lst (pa_cons (pe_callB call_isErr (by rfl) T.n_isinstance (by decide +kernel) (pa_cons (pv 0) (pa_cons (pe_glob (v := .ref c.TooMany) rfl Z.g_TooMany rfl) pa_nil))) (pa_cons (pe_callB call_isErr (by rfl) T.n_isinstance (by decide +kernel) (pa_cons (pv 0) (pa_cons (pe_glob (v := .ref c.Refused) rfl Z.g_Refused rfl) pa_nil))) (pa_cons (pe_callB call_isErr (by rfl) T.n_isinstance (by decide +kernel) (pa_cons (pv 0) (pa_cons (pe_glob (v := .ref c.InvalidNumber) rfl Z.g_InvalidNumber rfl) pa_nil))) pa_nil))))))
      (pss_cons (ps_set (i := 1) sc__law_others.nd rfl (Or.inl rfl) (pe_op op_cat (pv 1) (pe_lst (pa_cons (pe_callB call_isErr (by rfl) T.n_isinstance (by decide +kernel) (pa_cons (pv 0) (pa_cons (pe_bltn (v := .ty "KeyError") rfl T.n_KeyError (by decide +kernel) rfl) pa_nil))) (pa_cons (pe_callB call_isErr (by rfl) T.n_isinstance (by decide +kernel) (pa_cons (pv 0) (pa_cons (pe_bltn (v := .ty "IndexError") rfl T.n_IndexError (by decide +kernel) rfl) pa_nil))) (pa_cons (pe_callB call_isErr (by rfl) T.n_isinstance (by decide +kernel) (pa_cons (pv 0) (pa_cons (pe_bltn (v := .ty "LookupError") rfl T.n_LookupError (by decide +kernel) rfl) pa_nil))) pa_nil))))))
      (pss_cons (ps_set (i := 1) sc__law_others.nd rfl (Or.inl rfl) (pe_op op_cat (pv 1) (pe_lst (pa_cons (pe_callB call_isErr (by rfl) T.n_isinstance (by decide +kernel) (pa_cons (pv 0) (pa_cons (pe_bltn (v := .ty "OverflowError") rfl T.n_OverflowError (by decide +kernel) rfl) pa_nil))) (pa_cons (pe_callB call_isErr (by rfl) T.n_isinstance (by decide +kernel) (pa_cons (pv 0) (pa_cons (pe_bltn (v := .ty "ArithmeticError") rfl T.n_ArithmeticError (by decide +kernel) rfl) pa_nil))) pa_nil)))))
      (pss_one (ps_ret (pe_join pe_str (pe_lc (own := [("_law_one", 2)]) (g := gName 2) (tt := tYes) rfl sc__law_others.nd (pi_list (pe_op op_cat (pv 1) (pe_lst (pa_cons (pe_callB call_isErr (by rfl) T.n_isinstance (by decide +kernel) (pa_cons (pv 0) (pa_cons (pe_bltn (v := .ty "RuntimeError") rfl T.n_RuntimeError (by decide +kernel) rfl) pa_nil))) pa_nil)))) (blkOk_by (own := [("_law_one", 2)]) (N := ["_law_error", "_law_told", "_law_one"]) (sc := (defScope s__law_others)) (by decide +kernel)) (fun _ _ _ _ _ => (pg_name (i := 2) sc__law_others.nd rfl (Or.inl rfl))) (fun _ _ _ _ _ => pts_nil) (fun _ _ _ _ _ => (pe_ifExp (pt_val (pv 2)) pe_str pe_str)))))))))), ?_⟩
    obtain ⟨b0, b1, b2, b3, b4, b5, b6, b7, b8, b9, b10, b11, rfl⟩ := len12 hl
    have he0 := he
    refine ⟨_, rfl, _, _, _, _, _, rfl, he, C.x, (.own _), (row_at hr2 0 rfl rfl), _, rfl, _, _, _, _, _, rfl, he, C.x, (.own _), (row_at hr2 1 rfl rfl), _, rfl, _, _, _, _, _, rfl, he, C.x, (.own _), (row_at hr2 2 rfl rfl), (szr rfl), fun p1 n1 => ?_⟩
    generalize g1 : upd _ p1 _ = H1; obtain ⟨e1, o1, t1⟩ := made n1 g1; clear g1
    have s1 := sameOf n1 o1
    have he1 := he.same s1
    refine ⟨_, rfl, _, rfl, _, _, _, _, _, rfl, he1, C.x, (.own _), (row_at hr2 3 rfl rfl), _, rfl, _, _, _, _, _, rfl, he1, C.x, (.own _), (row_at hr2 4 rfl rfl), _, rfl, _, _, _, _, _, rfl, he1, C.x, (.own _), (row_at hr2 5 rfl rfl), (szr rfl), fun p2 n2 => ?_⟩
    generalize g2 : upd _ p2 _ = H2; obtain ⟨e2, o2, t2⟩ := made n2 g2; clear g2
    have s2 := sameOf n2 o2
    have he2 := he1.same s2
    have t1' := s2 _ _ t1
    refine ⟨_, _, _, _, rfl, rfl, t1', t2, (szn rfl), fun p3 n3 => ?_⟩
    generalize g3 : upd _ p3 _ = H3; obtain ⟨e3, o3, t3⟩ := made n3 g3; clear g3
    have s3 := sameOf n3 o3
    have he3 := he2.same s3
    refine ⟨_, rfl, _, rfl, _, _, _, _, _, rfl, he3, C.x, (.ty _), (row_at hr2 6 rfl rfl), _, rfl, _, _, _, _, _, rfl, he3, C.x, (.ty _), (row_at hr2 7 rfl rfl), _, rfl, _, _, _, _, _, rfl, he3, C.x, (.ty _), (row_at hr2 8 rfl rfl), (szr rfl), fun p4 n4 => ?_⟩
    generalize g4 : upd _ p4 _ = H4; obtain ⟨e4, o4, t4⟩ := made n4 g4; clear g4
    have s4 := sameOf n4 o4
    have he4 := he3.same s4
    have t3' := s4 _ _ t3
    refine ⟨_, _, _, _, rfl, rfl, t3', t4, (szn rfl), fun p5 n5 => ?_⟩
    generalize g5 : upd _ p5 _ = H5; obtain ⟨e5, o5, t5⟩ := made n5 g5; clear g5
    have s5 := sameOf n5 o5
    have he5 := he4.same s5
    refine ⟨_, rfl, _, rfl, _, _, _, _, _, rfl, he5, C.x, (.ty _), (row_at hr2 9 rfl rfl), _, rfl, _, _, _, _, _, rfl, he5, C.x, (.ty _), (row_at hr2 10 rfl rfl), (szr rfl), fun p6 n6 => ?_⟩
    generalize g6 : upd _ p6 _ = H6; obtain ⟨e6, o6, t6⟩ := made n6 g6; clear g6
    have s6 := sameOf n6 o6
    have he6 := he5.same s6
    have t5' := s6 _ _ t5
    refine ⟨_, _, _, _, rfl, rfl, t5', t6, (szn rfl), fun p7 n7 => ?_⟩
    generalize g7 : upd _ p7 _ = H7; obtain ⟨e7, o7, t7⟩ := made n7 g7; clear g7
    have s7 := sameOf n7 o7
    have he7 := he6.same s7
    refine ⟨⟨_, rfl⟩, _, rfl, _, rfl, _, _, _, _, _, rfl, he7, C.x, (.ty _), (row_at hr2 11 rfl rfl), (szr rfl), fun p8 n8 => ?_⟩
    generalize g8 : upd _ p8 _ = H8; obtain ⟨e8, o8, t8⟩ := made n8 g8; clear g8
    have s8 := sameOf n8 o8
    have t7' := s8 _ _ t7
    refine ⟨_, _, _, _, rfl, rfl, t7', t8, (szn rfl), fun p9 n9 => ?_⟩
    generalize g9 : upd _ p9 _ = H9; obtain ⟨e9, o9, t9⟩ := made n9 g9; clear g9
    have s9 := sameOf n9 o9
    have tt : H9 p9 = some (.lst (([b0, b1, b2, b3, b4, b5, b6, b7, b8, b9, b10, b11] : List Bool).map V.bl)) := t9
    have S0 : Same H H9 := by walk_at "sm"
    clear t1 t2 t3 t4 t5 t6 t7 t8 t9
    generalize eb : ([b0, b1, b2, b3, b4, b5, b6, b7, b8, b9, b10, b11] : List Bool) = bs at tt q hl
    refine ⟨_, rfl, ⟨_, SqL.of tt⟩, fun D hD => ?_⟩
    refine lc_list (K := K) (xs := bs.map V.bl) (fun i H' => Same H9 H' ∧ H' D = some (.lst ((bs.take i).map fun b => V.str (mk1 b)))) ⟨sameOf hD (fun b hb => upd_ne hb), upd_same⟩ (fun i H' _ h => SqL.of (h.1 _ _ tt)) ?_ ?_
    · rintro i y H' hi ⟨sm, hl1⟩
      obtain ⟨b, hb, rfl⟩ := bl_get hi
      have hi2 : i < 12 := by rw [← hl]; exact (List.getElem?_eq_some_iff.mp hb).1
      refine ⟨rfl, ?_⟩
      refine ⟨_, rfl, _, rfl, ?_⟩
      have fin : ∃ xs, H' D = some (.lst xs) ∧ xs.length < sizeLine ∧ (Same H9 (upd H' D (.lst (xs ++ [V.str (mk1 b)]))) ∧ (upd H' D (.lst (xs ++ [V.str (mk1 b)]))) D = some (.lst ((bs.take (i + 1)).map fun b => V.str (mk1 b)))) := by
        refine ⟨_, hl1, szlt (by rw [List.length_map, List.length_take]; omega), fun b o e => ?_, ?_⟩
        · rw [upd_ne (ne_of_none e hD)]
          exact sm _ _ e
        · rw [upd_same, List.take_add_one, List.map_append, hb]
          rfl
      cases b with
      | true => exact iteT fin
      | false => exact iteF fin
    · rintro H9 ⟨sm, hl1⟩
      rw [List.length_map, List.take_of_length_le (Nat.le_refl _)] at hl1
      refine ⟨_, _, bs.map mk1, rfl, rfl, (.inl (SqL.of (by rw [List.map_map]; exact hl1))), marks_sz (by omega), ?_⟩
      exact q H9 (S0.trans sm)
def thingD : List PyData := [.int 0, .str "", .str "a", .none, .tuple [], .tuple [.str "f", .int 3], .int (10 ^ Int.toNat 30), .bool true, .tuple [.tuple [.str "f", .int 2], .str "_"], .list [.int 1], .dict [(.str "a", .tuple [])]]
theorem tabT : ∀ d ∈ thingD, d.showable = true ∧ d.depth ≤ 40 ∧ d.shown.length ≤ 10000 ∧ (listText (PyData.shownAll (List.replicate 6 d))).length ≤ 10000 := by decide +kernel
def wordsL : List Str := ["", "no term", "a", "rows 3"]
theorem tabW : ∀ x ∈ wordsL, SeqAt.shaped (.list (List.replicate 9 (.str x))) = true ∧ PyData.eqv (.list (List.replicate 9 (.str x))) (.list (List.replicate 9 (.str x))) = true := by decide +kernel
def no11 : List Bool := List.replicate 11 false
def no12 : List Bool := List.replicate 12 false
def dueS (j : Nat) : Str := repS "." j ++ "x" ++ repS "." (8 - j) ++ "xx"
theorem tabN : SeqAt.shaped (.list (List.replicate 9 (.str (marks no12)))) = true ∧ SeqAt.shaped (.list (List.replicate 9 (.str (repS "." (Int.toNat 12))))) = true ∧ PyData.eqv (.list (List.replicate 9 (.str (marks no12)))) (.list (List.replicate 9 (.str (repS "." (Int.toNat 12))))) = true := by decide +kernel
theorem _root_.Fn.IsE.off {H G : Hp} {a C q : Addr} {f : Str} {y : V} {xs : List V} (h : IsE H a C f y) (e : H q = some (.lst xs)) (o : ∀ b, b ≠ q → G b = H b) : IsE G a C f y := by
  obtain ⟨dx, h1, h2⟩ := h
  refine ⟨dx, (o _ fun z => ?_).trans h1, (o _ fun z => ?_).trans h2⟩
  · subst z
    cases e.symm.trans h1
  · subst z
    cases e.symm.trans h2
theorem dp_strs {K : PySem.W.Frag} {H : Hp} : ∀ l : List Str, DpAll K H (l.map V.str) (l.map PyData.str)
  | [] => .nil
  | x :: l => .cons (.str x) (dp_strs l)
def kbL : List Str := [marks [true, false, false, false, false, false, false, false, false, true, true], marks [false, true, false, false, false, false, false, false, false, true, true], marks [false, false, true, false, false, false, false, false, false, true, true], marks [false, false, false, true, false, false, false, false, false, true, true], marks [false, false, false, false, true, false, false, false, false, true, true], marks [false, false, false, false, false, true, false, false, false, true, true], marks [false, false, false, false, false, false, true, false, false, true, true], marks [false, false, false, false, false, false, false, true, false, true, true], marks [false, false, false, false, false, false, false, false, true, true, true]]
theorem tabK : SeqAt.shaped (.list (kbL.map .str)) = true ∧ SeqAt.shaped (.list (((List.range 9).map dueS).map .str)) = true ∧ PyData.eqv (.list (kbL.map .str)) (.list (((List.range 9).map dueS).map .str)) = true := by decide +kernel
theorem ref_get3 {os : List (Addr × Addr × List Bool)} {i : Nat} {y : V} (h : (os.map fun o => V.ref o.1)[i]? = some y) : ∃ o, os[i]? = some o ∧ y = .ref o.1 := by
  rw [List.getElem?_map, Option.map_eq_some_iff] at h
  obtain ⟨b, h1, h2⟩ := h
  exact ⟨b, h1, h2.symm⟩
def obL : List Str := [marks [true, false, false, false, false, false, true, false, true, false, false, false], marks [false, true, false, false, false, false, false, false, true, false, false, false], marks [false, false, true, false, false, false, false, true, true, false, false, false], marks [false, false, false, true, false, false, false, false, false, true, true, false], marks [false, false, false, false, true, false, false, false, false, false, true, false], marks [false, false, false, false, false, true, false, false, false, false, false, true]]
def dueO : List Str := ["x.....x.x...", ".x......x...", "..x....xx...", "...x.....xx.", "....x.....x.", ".....x.....x"]
theorem tabO : SeqAt.shaped (.list (obL.map .str)) = true ∧ SeqAt.shaped (.list (dueO.map .str)) = true ∧ PyData.eqv (.list (obL.map .str)) (.list (dueO.map .str)) = true := by decide +kernel
theorem tabM : SeqAt.shaped (.list (List.replicate 6 (.str (marks no11)))) = true ∧ SeqAt.shaped (.list (List.replicate 6 (.str (repS "." (Int.toNat 11))))) = true ∧ PyData.eqv (.list (List.replicate 6 (.str (marks no11)))) (.list (List.replicate 6 (.str (repS "." (Int.toNat 11))))) = true := by decide +kernel
theorem ref_get {os : List (Addr × Addr)} {i : Nat} {y : V} (h : (os.map fun o => V.ref o.1)[i]? = some y) : ∃ o, os[i]? = some o ∧ y = .ref o.1 := by
  rw [List.getElem?_map, Option.map_eq_some_iff] at h
  obtain ⟨b, h1, h2⟩ := h
  exact ⟨b, h1, h2.symm⟩
theorem dp_rep {K : PySem.W.Frag} {H : Hp} {v : V} {d : PyData} (h : Dp K H v d) : ∀ n, DpAll K H (List.replicate n v) (List.replicate n d)
  | 0 => .nil
  | n + 1 => .cons h (dp_rep h n)
def spRight : Sp := fun vs H Q _ => ∃ (p : Addr), vs = [.ref p] ∧ Dc H p ∧ ∀ H', Ev2 H H' → Dc H' p → Q (.bl true) H'
theorem ok__law_right {f : Addr} {fd : FuncData} (F : Fun K "_law_right" "_law_right" s__law_right f fd) (T : Txt mg) (Z : Cls K mg c) {f__law_pick : Addr} {fd__law_pick : FuncData} (G__law_pick : FnOk P w K mg base CX0 2 f__law_pick fd__law_pick P__law_pick (spPick K)) (C__law_pick : Cal K mg "_law_pick" f__law_pick fd__law_pick P__law_pick) {f__law_kinds : Addr} {fd__law_kinds : FuncData} (G__law_kinds : FnOk P w K mg base CX0 1 f__law_kinds fd__law_kinds P__law_kinds (spRow K (row0 c) 11)) (C__law_kinds : Cal K mg "_law_kinds" f__law_kinds fd__law_kinds P__law_kinds) {f__law_others : Addr} {fd__law_others : FuncData} (G__law_others : FnOk P w K mg base CX0 1 f__law_others fd__law_others P__law_others (spRow K (row1 c) 12)) (C__law_others : Cal K mg "_law_others" f__law_others fd__law_others P__law_others) {fd_ParseError : FuncData} (G_ParseError : FnOk P w K mg base CX0 1 c.iParseError fd_ParseError P_iParseError (spIni K "line")) (B_ParseError : Binds K fd_ParseError P_iParseError []) {fd_UnknownWord : FuncData} (G_UnknownWord : FnOk P w K mg base CX0 1 c.iUnknownWord fd_UnknownWord P_iUnknownWord (spIni K "asked")) (B_UnknownWord : Binds K fd_UnknownWord P_iUnknownWord []) {fd_UnknownPlace : FuncData} (G_UnknownPlace : FnOk P w K mg base CX0 1 c.iUnknownPlace fd_UnknownPlace P_iUnknownPlace (spIni K "spot")) (B_UnknownPlace : Binds K fd_UnknownPlace P_iUnknownPlace []) {fd_NothingToUndo : FuncData} (G_NothingToUndo : FnOk P w K mg base CX0 1 c.iNothingToUndo fd_NothingToUndo P_iNothingToUndo (spIni K "amount")) (B_NothingToUndo : Binds K fd_NothingToUndo P_iNothingToUndo []) {fd_TooMany : FuncData} (G_TooMany : FnOk P w K mg base CX0 1 c.iTooMany fd_TooMany P_iTooMany (spIni K "limit")) (B_TooMany : Binds K fd_TooMany P_iTooMany []) {fd_Refused : FuncData} (G_Refused : FnOk P w K mg base CX0 1 c.iRefused fd_Refused P_iRefused (spIni K "cause")) (B_Refused : Binds K fd_Refused P_iRefused []) {fd_InvalidNumber : FuncData} (G_InvalidNumber : FnOk P w K mg base CX0 1 c.iInvalidNumber fd_InvalidNumber P_iInvalidNumber (spIni K "number")) (B_InvalidNumber : Binds K fd_InvalidNumber P_iInvalidNumber []) : FnG P w K mg base CX0 4 f fd P__law_right spRight := by
  refine okG F sc__law_right (fun vs H Q E h => ?_) (fun cdv A outer s H vs Q E hg hr h => ?_)
  · obtain ⟨p, rfl, _⟩ := h
    rfl
  · obtain ⟨p, rfl, hp, q⟩ := h
    refine ⟨_, (pss_cons (ps_set (i := 1) sc__law_right.nd rfl (Or.inl rfl) (pe_call G__law_pick (hr.mono (by decide)) rfl C__law_pick.m C__law_pick.k C__law_pick.b .nil pass0 (pa_cons (pv 0) (pa_cons (pe_lst (pa_cons pe_int (pa_cons pe_str (pa_cons pe_str (pa_cons pe_non (pa_cons (pe_tup pa_nil) (pa_cons (pe_tup (pa_cons pe_str (pa_cons pe_int pa_nil))) (pa_cons (pe_op op_powW pe_int pe_int) (pa_cons pe_bl (pa_cons (pe_tup (pa_cons (pe_tup (pa_cons pe_str (pa_cons pe_int pa_nil))) (pa_cons pe_str pa_nil))) (pa_cons (pe_lst (pa_cons pe_int pa_nil)) (pa_cons (pe_disp (pps_cons pe_str (pe_tup pa_nil) pps_nil) rfl rfl (by simp) (by decide)) pa_nil)))))))))))) pa_nil))))
      (pss_cons (ps_set (i := 2) sc__law_right.nd rfl (Or.inl rfl) (pe_call G__law_pick (hr.mono (by decide)) rfl C__law_pick.m C__law_pick.k C__law_pick.b .nil pass0 (pa_cons (pv 0) (pa_cons (pe_lst (pa_cons pe_str (pa_cons pe_str (pa_cons pe_str (pa_cons pe_str pa_nil))))) pa_nil))))
      (pss_cons (ps_set (i := 3) sc__law_right.nd rfl (Or.inl rfl) (pe_lst (pa_cons (pe_mk1 PySem.F.excBase_ValueError Z.p_InvalidWord Z.g_InvalidWord Z.e_InvalidWord.k rfl (pv 2)) (pa_cons (pe_mk1 PySem.F.excBase_ValueError Z.p_InvalidTerm Z.g_InvalidTerm Z.e_InvalidTerm.k rfl (pv 2)) (pa_cons (pe_mk1 PySem.F.excBase_ValueError Z.p_InvalidBook Z.g_InvalidBook Z.e_InvalidBook.k rfl (pv 2)) (pa_cons (pe_mk1 PySem.F.excBase_ValueError Z.p_InvalidProgram Z.g_InvalidProgram Z.e_InvalidProgram.k rfl (pv 2)) (pa_cons (pe_mk1 PySem.F.excBase_ValueError Z.p_InvalidTable Z.g_InvalidTable Z.e_InvalidTable.k rfl (pv 2)) pa_nil)))))))
      (pss_cons (ps_set (i := 3) sc__law_right.nd rfl (Or.inl rfl) (pe_op op_cat (pv 3) (pe_lst (pa_cons (pe_mk1 PySem.F.excBase_ValueError Z.p_InvalidLines Z.g_InvalidLines Z.e_InvalidLines.k rfl (pv 2)) (pa_cons (pe_mk1 PySem.F.excBase_ValueError Z.p_InvalidRows Z.g_InvalidRows Z.e_InvalidRows.k rfl (pv 2)) (pa_cons (pe_mk1 PySem.F.excBase_ValueError Z.p_InvalidOperation Z.g_InvalidOperation Z.e_InvalidOperation.k rfl (pv 2)) (pa_cons (pe_mk1 PySem.F.excBase_ValueError Z.p_NeedError Z.g_NeedError Z.e_NeedError.k rfl (pv 2)) pa_nil)))))))
      (pss_cons (ps_if (PW.pt (pw_or (pt_cmpR (op_neD hr.units) (pe_lc (own := [("_law_one", 4)]) (g := gName 4) (tt := tYes) rfl sc__law_right.nd (pi_list (pv 3)) (blkOk_by (own := [("_law_one", 4)]) (N := ["_law_dice_here", "_law_thing", "_law_words", "_law_base", "_law_one", "_law_due", "_law_at", "_law_others_here", "_law_kept"]) (sc := (defScope s__law_right)) (by decide +kernel)) (fun _ _ _ _ _ => (pg_name (i := 4) sc__law_right.nd rfl (Or.inl rfl))) (fun _ _ _ _ _ => pts_nil) (fun _ _ _ _ _ => (pe_callTy (call_strE (K := K) (hu64 hr)) (by rfl) T.n_str (by decide +kernel) (pa_cons (pv 4) pa_nil)))) (pe_op op_rep (pe_lst (pa_cons (pv 2) pa_nil)) pe_int) (nomark _)) (pw_or1 (pt_cmpR (op_neD hr.units) (pe_lc (own := [("_law_one", 4)]) (g := gName 4) (tt := tYes) rfl sc__law_right.nd (pi_list (pv 3)) (blkOk_by (own := [("_law_one", 4)]) (N := ["_law_dice_here", "_law_thing", "_law_words", "_law_base", "_law_one", "_law_due", "_law_at", "_law_others_here", "_law_kept"]) (sc := (defScope s__law_right)) (by decide +kernel)) (fun _ _ _ _ _ => (pg_name (i := 4) sc__law_right.nd rfl (Or.inl rfl))) (fun _ _ _ _ _ => pts_nil) (fun _ _ _ _ _ => (pe_call G__law_others (hr.mono (by decide)) rfl C__law_others.m C__law_others.k C__law_others.b .nil pass0 (pa_cons (pv 4) pa_nil)))) (pe_op op_rep (pe_lst (pa_cons (pe_op op_mulS pe_str pe_int) pa_nil)) pe_int) (nomark _))))) (pss_one (ps_ret pe_bl)) pss_nil)
      (pss_cons (ps_asg (pe_mkI Z.o_ParseError.o Z.o_ParseError.i Z.o_ParseError.t G_ParseError (hr.mono (by decide)) B_ParseError pass0 rfl Z.g_ParseError (pa_cons (pe_call G__law_pick (hr.mono (by decide)) rfl C__law_pick.m C__law_pick.k C__law_pick.b .nil pass0 (pa_cons (pv 0) (pa_cons (pe_lst (pa_cons pe_non (pa_cons pe_int (pa_cons pe_int (pa_cons (pe_op op_powW pe_int pe_int) pa_nil))))) pa_nil))) pa_nil)) (pg_sub (pv 3) pe_int set_list))
      (pss_cons (ps_setLc (i := 5) (own := [("_law_at", 6)]) (g := gName 6) (tt := tYes) rfl sc__law_right.nd rfl rfl (sw_true rfl rfl rfl (by decide +kernel)) (pi_range1 (by rfl) T.n_range (pa_cons pe_int pa_nil)) (blkOk_by (own := [("_law_at", 6)]) (N := ["_law_dice_here", "_law_thing", "_law_words", "_law_base", "_law_one", "_law_due", "_law_at", "_law_others_here", "_law_kept"]) (sc := (defScope s__law_right)) (by decide +kernel)) (fun _ _ _ _ _ => (pg_name (i := 6) sc__law_right.nd rfl (Or.inl rfl))) (fun _ _ _ _ _ => pts_nil) (fun _ _ _ _ _ => (pe_op op_add_str (pe_op op_add_str (pe_op op_add_str (pe_op op_mulS pe_str (pv 6)) pe_str) (pe_op op_mulS pe_str (pe_op op_sub pe_int (pv 6)))) pe_str)))
      (pss_cons (ps_if (PW.pt (pw_or (pt_cmpR (op_neD hr.units) (pe_lc (own := [("_law_one", 4)]) (g := gName 4) (tt := tYes) rfl sc__law_right.nd (pi_list (pv 3)) (blkOk_by (own := [("_law_one", 4)]) (N := ["_law_dice_here", "_law_thing", "_law_words", "_law_base", "_law_one", "_law_due", "_law_at", "_law_others_here", "_law_kept"]) (sc := (defScope s__law_right)) (by decide +kernel)) (fun _ _ _ _ _ => (pg_name (i := 4) sc__law_right.nd rfl (Or.inl rfl))) (fun _ _ _ _ _ => pts_nil) (fun _ _ _ _ _ => (pe_call G__law_kinds (hr.mono (by decide)) rfl C__law_kinds.m C__law_kinds.k C__law_kinds.b .nil pass0 (pa_cons (pv 4) pa_nil)))) (pv 5) (nomark _)) (pw_or1 (pt_cmpR op_ne (pe_call G__law_kinds (hr.mono (by decide)) rfl C__law_kinds.m C__law_kinds.k C__law_kinds.b .nil pass0 (pa_cons (pe_mk1 PySem.F.excBase_ValueError Z.p_NeedError Z.g_NeedError Z.e_NeedError.k rfl (pv 2)) pa_nil)) (pe_op op_add_str (pe_op op_mulS pe_str pe_int) pe_str) (nomark _))))) (pss_one (ps_ret pe_bl)) pss_nil)
      (pss_cons (ps_set (i := 7) sc__law_right.nd rfl (Or.inl rfl) (pe_lst (pa_cons (pe_mkI Z.o_UnknownWord.o Z.o_UnknownWord.i Z.o_UnknownWord.t G_UnknownWord (hr.mono (by decide)) B_UnknownWord pass0 rfl Z.g_UnknownWord (pa_cons (pv 1) pa_nil)) (pa_cons (pe_mkI Z.o_UnknownPlace.o Z.o_UnknownPlace.i Z.o_UnknownPlace.t G_UnknownPlace (hr.mono (by decide)) B_UnknownPlace pass0 rfl Z.g_UnknownPlace (pa_cons (pv 1) pa_nil)) (pa_cons (pe_mkI Z.o_NothingToUndo.o Z.o_NothingToUndo.i Z.o_NothingToUndo.t G_NothingToUndo (hr.mono (by decide)) B_NothingToUndo pass0 rfl Z.g_NothingToUndo (pa_cons (pv 1) pa_nil)) (pa_cons (pe_mkI Z.o_TooMany.o Z.o_TooMany.i Z.o_TooMany.t G_TooMany (hr.mono (by decide)) B_TooMany pass0 rfl Z.g_TooMany (pa_cons (pv 1) pa_nil)) (pa_cons (pe_mkI Z.o_Refused.o Z.o_Refused.i Z.o_Refused.t G_Refused (hr.mono (by decide)) B_Refused pass0 rfl Z.g_Refused (pa_cons (pv 1) pa_nil)) pa_nil)))))))
      (pss_cons (ps_expr (pe_bm PySem.F.plainAttrs_list PySem.F.slot_list_append PySem.F.type_list_append mt_append (pv 7) (pa_cons (pe_mkI Z.o_InvalidNumber.o Z.o_InvalidNumber.i Z.o_InvalidNumber.t G_InvalidNumber (hr.mono (by decide)) B_InvalidNumber pass0 rfl Z.g_InvalidNumber (pa_cons (pv 1) pa_nil)) pa_nil)))
      (pss_cons (ps_set (i := 5) sc__law_right.nd rfl (Or.inl rfl) (pe_lst (pa_cons pe_str (pa_cons pe_str (pa_cons pe_str (pa_cons pe_str (pa_cons pe_str (pa_cons pe_str pa_nil))))))))
      (pss_cons (ps_if (PW.pt (pw_or (pt_cmpR (op_neD hr.units) (pe_lc (own := [("_law_one", 4)]) (g := gName 4) (tt := tYes) rfl sc__law_right.nd (pi_list (pv 7)) (blkOk_by (own := [("_law_one", 4)]) (N := ["_law_dice_here", "_law_thing", "_law_words", "_law_base", "_law_one", "_law_due", "_law_at", "_law_others_here", "_law_kept"]) (sc := (defScope s__law_right)) (by decide +kernel)) (fun _ _ _ _ _ => (pg_name (i := 4) sc__law_right.nd rfl (Or.inl rfl))) (fun _ _ _ _ _ => pts_nil) (fun _ _ _ _ _ => (pe_call G__law_others (hr.mono (by decide)) rfl C__law_others.m C__law_others.k C__law_others.b .nil pass0 (pa_cons (pv 4) pa_nil)))) (pv 5) (nomark _)) (pw_or1 (pt_cmpR (op_neD hr.units) (pe_lc (own := [("_law_one", 4)]) (g := gName 4) (tt := tYes) rfl sc__law_right.nd (pi_list (pv 7)) (blkOk_by (own := [("_law_one", 4)]) (N := ["_law_dice_here", "_law_thing", "_law_words", "_law_base", "_law_one", "_law_due", "_law_at", "_law_others_here", "_law_kept"]) (sc := (defScope s__law_right)) (by decide +kernel)) (fun _ _ _ _ _ => (pg_name (i := 4) sc__law_right.nd rfl (Or.inl rfl))) (fun _ _ _ _ _ => pts_nil) (fun _ _ _ _ _ => (pe_call G__law_kinds (hr.mono (by decide)) rfl C__law_kinds.m C__law_kinds.k C__law_kinds.b .nil pass0 (pa_cons (pv 4) pa_nil)))) (pe_op op_rep (pe_lst (pa_cons (pe_op op_mulS pe_str pe_int) pa_nil)) pe_int) (nomark _))))) (pss_one (ps_ret pe_bl)) pss_nil)
      (pss_cons (ps_if (PW.pt (pw_or (pt_cmpR op_ne (pe_call G__law_others (hr.mono (by decide)) rfl C__law_others.m C__law_others.k C__law_others.b .nil pass0 (pa_cons (pe_ix ix_list (pv 3) pe_int (fun _ _ => rfl)) pa_nil)) (pe_op op_mulS pe_str pe_int) (nomark _)) (pw_or1 (pt_cmpR op_ne (pe_callB (call_reprD (K := K) hg (hu64 hr)) (by rfl) T.n_repr (by decide +kernel) (pa_cons (pe_xg (K := K) (pe_mkI Z.o_ParseError.o Z.o_ParseError.i Z.o_ParseError.t G_ParseError (hr.mono (by decide)) B_ParseError pass0 rfl Z.g_ParseError (pa_cons (pv 1) pa_nil))) pa_nil)) (pe_callB (call_reprD (K := K) hg (hu64 hr)) (by rfl) T.n_repr (by decide +kernel) (pa_cons (pv 1) pa_nil)) (nomark _))))) (pss_one (ps_ret pe_bl)) pss_nil)
      (pss_cons (ps_set (i := 8) sc__law_right.nd rfl (Or.inl rfl) (pe_lst (pa_cons (pe_xg (K := K) (pe_ix ix_list (pv 7) pe_int (fun _ _ => rfl))) (pa_cons (pe_xg (K := K) (pe_ix ix_list (pv 7) pe_int (fun _ _ => rfl))) (pa_cons (pe_xg (K := K) (pe_ix ix_list (pv 7) pe_int (fun _ _ => rfl))) (pa_cons (pe_xg (K := K) (pe_ix ix_list (pv 7) pe_int (fun _ _ => rfl))) (pa_cons (pe_xg (K := K) (pe_ix ix_list (pv 7) pe_int (fun _ _ => rfl))) (pa_cons (pe_xg (K := K) (pe_ix ix_list (pv 7) pe_int (fun _ _ => rfl))) pa_nil))))))))
      (pss_one (ps_ret (pe_cmpR op_eq (pe_callB (call_reprN (K := K) hg (hu64 hr)) (by rfl) T.n_repr (by decide +kernel) (pa_cons (pv 8) pa_nil)) (pe_callB (call_reprN (K := K) hg (hu64 hr)) (by rfl) T.n_repr (by decide +kernel) (pa_cons (pe_op op_rep (pe_lst (pa_cons (pv 1) pa_nil)) pe_int) pa_nil)) (nomark _)))))))))))))))))), ?_⟩
    refine ⟨_, rfl, (szr rfl), fun p1 n1 => ?_⟩
    generalize g1 : upd _ p1 _ = H1; obtain ⟨e1, o1, t1⟩ := made n1 g1; clear g1
    have s1 := sameOf n1 o1
    refine ⟨(szr rfl), fun p2 n2 => ?_⟩
    generalize g2 : upd _ p2 _ = H2; obtain ⟨e2, o2, t2⟩ := made n2 g2; clear g2
    have s2 := sameOf n2 o2
    refine ⟨_, _, rfl, rfl, (powOk (by decide +kernel)), (szr rfl), fun p3 n3 => ?_⟩
    generalize g3 : upd _ p3 _ = H3; obtain ⟨e3, o3, t3⟩ := made n3 g3; clear g3
    have s3 := sameOf n3 o3
    refine ⟨(szr rfl), fun p4 n4 => ?_⟩
    generalize g4 : upd _ p4 _ = H4; obtain ⟨e4, o4, t4⟩ := made n4 g4; clear g4
    have s4 := sameOf n4 o4
    refine ⟨(szr rfl), fun p5 n5 => ?_⟩
    generalize g5 : upd _ p5 _ = H5; obtain ⟨e5, o5, t5⟩ := made n5 g5; clear g5
    have s5 := sameOf n5 o5
    refine fun p6 n6 => ?_
    generalize g6 : upd _ p6 _ = H6; obtain ⟨e6, o6, t6⟩ := made n6 g6; clear g6
    have s6 := sameOf n6 o6
    refine ⟨(szr rfl), fun p7 n7 => ?_⟩
    generalize g7 : upd _ p7 _ = H7; obtain ⟨e7, o7, t7⟩ := made n7 g7; clear g7
    have s7 := sameOf n7 o7
    refine ⟨s7 _ _ t6, [(.inr "a", .ref p7)], rfl, (by show 1 ≤ 15; decide), ?_⟩
    generalize g8 : upd H7 p6 _ = H8
    have t8 : H8 p6 = some (.dK [(.inr "a", .ref p7)]) := by subst g8; exact upd_same
    have t78 : H8 p7 = some (.tup []) := by
      subst g8
      rw [upd_ne (fun z => by subst z; rw [n7] at t6; cases t6)]
      exact t7
    have s8 : Same H5 H8 := fun b o e => by
      subst g8
      rw [upd_ne (ne_of_none e n6)]
      exact s7 _ _ (s6 _ _ e)
    clear g8 e6 e7 s6 s7 o6 o7 t6 t7 n6 n7
    refine ⟨(szr rfl), fun p9 n9 => ?_⟩
    generalize g9 : upd _ p9 _ = H9; obtain ⟨e9, o9, t9⟩ := made n9 g9; clear g9
    have s9 := sameOf n9 o9
    have S0 : Same H H8 := by walk_at "sm"
    have d8 := hp.same S0
    have R : ∀ (j : Nat) (v : V), ([.int 0, .str "", .str "a", .non, .ref p1, .ref p2, .int (10 ^ Int.toNat 30), .bl true, .ref p4, .ref p5, .ref p6] : List V)[j]? = some v → ∃ d ∈ thingD, Rx H8 v d := by
      intro j v hj
      have hm := List.mem_of_getElem? hj
      simp only [List.mem_cons, List.not_mem_nil, or_false] at hm
      rcases hm with rfl | rfl | rfl | rfl | rfl | rfl | rfl | rfl | rfl | rfl | rfl
      · exact ⟨.int 0, by simp [thingD], .inl ⟨.int _, by decide +kernel, by decide +kernel, by decide +kernel⟩⟩
      · exact ⟨.str "", by simp [thingD], .inl ⟨.str _, by decide +kernel, by decide +kernel, by decide +kernel⟩⟩
      · exact ⟨.str "a", by simp [thingD], .inl ⟨.str _, by decide +kernel, by decide +kernel, by decide +kernel⟩⟩
      · exact ⟨.none, by simp [thingD], .inl ⟨.non, by decide +kernel, by decide +kernel, by decide +kernel⟩⟩
      · exact ⟨.tuple [], by simp [thingD], .inl ⟨(.tup (Same.at t1 (by walk_at "sm")) .nil), by decide +kernel, by decide +kernel, by decide +kernel⟩⟩
      · exact ⟨.tuple [.str "f", .int 3], by simp [thingD], .inl ⟨(.tup (Same.at t2 (by walk_at "sm")) (.cons (.str _) (.cons (.int _) .nil))), by decide +kernel, by decide +kernel, by decide +kernel⟩⟩
      · exact ⟨.int (10 ^ Int.toNat 30), by simp [thingD], .inl ⟨.int _, by decide +kernel, by decide +kernel, by decide +kernel⟩⟩
      · exact ⟨.bool true, by simp [thingD], .inl ⟨.bl _, by decide +kernel, by decide +kernel, by decide +kernel⟩⟩
      · exact ⟨.tuple [.tuple [.str "f", .int 2], .str "_"], by simp [thingD], .inl ⟨(.tup (Same.at t4 (by walk_at "sm")) (.cons (.tup (Same.at t3 (by walk_at "sm")) (.cons (.str _) (.cons (.int _) .nil))) (.cons (.str _) .nil))), by decide +kernel, by decide +kernel, by decide +kernel⟩⟩
      · exact ⟨.list [.int 1], by simp [thingD], .inl ⟨(.lst (Same.at t5 (by walk_at "sm")) (.cons (.int _) .nil)), by decide +kernel, by decide +kernel, by decide +kernel⟩⟩
      · exact ⟨.dict [(.str "a", .tuple [])], by simp [thingD], .inr ⟨_, _, _, rfl, rfl, t8, t78⟩⟩
    have d9 := d8.keep n9 o9
    have k9 := pick_l (K := K) t9 (d8.ne n9).symm
    refine ⟨p, p9, _, rfl, d9, k9.1, k9.2, (by show 0 < 11; decide), (by show 11 < 1000000; decide), fun i v G1 hv f1 u1 d1 => ?_⟩
    obtain ⟨d, hd, rx⟩ := R i v hv
    have D := tabT d hd
    have rx := (rx.same s9).but d9 (But.of1 u1)
    have E1 : Ev2 H G1 := ((Ev2.same S0).trans e9).trans f1
    clear R hv t1 t2 t3 t4 t5 t8 t78 t9 k9 s1 s2 s3 s4 s5 s8 s9 n1 n2 n3 n4 n5 n9 o1 o2 o3 o4 o5 o9 e1 e2 e3 e4 e5 e9 S0 d8 f1 u1 hp d9
    refine ⟨_, rfl, (szr rfl), fun p10 n10 => ?_⟩
    generalize g10 : upd _ p10 _ = H10; obtain ⟨e10, o10, t10⟩ := made n10 g10; clear g10
    have s10 := sameOf n10 o10
    have d10 := d1.keep n10 o10
    have k10 := pick_l (K := K) t10 (d1.ne n10).symm
    refine ⟨p, p10, _, rfl, d10, k10.1, k10.2, (by show 0 < 4; decide), (by show 4 < 1000000; decide), fun i vw G2 hw f2 u2 d2 => ?_⟩
    obtain ⟨x, hx, rfl⟩ : ∃ x ∈ wordsL, vw = .str x := by
      have hm := List.mem_of_getElem? hw
      simp only [List.mem_cons, List.not_mem_nil, or_false] at hm
      rcases hm with rfl | rfl | rfl | rfl <;> exact ⟨_, by simp [wordsL], rfl⟩
    have W := tabW x hx
    have rx := (rx.same s10).but d10 (But.of1 u2)
    have E2 : Ev2 H G2 := (E1.trans e10).trans f2
    clear hw t10 k10 s10 n10 o10 e10 f2 u2 d10 E1 d1
    refine ⟨_, rfl, mk_one fun a1 B1 m1 r1 q1 => ?_⟩
    refine ⟨_, rfl, mk_one fun a2 B2 m2 r2 q2 => ?_⟩
    refine ⟨_, rfl, mk_one fun a3 B3 m3 r3 q3 => ?_⟩
    refine ⟨_, rfl, mk_one fun a4 B4 m4 r4 q4 => ?_⟩
    refine ⟨_, rfl, mk_one fun a5 B5 m5 r5 q5 => ?_⟩
    refine ⟨(szr rfl), fun p11 n11 => ?_⟩
    generalize g11 : upd _ p11 _ = H11; obtain ⟨e11, o11, t11⟩ := made n11 g11; clear g11
    have s11 := sameOf n11 o11
    refine ⟨_, rfl, ?_⟩
    refine ⟨_, rfl, mk_one fun a6 B6 m6 r6 q6 => ?_⟩
    refine ⟨_, rfl, mk_one fun a7 B7 m7 r7 q7 => ?_⟩
    refine ⟨_, rfl, mk_one fun a8 B8 m8 r8 q8 => ?_⟩
    refine ⟨_, rfl, mk_one fun a9 B9 m9 r9 q9 => ?_⟩
    refine ⟨(szr rfl), fun p12 n12 => ?_⟩
    generalize g12 : upd _ p12 _ = H12; obtain ⟨e12, o12, t12⟩ := made n12 g12; clear g12
    have s12 := sameOf n12 o12
    have t11' : H12 p11 = _ := Same.at t11 (by walk_at "sm")
    have S12 : Same G2 H12 := by walk_at "sm"
    have T1 := q1.same (show Same B1 H12 by walk_at "sm")
    have T2 := q2.same (show Same B2 H12 by walk_at "sm")
    have T3 := q3.same (show Same B3 H12 by walk_at "sm")
    have T4 := q4.same (show Same B4 H12 by walk_at "sm")
    have T5 := q5.same (show Same B5 H12 by walk_at "sm")
    have T6 := q6.same (show Same B6 H12 by walk_at "sm")
    have T7 := q7.same (show Same B7 H12 by walk_at "sm")
    have T8 := q8.same (show Same B8 H12 by walk_at "sm")
    have T9 := q9.same (show Same B9 H12 by walk_at "sm")
    have rq := rx.same S12
    have dq := d2.same S12
    have E3 : Ev2 H H12 := E2.trans (Ev2.same S12)
    refine ⟨_, _, _, _, rfl, rfl, t11', t12, (szn rfl), fun p13 n13 => ?_⟩
    generalize g13 : upd _ p13 _ = H13; obtain ⟨e13, o13, t13⟩ := made n13 g13; clear g13
    have s13 := sameOf n13 o13
    have d13 := dq.same s13
    have base : H13 p13 = some (.lst (([(a1, c.InvalidWord), (a2, c.InvalidTerm), (a3, c.InvalidBook), (a4, c.InvalidProgram), (a5, c.InvalidTable), (a6, c.InvalidLines), (a7, c.InvalidRows), (a8, c.InvalidOperation), (a9, c.NeedError)] : List (Addr × Addr)).map fun o => V.ref o.1)) := t13
    have Eb : Ev2 H H13 := E3.trans e13
    clear q1 r1 m1 q2 r2 m2 q3 r3 m3 q4 r4 m4 q5 r5 m5 q6 r6 m6 q7 r7 m7 q8 r8 m8 q9 r9 m9 s11 s12 n11 n12 o11 o12 e11 e12 t11 t12 t11' t13 rx d2 E2 E3 S12
    have TT : ∀ o ∈ ([(a1, c.InvalidWord), (a2, c.InvalidTerm), (a3, c.InvalidBook), (a4, c.InvalidProgram), (a5, c.InvalidTable), (a6, c.InvalidLines), (a7, c.InvalidRows), (a8, c.InvalidOperation), (a9, c.NeedError)] : List (Addr × Addr)), IsT H12 o.1 o.2 x := by
      simp only [List.forall_mem_cons, List.not_mem_nil, false_imp_iff, implies_true, and_true]
      exact ⟨T1, T2, T3, T4, T5, T6, T7, T8, T9⟩
    have CC : ∀ o ∈ ([(a1, c.InvalidWord), (a2, c.InvalidTerm), (a3, c.InvalidBook), (a4, c.InvalidProgram), (a5, c.InvalidTable), (a6, c.InvalidLines), (a7, c.InvalidRows), (a8, c.InvalidOperation), (a9, c.NeedError)] : List (Addr × Addr)), StrC K o.2 ∧ ErrC K o.2 ∧ rowB K o.2 (row1 c) no12 = true := by
      simp only [List.forall_mem_cons, List.not_mem_nil, false_imp_iff, implies_true, and_true]
      exact ⟨⟨Z.s_InvalidWord, Z.e_InvalidWord, Z.r1_InvalidWord⟩, ⟨Z.s_InvalidTerm, Z.e_InvalidTerm, Z.r1_InvalidTerm⟩, ⟨Z.s_InvalidBook, Z.e_InvalidBook, Z.r1_InvalidBook⟩, ⟨Z.s_InvalidProgram, Z.e_InvalidProgram, Z.r1_InvalidProgram⟩, ⟨Z.s_InvalidTable, Z.e_InvalidTable, Z.r1_InvalidTable⟩, ⟨Z.s_InvalidLines, Z.e_InvalidLines, Z.r1_InvalidLines⟩, ⟨Z.s_InvalidRows, Z.e_InvalidRows, Z.r1_InvalidRows⟩, ⟨Z.s_InvalidOperation, Z.e_InvalidOperation, Z.r1_InvalidOperation⟩, ⟨Z.s_NeedError, Z.e_NeedError, Z.r1_NeedError⟩⟩
    generalize eo : ([(a1, c.InvalidWord), (a2, c.InvalidTerm), (a3, c.InvalidBook), (a4, c.InvalidProgram), (a5, c.InvalidTable), (a6, c.InvalidLines), (a7, c.InvalidRows), (a8, c.InvalidOperation), (a9, c.NeedError)] : List (Addr × Addr)) = os at base TT CC
    have lo : os.length = 9 := by rw [← eo]; rfl
    refine ⟨_, rfl, _, rfl, ⟨_, SqL.of base⟩, fun D1 hD1 => ?_⟩
    refine lc_list (K := K) (xs := os.map fun o => V.ref o.1) (fun i H' => Same H13 H' ∧ H' D1 = some (.lst (List.replicate i (V.str x)))) ⟨sameOf hD1 (fun b hb => upd_ne hb), upd_same⟩ (fun i H' _ h => SqL.of (h.1 _ _ base)) ?_ ?_
    · rintro i y H' hi ⟨sm, hl1⟩
      obtain ⟨o, ho, rfl⟩ := ref_get hi
      have hi2 : i < 9 := by rw [← lo]; exact (List.getElem?_eq_some_iff.mp ho).1
      obtain ⟨t, q1, q2⟩ := (TT o (List.mem_of_getElem? ho)).same (s13.trans sm)
      refine ⟨rfl, ?_⟩
      refine ⟨_, rfl, _, _, _, x, rfl, q1, q2, (CC o (List.mem_of_getElem? ho)).1, _, hl1, szlt (by rw [List.length_replicate]; omega), fun b o e => ?_, ?_⟩
      · rw [upd_ne (ne_of_none e hD1)]
        exact sm _ _ e
      · rw [upd_same, List.replicate_succ']
    rintro H14 ⟨s14, l14⟩
    rw [List.length_map, lo] at l14
    refine ⟨_, rfl, (szr rfl), fun p15 n15 => ?_⟩
    generalize g15 : upd _ p15 _ = H15; obtain ⟨e15, o15, t15⟩ := made n15 g15; clear g15
    have s15 := sameOf n15 o15
    refine ⟨_, _, _, rfl, rfl, t15, (by decide), (by decide), (szn rfl), fun p16 n16 => ?_⟩
    generalize g16 : upd _ p16 _ = H16; obtain ⟨e16, o16, t16⟩ := made n16 g16; clear g16
    have s16 := sameOf n16 o16
    have l16 := Same.at l14 (s15.trans s16)
    refine ⟨.list (List.replicate 9 (.str x)), .list (List.replicate 9 (.str x)), .lst (SqL.of l16) (dp_rep (.str x) 9), .lst (SqL.of t16) (dp_rep (.str x) 9), W.1, W.1, _, rfl, ?_⟩
    rw [W.2]
    refine iteF ?_
    have b16 : H16 p13 = _ := Same.at base (show Same H13 H16 by walk_at "sm")
    have S16 : Same H13 H16 := by walk_at "sm"
    clear s14 s15 s16 l14 l16 t15 t16 n15 n16 o15 o16 e15 e16 e13
    refine ⟨_, rfl, _, rfl, ⟨_, SqL.of b16⟩, fun D2 hD2 => ?_⟩
    refine lc_list (K := K) (xs := os.map fun o => V.ref o.1) (fun i H' => Same H16 H' ∧ H' D2 = some (.lst (List.replicate i (V.str (marks no12))))) ⟨sameOf hD2 (fun b hb => upd_ne hb), upd_same⟩ (fun i H' _ h => SqL.of (h.1 _ _ b16)) ?_ ?_
    · rintro i y H' hi ⟨sm, hl1⟩
      obtain ⟨o, ho, rfl⟩ := ref_get hi
      have hi2 : i < 9 := by rw [← lo]; exact (List.getElem?_eq_some_iff.mp ho).1
      have q1 := ((TT o (List.mem_of_getElem? ho)).same (s13.trans (S16.trans sm))).err
      refine ⟨rfl, ?_⟩
      refine ⟨_, rfl, _, _, no12, rfl, q1, (CC o (List.mem_of_getElem? ho)).2.1, rfl, (CC o (List.mem_of_getElem? ho)).2.2, fun H2' s2' => ?_⟩
      refine ⟨_, s2' _ _ hl1, szlt (by rw [List.length_replicate]; omega), fun b o e => ?_, ?_⟩
      · rw [upd_ne (ne_of_none e hD2)]
        exact s2' _ _ (sm _ _ e)
      · rw [upd_same, List.replicate_succ']
    rintro H17 ⟨s17, l17⟩
    rw [List.length_map, lo] at l17
    refine ⟨_, _, rfl, rfl, (by decide +kernel), (by decide), (by decide), (szr rfl), fun p18 n18 => ?_⟩
    generalize g18 : upd _ p18 _ = H18; obtain ⟨e18, o18, t18⟩ := made n18 g18; clear g18
    have s18 := sameOf n18 o18
    refine ⟨_, _, _, rfl, rfl, t18, (by decide), (by decide), (szn rfl), fun p19 n19 => ?_⟩
    generalize g19 : upd _ p19 _ = H19; obtain ⟨e19, o19, t19⟩ := made n19 g19; clear g19
    have s19 := sameOf n19 o19
    have l19 := Same.at l17 (s18.trans s19)
    refine ⟨.list (List.replicate 9 (.str (marks no12))), .list (List.replicate 9 (.str (repS "." (Int.toNat 12)))), .lst (SqL.of l19) (dp_rep (.str _) 9), .lst (SqL.of t19) (dp_rep (.str _) 9), tabN.1, tabN.2.1, _, rfl, ?_⟩
    rw [tabN.2.2]
    refine iteF ?_
    have S19 : Same H13 H19 := by walk_at "sm"
    have d19 := d13.same S19
    have E19 : Ev2 H H19 := Eb.trans (Ev2.same S19)
    have S1219 : Same H12 H19 := s13.trans S19
    clear s17 s18 s19 l17 l19 t18 t19 n18 n19 o18 o19 e18 e19 b16 S16 Eb d13
    refine ⟨_, rfl, _, _, rfl, rfl, (powOk (by decide +kernel)), (szr rfl), fun p20 n20 => ?_⟩
    generalize g20 : upd _ p20 _ = H20; obtain ⟨e20, o20, t20⟩ := made n20 g20; clear g20
    have s20 := sameOf n20 o20
    have d20 := d19.keep n20 o20
    have k20 := pick_l (K := K) t20 (d19.ne n20).symm
    refine ⟨p, p20, _, rfl, d20, k20.1, k20.2, (by show 0 < 4; decide), (by show 4 < 1000000; decide), fun i vy G3 hy f3 u3 d3 => ?_⟩
    show MkIni _ _ [vy] _ _
    refine mk_ini Z.o_ParseError fun aP B20 m20 r20 q20 => ?_
    have np : p ≠ p13 := dq.ne n13
    have tb : B20 p13 = _ := Same.at ((u3 p13 np.symm).trans (Same.at base (S19.trans s20))) r20
    subst eo
    refine ⟨_, rfl, _, _, _, _, rfl, rfl, tb, rfl, ?_⟩
    generalize g21 : upd B20 p13 _ = H21
    have t21 : H21 p13 = some (.lst [.ref a1, .ref a2, .ref a3, .ref a4, .ref a5, .ref a6, .ref a7, .ref a8, .ref aP]) := by subst g21; exact upd_same
    have o21 : ∀ b, b ≠ p13 → H21 b = B20 b := by subst g21; exact fun b hb => upd_ne hb
    have E21 : Ev2 H H21 := by
      subst g21
      exact (((E19.trans e20).trans f3).trans (Ev2.same r20)).trans (Ev2.lst tb)
    have b20 : But p H12 B20 := (But.ofS (S1219.trans s20)).trans ((But.of1 u3).trans (But.ofS r20))
    have b21 : But p H12 H21 := fun b o nb e => (o21 b (ne_of_none e n13)).trans (b20 b o nb e)
    have rx21 := rq.but dq b21
    have d21 : Dc H21 p := by
      obtain ⟨x1, x2, x3, z⟩ := d3.same r20
      exact ⟨x1, x2, x3, (o21 p np).trans z⟩
    have q21 : IsE H21 aP c.ParseError "line" vy := q20.off tb o21
    have TT21 : ∀ o ∈ ([(a1, c.InvalidWord), (a2, c.InvalidTerm), (a3, c.InvalidBook), (a4, c.InvalidProgram), (a5, c.InvalidTable), (a6, c.InvalidLines), (a7, c.InvalidRows), (a8, c.InvalidOperation), (a9, c.NeedError)] : List (Addr × Addr)), IsT H21 o.1 o.2 x := fun o h => (TT o h).but dq b21
    clear TT g21 o21 tb b20 b21 q20 d3 u3 f3 E19 e20 r20 S1219 S19 s13 base hy k20 d20 d19 t20 n20 o20 s20 m20 np rq dq n13 o13 CC lo
    clear T1 T2 T3 T4 T5 T6 T7 T8 T9
    refine ⟨_, rfl, by decide, by decide, fun D3 hD3 => ?_⟩
    refine lc_range (lo := 0) (n := 9) (fun i H' => Same H21 H' ∧ H' D3 = some (.lst (((List.range i).map dueS).map V.str))) ⟨sameOf hD3 (fun b hb => upd_ne hb), upd_same⟩ ?_ ?_
    · rintro i H' hi ⟨sm, hl1⟩
      have hi' : i = 0 ∨ i = 1 ∨ i = 2 ∨ i = 3 ∨ i = 4 ∨ i = 5 ∨ i = 6 ∨ i = 7 ∨ i = 8 := by omega
      rcases hi' with rfl | rfl | rfl | rfl | rfl | rfl | rfl | rfl | rfl
      all_goals
        refine ⟨rfl, ?_⟩
        refine ⟨_, rfl, _, _, rfl, rfl, (by decide +kernel), (by decide), (by decide), _, _, rfl, rfl, (by decide +kernel), _, rfl, _, _, rfl, rfl, _, _, rfl, rfl, (by decide +kernel), (by decide), (by decide), _, _, rfl, rfl, (by decide +kernel), _, _, rfl, rfl, (by decide +kernel), ?_⟩
        refine ⟨_, hl1, szlt (by decide), fun b o e => ?_, upd_same⟩
        rw [upd_ne (ne_of_none e hD3)]
        exact sm _ _ e
    rintro H22 ⟨s22, l22⟩
    generalize eos : ([(a1, c.InvalidWord, [true, false, false, false, false, false, false, false, false, true, true]), (a2, c.InvalidTerm, [false, true, false, false, false, false, false, false, false, true, true]), (a3, c.InvalidBook, [false, false, true, false, false, false, false, false, false, true, true]), (a4, c.InvalidProgram, [false, false, false, true, false, false, false, false, false, true, true]), (a5, c.InvalidTable, [false, false, false, false, true, false, false, false, false, true, true]), (a6, c.InvalidLines, [false, false, false, false, false, true, false, false, false, true, true]), (a7, c.InvalidRows, [false, false, false, false, false, false, true, false, false, true, true]), (a8, c.InvalidOperation, [false, false, false, false, false, false, false, true, false, true, true]), (aP, c.ParseError, [false, false, false, false, false, false, false, false, true, true, true])] : List (Addr × Addr × List Bool)) = os3
    have b22 : H22 p13 = some (.lst (os3.map fun o => V.ref o.1)) := by
      subst eos
      exact Same.at t21 s22
    have OO_os3_kinds : ∀ o ∈ os3, IsErr H21 o.1 o.2.1 ∧ ErrC K o.2.1 ∧ o.2.2.length = 11 ∧ rowB K o.2.1 (row0 c) o.2.2 = true := by
      subst eos
      simp only [List.forall_mem_cons, List.not_mem_nil, false_imp_iff, implies_true, and_true]
      simp only [List.forall_mem_cons, List.not_mem_nil, false_imp_iff, implies_true, and_true] at TT21
      obtain ⟨T1, T2, T3, T4, T5, T6, T7, T8, _⟩ := TT21
      exact ⟨⟨T1.err, Z.e_InvalidWord, rfl, Z.r0_InvalidWord⟩, ⟨T2.err, Z.e_InvalidTerm, rfl, Z.r0_InvalidTerm⟩, ⟨T3.err, Z.e_InvalidBook, rfl, Z.r0_InvalidBook⟩, ⟨T4.err, Z.e_InvalidProgram, rfl, Z.r0_InvalidProgram⟩, ⟨T5.err, Z.e_InvalidTable, rfl, Z.r0_InvalidTable⟩, ⟨T6.err, Z.e_InvalidLines, rfl, Z.r0_InvalidLines⟩, ⟨T7.err, Z.e_InvalidRows, rfl, Z.r0_InvalidRows⟩, ⟨T8.err, Z.e_InvalidOperation, rfl, Z.r0_InvalidOperation⟩, q21.err, Z.e_ParseError, rfl, Z.r0_ParseError⟩
    have no3 : os3.length = 9 := by rw [← eos]; rfl
    refine ⟨_, rfl, _, rfl, ⟨_, SqL.of b22⟩, fun D4 hD4 => ?_⟩
    refine lc_list (K := K) (xs := os3.map fun o => V.ref o.1) (fun i H' => Same H22 H' ∧ H' D4 = some (.lst (((os3.take i).map fun o => marks o.2.2).map V.str))) ⟨sameOf hD4 (fun b hb => upd_ne hb), upd_same⟩ (fun i H' _ h => SqL.of (h.1 _ _ b22)) ?_ ?_
    · rintro i y H' hi ⟨sm, hl1⟩
      obtain ⟨o, ho, rfl⟩ := ref_get3 hi
      have hi2 : i < os3.length := (List.getElem?_eq_some_iff.mp ho).1
      have z := OO_os3_kinds o (List.mem_of_getElem? ho)
      refine ⟨rfl, ?_⟩
      refine ⟨_, rfl, _, _, o.2.2, rfl, z.1.same (s22.trans sm), z.2.1, z.2.2.1, z.2.2.2, fun H2' s2' => ?_⟩
      refine ⟨_, s2' _ _ hl1, szlt (by rw [List.length_map, List.length_map, List.length_take]; omega), fun b o e => ?_, ?_⟩
      · rw [upd_ne (ne_of_none e hD4)]
        exact s2' _ _ (sm _ _ e)
      · rw [upd_same, List.take_add_one, List.map_append, List.map_append, ho]
        rfl
    rintro H23 ⟨s23, l23⟩
    rw [List.length_map, List.take_of_length_le (Nat.le_refl _)] at l23
    subst eos
    have l22' := Same.at l22 s23
    refine ⟨_, rfl, .list (kbL.map .str), .list (((List.range 9).map dueS).map .str), .lst (SqL.of l23) (dp_strs kbL), .lst (SqL.of l22') (dp_strs _), tabK.1, tabK.2.1, _, rfl, ?_⟩
    rw [tabK.2.2]
    refine iteF ?_
    have S23 : Same H21 H23 := by walk_at "sm"
    clear l22 l22' l23 s22 s23 b22 OO_os3_kinds no3
    refine ⟨_, rfl, mk_one fun aN B24 m24 r24 q24 => ?_⟩
    refine ⟨aN, c.NeedError, [false, false, false, false, false, false, false, false, false, true, true], rfl, q24.err, Z.e_NeedError, rfl, Z.r0_NeedError, fun H24 s24 => ?_⟩
    refine ⟨_, _, rfl, rfl, (by decide +kernel), (by decide), (by decide), _, _, rfl, rfl, (by decide +kernel), rfl, _, rfl, ?_⟩
    refine iteNS (by decide +kernel) ?_
    have S24 : Same H21 H24 := by walk_at "sm"
    have rx24 := rx21.same S24
    have d24 := d21.same S24
    have E24 := E21.trans (Ev2.same S24)
    have q24' := q21.same S24
    have t24 := Same.at t21 S24
    clear m24 r24 q24 s24 S23 S24 TT21 rx21 d21 E21 q21 t21
    refine ⟨_, rfl, ?_⟩
    show MkIni _ _ [v] _ _
    refine mk_ini Z.o_UnknownWord fun b1 C1 m1 r1 q1 => ?_
    refine ⟨_, rfl, ?_⟩
    show MkIni _ _ [v] _ _
    refine mk_ini Z.o_UnknownPlace fun b2 C2 m2 r2 q2 => ?_
    refine ⟨_, rfl, ?_⟩
    show MkIni _ _ [v] _ _
    refine mk_ini Z.o_NothingToUndo fun b3 C3 m3 r3 q3 => ?_
    refine ⟨_, rfl, ?_⟩
    show MkIni _ _ [v] _ _
    refine mk_ini Z.o_TooMany fun b4 C4 m4 r4 q4 => ?_
    refine ⟨_, rfl, ?_⟩
    show MkIni _ _ [v] _ _
    refine mk_ini Z.o_Refused fun b5 C5 m5 r5 q5 => ?_
    refine ⟨(szr rfl), fun p25 n25 => ?_⟩
    generalize g25 : upd _ p25 _ = H25; obtain ⟨e25, o25, t25⟩ := made n25 g25; clear g25
    have s25 := sameOf n25 o25
    refine ⟨_, rfl, (.inl ⟨rfl, _, SqL.of t25⟩), ?_⟩
    refine ⟨_, rfl, ?_⟩
    show MkIni _ _ [v] _ _
    refine mk_ini Z.o_InvalidNumber fun b6 C6 m6 r6 q6 => ?_
    have t25' := Same.at t25 r6
    refine ⟨_, _, _, rfl, rfl, t25', szlt (by show 5 ≤ 100000; decide), ?_⟩
    generalize g26 : upd C6 p25 _ = H26
    have t26 : H26 p25 = some (.lst [.ref b1, .ref b2, .ref b3, .ref b4, .ref b5, .ref b6]) := by subst g26; exact upd_same
    have o26 : ∀ b, b ≠ p25 → H26 b = C6 b := by subst g26; exact fun b hb => upd_ne hb
    have Sx : Same H24 C6 := by walk_at "sm"
    have S26 : Same C5 H26 := fun b o e => (o26 b (ne_of_none e n25)).trans (r6 _ _ (s25 _ _ e))
    have E26 : Ev2 H H26 := by
      subst g26
      exact (E24.trans (Ev2.same Sx)).trans (Ev2.lst t25')
    have q6' := q6.off t25' o26
    have q1' := q1.same (show Same C1 H26 by walk_at "sm")
    have q2' := q2.same (show Same C2 H26 by walk_at "sm")
    have q3' := q3.same (show Same C3 H26 by walk_at "sm")
    have q4' := q4.same (show Same C4 H26 by walk_at "sm")
    have q5' := q5.same (show Same C5 H26 by walk_at "sm")
    clear Sx
    have S2426 : Same H24 H26 := by walk_at "sm"
    have rx26 := rx24.same S2426
    have d26 := d24.same S2426
    have qP := q24'.same S2426
    have tP := Same.at t24 S2426
    clear g26 o26 S26 t25 t25' o25 s25 e25 n25 q6 r6 m6 S2426 rx24 d24 q24' t24 E24 q1 r1 m1 q2 r2 m2 q3 r3 m3 q4 r4 m4 q5 r5 m5
    refine ⟨(szr rfl), fun p27 n27 => ?_⟩
    generalize g27 : upd _ p27 _ = H27; obtain ⟨e27, o27, t27⟩ := made n27 g27; clear g27
    have s27 := sameOf n27 o27
    generalize e_os4 : ([(b1, c.UnknownWord, [true, false, false, false, false, false, true, false, true, false, false, false]), (b2, c.UnknownPlace, [false, true, false, false, false, false, false, false, true, false, false, false]), (b3, c.NothingToUndo, [false, false, true, false, false, false, false, true, true, false, false, false]), (b4, c.TooMany, [false, false, false, true, false, false, false, false, false, true, true, false]), (b5, c.Refused, [false, false, false, false, true, false, false, false, false, false, true, false]), (b6, c.InvalidNumber, [false, false, false, false, false, true, false, false, false, false, false, true])] : List (Addr × Addr × List Bool)) = os4
    have OO_os4_others : ∀ o ∈ os4, IsErr H26 o.1 o.2.1 ∧ ErrC K o.2.1 ∧ o.2.2.length = 12 ∧ rowB K o.2.1 (row1 c) o.2.2 = true := by
      subst e_os4
      simp only [List.forall_mem_cons, List.not_mem_nil, false_imp_iff, implies_true, and_true]
      exact ⟨⟨q1'.err, Z.e_UnknownWord, rfl, Z.r1_UnknownWord⟩, ⟨q2'.err, Z.e_UnknownPlace, rfl, Z.r1_UnknownPlace⟩, ⟨q3'.err, Z.e_NothingToUndo, rfl, Z.r1_NothingToUndo⟩, ⟨q4'.err, Z.e_TooMany, rfl, Z.r1_TooMany⟩, ⟨q5'.err, Z.e_Refused, rfl, Z.r1_Refused⟩, ⟨q6'.err, Z.e_InvalidNumber, rfl, Z.r1_InvalidNumber⟩⟩
    have no_os4 : os4.length = 6 := by rw [← e_os4]; rfl
    have b27 : H27 p25 = some (.lst (os4.map fun o => V.ref o.1)) := by
      subst e_os4
      exact Same.at t26 s27
    refine ⟨_, rfl, _, rfl, ⟨_, SqL.of b27⟩, fun D5 hD5 => ?_⟩
    refine lc_list (K := K) (xs := os4.map fun o => V.ref o.1) (fun i H' => Same H27 H' ∧ H' D5 = some (.lst (((os4.take i).map fun o => marks o.2.2).map V.str))) ⟨sameOf hD5 (fun b hb => upd_ne hb), upd_same⟩ (fun i H' _ h => SqL.of (h.1 _ _ b27)) ?_ ?_
    · rintro i y H' hi ⟨sm, hl1⟩
      obtain ⟨o, ho, rfl⟩ := ref_get3 hi
      have hi2 : i < os4.length := (List.getElem?_eq_some_iff.mp ho).1
      have z := OO_os4_others o (List.mem_of_getElem? ho)
      refine ⟨rfl, ?_⟩
      refine ⟨_, rfl, _, _, o.2.2, rfl, z.1.same (s27.trans sm), z.2.1, z.2.2.1, z.2.2.2, fun H2' s2' => ?_⟩
      refine ⟨_, s2' _ _ hl1, szlt (by rw [List.length_map, List.length_map, List.length_take]; omega), fun b o e => ?_, ?_⟩
      · rw [upd_ne (ne_of_none e hD5)]
        exact s2' _ _ (sm _ _ e)
      · rw [upd_same, List.take_add_one, List.map_append, List.map_append, ho]
        rfl
    rintro H28 ⟨s28, l28⟩
    rw [List.length_map, List.take_of_length_le (Nat.le_refl _)] at l28
    subst e_os4
    have t27' := Same.at t27 s28
    refine ⟨_, rfl, .list (obL.map .str), .list (dueO.map .str), .lst (SqL.of l28) (dp_strs obL), .lst (SqL.of t27') (dp_strs dueO), tabO.1, tabO.2.1, _, rfl, ?_⟩
    rw [tabO.2.2]
    refine iteF ?_
    have S28 : Same H26 H28 := by walk_at "sm"
    clear s27 s28 l28 t27 t27' b27 no_os4 OO_os4_others e27 n27 o27
    generalize e_os5 : ([(b1, c.UnknownWord, no11), (b2, c.UnknownPlace, no11), (b3, c.NothingToUndo, no11), (b4, c.TooMany, no11), (b5, c.Refused, no11), (b6, c.InvalidNumber, no11)] : List (Addr × Addr × List Bool)) = os5
    have OO_os5_kinds : ∀ o ∈ os5, IsErr H26 o.1 o.2.1 ∧ ErrC K o.2.1 ∧ o.2.2.length = 11 ∧ rowB K o.2.1 (row0 c) o.2.2 = true := by
      subst e_os5
      simp only [List.forall_mem_cons, List.not_mem_nil, false_imp_iff, implies_true, and_true]
      exact ⟨⟨q1'.err, Z.e_UnknownWord, rfl, Z.r0_UnknownWord⟩, ⟨q2'.err, Z.e_UnknownPlace, rfl, Z.r0_UnknownPlace⟩, ⟨q3'.err, Z.e_NothingToUndo, rfl, Z.r0_NothingToUndo⟩, ⟨q4'.err, Z.e_TooMany, rfl, Z.r0_TooMany⟩, ⟨q5'.err, Z.e_Refused, rfl, Z.r0_Refused⟩, ⟨q6'.err, Z.e_InvalidNumber, rfl, Z.r0_InvalidNumber⟩⟩
    have no_os5 : os5.length = 6 := by rw [← e_os5]; rfl
    have b28 : H28 p25 = some (.lst (os5.map fun o => V.ref o.1)) := by
      subst e_os5
      exact Same.at t26 S28
    refine ⟨_, rfl, _, rfl, ⟨_, SqL.of b28⟩, fun D6 hD6 => ?_⟩
    refine lc_list (K := K) (xs := os5.map fun o => V.ref o.1) (fun i H' => Same H28 H' ∧ H' D6 = some (.lst (((os5.take i).map fun o => marks o.2.2).map V.str))) ⟨sameOf hD6 (fun b hb => upd_ne hb), upd_same⟩ (fun i H' _ h => SqL.of (h.1 _ _ b28)) ?_ ?_
    · rintro i y H' hi ⟨sm, hl1⟩
      obtain ⟨o, ho, rfl⟩ := ref_get3 hi
      have hi2 : i < os5.length := (List.getElem?_eq_some_iff.mp ho).1
      have z := OO_os5_kinds o (List.mem_of_getElem? ho)
      refine ⟨rfl, ?_⟩
      refine ⟨_, rfl, _, _, o.2.2, rfl, z.1.same (S28.trans sm), z.2.1, z.2.2.1, z.2.2.2, fun H2' s2' => ?_⟩
      refine ⟨_, s2' _ _ hl1, szlt (by rw [List.length_map, List.length_map, List.length_take]; omega), fun b o e => ?_, ?_⟩
      · rw [upd_ne (ne_of_none e hD6)]
        exact s2' _ _ (sm _ _ e)
      · rw [upd_same, List.take_add_one, List.map_append, List.map_append, ho]
        rfl
    rintro H29 ⟨s29, l29⟩
    rw [List.length_map, List.take_of_length_le (Nat.le_refl _)] at l29
    subst e_os5
    refine ⟨_, _, rfl, rfl, (by decide +kernel), (by decide), (by decide), (szr rfl), fun p30 n30 => ?_⟩
    generalize g30 : upd _ p30 _ = H30; obtain ⟨e30, o30, t30⟩ := made n30 g30; clear g30
    have s30 := sameOf n30 o30
    refine ⟨_, _, _, rfl, rfl, t30, (by decide), (by decide), (szn rfl), fun p31 n31 => ?_⟩
    generalize g31 : upd _ p31 _ = H31; obtain ⟨e31, o31, t31⟩ := made n31 g31; clear g31
    have s31 := sameOf n31 o31
    have l31 := Same.at l29 (s30.trans s31)
    refine ⟨.list (List.replicate 6 (.str (marks no11))), .list (List.replicate 6 (.str (repS "." (Int.toNat 11)))), .lst (SqL.of l31) (dp_rep (.str _) 6), .lst (SqL.of t31) (dp_rep (.str _) 6), tabM.1, tabM.2.1, _, rfl, ?_⟩
    rw [tabM.2.2]
    refine iteF ?_
    have S31 : Same H26 H31 := by walk_at "sm"
    have rx31 := rx26.same S31
    have d31 := d26.same S31
    have qP1 := qP.same S31
    have E31 := E26.trans (Ev2.same S31)
    have u1 := q1'.same S31
    have u2 := q2'.same S31
    have u3 := q3'.same S31
    have u4 := q4'.same S31
    have u5 := q5'.same S31
    have u6 := q6'.same S31
    have t31' := Same.at t26 S31
    have tP1 := Same.at tP S31
    clear S31 s30 s31 s29 S28 l29 l31 t30 t31 t26 b28 no_os5 OO_os5_kinds rx26 d26 qP E26 n30 o30 e30 n31 o31 e31 tP q1' q2' q3' q4' q5' q6'
    refine ⟨_, rfl, _, _, _, _, rfl, rfl, SqL.of tP1, rfl, ?_⟩
    refine ⟨aP, c.ParseError, no12, rfl, qP1.err, Z.e_ParseError, rfl, Z.r1_ParseError, fun H32 s32 => ?_⟩
    refine ⟨_, _, rfl, rfl, (by decide +kernel), (by decide), (by decide), rfl, _, rfl, ?_⟩
    refine iteNS (by decide +kernel) ?_
    refine ⟨_, rfl, ?_⟩
    show MkIni _ _ [v] _ _
    refine mk_ini Z.o_ParseError fun aQ H33 m33 s33 q33 => ?_
    obtain ⟨dQ, q33a, q33b⟩ := q33
    refine ⟨_, _, _, _, _, rfl, q33a, q33b, Z.e_ParseError.f, Z.o_ParseError.n, rfl, ?_⟩
    have rx33 := rx31.same (s32.trans s33)
    have sz1 := Nat.le_trans D.2.2.1 (show 10000 ≤ sizeLine by decide)
    have sz6 := Nat.le_trans D.2.2.2 (show 10000 ≤ sizeLine by decide)
    refine ⟨_, d, rfl, rx33.rr, D.1, D.2.1, sz1, ?_⟩
    refine ⟨_, rfl, _, d, rfl, rx33.rr, D.1, D.2.1, sz1, rfl, _, rfl, ?_⟩
    refine iteNS rfl ?_
    have S33 : Same H31 H33 := s32.trans s33
    have t33 := Same.at t31' S33
    obtain ⟨x1, ua1, ub1⟩ := u1.same S33
    obtain ⟨x2, ua2, ub2⟩ := u2.same S33
    obtain ⟨x3, ua3, ub3⟩ := u3.same S33
    obtain ⟨x4, ua4, ub4⟩ := u4.same S33
    obtain ⟨x5, ua5, ub5⟩ := u5.same S33
    obtain ⟨x6, ua6, ub6⟩ := u6.same S33
    refine ⟨_, rfl, _, _, _, _, rfl, rfl, SqL.of t33, rfl, _, _, _, _, _, rfl, ua1, ub1, Z.e_UnknownWord.f, Z.o_UnknownWord.n, rfl, _, rfl, _, _, _, _, rfl, rfl, SqL.of t33, rfl, _, _, _, _, _, rfl, ua2, ub2, Z.e_UnknownPlace.f, Z.o_UnknownPlace.n, rfl, _, rfl, _, _, _, _, rfl, rfl, SqL.of t33, rfl, _, _, _, _, _, rfl, ua3, ub3, Z.e_NothingToUndo.f, Z.o_NothingToUndo.n, rfl, _, rfl, _, _, _, _, rfl, rfl, SqL.of t33, rfl, _, _, _, _, _, rfl, ua4, ub4, Z.e_TooMany.f, Z.o_TooMany.n, rfl, _, rfl, _, _, _, _, rfl, rfl, SqL.of t33, rfl, _, _, _, _, _, rfl, ua5, ub5, Z.e_Refused.f, Z.o_Refused.n, rfl, _, rfl, _, _, _, _, rfl, rfl, SqL.of t33, rfl, _, _, _, _, _, rfl, ua6, ub6, Z.e_InvalidNumber.f, Z.o_InvalidNumber.n, rfl, (szr rfl), fun p34 n34 => ?_⟩
    generalize g34 : upd _ p34 _ = H34; obtain ⟨e34, o34, t34⟩ := made n34 g34; clear g34
    have s34 := sameOf n34 o34
    refine ⟨_, rfl, p34, 5, v, d, rfl, t34, (rx33.same s34).rr, D.1, D.2.1, sz6, ?_⟩
    refine ⟨_, rfl, (szr rfl), fun p35 n35 => ?_⟩
    generalize g35 : upd _ p35 _ = H35; obtain ⟨e35, o35, t35⟩ := made n35 g35; clear g35
    have s35 := sameOf n35 o35
    refine ⟨_, _, _, rfl, rfl, t35, (by decide), (by decide), (szn rfl), fun p36 n36 => ?_⟩
    generalize g36 : upd _ p36 _ = H36; obtain ⟨e36, o36, t36⟩ := made n36 g36; clear g36
    have s36 := sameOf n36 o36
    refine ⟨p36, 5, v, d, rfl, t36, (rx33.same (s34.trans (s35.trans s36))).rr, D.1, D.2.1, sz6, rfl, ?_⟩
    have SF : Same H31 H36 := by walk_at "sm"
    rw [decide_eq_true rfl]
    exact q H36 (E31.trans (Ev2.same SF)) (d31.same SF)
theorem ok_law {f : Addr} {fd : FuncData} (F : Fun K "law" "law" s_law f fd) (T : Txt mg) (Z : Cls K mg c) {f__law_dice : Addr} {fd__law_dice : FuncData} (G__law_dice : FnOk P w K mg base CX0 1 f__law_dice fd__law_dice P__law_dice (spDice K)) (C__law_dice : Cal K mg "_law_dice" f__law_dice fd__law_dice P__law_dice) {f__law_right : Addr} {fd__law_right : FuncData} (G__law_right : FnG P w K mg base CX0 4 f__law_right fd__law_right P__law_right spRight) (C__law_right : Cal K mg "_law_right" f__law_right fd__law_right P__law_right) {fd_ParseError : FuncData} (G_ParseError : FnOk P w K mg base CX0 1 c.iParseError fd_ParseError P_iParseError (spIni K "line")) (B_ParseError : Binds K fd_ParseError P_iParseError []) {fd_TooMany : FuncData} (G_TooMany : FnOk P w K mg base CX0 1 c.iTooMany fd_TooMany P_iTooMany (spIni K "limit")) (B_TooMany : Binds K fd_TooMany P_iTooMany []) : FnG P w K mg base CX0 5 f fd P_law (spLaw K) := by
  refine okG F sc_law (fun vs H Q E h => ?_) (fun cdv A outer s H vs Q E hg hr h => ?_)
  · obtain ⟨a, ns, rfl, _⟩ := h
    rfl
  · obtain ⟨a, ns, rfl, hS, hlen, q⟩ := h
    refine ⟨_, (pss_cons (ps_for PassesOwn.never rfl (pi_range1 (by rfl) T.n_range (pa_cons (pe_callB (call_max2 rfl) (by rfl) T.n_max (by decide +kernel) (pa_cons pe_int (pa_cons (pe_callB (call_min2 rfl) (by rfl) T.n_min (by decide +kernel) (pa_cons pe_int (pa_cons (pe_callB call_len_seq (by rfl) T.n_len (by decide +kernel) (pa_cons (pv 0) pa_nil)) pa_nil))) pa_nil))) pa_nil)) (pg_name (i := 1) sc_law.nd rfl (Or.inl rfl)) (pss_cons (ps_set (i := 2) sc_law.nd rfl (Or.inl rfl) (pe_call G__law_dice (hr.mono (by decide)) rfl C__law_dice.m C__law_dice.k C__law_dice.b .nil pass0 (pa_cons (pv 0) (pa_cons (pv 1) pa_nil))))
      (pss_one (ps_for PassesOwn.never rfl (pi_range1 (by rfl) T.n_range (pa_cons pe_int pa_nil)) (pg_name (i := 3) sc_law.nd rfl (Or.inl rfl)) (pss_one (ps_if (pt_not (pt_val (pe_callG G__law_right hg (hr.mono (by decide)) rfl C__law_right.m C__law_right.k C__law_right.b .nil pass0 (pa_cons (pv 2) pa_nil)))) (pss_one (ps_ret pe_bl)) pss_nil))))))
      (pss_one (ps_ret (pe_cmpR (op_eqD hr.units) (pe_lst (pa_cons (pe_xg (K := K) (pe_mkI Z.o_ParseError.o Z.o_ParseError.i Z.o_ParseError.t G_ParseError (hr.mono (by decide)) B_ParseError pass0 rfl Z.g_ParseError (pa_cons pe_non pa_nil))) (pa_cons (pe_xg (K := K) (pe_mkI Z.o_ParseError.o Z.o_ParseError.i Z.o_ParseError.t G_ParseError (hr.mono (by decide)) B_ParseError pass0 rfl Z.g_ParseError (pa_cons pe_int pa_nil))) (pa_cons (pe_xg (K := K) (pe_mkI Z.o_TooMany.o Z.o_TooMany.i Z.o_TooMany.t G_TooMany (hr.mono (by decide)) B_TooMany pass0 rfl Z.g_TooMany (pa_cons pe_int pa_nil))) pa_nil)))) (pe_lst (pa_cons pe_non (pa_cons pe_int (pa_cons pe_int pa_nil)))) (nomark _))))), ?_⟩
    have hb := turns (n := (ns.map V.int).length)
    refine ⟨_, rfl, _, _, rfl, .inl hS.1, _, _, rfl, _, _, rfl, _, rfl, by omega, by omega, ?_⟩
    generalize (if (if ((ns.map V.int).length : Int) < 8 then ((ns.map V.int).length : Int) else 8) > 1 then (if ((ns.map V.int).length : Int) < 8 then ((ns.map V.int).length : Int) else 8) else 1) = m at hb
    refine for_range (lo := 0) (n := m.toNat) (fun i σ H' => ∃ a1 a2 a3, σ = [some (.ref a), a1, a2, a3] ∧ Scr K H' a (ns.map V.int)) ⟨none, none, none, rfl, hS⟩ ?_ ?_
    · rintro i σ H1 hi ⟨a1, a2, a3, rfl, hS1⟩
      refine ⟨_, rfl, _, rfl, a, ns, _, rfl, hS1.1, by omega, by omega, by omega, fun p H2 np e2 o2 d2 => ?_⟩
      refine ⟨_, rfl, by decide, by decide, ?_⟩
      refine for_range (lo := 0) (n := Int.toNat 4) (fun j σ H' => ∃ a1 a3, σ = [some (.ref a), a1, some (.ref p), a3] ∧ Scr K H' a (ns.map V.int) ∧ Dc H' p) ⟨_, _, rfl, hS1.mono e2, d2⟩ ?_ ?_
      · rintro j σ H3 hj ⟨b1, b3, rfl, hS3, d3⟩
        refine ⟨_, rfl, p, rfl, d3, fun H4 e4 d4 => ?_⟩
        refine ⟨_, rfl, ?_⟩
        exact iteF ⟨_, _, rfl, hS3.mono e4, d4⟩
      · rintro σ H3 ⟨b1, b3, rfl, hS3, d3⟩
        exact ⟨_, _, _, rfl, hS3⟩
    · rintro σ H1 ⟨a1, a2, a3, rfl, hS1⟩
      show MkIni _ _ [.non] _ _
      refine mk_ini Z.o_ParseError fun b1 C1 m1 r1 q1 => ?_
      obtain ⟨x1, u1, v1⟩ := q1
      refine ⟨_, _, _, _, _, rfl, u1, v1, Z.e_ParseError.f, Z.o_ParseError.n, rfl, ?_⟩
      show MkIni _ _ [.int 3] _ _
      refine mk_ini Z.o_ParseError fun b2 C2 m2 r2 q2 => ?_
      obtain ⟨x2, u2, v2⟩ := q2
      refine ⟨_, _, _, _, _, rfl, u2, v2, Z.e_ParseError.f, Z.o_ParseError.n, rfl, ?_⟩
      show MkIni _ _ [.int 40] _ _
      refine mk_ini Z.o_TooMany fun b3 C3 m3 r3 q3 => ?_
      obtain ⟨x3, u3, v3⟩ := q3
      refine ⟨_, _, _, _, _, rfl, u3, v3, Z.e_TooMany.f, Z.o_TooMany.n, rfl, ?_⟩
      refine ⟨(szr rfl), fun p1 n1 => ?_⟩
      generalize g1 : upd _ p1 _ = H2; obtain ⟨e1, o1, t1⟩ := made n1 g1; clear g1
      refine ⟨(szr rfl), fun p2 n2 => ?_⟩
      generalize g2 : upd _ p2 _ = H3; obtain ⟨e2, o2, t2⟩ := made n2 g2; clear g2
      have t1' := keepAt t1 n2 o2
      refine ⟨.list [.none, .int 3, .int 40], .list [.none, .int 3, .int 40], .lst (SqL.of t1') (.cons .non (.cons (.int _) (.cons (.int _) .nil))), .lst (SqL.of t2) (.cons .non (.cons (.int _) (.cons (.int _) .nil))), by decide +kernel, by decide +kernel, ?_⟩
      rw [show PyData.eqv (.list [.none, .int 3, .int 40]) (.list [.none, .int 3, .int 40]) = true by decide +kernel]
      exact q H3
end
theorem all_mk {l : PySem.W.OpenLaw} {w : World} {K : PySem.W.Frag} {h : Heap} {mg : Str → Option Value} {fa f__law_dice f__law_roll f__law_pick f__law_kinds f__law_others f__law_right f_law : Addr} (X : K.In h) (G : h.Ns mainGlobals mg) (hfa : mg "law" = some (.ref fa))
    {od0 an0 od1 an1 od2 an2 od3 an3 od4 an4 od5 an5 od6 an6 : Option Addr} {sl0 sl1 sl2 sl3 sl4 sl5 sl6 : Array (Option Value)} {oc0 kV0 dc0 pm0 cd0 ct0 oc1 kV1 dc1 pm1 cd1 ct1 oc2 kV2 dc2 pm2 cd2 ct2 oc3 kV3 dc3 pm3 cd3 ct3 oc4 kV4 dc4 pm4 cd4 ct4 oc5 kV5 dc5 pm5 cd5 ct5 oc6 kV6 dc6 pm6 cd6 ct6 : Value}
    (a0 : PySem.W.nsIn K mainGlobals "_law_dice" = some (some (.ref f__law_dice))) (l0 : K.lookup f__law_dice = some ⟨oc0, od0, .func (PySem.W.fnOf "_law_dice" "_law_dice" (defArgs s__law_dice) (defBody s__law_dice) (defScope s__law_dice) .none kV0 dc0 pm0 an0 cd0 ct0), sl0⟩) (c0 : PySem.W.codeIn K cd0 "_law_dice" = true) (k0 : PySem.W.keepIn K (.ref f__law_dice) = true)
    (a1 : PySem.W.nsIn K mainGlobals "_law_roll" = some (some (.ref f__law_roll))) (l1 : K.lookup f__law_roll = some ⟨oc1, od1, .func (PySem.W.fnOf "_law_roll" "_law_roll" (defArgs s__law_roll) (defBody s__law_roll) (defScope s__law_roll) .none kV1 dc1 pm1 an1 cd1 ct1), sl1⟩) (c1 : PySem.W.codeIn K cd1 "_law_roll" = true) (k1 : PySem.W.keepIn K (.ref f__law_roll) = true)
    (a2 : PySem.W.nsIn K mainGlobals "_law_pick" = some (some (.ref f__law_pick))) (l2 : K.lookup f__law_pick = some ⟨oc2, od2, .func (PySem.W.fnOf "_law_pick" "_law_pick" (defArgs s__law_pick) (defBody s__law_pick) (defScope s__law_pick) .none kV2 dc2 pm2 an2 cd2 ct2), sl2⟩) (c2 : PySem.W.codeIn K cd2 "_law_pick" = true) (k2 : PySem.W.keepIn K (.ref f__law_pick) = true)
    (a3 : PySem.W.nsIn K mainGlobals "_law_kinds" = some (some (.ref f__law_kinds))) (l3 : K.lookup f__law_kinds = some ⟨oc3, od3, .func (PySem.W.fnOf "_law_kinds" "_law_kinds" (defArgs s__law_kinds) (defBody s__law_kinds) (defScope s__law_kinds) .none kV3 dc3 pm3 an3 cd3 ct3), sl3⟩) (c3 : PySem.W.codeIn K cd3 "_law_kinds" = true) (k3 : PySem.W.keepIn K (.ref f__law_kinds) = true)
    (a4 : PySem.W.nsIn K mainGlobals "_law_others" = some (some (.ref f__law_others))) (l4 : K.lookup f__law_others = some ⟨oc4, od4, .func (PySem.W.fnOf "_law_others" "_law_others" (defArgs s__law_others) (defBody s__law_others) (defScope s__law_others) .none kV4 dc4 pm4 an4 cd4 ct4), sl4⟩) (c4 : PySem.W.codeIn K cd4 "_law_others" = true) (k4 : PySem.W.keepIn K (.ref f__law_others) = true)
    (a5 : PySem.W.nsIn K mainGlobals "_law_right" = some (some (.ref f__law_right))) (l5 : K.lookup f__law_right = some ⟨oc5, od5, .func (PySem.W.fnOf "_law_right" "_law_right" (defArgs s__law_right) (defBody s__law_right) (defScope s__law_right) .none kV5 dc5 pm5 an5 cd5 ct5), sl5⟩) (c5 : PySem.W.codeIn K cd5 "_law_right" = true) (k5 : PySem.W.keepIn K (.ref f__law_right) = true)
    (a6 : PySem.W.nsIn K mainGlobals "law" = some (some (.ref f_law))) (l6 : K.lookup f_law = some ⟨oc6, od6, .func (PySem.W.fnOf "law" "law" (defArgs s_law) (defBody s_law) (defScope s_law) .none kV6 dc6 pm6 an6 cd6 ct6), sl6⟩) (c6 : PySem.W.codeIn K cd6 "law" = true) (k6 : PySem.W.keepIn K (.ref f_law) = true)
    {A_NeedError A_InvalidWord A_InvalidTerm A_InvalidBook A_InvalidProgram A_InvalidTable A_InvalidLines A_InvalidRows A_InvalidOperation A_ParseError A_UnknownWord A_UnknownPlace A_NothingToUndo A_TooMany A_Refused A_InvalidNumber IParseError IUnknownWord IUnknownPlace INothingToUndo ITooMany IRefused IInvalidNumber : Addr} {odiParseError aniParseError odiUnknownWord aniUnknownWord odiUnknownPlace aniUnknownPlace odiNothingToUndo aniNothingToUndo odiTooMany aniTooMany odiRefused aniRefused odiInvalidNumber aniInvalidNumber : Option Addr} {sliParseError sliUnknownWord sliUnknownPlace sliNothingToUndo sliTooMany sliRefused sliInvalidNumber : Array (Option Value)} {ociParseError kViParseError dciParseError pmiParseError cdiParseError ctiParseError ociUnknownWord kViUnknownWord dciUnknownWord pmiUnknownWord cdiUnknownWord ctiUnknownWord ociUnknownPlace kViUnknownPlace dciUnknownPlace pmiUnknownPlace cdiUnknownPlace ctiUnknownPlace ociNothingToUndo kViNothingToUndo dciNothingToUndo pmiNothingToUndo cdiNothingToUndo ctiNothingToUndo ociTooMany kViTooMany dciTooMany pmiTooMany cdiTooMany ctiTooMany ociRefused kViRefused dciRefused pmiRefused cdiRefused ctiRefused ociInvalidNumber kViInvalidNumber dciInvalidNumber pmiInvalidNumber cdiInvalidNumber ctiInvalidNumber : Value}
    (gNeedError : PySem.W.nsIn K mainGlobals "NeedError" = some (some (.ref A_NeedError))) (eNeedError : exB K A_NeedError = true)
    (pNeedError : PySem.W.excIn K A_NeedError tVal "ValueError.__new__" = true) (sNeedError : strB K A_NeedError = true)
    (gInvalidWord : PySem.W.nsIn K mainGlobals "InvalidWord" = some (some (.ref A_InvalidWord))) (eInvalidWord : exB K A_InvalidWord = true)
    (pInvalidWord : PySem.W.excIn K A_InvalidWord tVal "ValueError.__new__" = true) (sInvalidWord : strB K A_InvalidWord = true)
    (gInvalidTerm : PySem.W.nsIn K mainGlobals "InvalidTerm" = some (some (.ref A_InvalidTerm))) (eInvalidTerm : exB K A_InvalidTerm = true)
    (pInvalidTerm : PySem.W.excIn K A_InvalidTerm tVal "ValueError.__new__" = true) (sInvalidTerm : strB K A_InvalidTerm = true)
    (gInvalidBook : PySem.W.nsIn K mainGlobals "InvalidBook" = some (some (.ref A_InvalidBook))) (eInvalidBook : exB K A_InvalidBook = true)
    (pInvalidBook : PySem.W.excIn K A_InvalidBook tVal "ValueError.__new__" = true) (sInvalidBook : strB K A_InvalidBook = true)
    (gInvalidProgram : PySem.W.nsIn K mainGlobals "InvalidProgram" = some (some (.ref A_InvalidProgram))) (eInvalidProgram : exB K A_InvalidProgram = true)
    (pInvalidProgram : PySem.W.excIn K A_InvalidProgram tVal "ValueError.__new__" = true) (sInvalidProgram : strB K A_InvalidProgram = true)
    (gInvalidTable : PySem.W.nsIn K mainGlobals "InvalidTable" = some (some (.ref A_InvalidTable))) (eInvalidTable : exB K A_InvalidTable = true)
    (pInvalidTable : PySem.W.excIn K A_InvalidTable tVal "ValueError.__new__" = true) (sInvalidTable : strB K A_InvalidTable = true)
    (gInvalidLines : PySem.W.nsIn K mainGlobals "InvalidLines" = some (some (.ref A_InvalidLines))) (eInvalidLines : exB K A_InvalidLines = true)
    (pInvalidLines : PySem.W.excIn K A_InvalidLines tVal "ValueError.__new__" = true) (sInvalidLines : strB K A_InvalidLines = true)
    (gInvalidRows : PySem.W.nsIn K mainGlobals "InvalidRows" = some (some (.ref A_InvalidRows))) (eInvalidRows : exB K A_InvalidRows = true)
    (pInvalidRows : PySem.W.excIn K A_InvalidRows tVal "ValueError.__new__" = true) (sInvalidRows : strB K A_InvalidRows = true)
    (gInvalidOperation : PySem.W.nsIn K mainGlobals "InvalidOperation" = some (some (.ref A_InvalidOperation))) (eInvalidOperation : exB K A_InvalidOperation = true)
    (pInvalidOperation : PySem.W.excIn K A_InvalidOperation tVal "ValueError.__new__" = true) (sInvalidOperation : strB K A_InvalidOperation = true)
    (gParseError : PySem.W.nsIn K mainGlobals "ParseError" = some (some (.ref A_ParseError))) (eParseError : exB K A_ParseError = true)
    (fParseError : PySem.W.findIn K (.ref A_ParseError) "__init__" = some (some (.ref IParseError))) (iParseError : iniB K A_ParseError IParseError "line" tVal "ValueError.__new__" = true) (lParseError : K.lookup IParseError = some ⟨ociParseError, odiParseError, .func (PySem.W.fnOf "__init__" "ParseError.__init__" (defArgs s_iParseError) (defBody s_iParseError) (defScope s_iParseError) .none kViParseError dciParseError pmiParseError aniParseError cdiParseError ctiParseError), sliParseError⟩) (cParseError : PySem.W.codeIn K cdiParseError "ParseError.__init__" = true) (kParseError : PySem.W.keepIn K (.ref IParseError) = true)
    (gUnknownWord : PySem.W.nsIn K mainGlobals "UnknownWord" = some (some (.ref A_UnknownWord))) (eUnknownWord : exB K A_UnknownWord = true)
    (fUnknownWord : PySem.W.findIn K (.ref A_UnknownWord) "__init__" = some (some (.ref IUnknownWord))) (iUnknownWord : iniB K A_UnknownWord IUnknownWord "asked" tKey "LookupError.__new__" = true) (lUnknownWord : K.lookup IUnknownWord = some ⟨ociUnknownWord, odiUnknownWord, .func (PySem.W.fnOf "__init__" "UnknownWord.__init__" (defArgs s_iUnknownWord) (defBody s_iUnknownWord) (defScope s_iUnknownWord) .none kViUnknownWord dciUnknownWord pmiUnknownWord aniUnknownWord cdiUnknownWord ctiUnknownWord), sliUnknownWord⟩) (cUnknownWord : PySem.W.codeIn K cdiUnknownWord "UnknownWord.__init__" = true) (kUnknownWord : PySem.W.keepIn K (.ref IUnknownWord) = true)
    (gUnknownPlace : PySem.W.nsIn K mainGlobals "UnknownPlace" = some (some (.ref A_UnknownPlace))) (eUnknownPlace : exB K A_UnknownPlace = true)
    (fUnknownPlace : PySem.W.findIn K (.ref A_UnknownPlace) "__init__" = some (some (.ref IUnknownPlace))) (iUnknownPlace : iniB K A_UnknownPlace IUnknownPlace "spot" tLok "LookupError.__new__" = true) (lUnknownPlace : K.lookup IUnknownPlace = some ⟨ociUnknownPlace, odiUnknownPlace, .func (PySem.W.fnOf "__init__" "UnknownPlace.__init__" (defArgs s_iUnknownPlace) (defBody s_iUnknownPlace) (defScope s_iUnknownPlace) .none kViUnknownPlace dciUnknownPlace pmiUnknownPlace aniUnknownPlace cdiUnknownPlace ctiUnknownPlace), sliUnknownPlace⟩) (cUnknownPlace : PySem.W.codeIn K cdiUnknownPlace "UnknownPlace.__init__" = true) (kUnknownPlace : PySem.W.keepIn K (.ref IUnknownPlace) = true)
    (gNothingToUndo : PySem.W.nsIn K mainGlobals "NothingToUndo" = some (some (.ref A_NothingToUndo))) (eNothingToUndo : exB K A_NothingToUndo = true)
    (fNothingToUndo : PySem.W.findIn K (.ref A_NothingToUndo) "__init__" = some (some (.ref INothingToUndo))) (iNothingToUndo : iniB K A_NothingToUndo INothingToUndo "amount" tIdx "IndexError.__new__" = true) (lNothingToUndo : K.lookup INothingToUndo = some ⟨ociNothingToUndo, odiNothingToUndo, .func (PySem.W.fnOf "__init__" "NothingToUndo.__init__" (defArgs s_iNothingToUndo) (defBody s_iNothingToUndo) (defScope s_iNothingToUndo) .none kViNothingToUndo dciNothingToUndo pmiNothingToUndo aniNothingToUndo cdiNothingToUndo ctiNothingToUndo), sliNothingToUndo⟩) (cNothingToUndo : PySem.W.codeIn K cdiNothingToUndo "NothingToUndo.__init__" = true) (kNothingToUndo : PySem.W.keepIn K (.ref INothingToUndo) = true)
    (gTooMany : PySem.W.nsIn K mainGlobals "TooMany" = some (some (.ref A_TooMany))) (eTooMany : exB K A_TooMany = true)
    (fTooMany : PySem.W.findIn K (.ref A_TooMany) "__init__" = some (some (.ref ITooMany))) (iTooMany : iniB K A_TooMany ITooMany "limit" tOvf "OverflowError.__new__" = true) (lTooMany : K.lookup ITooMany = some ⟨ociTooMany, odiTooMany, .func (PySem.W.fnOf "__init__" "TooMany.__init__" (defArgs s_iTooMany) (defBody s_iTooMany) (defScope s_iTooMany) .none kViTooMany dciTooMany pmiTooMany aniTooMany cdiTooMany ctiTooMany), sliTooMany⟩) (cTooMany : PySem.W.codeIn K cdiTooMany "TooMany.__init__" = true) (kTooMany : PySem.W.keepIn K (.ref ITooMany) = true)
    (gRefused : PySem.W.nsIn K mainGlobals "Refused" = some (some (.ref A_Refused))) (eRefused : exB K A_Refused = true)
    (fRefused : PySem.W.findIn K (.ref A_Refused) "__init__" = some (some (.ref IRefused))) (iRefused : iniB K A_Refused IRefused "cause" tAri "ArithmeticError.__new__" = true) (lRefused : K.lookup IRefused = some ⟨ociRefused, odiRefused, .func (PySem.W.fnOf "__init__" "Refused.__init__" (defArgs s_iRefused) (defBody s_iRefused) (defScope s_iRefused) .none kViRefused dciRefused pmiRefused aniRefused cdiRefused ctiRefused), sliRefused⟩) (cRefused : PySem.W.codeIn K cdiRefused "Refused.__init__" = true) (kRefused : PySem.W.keepIn K (.ref IRefused) = true)
    (gInvalidNumber : PySem.W.nsIn K mainGlobals "InvalidNumber" = some (some (.ref A_InvalidNumber))) (eInvalidNumber : exB K A_InvalidNumber = true)
    (fInvalidNumber : PySem.W.findIn K (.ref A_InvalidNumber) "__init__" = some (some (.ref IInvalidNumber))) (iInvalidNumber : iniB K A_InvalidNumber IInvalidNumber "number" tRun "RuntimeError.__new__" = true) (lInvalidNumber : K.lookup IInvalidNumber = some ⟨ociInvalidNumber, odiInvalidNumber, .func (PySem.W.fnOf "__init__" "InvalidNumber.__init__" (defArgs s_iInvalidNumber) (defBody s_iInvalidNumber) (defScope s_iInvalidNumber) .none kViInvalidNumber dciInvalidNumber pmiInvalidNumber aniInvalidNumber cdiInvalidNumber ctiInvalidNumber), sliInvalidNumber⟩) (cInvalidNumber : PySem.W.codeIn K cdiInvalidNumber "InvalidNumber.__init__" = true) (kInvalidNumber : PySem.W.keepIn K (.ref IInvalidNumber) = true)
    (r0NeedError : rowB K A_NeedError (row0 ⟨A_NeedError, A_InvalidWord, A_InvalidTerm, A_InvalidBook, A_InvalidProgram, A_InvalidTable, A_InvalidLines, A_InvalidRows, A_InvalidOperation, A_ParseError, A_UnknownWord, A_UnknownPlace, A_NothingToUndo, A_TooMany, A_Refused, A_InvalidNumber, IParseError, IUnknownWord, IUnknownPlace, INothingToUndo, ITooMany, IRefused, IInvalidNumber⟩) [false, false, false, false, false, false, false, false, false, true, true] = true)
    (r1NeedError : rowB K A_NeedError (row1 ⟨A_NeedError, A_InvalidWord, A_InvalidTerm, A_InvalidBook, A_InvalidProgram, A_InvalidTable, A_InvalidLines, A_InvalidRows, A_InvalidOperation, A_ParseError, A_UnknownWord, A_UnknownPlace, A_NothingToUndo, A_TooMany, A_Refused, A_InvalidNumber, IParseError, IUnknownWord, IUnknownPlace, INothingToUndo, ITooMany, IRefused, IInvalidNumber⟩) [false, false, false, false, false, false, false, false, false, false, false, false] = true)
    (r0InvalidWord : rowB K A_InvalidWord (row0 ⟨A_NeedError, A_InvalidWord, A_InvalidTerm, A_InvalidBook, A_InvalidProgram, A_InvalidTable, A_InvalidLines, A_InvalidRows, A_InvalidOperation, A_ParseError, A_UnknownWord, A_UnknownPlace, A_NothingToUndo, A_TooMany, A_Refused, A_InvalidNumber, IParseError, IUnknownWord, IUnknownPlace, INothingToUndo, ITooMany, IRefused, IInvalidNumber⟩) [true, false, false, false, false, false, false, false, false, true, true] = true)
    (r1InvalidWord : rowB K A_InvalidWord (row1 ⟨A_NeedError, A_InvalidWord, A_InvalidTerm, A_InvalidBook, A_InvalidProgram, A_InvalidTable, A_InvalidLines, A_InvalidRows, A_InvalidOperation, A_ParseError, A_UnknownWord, A_UnknownPlace, A_NothingToUndo, A_TooMany, A_Refused, A_InvalidNumber, IParseError, IUnknownWord, IUnknownPlace, INothingToUndo, ITooMany, IRefused, IInvalidNumber⟩) [false, false, false, false, false, false, false, false, false, false, false, false] = true)
    (r0InvalidTerm : rowB K A_InvalidTerm (row0 ⟨A_NeedError, A_InvalidWord, A_InvalidTerm, A_InvalidBook, A_InvalidProgram, A_InvalidTable, A_InvalidLines, A_InvalidRows, A_InvalidOperation, A_ParseError, A_UnknownWord, A_UnknownPlace, A_NothingToUndo, A_TooMany, A_Refused, A_InvalidNumber, IParseError, IUnknownWord, IUnknownPlace, INothingToUndo, ITooMany, IRefused, IInvalidNumber⟩) [false, true, false, false, false, false, false, false, false, true, true] = true)
    (r1InvalidTerm : rowB K A_InvalidTerm (row1 ⟨A_NeedError, A_InvalidWord, A_InvalidTerm, A_InvalidBook, A_InvalidProgram, A_InvalidTable, A_InvalidLines, A_InvalidRows, A_InvalidOperation, A_ParseError, A_UnknownWord, A_UnknownPlace, A_NothingToUndo, A_TooMany, A_Refused, A_InvalidNumber, IParseError, IUnknownWord, IUnknownPlace, INothingToUndo, ITooMany, IRefused, IInvalidNumber⟩) [false, false, false, false, false, false, false, false, false, false, false, false] = true)
    (r0InvalidBook : rowB K A_InvalidBook (row0 ⟨A_NeedError, A_InvalidWord, A_InvalidTerm, A_InvalidBook, A_InvalidProgram, A_InvalidTable, A_InvalidLines, A_InvalidRows, A_InvalidOperation, A_ParseError, A_UnknownWord, A_UnknownPlace, A_NothingToUndo, A_TooMany, A_Refused, A_InvalidNumber, IParseError, IUnknownWord, IUnknownPlace, INothingToUndo, ITooMany, IRefused, IInvalidNumber⟩) [false, false, true, false, false, false, false, false, false, true, true] = true)
    (r1InvalidBook : rowB K A_InvalidBook (row1 ⟨A_NeedError, A_InvalidWord, A_InvalidTerm, A_InvalidBook, A_InvalidProgram, A_InvalidTable, A_InvalidLines, A_InvalidRows, A_InvalidOperation, A_ParseError, A_UnknownWord, A_UnknownPlace, A_NothingToUndo, A_TooMany, A_Refused, A_InvalidNumber, IParseError, IUnknownWord, IUnknownPlace, INothingToUndo, ITooMany, IRefused, IInvalidNumber⟩) [false, false, false, false, false, false, false, false, false, false, false, false] = true)
    (r0InvalidProgram : rowB K A_InvalidProgram (row0 ⟨A_NeedError, A_InvalidWord, A_InvalidTerm, A_InvalidBook, A_InvalidProgram, A_InvalidTable, A_InvalidLines, A_InvalidRows, A_InvalidOperation, A_ParseError, A_UnknownWord, A_UnknownPlace, A_NothingToUndo, A_TooMany, A_Refused, A_InvalidNumber, IParseError, IUnknownWord, IUnknownPlace, INothingToUndo, ITooMany, IRefused, IInvalidNumber⟩) [false, false, false, true, false, false, false, false, false, true, true] = true)
    (r1InvalidProgram : rowB K A_InvalidProgram (row1 ⟨A_NeedError, A_InvalidWord, A_InvalidTerm, A_InvalidBook, A_InvalidProgram, A_InvalidTable, A_InvalidLines, A_InvalidRows, A_InvalidOperation, A_ParseError, A_UnknownWord, A_UnknownPlace, A_NothingToUndo, A_TooMany, A_Refused, A_InvalidNumber, IParseError, IUnknownWord, IUnknownPlace, INothingToUndo, ITooMany, IRefused, IInvalidNumber⟩) [false, false, false, false, false, false, false, false, false, false, false, false] = true)
    (r0InvalidTable : rowB K A_InvalidTable (row0 ⟨A_NeedError, A_InvalidWord, A_InvalidTerm, A_InvalidBook, A_InvalidProgram, A_InvalidTable, A_InvalidLines, A_InvalidRows, A_InvalidOperation, A_ParseError, A_UnknownWord, A_UnknownPlace, A_NothingToUndo, A_TooMany, A_Refused, A_InvalidNumber, IParseError, IUnknownWord, IUnknownPlace, INothingToUndo, ITooMany, IRefused, IInvalidNumber⟩) [false, false, false, false, true, false, false, false, false, true, true] = true)
    (r1InvalidTable : rowB K A_InvalidTable (row1 ⟨A_NeedError, A_InvalidWord, A_InvalidTerm, A_InvalidBook, A_InvalidProgram, A_InvalidTable, A_InvalidLines, A_InvalidRows, A_InvalidOperation, A_ParseError, A_UnknownWord, A_UnknownPlace, A_NothingToUndo, A_TooMany, A_Refused, A_InvalidNumber, IParseError, IUnknownWord, IUnknownPlace, INothingToUndo, ITooMany, IRefused, IInvalidNumber⟩) [false, false, false, false, false, false, false, false, false, false, false, false] = true)
    (r0InvalidLines : rowB K A_InvalidLines (row0 ⟨A_NeedError, A_InvalidWord, A_InvalidTerm, A_InvalidBook, A_InvalidProgram, A_InvalidTable, A_InvalidLines, A_InvalidRows, A_InvalidOperation, A_ParseError, A_UnknownWord, A_UnknownPlace, A_NothingToUndo, A_TooMany, A_Refused, A_InvalidNumber, IParseError, IUnknownWord, IUnknownPlace, INothingToUndo, ITooMany, IRefused, IInvalidNumber⟩) [false, false, false, false, false, true, false, false, false, true, true] = true)
    (r1InvalidLines : rowB K A_InvalidLines (row1 ⟨A_NeedError, A_InvalidWord, A_InvalidTerm, A_InvalidBook, A_InvalidProgram, A_InvalidTable, A_InvalidLines, A_InvalidRows, A_InvalidOperation, A_ParseError, A_UnknownWord, A_UnknownPlace, A_NothingToUndo, A_TooMany, A_Refused, A_InvalidNumber, IParseError, IUnknownWord, IUnknownPlace, INothingToUndo, ITooMany, IRefused, IInvalidNumber⟩) [false, false, false, false, false, false, false, false, false, false, false, false] = true)
    (r0InvalidRows : rowB K A_InvalidRows (row0 ⟨A_NeedError, A_InvalidWord, A_InvalidTerm, A_InvalidBook, A_InvalidProgram, A_InvalidTable, A_InvalidLines, A_InvalidRows, A_InvalidOperation, A_ParseError, A_UnknownWord, A_UnknownPlace, A_NothingToUndo, A_TooMany, A_Refused, A_InvalidNumber, IParseError, IUnknownWord, IUnknownPlace, INothingToUndo, ITooMany, IRefused, IInvalidNumber⟩) [false, false, false, false, false, false, true, false, false, true, true] = true)
    (r1InvalidRows : rowB K A_InvalidRows (row1 ⟨A_NeedError, A_InvalidWord, A_InvalidTerm, A_InvalidBook, A_InvalidProgram, A_InvalidTable, A_InvalidLines, A_InvalidRows, A_InvalidOperation, A_ParseError, A_UnknownWord, A_UnknownPlace, A_NothingToUndo, A_TooMany, A_Refused, A_InvalidNumber, IParseError, IUnknownWord, IUnknownPlace, INothingToUndo, ITooMany, IRefused, IInvalidNumber⟩) [false, false, false, false, false, false, false, false, false, false, false, false] = true)
    (r0InvalidOperation : rowB K A_InvalidOperation (row0 ⟨A_NeedError, A_InvalidWord, A_InvalidTerm, A_InvalidBook, A_InvalidProgram, A_InvalidTable, A_InvalidLines, A_InvalidRows, A_InvalidOperation, A_ParseError, A_UnknownWord, A_UnknownPlace, A_NothingToUndo, A_TooMany, A_Refused, A_InvalidNumber, IParseError, IUnknownWord, IUnknownPlace, INothingToUndo, ITooMany, IRefused, IInvalidNumber⟩) [false, false, false, false, false, false, false, true, false, true, true] = true)
    (r1InvalidOperation : rowB K A_InvalidOperation (row1 ⟨A_NeedError, A_InvalidWord, A_InvalidTerm, A_InvalidBook, A_InvalidProgram, A_InvalidTable, A_InvalidLines, A_InvalidRows, A_InvalidOperation, A_ParseError, A_UnknownWord, A_UnknownPlace, A_NothingToUndo, A_TooMany, A_Refused, A_InvalidNumber, IParseError, IUnknownWord, IUnknownPlace, INothingToUndo, ITooMany, IRefused, IInvalidNumber⟩) [false, false, false, false, false, false, false, false, false, false, false, false] = true)
    (r0ParseError : rowB K A_ParseError (row0 ⟨A_NeedError, A_InvalidWord, A_InvalidTerm, A_InvalidBook, A_InvalidProgram, A_InvalidTable, A_InvalidLines, A_InvalidRows, A_InvalidOperation, A_ParseError, A_UnknownWord, A_UnknownPlace, A_NothingToUndo, A_TooMany, A_Refused, A_InvalidNumber, IParseError, IUnknownWord, IUnknownPlace, INothingToUndo, ITooMany, IRefused, IInvalidNumber⟩) [false, false, false, false, false, false, false, false, true, true, true] = true)
    (r1ParseError : rowB K A_ParseError (row1 ⟨A_NeedError, A_InvalidWord, A_InvalidTerm, A_InvalidBook, A_InvalidProgram, A_InvalidTable, A_InvalidLines, A_InvalidRows, A_InvalidOperation, A_ParseError, A_UnknownWord, A_UnknownPlace, A_NothingToUndo, A_TooMany, A_Refused, A_InvalidNumber, IParseError, IUnknownWord, IUnknownPlace, INothingToUndo, ITooMany, IRefused, IInvalidNumber⟩) [false, false, false, false, false, false, false, false, false, false, false, false] = true)
    (r0UnknownWord : rowB K A_UnknownWord (row0 ⟨A_NeedError, A_InvalidWord, A_InvalidTerm, A_InvalidBook, A_InvalidProgram, A_InvalidTable, A_InvalidLines, A_InvalidRows, A_InvalidOperation, A_ParseError, A_UnknownWord, A_UnknownPlace, A_NothingToUndo, A_TooMany, A_Refused, A_InvalidNumber, IParseError, IUnknownWord, IUnknownPlace, INothingToUndo, ITooMany, IRefused, IInvalidNumber⟩) [false, false, false, false, false, false, false, false, false, false, false] = true)
    (r1UnknownWord : rowB K A_UnknownWord (row1 ⟨A_NeedError, A_InvalidWord, A_InvalidTerm, A_InvalidBook, A_InvalidProgram, A_InvalidTable, A_InvalidLines, A_InvalidRows, A_InvalidOperation, A_ParseError, A_UnknownWord, A_UnknownPlace, A_NothingToUndo, A_TooMany, A_Refused, A_InvalidNumber, IParseError, IUnknownWord, IUnknownPlace, INothingToUndo, ITooMany, IRefused, IInvalidNumber⟩) [true, false, false, false, false, false, true, false, true, false, false, false] = true)
    (r0UnknownPlace : rowB K A_UnknownPlace (row0 ⟨A_NeedError, A_InvalidWord, A_InvalidTerm, A_InvalidBook, A_InvalidProgram, A_InvalidTable, A_InvalidLines, A_InvalidRows, A_InvalidOperation, A_ParseError, A_UnknownWord, A_UnknownPlace, A_NothingToUndo, A_TooMany, A_Refused, A_InvalidNumber, IParseError, IUnknownWord, IUnknownPlace, INothingToUndo, ITooMany, IRefused, IInvalidNumber⟩) [false, false, false, false, false, false, false, false, false, false, false] = true)
    (r1UnknownPlace : rowB K A_UnknownPlace (row1 ⟨A_NeedError, A_InvalidWord, A_InvalidTerm, A_InvalidBook, A_InvalidProgram, A_InvalidTable, A_InvalidLines, A_InvalidRows, A_InvalidOperation, A_ParseError, A_UnknownWord, A_UnknownPlace, A_NothingToUndo, A_TooMany, A_Refused, A_InvalidNumber, IParseError, IUnknownWord, IUnknownPlace, INothingToUndo, ITooMany, IRefused, IInvalidNumber⟩) [false, true, false, false, false, false, false, false, true, false, false, false] = true)
    (r0NothingToUndo : rowB K A_NothingToUndo (row0 ⟨A_NeedError, A_InvalidWord, A_InvalidTerm, A_InvalidBook, A_InvalidProgram, A_InvalidTable, A_InvalidLines, A_InvalidRows, A_InvalidOperation, A_ParseError, A_UnknownWord, A_UnknownPlace, A_NothingToUndo, A_TooMany, A_Refused, A_InvalidNumber, IParseError, IUnknownWord, IUnknownPlace, INothingToUndo, ITooMany, IRefused, IInvalidNumber⟩) [false, false, false, false, false, false, false, false, false, false, false] = true)
    (r1NothingToUndo : rowB K A_NothingToUndo (row1 ⟨A_NeedError, A_InvalidWord, A_InvalidTerm, A_InvalidBook, A_InvalidProgram, A_InvalidTable, A_InvalidLines, A_InvalidRows, A_InvalidOperation, A_ParseError, A_UnknownWord, A_UnknownPlace, A_NothingToUndo, A_TooMany, A_Refused, A_InvalidNumber, IParseError, IUnknownWord, IUnknownPlace, INothingToUndo, ITooMany, IRefused, IInvalidNumber⟩) [false, false, true, false, false, false, false, true, true, false, false, false] = true)
    (r0TooMany : rowB K A_TooMany (row0 ⟨A_NeedError, A_InvalidWord, A_InvalidTerm, A_InvalidBook, A_InvalidProgram, A_InvalidTable, A_InvalidLines, A_InvalidRows, A_InvalidOperation, A_ParseError, A_UnknownWord, A_UnknownPlace, A_NothingToUndo, A_TooMany, A_Refused, A_InvalidNumber, IParseError, IUnknownWord, IUnknownPlace, INothingToUndo, ITooMany, IRefused, IInvalidNumber⟩) [false, false, false, false, false, false, false, false, false, false, false] = true)
    (r1TooMany : rowB K A_TooMany (row1 ⟨A_NeedError, A_InvalidWord, A_InvalidTerm, A_InvalidBook, A_InvalidProgram, A_InvalidTable, A_InvalidLines, A_InvalidRows, A_InvalidOperation, A_ParseError, A_UnknownWord, A_UnknownPlace, A_NothingToUndo, A_TooMany, A_Refused, A_InvalidNumber, IParseError, IUnknownWord, IUnknownPlace, INothingToUndo, ITooMany, IRefused, IInvalidNumber⟩) [false, false, false, true, false, false, false, false, false, true, true, false] = true)
    (r0Refused : rowB K A_Refused (row0 ⟨A_NeedError, A_InvalidWord, A_InvalidTerm, A_InvalidBook, A_InvalidProgram, A_InvalidTable, A_InvalidLines, A_InvalidRows, A_InvalidOperation, A_ParseError, A_UnknownWord, A_UnknownPlace, A_NothingToUndo, A_TooMany, A_Refused, A_InvalidNumber, IParseError, IUnknownWord, IUnknownPlace, INothingToUndo, ITooMany, IRefused, IInvalidNumber⟩) [false, false, false, false, false, false, false, false, false, false, false] = true)
    (r1Refused : rowB K A_Refused (row1 ⟨A_NeedError, A_InvalidWord, A_InvalidTerm, A_InvalidBook, A_InvalidProgram, A_InvalidTable, A_InvalidLines, A_InvalidRows, A_InvalidOperation, A_ParseError, A_UnknownWord, A_UnknownPlace, A_NothingToUndo, A_TooMany, A_Refused, A_InvalidNumber, IParseError, IUnknownWord, IUnknownPlace, INothingToUndo, ITooMany, IRefused, IInvalidNumber⟩) [false, false, false, false, true, false, false, false, false, false, true, false] = true)
    (r0InvalidNumber : rowB K A_InvalidNumber (row0 ⟨A_NeedError, A_InvalidWord, A_InvalidTerm, A_InvalidBook, A_InvalidProgram, A_InvalidTable, A_InvalidLines, A_InvalidRows, A_InvalidOperation, A_ParseError, A_UnknownWord, A_UnknownPlace, A_NothingToUndo, A_TooMany, A_Refused, A_InvalidNumber, IParseError, IUnknownWord, IUnknownPlace, INothingToUndo, ITooMany, IRefused, IInvalidNumber⟩) [false, false, false, false, false, false, false, false, false, false, false] = true)
    (r1InvalidNumber : rowB K A_InvalidNumber (row1 ⟨A_NeedError, A_InvalidWord, A_InvalidTerm, A_InvalidBook, A_InvalidProgram, A_InvalidTable, A_InvalidLines, A_InvalidRows, A_InvalidOperation, A_ParseError, A_UnknownWord, A_UnknownPlace, A_NothingToUndo, A_TooMany, A_Refused, A_InvalidNumber, IParseError, IUnknownWord, IUnknownPlace, INothingToUndo, ITooMany, IRefused, IInvalidNumber⟩) [false, false, false, false, false, true, false, false, false, false, false, true] = true)
    (z0 : PySem.W.nsIn K mainGlobals "len" = some none)
    (z1 : PySem.W.nsIn K mainGlobals "int" = some none)
    (z2 : PySem.W.nsIn K mainGlobals "abs" = some none)
    (z3 : PySem.W.nsIn K mainGlobals "max" = some none)
    (z4 : PySem.W.nsIn K mainGlobals "min" = some none)
    (z5 : PySem.W.nsIn K mainGlobals "isinstance" = some none)
    (z6 : PySem.W.nsIn K mainGlobals "repr" = some none)
    (z7 : PySem.W.nsIn K mainGlobals "range" = some none)
    (z8 : PySem.W.nsIn K mainGlobals "str" = some none)
    (z9 : PySem.W.nsIn K mainGlobals "ValueError" = some none)
    (z10 : PySem.W.nsIn K mainGlobals "KeyError" = some none)
    (z11 : PySem.W.nsIn K mainGlobals "IndexError" = some none)
    (z12 : PySem.W.nsIn K mainGlobals "LookupError" = some none)
    (z13 : PySem.W.nsIn K mainGlobals "OverflowError" = some none)
    (z14 : PySem.W.nsIn K mainGlobals "ArithmeticError" = some none)
    (z15 : PySem.W.nsIn K mainGlobals "RuntimeError" = some none)
    : ∃ fd : FuncData, (∀ (s : Shared) (v : Value), BindsTo s fd ⟨[v], []⟩ [("_law_script", v)]) ∧ ∀ base : Heap, K.In base → base.Ns mainGlobals mg → FnG l.prog w K mg base CX0 5 fa fd ["_law_script"] (spLaw K) := by
  have e := hfa.symm.trans (PySem.W.mg_of X G a6)
  cases e
  have T : Txt mg := ⟨PySem.W.mg_none_of X G z0, PySem.W.mg_none_of X G z1, PySem.W.mg_none_of X G z2, PySem.W.mg_none_of X G z3, PySem.W.mg_none_of X G z4, PySem.W.mg_none_of X G z5, PySem.W.mg_none_of X G z6, PySem.W.mg_none_of X G z7, PySem.W.mg_none_of X G z8, PySem.W.mg_none_of X G z9, PySem.W.mg_none_of X G z10, PySem.W.mg_none_of X G z11, PySem.W.mg_none_of X G z12, PySem.W.mg_none_of X G z13, PySem.W.mg_none_of X G z14, PySem.W.mg_none_of X G z15⟩
  have Z : Cls K mg ⟨A_NeedError, A_InvalidWord, A_InvalidTerm, A_InvalidBook, A_InvalidProgram, A_InvalidTable, A_InvalidLines, A_InvalidRows, A_InvalidOperation, A_ParseError, A_UnknownWord, A_UnknownPlace, A_NothingToUndo, A_TooMany, A_Refused, A_InvalidNumber, IParseError, IUnknownWord, IUnknownPlace, INothingToUndo, ITooMany, IRefused, IInvalidNumber⟩ := {
    g_NeedError := PySem.W.mg_of X G gNeedError, e_NeedError := exB_ok eNeedError, p_NeedError := pNeedError, s_NeedError := strB_ok (exB_ok eNeedError) sNeedError, r0_NeedError := r0NeedError, r1_NeedError := r1NeedError,
    g_InvalidWord := PySem.W.mg_of X G gInvalidWord, e_InvalidWord := exB_ok eInvalidWord, p_InvalidWord := pInvalidWord, s_InvalidWord := strB_ok (exB_ok eInvalidWord) sInvalidWord, r0_InvalidWord := r0InvalidWord, r1_InvalidWord := r1InvalidWord,
    g_InvalidTerm := PySem.W.mg_of X G gInvalidTerm, e_InvalidTerm := exB_ok eInvalidTerm, p_InvalidTerm := pInvalidTerm, s_InvalidTerm := strB_ok (exB_ok eInvalidTerm) sInvalidTerm, r0_InvalidTerm := r0InvalidTerm, r1_InvalidTerm := r1InvalidTerm,
    g_InvalidBook := PySem.W.mg_of X G gInvalidBook, e_InvalidBook := exB_ok eInvalidBook, p_InvalidBook := pInvalidBook, s_InvalidBook := strB_ok (exB_ok eInvalidBook) sInvalidBook, r0_InvalidBook := r0InvalidBook, r1_InvalidBook := r1InvalidBook,
    g_InvalidProgram := PySem.W.mg_of X G gInvalidProgram, e_InvalidProgram := exB_ok eInvalidProgram, p_InvalidProgram := pInvalidProgram, s_InvalidProgram := strB_ok (exB_ok eInvalidProgram) sInvalidProgram, r0_InvalidProgram := r0InvalidProgram, r1_InvalidProgram := r1InvalidProgram,
    g_InvalidTable := PySem.W.mg_of X G gInvalidTable, e_InvalidTable := exB_ok eInvalidTable, p_InvalidTable := pInvalidTable, s_InvalidTable := strB_ok (exB_ok eInvalidTable) sInvalidTable, r0_InvalidTable := r0InvalidTable, r1_InvalidTable := r1InvalidTable,
    g_InvalidLines := PySem.W.mg_of X G gInvalidLines, e_InvalidLines := exB_ok eInvalidLines, p_InvalidLines := pInvalidLines, s_InvalidLines := strB_ok (exB_ok eInvalidLines) sInvalidLines, r0_InvalidLines := r0InvalidLines, r1_InvalidLines := r1InvalidLines,
    g_InvalidRows := PySem.W.mg_of X G gInvalidRows, e_InvalidRows := exB_ok eInvalidRows, p_InvalidRows := pInvalidRows, s_InvalidRows := strB_ok (exB_ok eInvalidRows) sInvalidRows, r0_InvalidRows := r0InvalidRows, r1_InvalidRows := r1InvalidRows,
    g_InvalidOperation := PySem.W.mg_of X G gInvalidOperation, e_InvalidOperation := exB_ok eInvalidOperation, p_InvalidOperation := pInvalidOperation, s_InvalidOperation := strB_ok (exB_ok eInvalidOperation) sInvalidOperation, r0_InvalidOperation := r0InvalidOperation, r1_InvalidOperation := r1InvalidOperation,
    g_ParseError := PySem.W.mg_of X G gParseError, e_ParseError := exB_ok eParseError, o_ParseError := iniB_ok bVal (exB_ok eParseError) iParseError, r0_ParseError := r0ParseError, r1_ParseError := r1ParseError,
    g_UnknownWord := PySem.W.mg_of X G gUnknownWord, e_UnknownWord := exB_ok eUnknownWord, o_UnknownWord := iniB_ok bKey (exB_ok eUnknownWord) iUnknownWord, r0_UnknownWord := r0UnknownWord, r1_UnknownWord := r1UnknownWord,
    g_UnknownPlace := PySem.W.mg_of X G gUnknownPlace, e_UnknownPlace := exB_ok eUnknownPlace, o_UnknownPlace := iniB_ok bLok (exB_ok eUnknownPlace) iUnknownPlace, r0_UnknownPlace := r0UnknownPlace, r1_UnknownPlace := r1UnknownPlace,
    g_NothingToUndo := PySem.W.mg_of X G gNothingToUndo, e_NothingToUndo := exB_ok eNothingToUndo, o_NothingToUndo := iniB_ok bIdx (exB_ok eNothingToUndo) iNothingToUndo, r0_NothingToUndo := r0NothingToUndo, r1_NothingToUndo := r1NothingToUndo,
    g_TooMany := PySem.W.mg_of X G gTooMany, e_TooMany := exB_ok eTooMany, o_TooMany := iniB_ok bOvf (exB_ok eTooMany) iTooMany, r0_TooMany := r0TooMany, r1_TooMany := r1TooMany,
    g_Refused := PySem.W.mg_of X G gRefused, e_Refused := exB_ok eRefused, o_Refused := iniB_ok bAri (exB_ok eRefused) iRefused, r0_Refused := r0Refused, r1_Refused := r1Refused,
    g_InvalidNumber := PySem.W.mg_of X G gInvalidNumber, e_InvalidNumber := exB_ok eInvalidNumber, o_InvalidNumber := iniB_ok bRun (exB_ok eInvalidNumber) iInvalidNumber, r0_InvalidNumber := r0InvalidNumber, r1_InvalidNumber := r1InvalidNumber }
  have FiParseError := fun_mk (st := s_iParseError) lParseError cParseError kParseError
  have B_ParseError : Binds K _ P_iParseError [] := FiParseError.binds fun _ _ _ _ _ _ us hl => match us, hl with | [_, _], _ => rfl
  have I_ParseError := fun (base : Heap) => ok_iParseError (P := l.prog) (w := w) (mg := mg) (base := base) FiParseError
  have FiUnknownWord := fun_mk (st := s_iUnknownWord) lUnknownWord cUnknownWord kUnknownWord
  have B_UnknownWord : Binds K _ P_iUnknownWord [] := FiUnknownWord.binds fun _ _ _ _ _ _ us hl => match us, hl with | [_, _], _ => rfl
  have I_UnknownWord := fun (base : Heap) => ok_iUnknownWord (P := l.prog) (w := w) (mg := mg) (base := base) FiUnknownWord
  have FiUnknownPlace := fun_mk (st := s_iUnknownPlace) lUnknownPlace cUnknownPlace kUnknownPlace
  have B_UnknownPlace : Binds K _ P_iUnknownPlace [] := FiUnknownPlace.binds fun _ _ _ _ _ _ us hl => match us, hl with | [_, _], _ => rfl
  have I_UnknownPlace := fun (base : Heap) => ok_iUnknownPlace (P := l.prog) (w := w) (mg := mg) (base := base) FiUnknownPlace
  have FiNothingToUndo := fun_mk (st := s_iNothingToUndo) lNothingToUndo cNothingToUndo kNothingToUndo
  have B_NothingToUndo : Binds K _ P_iNothingToUndo [] := FiNothingToUndo.binds fun _ _ _ _ _ _ us hl => match us, hl with | [_, _], _ => rfl
  have I_NothingToUndo := fun (base : Heap) => ok_iNothingToUndo (P := l.prog) (w := w) (mg := mg) (base := base) FiNothingToUndo
  have FiTooMany := fun_mk (st := s_iTooMany) lTooMany cTooMany kTooMany
  have B_TooMany : Binds K _ P_iTooMany [] := FiTooMany.binds fun _ _ _ _ _ _ us hl => match us, hl with | [_, _], _ => rfl
  have I_TooMany := fun (base : Heap) => ok_iTooMany (P := l.prog) (w := w) (mg := mg) (base := base) FiTooMany
  have FiRefused := fun_mk (st := s_iRefused) lRefused cRefused kRefused
  have B_Refused : Binds K _ P_iRefused [] := FiRefused.binds fun _ _ _ _ _ _ us hl => match us, hl with | [_, _], _ => rfl
  have I_Refused := fun (base : Heap) => ok_iRefused (P := l.prog) (w := w) (mg := mg) (base := base) FiRefused
  have FiInvalidNumber := fun_mk (st := s_iInvalidNumber) lInvalidNumber cInvalidNumber kInvalidNumber
  have B_InvalidNumber : Binds K _ P_iInvalidNumber [] := FiInvalidNumber.binds fun _ _ _ _ _ _ us hl => match us, hl with | [_, _], _ => rfl
  have I_InvalidNumber := fun (base : Heap) => ok_iInvalidNumber (P := l.prog) (w := w) (mg := mg) (base := base) FiInvalidNumber
  have F__law_dice := fun_mk (st := s__law_dice) l0 c0 k0
  have C__law_dice : Cal K mg "_law_dice" f__law_dice _ P__law_dice := ⟨PySem.W.mg_of X G a0, k0, F__law_dice.binds fun _ _ _ _ _ _ us hl => match us, hl with | [_, _], _ => rfl⟩
  have F__law_roll := fun_mk (st := s__law_roll) l1 c1 k1
  have C__law_roll : Cal K mg "_law_roll" f__law_roll _ P__law_roll := ⟨PySem.W.mg_of X G a1, k1, F__law_roll.binds fun _ _ _ _ _ _ us hl => match us, hl with | [_, _], _ => rfl⟩
  have F__law_pick := fun_mk (st := s__law_pick) l2 c2 k2
  have C__law_pick : Cal K mg "_law_pick" f__law_pick _ P__law_pick := ⟨PySem.W.mg_of X G a2, k2, F__law_pick.binds fun _ _ _ _ _ _ us hl => match us, hl with | [_, _], _ => rfl⟩
  have F__law_kinds := fun_mk (st := s__law_kinds) l3 c3 k3
  have C__law_kinds : Cal K mg "_law_kinds" f__law_kinds _ P__law_kinds := ⟨PySem.W.mg_of X G a3, k3, F__law_kinds.binds fun _ _ _ _ _ _ us hl => match us, hl with | [_], _ => rfl⟩
  have F__law_others := fun_mk (st := s__law_others) l4 c4 k4
  have C__law_others : Cal K mg "_law_others" f__law_others _ P__law_others := ⟨PySem.W.mg_of X G a4, k4, F__law_others.binds fun _ _ _ _ _ _ us hl => match us, hl with | [_], _ => rfl⟩
  have F__law_right := fun_mk (st := s__law_right) l5 c5 k5
  have C__law_right : Cal K mg "_law_right" f__law_right _ P__law_right := ⟨PySem.W.mg_of X G a5, k5, F__law_right.binds fun _ _ _ _ _ _ us hl => match us, hl with | [_], _ => rfl⟩
  have F_law := fun_mk (st := s_law) l6 c6 k6
  refine ⟨PySem.W.fnOf "law" "law" (defArgs s_law) (defBody s_law) (defScope s_law) .none kV6 dc6 pm6 an6 cd6 ct6, fun s v => .of_eq rfl, fun base _ _ => ?_⟩
  have GD := ok__law_dice (P := l.prog) (w := w) (base := base) F__law_dice T Z
  have GR := ok__law_roll (P := l.prog) (w := w) (base := base) F__law_roll T Z
  have GP := ok__law_pick (P := l.prog) (w := w) (base := base) F__law_pick T Z GR C__law_roll
  have GK := ok__law_kinds (P := l.prog) (w := w) (base := base) F__law_kinds T Z
  have GO := ok__law_others (P := l.prog) (w := w) (base := base) F__law_others T Z
  have GG := ok__law_right (P := l.prog) (w := w) (base := base) F__law_right T Z GP C__law_pick GK C__law_kinds GO C__law_others (I_ParseError base) B_ParseError (I_UnknownWord base) B_UnknownWord (I_UnknownPlace base) B_UnknownPlace (I_NothingToUndo base) B_NothingToUndo (I_TooMany base) B_TooMany (I_Refused base) B_Refused (I_InvalidNumber base) B_InvalidNumber
  exact ok_law F_law T Z GD C__law_dice GG C__law_right (I_ParseError base) B_ParseError (I_TooMany base) B_TooMany
theorem walk {l : PySem.W.OpenLaw} {q : Program} {loose : List Str} {XP : (Str → Option Value) → Heap → Prop} {YP : World → Heap → Prop} {d : DefRec} {K : Params → PySem.W.Frag} (hn : l.most = some 63) (hdf : d.params.defaults = [])
    (hY : ∀ (w : World) (h : Heap), YP w h → (K w.params).In h)
    (F : ∀ (w : World) (mg : Str → Option Value) (fa : Addr) (h : Heap), (K w.params).In h → h.Ns mainGlobals mg → mg d.name = some (.ref fa) →
      ∃ fd : FuncData, (∀ (s : Shared) (u : Value), BindsTo s fd ⟨[u], []⟩ [("_law_script", u)]) ∧ ∀ base : Heap, (K w.params).In base → base.Ns mainGlobals mg → FnG l.prog w (K w.params) mg base CX0 5 fa fd ["_law_script"] (spLaw (K w.params))) :
    PySem.W.WalkO q loose XP YP l.row.toRowW d [] (fun f vs => PySem.call f vs) :=
  walkG (n := 63) (k := 5) (x := "_law_script") (sp := fun w => spLaw (K w.params)) hn (by decide) hdf ⟨rfl, by decide, by decide⟩ hY F (fun _ _ a ns hl hO hS => ⟨a, ns, rfl, scr_of hO hS, hl, fun _ => rfl⟩)
end K00
open PySem PySem.W PyProof.Rows
set_option maxRecDepth 100000 in
set_option maxHeartbeats 0 in
theorem PySem.Challenge.cw_firstneed_k00_errors_and_what_they_keep_holds : PySem.Challenge.rw_firstneed_k00_errors_and_what_they_keep.Holds := by
  w_on; o_law; k_head; (case hw => w_witness2)
  k_fill
  refine K00.walk (l := PySem.Challenge.rw_firstneed_k00_errors_and_what_they_keep) rfl rfl (fun w h Y => PySem.W.kIn_of Y) ?F
  case F =>
    intro w mg fa h KX G hmg
    refine' K00.all_mk KX G hmg ?a0 ?l0 ?c0 ?k0 ?a1 ?l1 ?c1 ?k1 ?a2 ?l2 ?c2 ?k2 ?a3 ?l3 ?c3 ?k3 ?a4 ?l4 ?c4 ?k4 ?a5 ?l5 ?c5 ?k5 ?a6 ?l6 ?c6 ?k6 ?gNeedError ?eNeedError ?pNeedError ?sNeedError ?gInvalidWord ?eInvalidWord ?pInvalidWord ?sInvalidWord ?gInvalidTerm ?eInvalidTerm ?pInvalidTerm ?sInvalidTerm ?gInvalidBook ?eInvalidBook ?pInvalidBook ?sInvalidBook ?gInvalidProgram ?eInvalidProgram ?pInvalidProgram ?sInvalidProgram ?gInvalidTable ?eInvalidTable ?pInvalidTable ?sInvalidTable ?gInvalidLines ?eInvalidLines ?pInvalidLines ?sInvalidLines ?gInvalidRows ?eInvalidRows ?pInvalidRows ?sInvalidRows ?gInvalidOperation ?eInvalidOperation ?pInvalidOperation ?sInvalidOperation ?gParseError ?eParseError ?fParseError ?iParseError ?lParseError ?cParseError ?kParseError ?gUnknownWord ?eUnknownWord ?fUnknownWord ?iUnknownWord ?lUnknownWord ?cUnknownWord ?kUnknownWord ?gUnknownPlace ?eUnknownPlace ?fUnknownPlace ?iUnknownPlace ?lUnknownPlace ?cUnknownPlace ?kUnknownPlace ?gNothingToUndo ?eNothingToUndo ?fNothingToUndo ?iNothingToUndo ?lNothingToUndo ?cNothingToUndo ?kNothingToUndo ?gTooMany ?eTooMany ?fTooMany ?iTooMany ?lTooMany ?cTooMany ?kTooMany ?gRefused ?eRefused ?fRefused ?iRefused ?lRefused ?cRefused ?kRefused ?gInvalidNumber ?eInvalidNumber ?fInvalidNumber ?iInvalidNumber ?lInvalidNumber ?cInvalidNumber ?kInvalidNumber ?r0NeedError ?r1NeedError ?r0InvalidWord ?r1InvalidWord ?r0InvalidTerm ?r1InvalidTerm ?r0InvalidBook ?r1InvalidBook ?r0InvalidProgram ?r1InvalidProgram ?r0InvalidTable ?r1InvalidTable ?r0InvalidLines ?r1InvalidLines ?r0InvalidRows ?r1InvalidRows ?r0InvalidOperation ?r1InvalidOperation ?r0ParseError ?r1ParseError ?r0UnknownWord ?r1UnknownWord ?r0UnknownPlace ?r1UnknownPlace ?r0NothingToUndo ?r1NothingToUndo ?r0TooMany ?r1TooMany ?r0Refused ?r1Refused ?r0InvalidNumber ?r1InvalidNumber ?z0 ?z1 ?z2 ?z3 ?z4 ?z5 ?z6 ?z7 ?z8 ?z9 ?z10 ?z11 ?z12 ?z13 ?z14 ?z15
    (case a0 => k_is)
    (case l0 => k_is)
    (case c0 => k_is)
    (case k0 => k_is)
    (case a1 => k_is)
    (case l1 => k_is)
    (case c1 => k_is)
    (case k1 => k_is)
    (case a2 => k_is)
    (case l2 => k_is)
    (case c2 => k_is)
    (case k2 => k_is)
    (case a3 => k_is)
    (case l3 => k_is)
    (case c3 => k_is)
    (case k3 => k_is)
    (case a4 => k_is)
    (case l4 => k_is)
    (case c4 => k_is)
    (case k4 => k_is)
    (case a5 => k_is)
    (case l5 => k_is)
    (case c5 => k_is)
    (case k5 => k_is)
    (case a6 => k_is)
    (case l6 => k_is)
    (case c6 => k_is)
    (case k6 => k_is)
    (case gNeedError => k_is)
    (case eNeedError => first | kernel_rfl | k_is)
    (case pNeedError => first | k_exc | k_is)
    (case sNeedError => first | kernel_rfl | k_is)
    (case gInvalidWord => k_is)
    (case eInvalidWord => first | kernel_rfl | k_is)
    (case pInvalidWord => first | k_exc | k_is)
    (case sInvalidWord => first | kernel_rfl | k_is)
    (case gInvalidTerm => k_is)
    (case eInvalidTerm => first | kernel_rfl | k_is)
    (case pInvalidTerm => first | k_exc | k_is)
    (case sInvalidTerm => first | kernel_rfl | k_is)
    (case gInvalidBook => k_is)
    (case eInvalidBook => first | kernel_rfl | k_is)
    (case pInvalidBook => first | k_exc | k_is)
    (case sInvalidBook => first | kernel_rfl | k_is)
    (case gInvalidProgram => k_is)
    (case eInvalidProgram => first | kernel_rfl | k_is)
    (case pInvalidProgram => first | k_exc | k_is)
    (case sInvalidProgram => first | kernel_rfl | k_is)
    (case gInvalidTable => k_is)
    (case eInvalidTable => first | kernel_rfl | k_is)
    (case pInvalidTable => first | k_exc | k_is)
    (case sInvalidTable => first | kernel_rfl | k_is)
    (case gInvalidLines => k_is)
    (case eInvalidLines => first | kernel_rfl | k_is)
    (case pInvalidLines => first | k_exc | k_is)
    (case sInvalidLines => first | kernel_rfl | k_is)
    (case gInvalidRows => k_is)
    (case eInvalidRows => first | kernel_rfl | k_is)
    (case pInvalidRows => first | k_exc | k_is)
    (case sInvalidRows => first | kernel_rfl | k_is)
    (case gInvalidOperation => k_is)
    (case eInvalidOperation => first | kernel_rfl | k_is)
    (case pInvalidOperation => first | k_exc | k_is)
    (case sInvalidOperation => first | kernel_rfl | k_is)
    (case gParseError => k_is)
    (case eParseError => first | kernel_rfl | k_is)
    (case fParseError => k_is)
    (case iParseError => first | kernel_rfl | k_is)
    (case lParseError => k_is)
    (case cParseError => k_is)
    (case kParseError => k_is)
    (case gUnknownWord => k_is)
    (case eUnknownWord => first | kernel_rfl | k_is)
    (case fUnknownWord => k_is)
    (case iUnknownWord => first | kernel_rfl | k_is)
    (case lUnknownWord => k_is)
    (case cUnknownWord => k_is)
    (case kUnknownWord => k_is)
    (case gUnknownPlace => k_is)
    (case eUnknownPlace => first | kernel_rfl | k_is)
    (case fUnknownPlace => k_is)
    (case iUnknownPlace => first | kernel_rfl | k_is)
    (case lUnknownPlace => k_is)
    (case cUnknownPlace => k_is)
    (case kUnknownPlace => k_is)
    (case gNothingToUndo => k_is)
    (case eNothingToUndo => first | kernel_rfl | k_is)
    (case fNothingToUndo => k_is)
    (case iNothingToUndo => first | kernel_rfl | k_is)
    (case lNothingToUndo => k_is)
    (case cNothingToUndo => k_is)
    (case kNothingToUndo => k_is)
    (case gTooMany => k_is)
    (case eTooMany => first | kernel_rfl | k_is)
    (case fTooMany => k_is)
    (case iTooMany => first | kernel_rfl | k_is)
    (case lTooMany => k_is)
    (case cTooMany => k_is)
    (case kTooMany => k_is)
    (case gRefused => k_is)
    (case eRefused => first | kernel_rfl | k_is)
    (case fRefused => k_is)
    (case iRefused => first | kernel_rfl | k_is)
    (case lRefused => k_is)
    (case cRefused => k_is)
    (case kRefused => k_is)
    (case gInvalidNumber => k_is)
    (case eInvalidNumber => first | kernel_rfl | k_is)
    (case fInvalidNumber => k_is)
    (case iInvalidNumber => first | kernel_rfl | k_is)
    (case lInvalidNumber => k_is)
    (case cInvalidNumber => k_is)
    (case kInvalidNumber => k_is)
    (case r0NeedError => first | kernel_rfl | k_is)
    (case r1NeedError => first | kernel_rfl | k_is)
    (case r0InvalidWord => first | kernel_rfl | k_is)
    (case r1InvalidWord => first | kernel_rfl | k_is)
    (case r0InvalidTerm => first | kernel_rfl | k_is)
    (case r1InvalidTerm => first | kernel_rfl | k_is)
    (case r0InvalidBook => first | kernel_rfl | k_is)
    (case r1InvalidBook => first | kernel_rfl | k_is)
    (case r0InvalidProgram => first | kernel_rfl | k_is)
    (case r1InvalidProgram => first | kernel_rfl | k_is)
    (case r0InvalidTable => first | kernel_rfl | k_is)
    (case r1InvalidTable => first | kernel_rfl | k_is)
    (case r0InvalidLines => first | kernel_rfl | k_is)
    (case r1InvalidLines => first | kernel_rfl | k_is)
    (case r0InvalidRows => first | kernel_rfl | k_is)
    (case r1InvalidRows => first | kernel_rfl | k_is)
    (case r0InvalidOperation => first | kernel_rfl | k_is)
    (case r1InvalidOperation => first | kernel_rfl | k_is)
    (case r0ParseError => first | kernel_rfl | k_is)
    (case r1ParseError => first | kernel_rfl | k_is)
    (case r0UnknownWord => first | kernel_rfl | k_is)
    (case r1UnknownWord => first | kernel_rfl | k_is)
    (case r0UnknownPlace => first | kernel_rfl | k_is)
    (case r1UnknownPlace => first | kernel_rfl | k_is)
    (case r0NothingToUndo => first | kernel_rfl | k_is)
    (case r1NothingToUndo => first | kernel_rfl | k_is)
    (case r0TooMany => first | kernel_rfl | k_is)
    (case r1TooMany => first | kernel_rfl | k_is)
    (case r0Refused => first | kernel_rfl | k_is)
    (case r1Refused => first | kernel_rfl | k_is)
    (case r0InvalidNumber => first | kernel_rfl | k_is)
    (case r1InvalidNumber => first | kernel_rfl | k_is)
    (case z0 => k_is)
    (case z1 => k_is)
    (case z2 => k_is)
    (case z3 => k_is)
    (case z4 => k_is)
    (case z5 => k_is)
    (case z6 => k_is)
    (case z7 => k_is)
    (case z8 => k_is)
    (case z9 => k_is)
    (case z10 => k_is)
    (case z11 => k_is)
    (case z12 => k_is)
    (case z13 => k_is)
    (case z14 => k_is)
    (case z15 => k_is)
